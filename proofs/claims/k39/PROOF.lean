import PyProof.Rows.All
import Wide.All
import OpenK.AllK
import Wide.FinOn
import Lean
import PyProof.EqAt
import PyProof.EqKinds
import PyProof.TupleCall
import PySem.Challenge.RW_redo_k39_papers_in_held
noncomputable section
open PySem.W (Frag)
set_option Elab.async false
set_option linter.all false
set_option maxRecDepth 100000
namespace L2
open PySem PySem.Spec PyProof.Rows
abbrev Key:=Sum Int Str
def dR:Key→Value→Bool
 | .inl k,v=>Value.isInt k v
 | .inr x,v=>Value.isStrOf x v
def ua (w:World):Key→Int
 | .inl k=>hashInt k
 | .inr x=>hashStr w x
theorem dv:∀ {k:Key} {v:Value},dR k v=true→(∃ i t,k=Sum.inl i∧v=Value.int i t)∨(∃ x t,k=Sum.inr x∧v=Value.str x t)
 | .inl i,v,h=>by
  obtain ⟨t,e⟩:=Value.isInt_shape (k:=i) (v:=v) h
  exact .inl ⟨i,t,rfl,e⟩
 | .inr x,v,h=>by
  obtain ⟨t,e⟩:=Value.isStrOf_shape (x:=x) (v:=v) h
  exact .inr ⟨x,t,rfl,e⟩
theorem w4 (i:Int) (t:Tok):dR (.inl i) (.int i t)=true:=by simp [dR,Value.isInt]
theorem wZ (x:Str) (t:Tok):dR (.inr x) (.str x t)=true:=by simp [dR,Value.isStrOf]
theorem sD (a b:Int):decide ((Sum.inl a:Key)=Sum.inl b)=(a == b):=by
 by_cases e:a=b
 ·subst e; simp
 ·have h:¬ (Sum.inl a:Key)=Sum.inl b:=fun q=>e (Sum.inl.inj q)
  rw [decide_eq_false h]
  exact (beq_eq_false_iff_ne.mpr e).symm
theorem sy (a b:Str):decide ((Sum.inr a:Key)=Sum.inr b)=decide (a=b):=by
 by_cases e:a=b
 ·subst e; simp
 ·have h:¬ (Sum.inr a:Key)=Sum.inr b:=fun q=>e (Sum.inr.inj q)
  rw [decide_eq_false h,decide_eq_false e]
theorem sC (a:Int) (b:Str):decide ((Sum.inl a:Key)=Sum.inr b)=false:=decide_eq_false (fun q=>nomatch q)
theorem sA (a:Str) (b:Int):decide ((Sum.inr a:Key)=Sum.inl b)=false:=decide_eq_false (fun q=>nomatch q)
def bt (prog:Program) (w:World):PySem.KeyKind prog w Key where
 is:=dR
 hash:=ua w
 inj:=fun v a b ha hb=>by
  rcases dv ha with ⟨i,t,rfl,rfl⟩ | ⟨x,t,rfl,rfl⟩
  ·rcases dv hb with ⟨j,u,rfl,e⟩ | ⟨y,u,rfl,e⟩
   ·injection e with e1 _; rw [e1]
   ·exact nomatch e
  ·rcases dv hb with ⟨j,u,rfl,e⟩ | ⟨y,u,rfl,e⟩
   ·exact nomatch e
   ·injection e with e1 _; rw [e1]
 byValue:=fun k v h=>by
  rcases dv h with ⟨i,t,rfl,rfl⟩ | ⟨x,t,rfl,rfl⟩ <;> rfl
 pyHash:=fun hv h=>by
  rcases dv hv with ⟨i,t,rfl,rfl⟩ | ⟨x,t,rfl,rfl⟩
  ·exact wpAny_pyHash_int h
  ·exact wpAny_pyHash_str h
 eqBool:=fun hu hv h=>by
  rcases dv hu with ⟨i,t,rfl,rfl⟩ | ⟨x,t,rfl,rfl⟩
  ·rcases dv hv with ⟨j,u,rfl,rfl⟩ | ⟨y,u,rfl,rfl⟩
   ·rw [sD] at h; exact wpAny_eqBool_int h
   ·rw [sC] at h; exact SeqAt.EqAt.int_str i t y u _ _ _ _ h
  ·rcases dv hv with ⟨j,u,rfl,rfl⟩ | ⟨y,u,rfl,rfl⟩
   ·rw [sA] at h; exact SeqAt.EqAt.str_int x t j u _ _ _ _ h
   ·rw [sy] at h; exact wpAny_eqBool_str h
 «strs»:=fun k x t v h=>by
  rcases dv h with ⟨i,u,rfl,e⟩ | ⟨y,u,rfl,e⟩
  ·exact nomatch e
  ·injection e with e1 _
   subst e1
   cases v <;> rfl
theorem vD (prog:Program) (w:World) (i:Int) (t:Tok):(bt prog w).is (.inl i) (.int i t)=true:=w4 i t
theorem vC (prog:Program) (w:World) (x:Str) (t:Tok):(bt prog w).is (.inr x) (.str x t)=true:=wZ x t
inductive V where
 | non | bl (b:Bool) | int (i:Int) | str (x:Str) | byt (b:Array UInt8) | flt (b:UInt64) | ref (a:Addr) | ty (n:String)
 deriving DecidableEq
def RelV:V→Value→Prop
 | .non,u=>u=Value.none
 | .bl b,u=>u=Value.bool b
 | .int i,u=>∃ t,u=Value.int i t
 | .str x,u=>∃ t,u=Value.str x t
 | .byt b,u=>∃ t,u=Value.bytes b t
 | .flt b,u=>∃ t,u=Value.float b t
 | .ref a,u=>u=Value.ref a
 | .ty n,u=>u=Value.type n
abbrev Vals:List V→List Value→Prop:=Paired RelV
theorem Vals.length {xs:List V} {us:List Value} (r:Vals xs us):xs.length=us.length:=Paired.length r
theorem Vals.get:∀ {xs:List V} {us:List Value} {i:Nat} {x:V},Vals xs us→xs[i]? = some x→∃ u,us[i]? = some u∧RelV x u
 | _,_,_,_,.nil,e=>by simp at e
 | _,_,0,_,.cons r _,e=>by simp at e; subst e; exact ⟨_,rfl,r⟩
 | _,_,i + 1,x,.cons _ t,e=>by
  obtain ⟨u,h1,h2⟩:=Vals.get (i:=i) (x:=x) t (by simpa using e)
  exact ⟨u,by simpa using h1,h2⟩
theorem Vals.set {x:V} {u:Value} (r:RelV x u):∀ {xs:List V} {us:List Value} (i:Nat),Vals xs us→Vals (xs.set i x) (us.set i u)
 | _,_,_,.nil=>.nil
 | _,_,0,.cons _ t=>.cons r t
 | _,_,i + 1,.cons q t=>.cons q (Vals.set r i t)
theorem Vals.append:∀ {xs ys:List V} {us ws:List Value},Vals xs us→Vals ys ws→Vals (xs++ys) (us++ws)
 | _,_,_,_,.nil,s=>s
 | _,_,_,_,.cons r t,s=>.cons r (Vals.append t s)
theorem Vals.take:∀ {xs:List V} {us:List Value} (n:Nat),Vals xs us→Vals (xs.take n) (us.take n)
 | _,_,0,_=>.nil
 | _,_,_ + 1,.nil=>.nil
 | _,_,n + 1,.cons r t=>.cons r (Vals.take n t)
theorem Vals.drop:∀ {xs:List V} {us:List Value} (n:Nat),Vals xs us→Vals (xs.drop n) (us.drop n)
 | _,_,0,r=>r
 | _,_,_ + 1,.nil=>.nil
 | _,_,n + 1,.cons _ t=>Vals.drop n t
def RelO:Option V→Option Value→Prop
 | some v,some u=>RelV v u
 | none,none=>True
 | _,_=>False
def KV {κ:Type}:List (κ×V)→List (κ×Value)→Prop:=Paired fun (p:κ×V) (q:κ×Value)=>p.1=q.1∧RelV p.2 q.2
def kV:Key→V
 | .inl i=>.int i
 | .inr x=>.str x
inductive HO where
  | lst (xs:List V)
  | tup (xs:List V)
  | dK (kvs:List (Key×V)) | dT (kvs:List (List Key×V))
  | set (S:Int→Bool) (n:Nat)
  | ins (C dx:Addr) (fs:List (Str×V))
  | own (x:Addr)
  | xd (fs:List (Str×V))
  | met (f x:Addr)
  | rng (lo hi:Int)
  | frz (o:Obj) (u:HO)
  | tbl (ps:Array Value)
  | ext (φ:Heap→Prop)
abbrev Hp:=Addr→Option HO
def upd (H:Hp) (a:Addr) (o:HO):Hp:=fun b=>if b=a then some o else H b
theorem br {H:Hp} {a:Addr} {o:HO}:upd H a o a=some o:=by unfold upd; rw [if_pos rfl]
theorem aK {H:Hp} {a b:Addr} {o:HO} (h:b≠a):upd H a o b=H b:=by unfold upd; rw [if_neg h]
theorem B7 {H:Hp} {a b:Addr} {o u:HO} (h:H a=some o) (h':H b=some u) (d:o≠u):a≠b:=by intro e; subst e; rw [h] at h'; exact d (Option.some.inj h')
theorem c6 {H:Hp} {a b:Addr} {o:HO} (h:H a=some o) (h':H b=none):a≠b:=by intro e; subst e; rw [h] at h'; cases h'
section
variable (P:Program) (w:World)
def ObjOk (H:Hp) (h:Heap) (a:Addr):HO→Prop
 | .lst xs=>xs.length≤sizeLine∧∃ (its:List Value) (n:Nat),Vals xs its∧h.get? a=some { cls:=.type "list",data:=.seq its.toArray n }
 | .tup xs=>xs.length≤sizeLine∧∃ its:List Value,Vals xs its∧IsTup h a its.toArray
 | .dK kvs=>kvs.length≤sizeLine∧(a == sysModules)=false∧∃ vs,KV kvs vs∧h.DictOf (bt P w) a vs
 | .dT kvs=>kvs.length≤sizeLine∧(a == sysModules)=false∧∃ xs:List (List Key×Addr×Value),
   Paired (fun (p:List Key×V) (q:List Key×Addr×Value)=>p.1=q.1∧H q.2.1=some (.tup (p.1.map kV))∧RelV p.2 q.2.2) kvs xs ∧
   ∃ o es ep,h.get? a=some o∧o.ExactDict∧o.data=.dict es ep∧es.toList=xs.map (entryOfKey (tupleKind (bt P w)))∧(xs.map (·.1)).Nodup
 | .set S n=>h.SetOf (intKind P w) a S n
 | .ins C dx fs=>H dx=some (.own a)∧fs.length≤1000∧dx≠a∧h.get? a=some (PySem.W.instObj C dx) ∧
   ∃ mA,h.Ns1 dx mA∧(∀ f,RelO (fs.lookup f) (mA f))∧PySem.Within mA (fs.map (·.1))
 | .own _=>∃ o,h.get? a=some o
 | .xd fs=>∃ mA,h.Ns1 a mA∧∀ f,RelO (fs.lookup f) (mA f)
 | .rng lo hi=>∃ t u v,h.get? a=some { cls:=.type "range",data:=.fields #[.int lo t,.int hi u,.int 1 v] }
 | .frz o u=>h.get? a=some o∧ObjOk H h a u
 | .tbl ps=>h.get? a=some { cls:=.none,data:=.fields ps }
 | .met f x=>h.get? a=some (PySem.W.methodObj (.ref f) (.ref x))
 | .ext φ=>φ h∧(∃ o,h.get? a=some o)∧∀ h1 h2:Heap,φ h1→(∀ o,h1.get? a=some o→h2.get? a=some o)→φ h2
def HOk (H:Hp) (h:Heap):Prop:=∀ a o,H a=some o→ObjOk P w H h a o
end
section
variable {P:Program} {w:World} {H H':Hp} {h h':Heap} {a:Addr} {o:HO}
theorem ObjOk.lt (x:ObjOk P w H h a o):a < h.objs.size:=by
 cases o with
 | lst xs=>obtain ⟨_,_,_,_,e⟩:=x; exact Heap.lt_size e
 | tup xs=>obtain ⟨_,_,_,p⟩:=x; exact p.lt
 | dK kvs=>obtain ⟨_,_,_,_,o,_,_,e,_⟩:=x; exact Heap.lt_size e
 | dT kvs=>obtain ⟨_,_,_,_,o,_,_,e,_⟩:=x; exact Heap.lt_size e
 | set S n=>obtain ⟨o,_,_,_,e,_⟩:=x; exact Heap.lt_size e
 | ins C dx fs=>obtain ⟨_,_,_,e,_⟩:=x; exact Heap.lt_size e
 | own y=>obtain ⟨_,e⟩:=x; exact Heap.lt_size e
 | xd fs=>obtain ⟨_,⟨_,_,_,e,_⟩,_⟩:=x; exact Heap.lt_size e
 | rng lo hi=>obtain ⟨_,_,_,e⟩:=x; exact Heap.lt_size e
 | frz ob u=>obtain ⟨e,_⟩:=x; exact Heap.lt_size e
 | tbl ps=>exact Heap.lt_size (show h.get? a=some _ from x)
 | met f y=>exact Heap.lt_size (show h.get? a=some _ from x)
 | ext φ=>obtain ⟨_,⟨_,e⟩,_⟩:=x; exact Heap.lt_size e
theorem Paired.mapP {α β:Type} {F G:α→β→Prop}:∀ {l₁:List α} {l₂:List β},Paired F l₁ l₂→(∀ a b,F a b→G a b)→Paired G l₁ l₂
 | _,_,.nil,_=>.nil
 | _,_,.cons r t,f=>.cons (f _ _ r) (Paired.mapP t f)
theorem ObjOk.stay (x:ObjOk P w H h a o) (k:∀ b u,(b=a∨H b=some (.own a))→h.get? b=some u→h'.get? b=some u)
  (ho:∀ b,H b=some (.own a)→H' b=some (.own a)) (ht:∀ b xs,H b=some (.tup xs)→H' b=some (.tup xs)):ObjOk P w H' h' a o:=by
 induction o with
 | lst xs=>obtain ⟨z,its,n,r,e⟩:=x; exact ⟨z,its,n,r,k _ _ (.inl rfl) e⟩
 | tup xs=>obtain ⟨z,its,r,ob,e,c⟩:=x; exact ⟨z,its,r,ob,k _ _ (.inl rfl) e,c⟩
 | dK kvs=>obtain ⟨z,y,vs,r,ob,es,ep,e,c⟩:=x; exact ⟨z,y,vs,r,ob,es,ep,k _ _ (.inl rfl) e,c⟩
 | dT kvs=>
  obtain ⟨z,y,xs,r,ob,es,ep,e,c⟩:=x
  exact ⟨z,y,xs,Paired.mapP r fun p q z=>⟨z.1,ht _ _ z.2.1,z.2.2⟩,ob,es,ep,k _ _ (.inl rfl) e,c⟩
 | set S n=>obtain ⟨ob,es,ep,t,e,c⟩:=x; exact ⟨ob,es,ep,t,k _ _ (.inl rfl) e,c⟩
 | ins C dx fs=>
  obtain ⟨d,z,ne,e,mA,⟨od,es,ep,e2,c⟩,r⟩:=x
  exact ⟨ho _ d,z,ne,k _ _ (.inl rfl) e,mA,⟨od,es,ep,k _ _ (.inr d) e2,c⟩,r⟩
 | own y=>obtain ⟨ob,e⟩:=x; exact ⟨ob,k _ _ (.inl rfl) e⟩
 | xd fs=>obtain ⟨mA,⟨od,es,ep,e,c⟩,r⟩:=x; exact ⟨mA,⟨od,es,ep,k _ _ (.inl rfl) e,c⟩,r⟩
 | rng lo hi=>obtain ⟨t,u,v,e⟩:=x; exact ⟨t,u,v,k _ _ (.inl rfl) e⟩
 | frz ob u ih=>obtain ⟨e,q⟩:=x; exact ⟨k _ _ (.inl rfl) e,ih q⟩
 | tbl ps=>
  have e:h.get? a=some { cls:=.none,data:=.fields ps }:=x
  show h'.get? a=some { cls:=.none,data:=.fields ps }
  exact k a _ (.inl rfl) e
 | met f y=>
  have e:h.get? a=some (PySem.W.methodObj (.ref f) (.ref y)):=x
  show h'.get? a=some (PySem.W.methodObj (.ref f) (.ref y))
  exact k a _ (.inl rfl) e
 | ext φ=>obtain ⟨p,⟨o,e⟩,st⟩:=x; exact ⟨st _ _ p fun o q=>k _ _ (.inl rfl) q,⟨o,k _ _ (.inl rfl) e⟩,st⟩
theorem HOk.lt (x:HOk P w H h) (e:H a=some o):a < h.objs.size:=(x a o e).lt
theorem HOk.fresh (x:HOk P w H h) (e:h.objs.size≤a):H a=none:=by
 cases q:H a with
 | none=>rfl
 | some u=>exact absurd (Nat.lt_of_lt_of_le (x.lt q) e) (Nat.lt_irrefl _)
theorem HOk.kept (x:HOk P w H h) (k:∀ b u,h.get? b=some u→h'.get? b=some u):HOk P w H h':=fun a o e=>
 (x a o e).stay (fun b u _ q=>k b u q) (fun _ q=>q) fun _ _ q=>q
theorem HOk.laid (x:HOk P w H h) (k:∀ b u,h.get? b=some u→h'.get? b=some u) (hp:h.objs.size≤a) (new:ObjOk P w (upd H a o) h' a o):HOk P w (upd H a o) h':=fun b u e=>by
 have hn:=x.fresh hp
 by_cases hb:b=a
 ·subst hb; rw [br] at e; cases e; exact new
 ·rw [aK hb] at e
  exact (x b u e).stay (fun c v _ q=>k c v q) (fun c q=>by rw [aK (c6 q hn)]; exact q) fun c xs q=>by rw [aK (c6 q hn)]; exact q
end
def Rd (H:Hp) (a:Addr) (u:HO):Prop:=H a=some u∨∃ o,H a=some (.frz o u)
theorem Rd.ok {P:Program} {w:World} {H:Hp} {h:Heap} {a:Addr} {u:HO} (r:Rd H a u) (x:HOk P w H h):ObjOk P w H h a u:=by
 rcases r with r | ⟨o,r⟩
 ·exact x a u r
 ·obtain ⟨_,q⟩:=x a _ r
  exact q
def Mut:Option HO→Prop
 | some (.lst _)=>True
 | some (.dK _)=>True
 | some (.dT _)=>True
 | some (.set _ _)=>True
 | some (.ins _ _ _)=>True
 | some (.ext _)=>True
 | _=>False
section
variable {P:Program} {w:World} {H:Hp} {h h':Heap} {x e:Addr} {o':HO}
theorem HOk.write (ok:HOk P w H h) (mu:Mut (H x)) (he:e=x∨H e=some (.own x)) (k:∀ b u,b≠e→h.get? b=some u→h'.get? b=some u) (heo:∃ u,h'.get? e=some u)
  (new:ObjOk P w (upd H x o') h' x o'):HOk P w (upd H x o') h':=fun b u q=>by
 have nown:∀ c y,H c=some (.own y)→c≠x:=fun c y r z=>by subst z; rw [r] at mu; exact mu
 have ntup:∀ c xs,H c=some (.tup xs)→c≠x:=fun c xs r z=>by subst z; rw [r] at mu; exact mu
 by_cases hb:b=x
 ·subst hb; rw [br] at q; cases q; exact new
 ·rw [aK hb] at q
  by_cases hbe:b=e
  ·have q':H b=some (.own x):=by
    rcases he with z | z
    ·exact absurd (hbe.trans z) hb
    ·rw [hbe]; exact z
   rw [q] at q'; cases q'
   obtain ⟨v,hv⟩:=heo
   exact ⟨v,by rw [hbe]; exact hv⟩
  ·refine (ok b u q).stay (fun c v hc r=>k c v ?_ r) (fun c r=>by rw [aK (nown c b r)]; exact r) fun c xs r=>by rw [aK (ntup c xs r)]; exact r
   rcases hc with rfl | hc
   ·exact hbe
   ·rintro rfl
    rcases he with z | z
    ·exact nown c b hc z
    ·rw [hc] at z; cases z; exact hb rfl
end
structure Un (fs ex:List Addr) (H H':Hp) (h h':Heap):Prop where
 keep:∀ b o,h.get? b=some o→H b=none→b∉fs→b∉ex→h'.get? b=some o
 slot:∀ b o,h.get? b=some o→H b=none→b∈fs→b∉ex→∃ sl,h'.get? b=some { o with slots:=sl }
 free:∀ b o,h.get? b=some o→H b=none→b∉ex→H' b=none
 there:∀ b o,h.get? b=some o→b∉ex→∃ o',h'.get? b=some o'
 tups:∀ b xs,H b=some (.tup xs)→H' b=some (.tup xs)
 frzs:∀ b o u,H b=some (.frz o u)→H' b=some (.frz o u)
 tbls:∀ b ps,H b=some (.tbl ps)→∃ more,H' b=some (.tbl (ps++more))
section
variable {fs fs' ex ex':List Addr} {H H1 H2:Hp} {h h1 h2 h':Heap} {a x e:Addr} {o:HO}
theorem Un.any (u:Un fs ex H H1 h h1) {b:Addr} {ob:Obj} (q:h.get? b=some ob) (n:H b=none) (hx:b∉ex):∃ sl,h1.get? b=some { ob with slots:=sl }:=by
 by_cases hb:b∈fs
 ·exact u.slot b ob q n hb hx
 ·exact ⟨ob.slots,u.keep b ob q n hb hx⟩
theorem Un.kept (k:∀ b u,h.get? b=some u→h'.get? b=some u):Un fs ex H H h h':=⟨fun b ob q _ _ _=>k b ob q,fun b ob q _ _ _=>⟨ob.slots,k b ob q⟩,fun _ _ _ n _=>n,fun b ob q _=>⟨ob,k b ob q⟩,fun _ _ q=>q,fun _ _ _ q=>q,fun _ ps q=>⟨#[],by rw [q]; simp⟩⟩
theorem Un.refl:Un fs ex H H h h:=Un.kept fun _ _ q=>q
theorem Un.laid (k:∀ b u,h.get? b=some u→h'.get? b=some u) (hp:h.objs.size≤a) (hn:H a=none):Un fs ex H (upd H a o) h h' where
 keep:=fun b u q _ _ _=>k b u q
 slot:=fun b u q _ _ _=>⟨u.slots,k b u q⟩
 free:=fun b u q n _=>by rw [aK (Nat.ne_of_lt (Nat.lt_of_lt_of_le (Heap.lt_size q) hp))]; exact n
 there:=fun b u q _=>⟨u,k b u q⟩
 tups:=fun b xs q=>by rw [aK (c6 q hn)]; exact q
 frzs:=fun b u xs q=>by rw [aK (c6 q hn)]; exact q
 tbls:=fun b ps q=>⟨#[],by rw [aK (c6 q hn),q]; simp⟩
theorem Un.write (mu:Mut (H x)) (he:e=x∨H e=some (.own x)) (k:∀ b u,b≠e→h.get? b=some u→h'.get? b=some u) (heo:∃ u,h'.get? e=some u):Un fs ex H (upd H x o) h h':=by
 have hx:∀ b,H b=none→b≠x:=fun b n z=>by subst z; rw [n] at mu; exact mu
 have hb:∀ b,H b=none→b≠e:=fun b n z=>by
  subst z
  rcases he with r | r
  ·exact hx b n r
  ·rw [n] at r; cases r
 have hm:∀ b u,H b=some u→¬ Mut (some u)→b≠x:=fun b u q nm z=>by subst z; rw [q] at mu; exact nm mu
 refine ⟨fun b u q n _ _=>k b u (hb b n) q,fun b u q n _ _=>⟨u.slots,k b u (hb b n) q⟩,fun b u q n _=>by rw [aK (hx b n)]; exact n,fun b u q _=>?_,
  fun b xs q=>by rw [aK (hm b _ q fun z=>z)]; exact q,fun b u xs q=>by rw [aK (hm b _ q fun z=>z)]; exact q,fun b ps q=>⟨#[],by rw [aK (hm b _ q fun z=>z),q]; simp⟩⟩
 by_cases hbe:b=e
 ·subst hbe; exact heo
 ·exact ⟨u,k b u hbe q⟩
end
def trk (h:Heap) (H:Hp):List Addr:=(List.range h.objs.size).filter fun a=>(H a).isSome
def fh (h:Heap) (H:Hp):Heap:=PySem.W.hideAll h (trk h H)
theorem xa (h:Heap) (H:Hp):(fh h H).objs.size=h.objs.size:=PySem.W.hideAll_size _ _
theorem ya {h:Heap} {H:Hp} {b:Addr} {o:Obj} (e:h.get? b=some o) (n:H b=none):(fh h H).get? b=some o:=
 PySem.W.hideAll_get _ e fun hm=>by
  have q:(H b).isSome=true:=(List.mem_filter.mp hm).2
  rw [n] at q; simp at q
theorem zi {h:Heap} {H:Hp} {b:Addr} {o:Obj} (e:(fh h H).get? b=some o):h.get? b=some o∧H b=none:=by
 have e':h.get? b=some o:=PySem.W.of_hideAll (trk h H) e
 refine ⟨e',?_⟩
 cases q:H b with
 | none=>rfl
 | some x=>
  have hm:b∈trk h H:=List.mem_filter.mpr ⟨List.mem_range.mpr (Heap.lt_size e'),by simp [q]⟩
  have z:(fh h H).get? b=none:=PySem.W.hideAll_none (trk h H) hm
  rw [z] at e; cases e
def Ad (g h:Heap) (L:Addr):List (Addr×Obj):=(List.range h.objs.size).filterMap fun a=>if a=L∨(g.get? a).isSome=true then none else (h.get? a).map fun o=>(a,o)
def rest (g h:Heap) (L d:Addr):List (Addr×Obj):=(Ad g h L).filter fun p=>decide (p.1≠d)
structure Mod (K:Frag) (mg:Str→Option Value) (base:Heap):Prop where
 kin:K.In base
 glob:base.Ns mainGlobals mg
 blt:∃ mb,base.Ns builtinsNs mb∧∀ x:Str,x≠"__name__"→mb x=bootBuiltins x
 nolimit:base.NoLimit
structure Cx where
 prog:Program
 w:World
 K:Frag
 mg:Str→Option Value
 base:Heap
 A:Around
 N:List Str
 s₀:Shared
 H₀:Hp
 env:Env
 outer:List Env
 stack:List Env
 ex:List Addr
 fn:Str→Bool
 calm:Bool
 pn:List (Addr×Obj)
 xe:Value→Shared→Prop
def frs (l:List Env):List Addr:=l.filterMap (·.frame)
abbrev Cx.fs (X:Cx):List Addr:=frs X.outer
def Vis (sc:Scope) (x:Str):Prop:=sc.names.lookup x=some .local∨sc.names.lookup x=some .cell∨sc.names.lookup x=some .free
def Loc (sc:Scope) (x:Str):Prop:=sc.names.lookup x=some .local∨sc.names.lookup x=some .cell
def Look (env:Env) (h:Heap) (m:Str→Option Value) (x:Str) (u:Value):Prop:=(env.kindOf x=some .local∧m x=some u)∨((env.kindOf x=some .cell∨env.kindOf x=some .free)∧∃ c,env.cells.lookup x=some c∧h.IsCell c (some u))
structure Cx.Ok (X:Cx):Prop where
 mod:Mod X.K X.mg X.base
 kind:X.env.scope.kind=.function
 glob:X.env.globals=mainGlobals
 blt:X.env.builtins=builtinsNs
 above:X.s₀.heap.objs.size≤X.env.locals
 inj:∀ x y c,X.env.cells.lookup x=some c→X.env.cells.lookup y=some c→x=y
 has:∀ x,(X.env.kindOf x=some .cell∨X.env.kindOf x=some .free)→∃ c,X.env.cells.lookup x=some c
 cab:∀ x c,X.fn x=true→X.env.cells.lookup x=some c→X.s₀.heap.objs.size≤c
 hd:X.calm=true→X.A.handled=none
 frames:X.A.frames=some X.stack
 stk:X.stack=X.outer∨(X.stack=X.env::X.outer∧X.env.frame=some X.env.locals)
 exf:∀ b∈X.ex,b≠X.env.locals∧∀ x c,X.env.cells.lookup x=some c→c≠b
 bs:∀ b o,X.base.get? b=some o→X.s₀.heap.get? b=some o∧X.H₀ b=none
 bsz:X.base.objs.size≤X.s₀.heap.objs.size
 noex:∀ b o,X.base.get? b=some o→b∉X.ex
 exfs:∀ b∈X.ex,b∉X.fs
 funs:X.s₀.heap.FunFrames X.base X.outer
 frf:∀ b∈X.fs,X.H₀ b=none
structure Inv (X:Cx) (pins:List (Addr×Obj)) (σ:List (Option V)) (H:Hp) (s:Shared):Prop where
 ok:X.Ok
 os:s.os=X.s₀.os
 bare:AllBare s.gens
 base:Un X.fs X.ex X.H₀ H X.s₀.heap s.heap
 loc:∃ m,s.heap.Ns X.env.locals m∧∀ (i:Nat) (x:Str) (v:V),X.N[i]? = some x→σ[i]? = some (some v)→Vis X.env.scope x→∃ u,RelV v u∧Look X.env s.heap m x u
 cell:∀ x c,X.env.cells.lookup x=some c→∃ v,s.heap.IsCell c v
 free:H X.env.locals=none
 freeC:∀ x c,X.env.cells.lookup x=some c→H c=none
 pin:∀ p∈X.pn++pins,s.heap.get? p.1=some p.2∧H p.1=none∧p.1≠X.env.locals∧p.1∉X.fs∧∀ v,p.2.data≠.cell v
 hok:HOk X.prog X.w H s.heap
 len:σ.length=X.N.length
section
variable {X:Cx} {pins:List (Addr×Obj)} {σ:List (Option V)} {H H':Hp} {s:Shared} {h':Heap}
theorem Cx.Ok.nofr (ok:X.Ok) {b:Addr} {o:Obj} (e:X.base.get? b=some o):b∉X.fs:=fun hb=>by
 have:=(ok.funs.mem hb).1
 rw [e] at this; cases this
theorem Inv.bs (I:Inv X pins σ H s):∀ b o,X.base.get? b=some o→s.heap.get? b=some o∧H b=none:=fun b o e=>
 ⟨I.base.keep b o (I.ok.bs b o e).1 (I.ok.bs b o e).2 (I.ok.nofr e) (I.ok.noex b o e),I.base.free b o (I.ok.bs b o e).1 (I.ok.bs b o e).2 (I.ok.noex b o e)⟩
theorem Inv.bk (I:Inv X pins σ H s):∀ b o,X.base.get? b=some o→s.heap.get? b=some o:=fun b o e=>(I.bs b o e).1
theorem Inv.mod (I:Inv X pins σ H s):Mod X.K X.mg X.base:=I.ok.mod
theorem Inv.kIn (I:Inv X pins σ H s):X.K.In s.heap:=I.ok.mod.kin.keeps I.bk
theorem Inv.lt (I:Inv X pins σ H s):X.env.locals < s.heap.objs.size:=let ⟨_,hn,_⟩:=I.loc; hn.lt
theorem Inv.sz (I:Inv X pins σ H s):X.s₀.heap.objs.size≤s.heap.objs.size:=Nat.le_trans I.ok.above (Nat.le_of_lt I.lt)
theorem Inv.nofs (I:Inv X pins σ H s) {a:Addr} (h:s.heap.objs.size≤a):a∉X.fs:=fun hb=>by
 obtain ⟨_,o,ho,_⟩:=I.ok.funs.mem hb
 exact absurd (Nat.lt_of_lt_of_le (Heap.lt_size ho) (Nat.le_trans I.sz h)) (Nat.lt_irrefl _)
theorem Inv.cne (I:Inv X pins σ H s):∀ x c,X.env.cells.lookup x=some c→c≠X.env.locals:=fun x c e z=>by
 obtain ⟨v,o,ho,hd⟩:=I.cell x c e
 obtain ⟨m,⟨o',es,ep,ho',hd',_⟩,_⟩:=I.loc
 rw [z,ho'] at ho; cases ho; rw [hd'] at hd; cases hd
theorem Inv.funs (I:Inv X pins σ H s):s.heap.FunFrames X.base X.outer:=by
 have all:∀ (l:List Env),(∀ b∈frs l,b∈X.fs)→X.s₀.heap.FunFrames X.base l→s.heap.FunFrames X.base l:=by
  intro l
  induction l with
  | nil=>intro _ _; trivial
  | cons env r ih=>
   intro hs hl
   obtain ⟨hk,⟨L,o,hf,hn,ho,hd⟩,hr⟩:=hl
   have hL:L∈X.fs:=hs L (by unfold frs; rw [List.filterMap_cons,hf]; exact List.mem_cons_self)
   obtain ⟨sl,e⟩:=I.base.slot L o ho (I.ok.frf L hL) hL fun z=>I.ok.exfs L z hL
   exact ⟨hk,⟨L,_,hf,hn,e,hd⟩,ih (fun b hb=>hs b (by unfold frs; rw [List.filterMap_cons,hf]; exact List.mem_cons_of_mem _ hb)) hr⟩
 exact all X.outer (fun _ hb=>hb) I.ok.funs
theorem Inv.stack (I:Inv X pins σ H s):s.heap.FunFrames X.base X.stack:=by
 rcases I.ok.stk with e | ⟨e,hf⟩
 ·rw [e]; exact I.funs
 ·rw [e]
  obtain ⟨m,hn,_⟩:=I.loc
  refine .cons (by rw [I.ok.kind]; decide) hf hn ?_ I.funs
  exact Heap.get?_none_of_le (Nat.le_trans I.ok.bsz I.ok.above)
theorem Inv.stkSub (I:Inv X pins σ H s):∀ b∈frs X.stack,b∈X.env.locals::X.fs:=fun b hb=>by
 rcases I.ok.stk with e | ⟨e,hf⟩
 ·rw [e] at hb; exact List.mem_cons_of_mem _ hb
 ·rw [e] at hb
  unfold frs at hb
  rw [List.filterMap_cons,hf] at hb
  exact hb
theorem Inv.stkFree (I:Inv X pins σ H s):∀ b∈frs X.stack,H b=none:=fun b hb=>by
 rcases List.mem_cons.mp (I.stkSub b hb) with e | hb
 ·rw [e]; exact I.free
 ·obtain ⟨_,o,ho,_⟩:=I.ok.funs.mem hb
  exact I.base.free b o ho (I.ok.frf b hb) fun z=>I.ok.exfs b z hb
theorem Inv.step {g':Array GenState} {t':Nat} {d':Drawn} {ch:List Addr} (I:Inv X pins σ H s)
  (hch:∀ b∈ch,(b∈X.ex∨X.s₀.heap.objs.size≤b)∧b≠X.env.locals∧(∀ x c,X.env.cells.lookup x=some c→c≠b)∧∀ p∈X.pn++pins,p.1≠b)
  (keep:∀ b o,b≠X.env.locals→b∉X.fs→b∉ch→s.heap.get? b=some o→H b=none→h'.get? b=some o)
  (slot:∀ b o,b≠X.env.locals→b∈X.fs→b∉ch→s.heap.get? b=some o→H b=none→∃ sl,h'.get? b=some { o with slots:=sl }) (free:∀ b o,b∉ch→s.heap.get? b=some o→H b=none→H' b=none)
  (there:∀ b o,b∉ch→s.heap.get? b=some o→∃ o',h'.get? b=some o')
  (tups:∀ b xs,H b=some (.tup xs)→H' b=some (.tup xs)) (frzs:∀ b o u,H b=some (.frz o u)→H' b=some (.frz o u)) (tbls:∀ b ps,H b=some (.tbl ps)→∃ more,H' b=some (.tbl (ps++more)))
  (ns:∀ m,s.heap.Ns X.env.locals m→h'.Ns X.env.locals m) (hok:HOk X.prog X.w H' h') (hg:AllBare g') :
  Inv X pins σ H' { s with heap:=h',gens:=g',drawn:=d',toks:=t' }:=by
 have neL:∀ b o,X.s₀.heap.get? b=some o→b≠X.env.locals:=fun b o e=>Nat.ne_of_lt (Nat.lt_of_lt_of_le (Heap.lt_size e) I.ok.above)
 have neC:∀ b o,X.s₀.heap.get? b=some o→b∉X.ex→b∉ch:=fun b o e hx hb=>by
  rcases (hch b hb).1 with z | z
  ·exact hx z
  ·exact absurd (Nat.lt_of_lt_of_le (Heap.lt_size e) z) (Nat.lt_irrefl _)
 have cellK:∀ x c,X.env.cells.lookup x=some c→∀ v,s.heap.IsCell c v→h'.IsCell c v:=fun x c e v ⟨o,ho,hd⟩=>by
  have nch:c∉ch:=fun z=>(hch c z).2.2.1 x c e rfl
  by_cases hc:c∈X.fs
  ·obtain ⟨sl,q⟩:=slot c o (I.cne x c e) hc nch ho (I.freeC x c e)
   exact ⟨_,q,hd⟩
  ·exact ⟨o,keep c o (I.cne x c e) hc nch ho (I.freeC x c e),hd⟩
 refine ⟨I.ok,I.os,hg,⟨fun b o e n hb hx=>?_,fun b o e n hb hx=>?_,fun b o e n hx=>?_,fun b o e hx=>?_,fun b xs e=>tups b xs (I.base.tups b xs e),fun b o xs e=>frzs b o xs (I.base.frzs b o xs e),fun b ps e=>?_⟩,?_,fun x c e=>?_,?_,fun x c e=>?_,fun p hp=>?_,hok,I.len⟩
 ·exact keep b o (neL b o e) hb (neC b o e hx) (I.base.keep b o e n hb hx) (I.base.free b o e n hx)
 ·obtain ⟨sl,e1⟩:=I.base.slot b o e n hb hx
  obtain ⟨sl',e2⟩:=slot b _ (neL b o e) hb (neC b o e hx) e1 (I.base.free b o e n hx)
  exact ⟨sl',e2⟩
 ·obtain ⟨o',e1⟩:=I.base.there b o e hx
  exact free b o' (neC b o e hx) e1 (I.base.free b o e n hx)
 ·obtain ⟨o',e1⟩:=I.base.there b o e hx
  exact there b o' (neC b o e hx) e1
 ·obtain ⟨m1,e1⟩:=I.base.tbls b ps e
  obtain ⟨m2,e2⟩:=tbls b _ e1
  exact ⟨m1++m2,by rw [e2,Array.append_assoc]⟩
 ·obtain ⟨m,hn,hl⟩:=I.loc
  refine ⟨m,ns m hn,fun i x v e1 e2 e3=>?_⟩
  obtain ⟨u,r,l⟩:=hl i x v e1 e2 e3
  refine ⟨u,r,?_⟩
  rcases l with l | ⟨k,c,e,z⟩
  ·exact .inl l
  ·exact .inr ⟨k,c,e,cellK x c e _ z⟩
 ·obtain ⟨v,z⟩:=I.cell x c e
  exact ⟨v,cellK x c e v z⟩
 ·obtain ⟨m,⟨o,_,_,ho,_⟩,_⟩:=I.loc
  exact free _ o (fun z=>(hch _ z).2.1 rfl) ho I.free
 ·obtain ⟨v,o,ho,hd⟩:=I.cell x c e
  exact free c o (fun z=>(hch c z).2.2.1 x c e rfl) ho (I.freeC x c e)
 ·obtain ⟨e,n,ne,nf,d⟩:=I.pin p hp
  have nch:p.1∉ch:=fun z=>(hch p.1 z).2.2.2 p hp rfl
  exact ⟨keep p.1 p.2 ne nf nch e n,free p.1 p.2 nch e n,ne,nf,d⟩
theorem Inv.un {t':Nat} (I:Inv X pins σ H s) (u:Un X.fs [] H H' s.heap h') (hok:HOk X.prog X.w H' h'):Inv X pins σ H' { s with heap:=h',toks:=t' }:=by
 obtain ⟨m,⟨o,es,ep,ho,r⟩,_⟩:=id I.loc
 obtain ⟨sl,hL⟩:=u.any ho I.free (by simp)
 exact I.step (g':=s.gens) (d':=s.drawn) (ch:=[]) (fun _ z=>nomatch z) (fun b o _ hb _ e n=>u.keep b o e n hb (by simp)) (fun b o _ hb _ e n=>u.slot b o e n hb (by simp)) (fun b o _ e n=>u.free b o e n (by simp)) (fun b o _ e=>u.there b o e (by simp)) u.tups u.frzs u.tbls (fun m' hm=>by
  obtain ⟨o',es',ep',ho',r'⟩:=hm
  rw [ho] at ho'; cases ho'
  exact ⟨_,es',ep',hL,r'⟩) hok I.bare
theorem Inv.call {g':Array GenState} {t':Nat} {d':Drawn} {ch:List Addr} (I:Inv X pins σ H s) (u:Un (frs X.stack) ch H H' s.heap h') (hok:HOk X.prog X.w H' h') (hg:AllBare g')
  (hch:∀ b∈ch,(b∈X.ex∨X.s₀.heap.objs.size≤b)∧b≠X.env.locals∧(∀ x c,X.env.cells.lookup x=some c→c≠b)∧∀ p∈X.pn++pins,p.1≠b) :
  Inv X pins σ H' { s with heap:=h',gens:=g',drawn:=d',toks:=t' }:=by
 obtain ⟨m,⟨o,es,ep,ho,r⟩,_⟩:=id I.loc
 obtain ⟨sl,hL⟩:=u.any ho I.free fun z=>(hch _ z).2.1 rfl
 exact I.step (ch:=ch) hch (fun b o hL hb hc e n=>u.keep b o e n (fun z=>(List.mem_cons.mp (I.stkSub b z)).elim hL hb) hc) (fun b o _ _ hc e n=>u.any e n hc) (fun b o hc e n=>u.free b o e n hc) (fun b o hc e=>u.there b o e hc) u.tups u.frzs u.tbls (fun m' hm=>by
  obtain ⟨o',es',ep',ho',r'⟩:=hm
  rw [ho] at ho'; cases ho'
  exact ⟨_,es',ep',hL,r'⟩) hok hg
theorem Inv.turned {t':Nat} {it:Addr} (I:Inv X pins σ H s) (k:∀ b o,b≠it→s.heap.get? b=some o→h'.get? b=some o) (hn:H it=none) (hL:it≠X.env.locals)
  (h1:it∈X.ex∨X.s₀.heap.objs.size≤it) (h2:∀ x c,X.env.cells.lookup x=some c→c≠it) (h3:∀ p∈X.pn++pins,p.1≠it):Inv X pins σ H { s with heap:=h',toks:=t' }:=by
 have nit:∀ b u,H b=some u→b≠it:=fun b u e z=>by rw [z,hn] at e; cases e
 refine I.step (g':=s.gens) (d':=s.drawn) (ch:=[it]) (fun b hb=>?_) (fun b o _ _ hc e _=>k b o (fun z=>hc (by simp [z])) e) (fun b o _ _ hc e _=>⟨o.slots,k b o (fun z=>hc (by simp [z])) e⟩) (fun _ _ _ _ n=>n)
  (fun b o hc e=>⟨o,k b o (fun z=>hc (by simp [z])) e⟩) (fun _ _ e=>e) (fun _ _ _ e=>e) (fun b ps e=>⟨#[],by rw [e]; simp⟩) (fun m hm=>?_) (fun b u e=>?_) I.bare
 ·have e:b=it:=by simpa using hb
  subst e
  exact ⟨h1,hL,h2,h3⟩
 ·obtain ⟨o,es,ep,ho,r⟩:=hm
  exact ⟨o,es,ep,k _ o (Ne.symm hL) ho,r⟩
 ·refine (I.hok b u e).stay (fun c v hc q=>k c v ?_ q) (fun _ q=>q) fun _ _ q=>q
  rcases hc with z | z
  ·rw [z]; exact nit b u e
  ·exact nit c _ z
theorem Inv.tok (I:Inv X pins σ H s) (t:Nat):Inv X pins σ H { s with toks:=t }:=I.un (h':=s.heap) (t':=t) Un.refl I.hok
theorem Inv.kept {t':Nat} (I:Inv X pins σ H s) (k:∀ b u,s.heap.get? b=some u→h'.get? b=some u):Inv X pins σ H { s with heap:=h',toks:=t' }:=I.un (Un.kept k) (I.hok.kept k)
theorem Inv.laid {a:Addr} {o:HO} {t':Nat} (I:Inv X pins σ H s) (k:∀ b u,s.heap.get? b=some u→h'.get? b=some u) (hp:s.heap.objs.size≤a) (new:ObjOk X.prog X.w (upd H a o) h' a o) :
  Inv X pins σ (upd H a o) { s with heap:=h',toks:=t' }:=I.un (Un.laid k hp (I.hok.fresh hp)) (I.hok.laid k hp new)
theorem Inv.write {x e:Addr} {o:HO} {t':Nat} (I:Inv X pins σ H s) (mu:Mut (H x)) (he:e=x∨H e=some (.own x)) (k:∀ b u,b≠e→s.heap.get? b=some u→h'.get? b=some u) (heo:∃ u,h'.get? e=some u)
  (new:ObjOk X.prog X.w (upd H x o) h' x o):Inv X pins σ (upd H x o) { s with heap:=h',toks:=t' }:=I.un (Un.write mu he k heo) (I.hok.write mu he k heo new)
theorem Inv.pins_of {pins':List (Addr×Obj)} (I:Inv X pins σ H s) (h:∀ p∈pins',s.heap.get? p.1=some p.2∧H p.1=none∧p.1≠X.env.locals∧p.1∉X.fs∧∀ v,p.2.data≠.cell v):Inv X pins' σ H s:=⟨I.ok,I.os,I.bare,I.base,I.loc,I.cell,I.free,I.freeC,fun p hp=>(List.mem_append.mp hp).elim (fun z=>I.pin p (List.mem_append_left _ z)) (h p),I.hok,I.len⟩
theorem qp {N:List Str} (hN:N.Nodup) {i j:Nat} {x:Str} (a:N[i]? = some x) (b:N[j]? = some x):i=j:=by
 obtain ⟨h1,e1⟩:=List.getElem?_eq_some_iff.mp a
 obtain ⟨h2,e2⟩:=List.getElem?_eq_some_iff.mp b
 exact (List.getElem_inj hN).mp (e1.trans e2.symm)
theorem pA {M:Model} {A:Around} {E:Value→Shared→Prop} {i:Nat} {x:Str} {v:V} {u:Value} {Q:Unit→Shared→Prop} (I:Inv X pins σ H s) (hN:X.N.Nodup) (hi:X.N[i]? = some x) (hx:Loc X.env.scope x) (r:RelV v u)
  (h:∀ s',Inv X pins (σ.set i (some v)) H s'→(∃ a,Heap.SameBut a s.heap s'.heap∧(a=X.env.locals∨X.env.cells.lookup x=some a))→Q () s') (hf:X.fn x=true∨X.env.scope.names.lookup x=some .local:=by first | exact .inl rfl | exact .inr rfl | assumption):wpAny M A (storeName X.env x u) Q E s:=by
 obtain ⟨m,hn,hl⟩:=id I.loc
 have hcls:(X.env.scope.kind == .class || (X.env.scope.kind == .module && X.env.locals != X.env.globals))=false:=by rw [I.ok.kind]; rfl
 have hiσ:i < σ.length:=by rw [I.len]; exact (List.getElem?_eq_some_iff.mp hi).1
 have cne:=I.cne
 have tracked:∀ {a:Addr} {h':Heap},(∃ o,s.heap.get? a=some o∧H a=none)→Heap.SameBut a s.heap h'→HOk X.prog X.w H h':=fun {a h'} ha hs b ob e=>by
  obtain ⟨_,_,hfree⟩:=ha
  refine (I.hok b ob e).stay (fun c w' hc q=>(hs.2 c ?_).trans q) (fun _ q=>q) fun _ _ q=>q
  rintro rfl
  rcases hc with rfl | hc
  ·rw [hfree] at e; cases e
  ·rw [hfree] at hc; cases hc
 rcases hx with hk | hk
 ·refine wpAny_storeName_local hk hn (fun h' hn' hs=>?_) hcls
  obtain ⟨oL,_,_,hoL,_⟩:=id hn
  refine h _ ⟨I.ok,I.os,I.bare,⟨fun b o e n hb hx=>?_,fun b o e n hb hx=>?_,I.base.free,fun b o e hx=>?_,I.base.tups,I.base.frzs,I.base.tbls⟩,⟨_,hn',fun j y v' e1 e2 e3=>?_⟩,fun y c e=>?_,I.free,I.freeC,fun p hp=>?_,tracked ⟨oL,hoL,I.free⟩ hs,by simpa using I.len⟩ ⟨_,hs,.inl rfl⟩
  ·exact (hs.2 b (Nat.ne_of_lt (Nat.lt_of_lt_of_le (Heap.lt_size e) I.ok.above))).trans (I.base.keep b o e n hb hx)
  ·obtain ⟨sl,e1⟩:=I.base.slot b o e n hb hx
   exact ⟨sl,(hs.2 b (Nat.ne_of_lt (Nat.lt_of_lt_of_le (Heap.lt_size e) I.ok.above))).trans e1⟩
  ·obtain ⟨o',e1⟩:=I.base.there b o e hx
   exact ⟨o',(hs.2 b (Nat.ne_of_lt (Nat.lt_of_lt_of_le (Heap.lt_size e) I.ok.above))).trans e1⟩
  ·by_cases hj:j=i
   ·subst hj
    rw [hi] at e1; cases e1
    rw [List.getElem?_set_self hiσ] at e2
    cases e2
    exact ⟨u,r,.inl ⟨hk,by simp⟩⟩
   ·rw [List.getElem?_set_ne (Ne.symm hj)] at e2
    obtain ⟨u',r',q⟩:=hl j y v' e1 e2 e3
    refine ⟨u',r',?_⟩
    rcases q with ⟨k,e⟩ | ⟨k,c,e,z⟩
    ·refine .inl ⟨k,?_⟩
     have:y≠x:=fun e=>hj (qp hN e1 (e ▸ hi))
     simp [this,e]
    ·exact .inr ⟨k,c,e,z.sameBut hs (cne y c e)⟩
  ·obtain ⟨w',z⟩:=I.cell y c e
   exact ⟨w',z.sameBut hs (cne y c e)⟩
  ·obtain ⟨e,n,ne,nf,d⟩:=I.pin p hp
   exact ⟨(hs.2 p.1 ne).trans e,n,ne,nf,d⟩
 ·have hfn:X.fn x=true:=by
   rcases hf with z | z
   ·exact z
   ·rw [z] at hk; cases hk
  obtain ⟨c,hc⟩:=I.ok.has x (.inl hk)
  obtain ⟨w',z⟩:=I.cell x c hc
  refine wpAny_storeName_cell I.ok.kind hk hc z (fun h' hc' hs=>?_)
  obtain ⟨oc,hoc,hocd⟩:=id z
  refine h { s with heap:=h' } ⟨I.ok,I.os,I.bare,⟨fun b o e n hb hx=>?_,fun b o e n hb hx=>?_,I.base.free,fun b o e hx=>?_,I.base.tups,I.base.frzs,I.base.tbls⟩,⟨m,hn.sameBut hs (Ne.symm (cne x c hc)),fun j y v' e1 e2 e3=>?_⟩,fun y c' e=>?_,I.free,I.freeC,fun p hp=>?_,tracked ⟨oc,hoc,I.freeC x c hc⟩ hs,by simpa using I.len⟩ ⟨c,hs,.inr hc⟩
  ·exact (hs.2 b (Nat.ne_of_lt (Nat.lt_of_lt_of_le (Heap.lt_size e) (I.ok.cab x c hfn hc)))).trans (I.base.keep b o e n hb hx)
  ·obtain ⟨sl,e1⟩:=I.base.slot b o e n hb hx
   exact ⟨sl,(hs.2 b (Nat.ne_of_lt (Nat.lt_of_lt_of_le (Heap.lt_size e) (I.ok.cab x c hfn hc)))).trans e1⟩
  ·obtain ⟨o',e1⟩:=I.base.there b o e hx
   exact ⟨o',(hs.2 b (Nat.ne_of_lt (Nat.lt_of_lt_of_le (Heap.lt_size e) (I.ok.cab x c hfn hc)))).trans e1⟩
  ·by_cases hj:j=i
   ·subst hj
    rw [hi] at e1; cases e1
    rw [List.getElem?_set_self hiσ] at e2
    cases e2
    exact ⟨u,r,.inr ⟨.inl hk,c,hc,hc'⟩⟩
   ·rw [List.getElem?_set_ne (Ne.symm hj)] at e2
    obtain ⟨u',r',q⟩:=hl j y v' e1 e2 e3
    refine ⟨u',r',?_⟩
    rcases q with q | ⟨k,c',e,z'⟩
    ·exact .inl q
    ·refine .inr ⟨k,c',e,z'.sameBut hs ?_⟩
     rintro rfl
     exact hj (qp hN e1 (I.ok.inj _ _ _ e hc ▸ hi))
  ·by_cases hcc:c'=c
   ·subst hcc; exact ⟨_,hc'⟩
   ·obtain ⟨w2,z2⟩:=I.cell y c' e
    exact ⟨w2,z2.sameBut hs hcc⟩
  ·obtain ⟨e,n,ne,nf,d⟩:=I.pin p hp
   refine ⟨(hs.2 p.1 ?_).trans e,n,ne,nf,d⟩
   intro q
   rw [q,hoc] at e
   have q':oc=p.2:=Option.some.inj e
   exact d w' (by rw [← q']; exact hocd)
theorem lY {M:Model} {A:Around} {E:Value→Shared→Prop} {i:Nat} {x:Str} {v:V} {u:Value} {Q:Unit→Shared→Prop} (I:Inv X pins σ H s) (hN:X.N.Nodup) (hi:X.N[i]? = some x) (hx:Loc X.env.scope x) (r:RelV v u)
  (h:∀ s',Inv X pins (σ.set i (some v)) H s'→Q () s') (hf:X.fn x=true∨X.env.scope.names.lookup x=some .local:=by first | exact .inl rfl | exact .inr rfl | assumption):wpAny M A (storeName X.env x u) Q E s:=pA I hN hi hx r (fun s' I' _=>h s' I') hf
theorem Inv.call' {s':Shared} {ch:List Addr} (I:Inv X pins σ H s) (ho:s'.os=s.os) (u:Un (frs X.stack) ch H H' s.heap s'.heap) (hok:HOk X.prog X.w H' s'.heap) (hg:AllBare s'.gens)
  (hch:∀ b∈ch,(b∈X.ex∨X.s₀.heap.objs.size≤b)∧b≠X.env.locals∧(∀ x c,X.env.cells.lookup x=some c→c≠b)∧∀ p∈X.pn++pins,p.1≠b):Inv X pins σ H' s':=by
 obtain ⟨h',g',d',t',o'⟩:=s'
 have e:o'=s.os:=ho
 subst e
 exact I.call (g':=g') (t':=t') (d':=d') u hok hg hch
end
abbrev XK:=Value→Option Addr→Hp→Prop
abbrev St:=List (Option V)
abbrev VK:=V→Hp→Prop
abbrev TE:=St→Hp→VK→Prop
abbrev TT:=St→Hp→(Bool→Hp→Prop)→Prop
abbrev TA:=St→Hp→(List V→Hp→Prop)→Prop
structure Ends where
 nx:St→Hp→Prop
 rt:VK
 bk:St→Hp→Prop:=fun _ _=>False
 ct:St→Hp→Prop:=fun _ _=>False
abbrev TS:=Ends→St→Hp→Prop
def EP (X:Cx) (pins:List (Addr×Obj)) (σ:St) (Q:VK) (u:Value) (s':Shared):Prop:=∃ v H',Inv X pins σ H' s'∧RelV v u∧Q v H'
def TP (X:Cx) (pins:List (Addr×Obj)) (σ:St) (Q:Bool→Hp→Prop) (b:Bool) (s':Shared):Prop:=∃ H',Inv X pins σ H' s'∧Q b H'
def AP (X:Cx) (pins:List (Addr×Obj)) (σ:St) (Q:List V→Hp→Prop) (us:List Value) (s':Shared):Prop:=∃ vs H',Inv X pins σ H' s'∧Vals vs us∧Q vs H'
def SP (X:Cx) (pins:List (Addr×Obj)) (D:Ends) (f:Flow) (s':Shared):Prop:=
 match f with
 | .next=>∃ σ' H',Inv X pins σ' H' s'∧D.nx σ' H'
 | .brk=>∃ σ' H',Inv X pins σ' H' s'∧D.bk σ' H'
 | .cont=>∃ σ' H',Inv X pins σ' H' s'∧D.ct σ' H'
 | .ret u=>∃ v σ' H',Inv X pins σ' H' s'∧RelV v u∧D.rt v H'
def PE (X:Cx) (e:Expr) (t:TE):Prop:=∀ (pins:List (Addr×Obj)) (s:Shared) (σ:St) (H:Hp) (Q:VK),Inv X pins σ H s→t σ H Q→wpAny (model X.prog X.w) X.A (eval e X.env) (EP X pins σ Q) X.xe s
def PT (X:Cx) (e:Expr) (t:TT):Prop:=∀ (pins:List (Addr×Obj)) (s:Shared) (σ:St) (H:Hp) (Q:Bool→Hp→Prop),Inv X pins σ H s→t σ H Q→wpAny (model X.prog X.w) X.A (isTrue e X.env (eval e X.env)) (TP X pins σ Q) X.xe s
def PW (X:Cx) (e:Expr) (t:TT):Prop:=∀ (whole:Sem Value) (pins:List (Addr×Obj)) (s:Shared) (σ:St) (H:Hp) (Q:Bool→Hp→Prop),Inv X pins σ H s→t σ H Q→wpAny (model X.prog X.w) X.A (isTrue e X.env whole) (TP X pins σ Q) X.xe s
theorem PW.pt {X:Cx} {e:Expr} {t:TT} (h:PW X e t):PT X e t:=h _
def PA (X:Cx) (es:List Expr) (t:TA):Prop:=∀ (pos:Pos) (pins:List (Addr×Obj)) (s:Shared) (σ:St) (H:Hp) (Q:List V→Hp→Prop),Inv X pins σ H s→t σ H Q→wpAny (model X.prog X.w) X.A (spliced (backTo pos (starEach es X.env))) (AP X pins σ Q) X.xe s
def PS (X:Cx) (st:Stmt) (t:TS):Prop:=∀ (pins:List (Addr×Obj)) (s:Shared) (σ:St) (H:Hp) (D:Ends),Inv X pins σ H s→t D σ H→wpAny (model X.prog X.w) X.A (exec st X.env) (SP X pins D) X.xe s
def PSs (X:Cx) (st:List Stmt) (t:TS):Prop:=∀ (pins:List (Addr×Obj)) (s:Shared) (σ:St) (H:Hp) (D:Ends),Inv X pins σ H s→t D σ H→wpAny (model X.prog X.w) X.A (execs st X.env) (SP X pins D) X.xe s
theorem thn {α:Type} {t:Sem α} {Q Q':α→Shared→Prop} {M:Model} {A:Around} {E:Value→Shared→Prop} {s:Shared} (h:wpAny M A t Q E s) (hQ:∀ a s,Q a s→Q' a s):wpAny M A t Q' E s:=wpAny_mono h hQ fun _ _ x=>x
section
variable {X:Cx}
def tP (i:Nat):TE:=fun σ H Q=>∃ v,σ[i]? = some (some v)∧Q v H
def tC (v:V):TE:=fun _ H Q=>Q v H
theorem AH {i:Nat} {x:Str} {pos:Pos} (hN:X.N[i]? = some x) (hv:Vis X.env.scope x) (hd:(x == ("__debug__" : Str))=false:=by decide) (hcd:(x == ("__classdict__" : Str))=false:=by decide):PE X (.Name x pos) (tP i):=by
 intro pins s σ H Q I h
 obtain ⟨v,e,h⟩:=h
 obtain ⟨m,hn,hl⟩:=I.loc
 obtain ⟨u,r,l⟩:=hl i x v hN e hv
 have fin:EP X pins σ Q u s:=⟨v,H,I,r,h⟩
 rcases l with ⟨hk,hm⟩ | ⟨hk,c,hc,hcell⟩
 ·exact wpAny_Name (wpAny_loadName_local I.ok.kind hk hn hm fin) hd
 ·rcases hk with hk | hk
  ·exact wpAny_Name (wpAny_loadName_cell I.ok.kind hk hc hcell fin) hd
  ·exact wpAny_Name (wpAny_loadName_free I.ok.kind hk hc hcell fin hcd) hd
theorem sj {i j pos}:PE X (.Constant (.int i) j pos) (tC (.int i)):=fun _ _ _ H _ I h=>wpAny_Constant_int ⟨.int i,H,I.tok _,⟨_,rfl⟩,h⟩
theorem BW {b j pos}:PE X (.Constant (.bool b) j pos) (tC (.bl b)):=fun _ _ _ H _ I h=>Constant_bool ⟨.bl b,H,I,rfl,h⟩
theorem si {j pos}:PE X (.Constant .none j pos) (tC .non):=fun _ _ _ H _ I h=>Constant_none ⟨.non,H,I,rfl,h⟩
theorem AJ {x j pos}:PE X (.Constant (.str x) j pos) (tC (.str x)):=fun _ _ _ H _ I h=>Calls.Constant_str ⟨.str x,H,I.tok _,⟨_,rfl⟩,h⟩
def Gl (X:Cx) (x:Str):Prop:=X.env.kindOf x=some .globalImplicit
theorem zy {E:Value→Shared→Prop} {pins:List (Addr×Obj)} {s:Shared} {σ:St} {H:Hp} {x:Str} {u:Value} {pos:Pos} {Q:Value→Shared→Prop} (I:Inv X pins σ H s) (hg:Gl X x) (hm:X.mg x=some u) (h:Q u s)
  (hd:(x == ("__debug__" : Str))=false:=by decide):wpAny (model X.prog X.w) X.A (eval (.Name x pos) X.env) Q E s:=Calls.Name_function_global I.ok.kind hg (Calls.loadGlobal_global (by rw [I.ok.glob]; exact I.mod.glob.keeps I.bk) hm h) hd
theorem jg {E:Value→Shared→Prop} {pins:List (Addr×Obj)} {s:Shared} {σ:St} {H:Hp} {x:Str} {u:Value} {pos:Pos} {Q:Value→Shared→Prop} (I:Inv X pins σ H s) (hg:Gl X x) (hm:X.mg x=none) (hv:bootBuiltins x=some u) (h:Q u s)
  (hn:x≠"__name__":=by decide) (hd:(x == ("__debug__" : Str))=false:=by decide):wpAny (model X.prog X.w) X.A (eval (.Name x pos) X.env) Q E s:=by
 obtain ⟨mb,h1,h2⟩:=I.mod.blt
 exact Calls.Name_function_global I.ok.kind hg (Calls.loadGlobal_builtin (by rw [I.ok.glob]; exact I.mod.glob.keeps I.bk) hm (by rw [I.ok.blt]; exact h1.keeps I.bk) ((h2 x hn).trans hv) h) hd
theorem zd {x:Str} {v:V} {u:Value} {pos:Pos} (hg:Gl X x) (hm:X.mg x=none) (hv:bootBuiltins x=some u) (r:RelV v u) (hn:x≠"__name__":=by decide) (hd:(x == ("__debug__" : Str))=false:=by decide):PE X (.Name x pos) (tC v):=fun _ _ _ H _ I h=>jg I hg hm hv ⟨v,H,I,r,h⟩ hn hd
variable {a b:Expr} {ta tb:TE} {pos:Pos}
variable {tA tB':TT} {rest:List Expr}
def CK (t u:TT):TT:=fun σ H Q=>t σ H fun c H1=>if c=true then u σ H1 Q else Q false H1
def tOr (t u:TT):TT:=fun σ H Q=>t σ H fun c H1=>if c=true then Q true H1 else u σ H1 Q
def CF (t:TT):TT:=fun σ H Q=>t σ H fun c H1=>Q (!c) H1
theorem yO (ha:PT X a tA):PW X (.BoolOp .And [a] pos) tA:=by
 intro wh pins s σ H Q I h
 refine isTrue_and (thn (ha pins s σ H Q I h) fun c s1 e=>?_)
 cases c with
 | true=>exact isTrue_and_nil e
 | false=>exact e
theorem AB (ha:PT X a tA):PW X (.BoolOp .Or [a] pos) tA:=by
 intro wh pins s σ H Q I h
 refine isTrue_or (thn (ha pins s σ H Q I h) fun c s1 e=>?_)
 cases c with
 | false=>exact isTrue_or_nil e
 | true=>exact e
theorem AC (ha:PT X a tA) (hb:PW X (.BoolOp .And (b::rest) pos) tB'):PW X (.BoolOp .And (a::b::rest) pos) (CK tA tB'):=by
 intro wh pins s σ H Q I h
 refine isTrue_and (thn (ha pins s σ H _ I h) fun c s1 ⟨H1,I1,q1⟩=>?_)
 cases c with
 | true=>exact hb wh pins s1 σ H1 Q I1 q1
 | false=>exact ⟨H1,I1,q1⟩
theorem BP (ha:PT X a tA) (hb:PW X (.BoolOp .Or (b::rest) pos) tB'):PW X (.BoolOp .Or (a::b::rest) pos) (tOr tA tB'):=by
 intro wh pins s σ H Q I h
 refine isTrue_or (thn (ha pins s σ H _ I h) fun c s1 ⟨H1,I1,q1⟩=>?_)
 cases c with
 | true=>exact ⟨H1,I1,q1⟩
 | false=>exact hb wh pins s1 σ H1 Q I1 q1
theorem AD (ha:PT X a tA):PT X (.UnaryOp .Not a pos) (CF tA):=by
 intro pins s σ H Q I h
 exact isTrue_not (ha pins s σ H (fun c H1=>Q (!c) H1) I h)
def BD (ta:TE):TE:=fun σ H Q=>ta σ H fun x H1=>∃ c,x=.bl c∧Q (.bl (!c)) H1
theorem AK (ha:PE X a ta):PE X (.UnaryOp .Not a pos) (BD ta):=by
 intro pins s σ H Q I h
 refine UnaryOp_ (thn (ha pins s σ H _ I h) fun v s1 ⟨x,H1,I1,r1,q1⟩=>?_)
 obtain ⟨c,rfl,q1⟩:=q1
 cases r1
 exact not_of (wpAny_truthy_bool ⟨.bl (!c),H1,I1,rfl,q1⟩)
def tIf (t:TT) (ta tb:TE):TE:=fun σ H Q=>t σ H fun c H1=>if c=true then ta σ H1 Q else tb σ H1 Q
theorem xH {c:Expr} (hc:PT X c tA) (ha:PE X a ta) (hb:PE X b tb):PE X (.IfExp c a b pos) (tIf tA ta tb):=by
 intro pins s σ H Q I h
 refine wpAny_IfExp (thn (hc pins s σ H _ I h) fun d s1 ⟨H1,I1,q1⟩=>?_)
 cases d with
 | true=>exact ha pins s1 σ H1 Q I1 q1
 | false=>exact hb pins s1 σ H1 Q I1 q1
end
def SqL (K:Frag) (H:Hp) (a:Addr) (xs:List V):Prop:=
 Rd H a (.lst xs) ∨
  ∃ (o:Obj) (its:Array Value) (n:Nat),K.lookup a=some o∧o.cls=.type "list"∧o.dict=none∧o.data=.seq its n∧its.size≤sizeLine∧Vals xs its.toList
def SqT (K:Frag) (H:Hp) (a:Addr) (xs:List V):Prop:=
 Rd H a (.tup xs) ∨
  ∃ (o:Obj) (its:Array Value) (n:Nat),K.lookup a=some o∧o.cls=.type "tuple"∧o.data=.seq its n∧its.size≤sizeLine∧Vals xs its.toList
def C4:Value→Option V
 | .none=>some .non
 | .bool b=>some (.bl b)
 | .int i _=>some (.int i)
 | .str x _=>some (.str x)
 | .bytes b _=>some (.byt b)
 | .float b _=>some (.flt b)
 | .ref a=>some (.ref a)
 | .type n=>some (.ty n)
 | _=>none
theorem RelV.abs {x:V} {u:Value} (r:RelV x u):C4 u=some x:=by
 cases x with
 | non=>cases r; rfl
 | bl _=>cases r; rfl
 | int _=>obtain ⟨t,rfl⟩:=r; rfl
 | str _=>obtain ⟨t,rfl⟩:=r; rfl
 | byt _=>obtain ⟨t,rfl⟩:=r; rfl
 | flt _=>obtain ⟨t,rfl⟩:=r; rfl
 | ref _=>cases r; rfl
 | ty _=>cases r; rfl
theorem RelV.inj {x y:V} {u:Value} (r:RelV x u) (q:RelV y u):x=y:=Option.some.inj (r.abs.symm.trans q.abs)
theorem Vals.inj:∀ {xs ys:List V} {us:List Value},Vals xs us→Vals ys us→xs=ys
 | _,_,_,.nil,.nil=>rfl
 | _,_,_,.cons r t,.cons r' t'=>by rw [r.inj r',Vals.inj t t']
section
variable {X:Cx} {pins:List (Addr×Obj)} {σ:St} {H:Hp} {s:Shared} {a:Addr} {xs ys:List V}
theorem SqL.of {K:Frag} (h:H a=some (.lst xs)):SqL K H a xs:=.inl (.inl h)
theorem SqT.of {K:Frag} (h:H a=some (.tup xs)):SqT K H a xs:=.inl (.inl h)
theorem Inv.list (I:Inv X pins σ H s) (h:SqL X.K H a xs):∃ its:List Value,Vals xs its∧PlainL s.heap a its.toArray∧xs.length≤sizeLine:=by
 rcases h with h | ⟨o,its,n,hk,hc,hd,hs,hz,r⟩
 ·obtain ⟨z,its,n,r,e⟩:=h.ok I.hok
  exact ⟨its,r,⟨_,n,e,rfl,rfl,rfl⟩,z⟩
 ·refine ⟨its.toList,r,⟨o,n,I.kIn a o hk,hc,hd,by simpa using hs⟩,?_⟩
  have e:=r.length
  simp only [Array.length_toList] at e
  omega
theorem Inv.tuple (I:Inv X pins σ H s) (h:SqT X.K H a xs):∃ its:List Value,Vals xs its∧IsTup s.heap a its.toArray∧xs.length≤sizeLine:=by
 rcases h with h | ⟨o,its,n,hk,hc,hs,hz,r⟩
 ·obtain ⟨z,its,r,p⟩:=h.ok I.hok
  exact ⟨its,r,p,z⟩
 ·refine ⟨its.toList,r,⟨o,I.kIn a o hk,hc,n,by simpa using hs⟩,?_⟩
  have e:=r.length
  simp only [Array.length_toList] at e
  omega
theorem Inv.list_inj (I:Inv X pins σ H s) (h:SqL X.K H a xs) (h':SqL X.K H a ys):xs=ys:=by
 obtain ⟨its,r,⟨o,n,e,_,_,d⟩,_⟩:=I.list h
 obtain ⟨its',r',⟨o',n',e',_,_,d'⟩,_⟩:=I.list h'
 rw [e] at e'; cases e'
 rw [d] at d'
 injection d' with d1 _
 have:its=its':=by simpa using congrArg Array.toList d1
 subst this
 exact r.inj r'
theorem Inv.tuple_inj (I:Inv X pins σ H s) (h:SqT X.K H a xs) (h':SqT X.K H a ys):xs=ys:=by
 obtain ⟨its,r,⟨o,e,_,n,d⟩,_⟩:=I.tuple h
 obtain ⟨its',r',⟨o',e',_,n',d'⟩,_⟩:=I.tuple h'
 rw [e] at e'; cases e'
 rw [d] at d'
 injection d' with d1 _
 have:its=its':=by simpa using congrArg Array.toList d1
 subst this
 exact r.inj r'
end
abbrev Cx.wish (X:Cx) (E:Value→Shared→Prop):Cx:={ X with xe:=E }
abbrev Cx.nox (X:Cx):Cx:=X.wish fun _ _=>False
theorem Cx.Ok.wish {X:Cx} (ok:X.Ok) (E:Value→Shared→Prop):(X.wish E).Ok:=⟨ok.mod,ok.kind,ok.glob,ok.blt,ok.above,ok.inj,ok.has,ok.cab,ok.hd,ok.frames,ok.stk,ok.exf,ok.bs,ok.bsz,ok.noex,ok.exfs,ok.funs,ok.frf⟩
theorem Cx.Ok.unwish {X:Cx} {E:Value→Shared→Prop} (ok:(X.wish E).Ok):X.Ok:=⟨ok.mod,ok.kind,ok.glob,ok.blt,ok.above,ok.inj,ok.has,ok.cab,ok.hd,ok.frames,ok.stk,ok.exf,ok.bs,ok.bsz,ok.noex,ok.exfs,ok.funs,ok.frf⟩
section
variable {X:Cx} {pins:List (Addr×Obj)} {σ:St} {H:Hp} {s:Shared} {E:Value→Shared→Prop}
theorem Inv.wish (I:Inv X pins σ H s) (E:Value→Shared→Prop):Inv (X.wish E) pins σ H s:=⟨I.ok.wish E,I.os,I.bare,I.base,I.loc,I.cell,I.free,I.freeC,I.pin,I.hok,I.len⟩
theorem Inv.unwish (I:Inv (X.wish E) pins σ H s):Inv X pins σ H s:=⟨I.ok.unwish,I.os,I.bare,I.base,I.loc,I.cell,I.free,I.freeC,I.pin,I.hok,I.len⟩
theorem SP.unwish {D:Ends} {f:Flow} {s':Shared} (h:SP (X.wish E) pins D f s'):SP X pins D f s':=by
 cases f with
 | next=>obtain ⟨σ',H',I,q⟩:=h; exact ⟨σ',H',I.unwish,q⟩
 | brk=>obtain ⟨σ',H',I,q⟩:=h; exact ⟨σ',H',I.unwish,q⟩
 | cont=>obtain ⟨σ',H',I,q⟩:=h; exact ⟨σ',H',I.unwish,q⟩
 | ret u=>obtain ⟨v,σ',H',I,r,q⟩:=h; exact ⟨v,σ',H',I.unwish,r,q⟩
theorem PSs.nox {st:List Stmt} {t:TS} (h:PSs X.nox st t):PSs X st t:=fun pins s σ H D I hw=>
 wpAny_mono (h pins s σ H D (I.wish _) hw) (fun _ _ q=>q.unwish) fun _ _ z=>False.elim z
end
section
variable {X:Cx} {st:Stmt} {rest:List Stmt} {t u:TS} {e:Expr} {te:TE} {pos:Pos}
def BE:TS:=fun D σ H=>D.nx σ H
def CC (t u:TS):TS:=fun D σ H=>t { D with nx:=u D } σ H
theorem yU:PSs X [] BE:=fun _ _ σ H _ I h=>wpAny_execs_nil ⟨σ,H,I,h⟩
theorem qk (h1:PS X st t) (h2:PSs X rest u):PSs X (st::rest) (CC t u):=by
 intro pins s σ H D I h
 refine wpAny_execs_cons (thn (h1 pins s σ H { D with nx:=u D } I h) fun f s1 q=>?_)
 cases f with
 | next=>
  obtain ⟨σ',H',I',q⟩:=q
  exact h2 pins s1 σ' H' D I' q
 | ret v=>exact q
 | brk=>exact q
 | cont=>exact q
theorem yT (h1:PS X st t):PSs X [st] t:=by
 intro pins s σ H D I h
 refine wpAny_execs_cons (thn (h1 pins s σ H D I h) fun f s1 q=>?_)
 cases f with
 | next=>exact wpAny_execs_nil q
 | ret v=>exact q
 | brk=>exact q
 | cont=>exact q
theorem Inv.quiet {pins:List (Addr×Obj)} {σ:St} {H:Hp} {s:Shared} (I:Inv X pins σ H s):interactive X.env=false:=by simp [interactive,I.ok.kind]
def BG (te:TE):TS:=fun D σ H=>te σ H fun _ H1=>D.nx σ H1
theorem j3 (he:PE X e te) (hs:swapsWith e none pos.line X.env=pure false:=by rfl):PS X (.Expr e pos) (BG te):=by
 intro pins s σ H D I h
 exact wpAny_Expr_any (thn (he pins s σ H _ I h) fun v s1 ⟨x,H1,I1,r1,q1⟩=>⟨σ,H1,I1,q1⟩) I.quiet hs
def CD (te:TE):TS:=fun D σ H=>te σ H D.rt
theorem je (he:PE X e te):PS X (.Return (some e) pos) (CD te):=by
 intro pins s σ H D I h
 exact wpAny_Return_some (thn (he pins s σ H _ I h) fun v s1 ⟨x,H1,I1,r1,q1⟩=>⟨x,σ,H1,I1,r1,q1⟩)
def CH (c:TT) (t u:TS):TS:=fun D σ H=>c σ H fun b H1=>if b=true then t D σ H1 else u D σ H1
theorem BQ {c:Expr} {a b:List Stmt} {tc:TT} (hc:PT X c tc) (ha:PSs X a t) (hb:PSs X b u):PS X (.If c a b pos) (CH tc t u):=by
 intro pins s σ H D I h
 refine wpAny_If (thn (hc pins s σ H _ I h) fun d s1 ⟨H1,I1,q1⟩=>?_)
 cases d with
 | true=>exact ha pins s1 σ H1 D I1 q1
 | false=>exact hb pins s1 σ H1 D I1 q1
end
abbrev TG:=V→St→Hp→(St→Hp→Prop)→Prop
abbrev TGs:=List V→St→Hp→(St→Hp→Prop)→Prop
def PG (X:Cx) (target:Expr) (t:TG):Prop:=
 ∀ (pins:List (Addr×Obj)) (s:Shared) (σ:St) (H:Hp) (v:V) (u:Value) (Q:St→Hp→Prop),Inv X pins σ H s→RelV v u→t v σ H Q →
  wpAny (model X.prog X.w) X.A (assign target X.env u) (fun _ s'=>∃ σ' H',Inv X pins σ' H' s'∧Q σ' H') X.xe s
def PGs (X:Cx) (ts:List Expr) (t:TGs):Prop:=
 ∀ (pins:List (Addr×Obj)) (s:Shared) (σ:St) (H:Hp) (vs:List V) (us:List Value) (Q:St→Hp→Prop),Inv X pins σ H s→Vals vs us→t vs σ H Q →
  wpAny (model X.prog X.w) X.A (assignInOrder ((assignEach ts X.env).map (·.2)) us) (fun _ s'=>∃ σ' H',Inv X pins σ' H' s'∧Q σ' H') X.xe s
abbrev oF:=V→V→V→Hp→(Hp→Prop)→Prop
def ul (X:Cx) (t:oF):Prop:=
 ∀ (pins:List (Addr×Obj)) (s:Shared) (σ:St) (H:Hp) (o i v:V) (ov iv u:Value) (Q:Hp→Prop),Inv X pins σ H s→RelV o ov→RelV i iv→RelV v u→t o i v H Q →
  wpAny (model X.prog X.w) X.A (setItem ov iv u) (fun _ s'=>∃ H',Inv X pins σ H' s'∧Q H') X.xe s
section
variable {X:Cx} {pos:Pos}
def k6 (i:Nat):TG:=fun v σ H Q=>Q (σ.set i (some v)) H
theorem eL {i:Nat} {x:Str} (hN:X.N.Nodup) (hi:X.N[i]? = some x) (hx:Loc X.env.scope x) (hf:X.fn x=true∨X.env.scope.names.lookup x=some .local:=by first | exact .inl rfl | exact .inr rfl | assumption):PG X (.Name x pos) (k6 i):=by
 intro pins s σ H v u Q I r h
 exact wpAny_assign_Name (lY I hN hi hx r (fun s' I'=>⟨_,H,I',h⟩) hf)
def uf:TGs:=fun vs σ H Q=>vs=[]∧Q σ H
def n5 (t:TG) (u:TGs):TGs:=fun vs σ H Q=>∃ v r,vs=v::r∧t v σ H fun σ' H'=>u r σ' H' Q
theorem j4:PGs X [] uf:=by
 intro pins s σ H vs us Q I r h
 obtain ⟨e,h⟩:=h
 subst e
 cases r
 exact assignInOrder_nil ⟨σ,H,I,h⟩
theorem fH {e:Expr} {es:List Expr} {t:TG} {u:TGs} (h1:PG X e t) (h2:PGs X es u)
  (hs:(assignEach (e::es) X.env).map (·.2)=assign e X.env::(assignEach es X.env).map (·.2):=by rfl):PGs X (e::es) (n5 t u):=by
 intro pins s σ H vs us Q I r h
 obtain ⟨v,vr,e1,h⟩:=h
 subst e1
 cases r with
 | cons r rr=>
  rw [hs]
  refine assignInOrder_cons (thn (h1 pins s σ H _ _ _ I r h) fun _ s1 ⟨σ1,H1,I1,q1⟩=>?_)
  exact h2 pins s1 σ1 H1 _ _ Q I1 rr q1
def ue (K:Frag) (n:Nat) (t:TGs):TG:=fun v σ H Q=>∃ a xs,v=.ref a∧SqT K H a xs∧xs.length=n∧t xs σ H Q
theorem ku {es:List Expr} {k:Nat} {t:TGs} {n:Nat} (hc:X.calm=true) (h:PGs X es t)
  (hn:(assignEach es X.env).length=n:=by rfl) (hst:(assignEach es X.env).findIdx? (·.1)=none:=by rfl):PG X (.Tuple es k pos) (ue X.K n t):=by
 intro pins s σ H v u Q I r hw
 obtain ⟨a,xs,e1,hq,hl,hw⟩:=hw
 subst e1
 cases r
 obtain ⟨its,rv,ht,hz⟩:=I.tuple hq
 refine assign_Tuple_tuple (I.ok.hd hc) ht (by simp [hn,← hl,rv.length]) hst fun h' hx=>?_
 have I1:Inv X pins σ H { s with heap:=h' }:=I.kept (t':=s.toks) fun b o e=>hx b o (Nat.ne_of_lt (Heap.lt_size e)) e
 exact h pins _ σ H xs _ Q I1 (by simpa using rv) hw
def CY (to ti:TE) (t:oF):TG:=fun v σ H Q=>to σ H fun o H1=>ti σ H1 fun i H2=>t o i v H2 fun H3=>Q σ H3
theorem AG {o i:Expr} {to ti:TE} {t:oF} (ho:PE X o to) (hi:PE X i ti) (hs:ul X t)
  (ha:∀ v,assign (.Subscript o i pos) X.env v=(do
   let ov ← holding [v] (eval o X.env)
   let iv ← holding [v,ov] (eval i X.env)
   standAt pos
   holding [v,ov,iv] (setItem ov iv v)
   release [v,ov,iv] []):=by intro _; rfl):PG X (.Subscript o i pos) (CY to ti t):=by
 intro pins s σ H v u Q I r h
 rw [ha]
 refine wpAny_bind (wpAny_holding (thn (ho pins s σ H _ I h) fun ov s1 ⟨x,H1,I1,r1,q1⟩=>?_))
 refine wpAny_bind (wpAny_holding (thn (hi pins s1 σ H1 _ I1 q1) fun iv s2 ⟨y,H2,I2,r2,q2⟩=>?_))
 refine wpAny_bind (wpAny_standAt (wpAny_bind (wpAny_holding (thn (hs pins s2 σ H2 x y v ov iv u _ I2 r1 r2 r q2) fun _ s3 ⟨H3,I3,q3⟩=>?_))))
 exact wpAny_release ⟨σ,H3,I3,q3⟩
def tR (te:TE) (g:TG):TS:=fun D σ H=>te σ H fun x H1=>g x σ H1 D.nx
theorem se {tg e:Expr} {te:TE} {g:TG} (he:PE X e te) (hg:PG X tg g) (hs:swapsWithSole [tg] e pos.line X.env=pure false:=by rfl) (hw:swappedStores [tg] e X.env=pure none:=by rfl)
  (h1:(assignEach [tg] X.env).map (·.2)=[assign tg X.env]:=by rfl):PS X (.Assign [tg] e pos) (tR te g):=by
 intro pins s σ H D I h
 refine wpAny_Assign_stores (thn (he pins s σ H _ I h) fun v s1 ⟨x,H1,I1,r1,q1⟩=>?_) hs hw
 rw [h1]
 exact thn (hg pins s1 σ H1 x v _ I1 r1 q1) fun _ s2 q=>q
theorem dN {i:Nat} {x:Str} {e:Expr} {te:TE} {pos':Pos} (hN:X.N.Nodup) (hi:X.N[i]? = some x) (hx:Loc X.env.scope x) (he:PE X e te) (hs:swapsWith e (some (.Name x pos')) pos.line X.env=pure false:=by rfl) (hf:X.fn x=true∨X.env.scope.names.lookup x=some .local:=by first | exact .inl rfl | exact .inr rfl | assumption) :
  PS X (.Assign [.Name x pos'] e pos) (tR te (k6 i)):=by
 intro pins s σ H D I h
 refine wpAny_Assign_Name (thn (he pins s σ H _ I h) fun v s1 ⟨y,H1,I1,r1,q1⟩=>?_) hs
 exact lY I1 hN hi hx r1 (fun s2 I2=>⟨_,H1,I2,q1⟩) hf
def An (c:TT) (tb:TS):TS:=fun D σ H=>∃ W:Nat→St→Hp→Prop,(∃ m,W m σ H)∧∀ m σ H,W m σ H →
 c σ H fun b H1=>if b=true then ∃ N:St→Hp→Prop,(∀ σ' H',N σ' H'→∃ m',m' < m∧W m' σ' H')∧tb { D with nx:=N,ct:=N,bk:=D.nx } σ H1 else D.nx σ H1
theorem xy {c:Expr} {body:List Stmt} {tc:TT} {tb:TS} (hp:PassesOwn (model X.prog X.w) X.A X.env X.xe) (hc:PT X c tc) (hb:PSs X body tb):PS X (.While c body [] pos) (An tc tb):=by
 intro pins s σ H D I h
 obtain ⟨W,⟨m0,w0⟩,turn⟩:=h
 refine wpAny_While (codeAny_whileLoop (fun n s'=>∃ σ' H',Inv X pins σ' H' s'∧W n σ' H') ?_ m0 ⟨σ,H,I,w0⟩)
 rintro n s1 ⟨σ1,H1,I1,w1⟩
 refine wpAny_passesOwn hp (thn (hc pins s1 σ1 H1 _ I1 (turn n σ1 H1 w1)) fun b s2 ⟨H2,I2,q2⟩=>?_)
 cases b with
 | true=>
  obtain ⟨N,hN,q2⟩:=q2
  rw [if_pos rfl]
  refine wpAny_passesOwn hp (thn (hb pins s2 σ1 H2 _ I2 q2) fun f s3 q3=>?_)
  cases f with
  | next=>
   obtain ⟨σ3,H3,I3,n3⟩:=q3
   obtain ⟨m',hm,w3⟩:=hN σ3 H3 n3
   exact ⟨m',hm,σ3,H3,I3,w3⟩
  | cont=>
   obtain ⟨σ3,H3,I3,n3⟩:=q3
   obtain ⟨m',hm,w3⟩:=hN σ3 H3 n3
   exact ⟨m',hm,σ3,H3,I3,w3⟩
  | brk=>exact q3
  | ret v=>exact q3
 | false=>
  rw [if_neg Bool.false_ne_true]
  exact wpAny_execs_nil ⟨σ1,H2,I2,q2⟩
end
structure It where
 go:Nat→Hp→Prop
 yld:Nat→Hp→V→Hp→Prop
 stop:Nat→Hp→Prop
def cu (X:Cx) (pins:List (Addr×Obj)) (H:Hp) (b:Addr):Prop:=H b=none∧b≠X.env.locals∧b∉X.fs∧(b∈X.ex∨X.s₀.heap.objs.size≤b)∧(∀ x c,X.env.cells.lookup x=some c→c≠b)∧∀ p∈X.pn++pins,p.1≠b
theorem Inv.fpOk {X:Cx} {pins:List (Addr×Obj)} {σ:St} {H H':Hp} {s:Shared} {b:Addr} (I:Inv X pins σ H s) (hb:s.heap.objs.size≤b) (hn:H' b=none):cu X pins H' b:=by
 refine ⟨hn,Nat.ne_of_gt (Nat.lt_of_lt_of_le I.lt hb),I.nofs hb,.inr (Nat.le_trans I.sz hb),fun x c e z=>?_,fun p hp z=>?_⟩
 ·obtain ⟨v,q⟩:=I.cell x c e
  exact absurd (Nat.lt_of_lt_of_le q.lt (by rw [z]; exact hb)) (Nat.lt_irrefl _)
 ·exact absurd (Nat.lt_of_lt_of_le (Heap.lt_size (I.pin p hp).1) (by rw [z]; exact hb)) (Nat.lt_irrefl _)
structure Turn (P:Program) (w:World) (K:Frag) (tg:Expr) (J:It) (fp:List Addr) (it:Addr) (tn:Nat→Heap→Prop):Prop where
 mem:it∈fp
 obj:∀ i h,tn i h→∀ b∈fp,∃ o,h.get? b=some o∧∀ v,o.data≠.cell v
 keep:∀ i h h',tn i h→(∀ b∈fp,∀ o,h.get? b=some o→h'.get? b=some o)→tn i h'
 item:∀ (X:Cx),X.prog=P→X.w=w→X.K=K→X.calm=true→∀ (i:Nat) (pins:List (Addr×Obj)) (s:Shared) (σ:St) (H:Hp) (E:Value→Shared→Prop),Inv X pins σ H s→(∀ b∈fp,cu X pins H b)→tn i s.heap→J.go i H →
  wpAny (model P w) X.A (pyNext (.ref it)) (fun r s1=>∃ u,r=some u ∧
   wpAny (model P w) X.A (letOwnedTupleGo tg (.ref it) u) (fun _ s2=>∃ x H',Inv X pins σ H' s2∧RelV x u∧J.yld i H x H'∧tn (i + 1) s2.heap∧∀ b∈fp,H' b=none) E s1) E s
 done:∀ (X:Cx),X.prog=P→X.w=w→X.K=K→X.calm=true→∀ (i:Nat) (pins:List (Addr×Obj)) (s:Shared) (σ:St) (H:Hp) (E:Value→Shared→Prop),Inv X pins σ H s→(∀ b∈fp,cu X pins H b)→tn i s.heap→J.stop i H →
  wpAny (model P w) X.A (pyNext (.ref it)) (fun r s1=>r=none∧Inv X pins σ H s1) E s
 self:∀ (A:Around) (i:Nat) (s:Shared) (Q:Value→Shared→Prop) (E:Value→Shared→Prop),tn i s.heap→Q (.ref it) s→wpAny (model P w) A (pyIter (.ref it)) Q E s
abbrev TI:=St→Hp→(It→Hp→Prop)→Prop
def PIE (X:Cx) (pins:List (Addr×Obj)) (σ:St) (tg:Expr) (R:It→Hp→Prop) (itv:Value) (s2:Shared):Prop:=∃ (it:Addr) (fp:List Addr) (tn:Nat→Heap→Prop) (J:It) (H':Hp),itv=.ref it∧Inv X pins σ H' s2∧Turn X.prog X.w X.K tg J fp it tn∧tn 0 s2.heap∧(∀ b∈fp,cu X pins H' b)∧R J H'
def PI (X:Cx) (tg iter:Expr) (wi:TI):Prop:=
 ∀ (pins:List (Addr×Obj)) (s:Shared) (σ:St) (H:Hp) (R:It→Hp→Prop),Inv X pins σ H s→wi σ H R →
  wpAny (model X.prog X.w) X.A (eval iter X.env) (fun v s1=>wpAny (model X.prog X.w) X.A (pyIter v) (PIE X pins σ tg R) X.xe s1) X.xe s
theorem jz {M:Model} {A:Around} {E:Value→Shared→Prop} {s:Shared} {tg:Expr} {it:Addr} {u:Value} {o:Obj} {n:String} {vs:Array Value} {Q:Unit→Shared→Prop} (ho:s.heap.get? it=some o) (hc:o.cls=.type n) (hd:o.data=.fields vs)
  (hn:["enumerate","zip","dict_itemiterator","dict_reverseitemiterator","odict_iterator","itertools.zip_longest","itertools.pairwise"].contains n=false) (hQ:Q () s):wpAny M A (letOwnedTupleGo tg (.ref it) u) Q E s:=by
 unfold letOwnedTupleGo
 cases tg <;> first
  | exact wpAny_pure hQ
  | (cases u <;> first
    | exact wpAny_pure hQ
    | (refine wpAny_bind (wpAny_load ho ?_)
       rw [hc,hd]
       show wpAny M A (if (["enumerate","zip","dict_itemiterator","dict_reverseitemiterator","odict_iterator","itertools.zip_longest","itertools.pairwise"].contains n && vs[0]? == some (rawInt _))=true then _ else _) Q E s
       rw [if_neg (by intro h; rw [hn,Bool.false_and] at h; cases h)]
       exact wpAny_pure hQ))
def Itl (K:Frag) (a:Addr):It:=⟨fun i H=>∃ xs x,SqL K H a xs∧xs[i]? = some x,fun i H x H'=>H'=H∧∀ xs,SqL K H a xs→xs[i]? = some x,fun i H=>∃ xs,SqL K H a xs∧xs.length≤i⟩
def Itt (K:Frag) (a:Addr):It:=⟨fun i H=>∃ xs x,SqT K H a xs∧xs[i]? = some x,fun i H x H'=>H'=H∧∀ xs,SqT K H a xs→xs[i]? = some x,fun i H=>∃ xs,SqT K H a xs∧xs.length≤i⟩
def Itr (lo:Int) (n:Nat):It:=⟨fun i _=>i < n,fun i H x H'=>H'=H∧x=.int (lo + i),fun i _=>n≤i⟩
theorem wj {P:Program} {w:World} {K:Frag} {tg:Expr} (a it:Addr):Turn P w K tg (Itl K a) [it] it (fun i h=>h.IsListIter it a i) where
 mem:=by simp
 obj:=fun i h st b hb=>by
  have e:b=it:=by simpa using hb
  subst e
  obtain ⟨o,e,c,d⟩:=st
  exact ⟨o,e,fun v z=>by rw [d] at z; cases z⟩
 keep:=fun i h h' st k=>st.at fun o e=>k it (by simp) o e
 item:=by
  intro X hP hw hK hc i pins s σ H E I hf st hg
  subst hP hw hK
  obtain ⟨xs,x,hq,hx⟩:=hg
  obtain ⟨its,rv,p,hz⟩:=I.list hq
  obtain ⟨u,hu,ru⟩:=rv.get hx
  obtain ⟨f0,f1,f2,f3,f4,f5⟩:=hf it (by simp)
  refine wpAny_pyNext_list_item st p.isList (x:=u) (by simpa using hu) fun h' st' sb=>?_
  have I1:Inv X pins σ H { s with heap:=h' }:=I.turned (t':=s.toks) (fun b o hb e=>(sb.2 b hb).trans e) f0 f1 f3 f4 f5
  obtain ⟨o,e,c,d⟩:=id st'
  exact ⟨u,rfl,jz (s:={ s with heap:=h' }) e c d (by decide) ⟨x,H,I1,ru,⟨rfl,fun ys hy=>by rw [I.list_inj hy hq]; exact hx⟩,st',fun b hb=>(hf b hb).1⟩⟩
 done:=by
  intro X hP hw hK hc i pins s σ H E I hf st hg
  subst hP hw hK
  obtain ⟨xs,hq,hx⟩:=hg
  obtain ⟨its,rv,p,hz⟩:=I.list hq
  obtain ⟨f0,f1,f2,f3,f4,f5⟩:=hf it (by simp)
  have hl:=rv.length
  exact wpAny_pyNext_list_end (I.ok.hd hc) st p.isList (by simp; omega) fun h' eb=>⟨rfl,I.turned (t':=s.toks) (fun b o hb e=>eb b o hb e) f0 f1 f3 f4 f5⟩
 self:=fun _ _ _ _ _ st h=>wpAny_pyIter_listiter st h
theorem vN {P:Program} {w:World} {K:Frag} {tg:Expr} (a it:Addr):Turn P w K tg (Itt K a) [it] it (fun i h=>h.IsTupleIter it a i) where
 mem:=by simp
 obj:=fun i h st b hb=>by
  have e:b=it:=by simpa using hb
  subst e
  obtain ⟨o,e,c,d⟩:=st
  exact ⟨o,e,fun v z=>by rw [d] at z; cases z⟩
 keep:=fun i h h' st k=>st.at fun o e=>k it (by simp) o e
 item:=by
  intro X hP hw hK hc i pins s σ H E I hf st hg
  subst hP hw hK
  obtain ⟨xs,x,hq,hx⟩:=hg
  obtain ⟨its,rv,p,hz⟩:=I.tuple hq
  obtain ⟨u,hu,ru⟩:=rv.get hx
  obtain ⟨f0,f1,f2,f3,f4,f5⟩:=hf it (by simp)
  refine wpAny_pyNext_tuple_item st (show s.heap.IsTuple a its.toArray from p) (x:=u) (by simpa using hu) fun h' st' sb=>?_
  have I1:Inv X pins σ H { s with heap:=h' }:=I.turned (t':=s.toks) (fun b o hb e=>(sb.2 b hb).trans e) f0 f1 f3 f4 f5
  obtain ⟨o,e,c,d⟩:=id st'
  exact ⟨u,rfl,jz (s:={ s with heap:=h' }) e c d (by decide) ⟨x,H,I1,ru,⟨rfl,fun ys hy=>by rw [I.tuple_inj hy hq]; exact hx⟩,st',fun b hb=>(hf b hb).1⟩⟩
 done:=by
  intro X hP hw hK hc i pins s σ H E I hf st hg
  subst hP hw hK
  obtain ⟨xs,hq,hx⟩:=hg
  obtain ⟨its,rv,p,hz⟩:=I.tuple hq
  obtain ⟨f0,f1,f2,f3,f4,f5⟩:=hf it (by simp)
  have hl:=rv.length
  exact wpAny_pyNext_tuple_end (I.ok.hd hc) st (show s.heap.IsTuple a its.toArray from p) (by simp; omega) fun h' eb=>⟨rfl,I.turned (t':=s.toks) (fun b o hb e=>eb b o hb e) f0 f1 f3 f4 f5⟩
 self:=fun _ _ _ _ _ st h=>wpAny_pyIter_tupleiter st h
theorem vO {P:Program} {w:World} {K:Frag} {tg:Expr} (it:Addr) (lo:Int) (n:Nat):Turn P w K tg (Itr lo n) [it] it (fun i h=>IsRangeIter h it (lo + (i:Nat) * 1) ((n:Int) - (i:Nat)) 1) where
 mem:=by simp
 obj:=fun i h st b hb=>by
  have e:b=it:=by simpa using hb
  subst e
  exact ⟨_,st,fun v z=>by
   have z':Data.fields _=Data.cell v:=z
   cases z'⟩
 keep:=fun i h h' st k=>k it (by simp) _ st
 item:=by
  intro X hP hw hK hc i pins s σ H E I hf st hg
  subst hP hw hK
  obtain ⟨f0,f1,f2,f3,f4,f5⟩:=hf it (by simp)
  have W:=Walks.range (prog:=X.prog) (w:=X.w) (I.ok.hd hc) it lo 1 n
  refine W.item i s _ _ hg st fun v h' tk hv st' kk=>?_
  obtain ⟨t,rfl⟩:=hv
  have I1:Inv X pins σ H { s with heap:=h',toks:=tk }:=I.turned (fun b o hb e=>kk b o (by simpa using hb) e) f0 f1 f3 f4 f5
  refine ⟨_,rfl,jz (s:={ s with heap:=h',toks:=tk }) (n:="range_iterator") st' rfl rfl (by decide) ⟨.int (lo + i),H,I1,⟨t,?_⟩,⟨rfl,rfl⟩,st',fun b hb=>(hf b hb).1⟩⟩
  rw [Int.mul_one]
 done:=by
  intro X hP hw hK hc i pins s σ H E I hf st hg
  subst hP hw hK
  obtain ⟨f0,f1,f2,f3,f4,f5⟩:=hf it (by simp)
  exact wpAny_pyNext_range_end (I.ok.hd hc) st (by have:n≤i:=hg; omega) fun h' eb=>⟨rfl,I.turned (t':=s.toks) (fun b o hb e=>eb b o hb e) f0 f1 f3 f4 f5⟩
 self:=fun _ _ _ _ _ st h=>wpAny_pyIter_rangeiter st h
section
variable {X:Cx} {tg:Expr}
theorem xt {pins:List (Addr×Obj)} {σ:St} {H:Hp} {s:Shared} {R:It→Hp→Prop} {E:Value→Shared→Prop} {lo hi:Int} {t u v:Tok} {tk:Nat} (I:Inv X pins σ H s) (h1 : -(2 ^ 62)≤lo) (h2:lo < 2 ^ 62) (h3 : -(2 ^ 62)≤hi) (h4:hi < 2 ^ 62)
  (q:R (Itr lo (hi - lo).toNat) H):wpAny (model X.prog X.w) X.A (pyIter (.ref s.heap.objs.size)) (PIE X pins σ tg R) E { s with heap:=s.heap.push { cls:=.type "range",data:=.fields #[.int lo t,.int hi u,.int 1 v] },toks:=tk }:=by
 refine wpAny_pyIter_range (IsRange.new ..) (small_one h1 h2 h3 h4) ?_
 have I1:Inv X pins σ H { s with heap:=s.heap.push { cls:=.type "range",data:=.fields #[.int lo t,.int hi u,.int 1 v] },toks:=tk }:=I.kept fun b o e=>Heap.get?_push_of_some _ e
 refine ⟨(s.heap.push { cls:=.type "range",data:=.fields #[.int lo t,.int hi u,.int 1 v] }).objs.size,[(s.heap.push { cls:=.type "range",data:=.fields #[.int lo t,.int hi u,.int 1 v] }).objs.size],_,_,H,rfl,
  I1.kept (t':=tk) fun b o e=>Heap.get?_push_of_some _ e,vO _ lo (hi - lo).toNat,?_,fun b hb=>?_,q⟩
 ·have e1:lo + ((0:Nat):Int) * 1=lo:=by simp
  have e2:(((hi - lo).toNat:Nat):Int) - ((0:Nat):Int)=Builtin.Range.rangeSize lo hi 1:=by rw [rangeSize_one]; split <;> omega
  show IsRangeIter _ _ (lo + ((0:Nat):Int) * 1) ((((hi - lo).toNat:Nat):Int) - ((0:Nat):Int)) 1
  rw [e1,e2]
  exact Heap.get?_push_size _ rfl
 ·have e:b=(s.heap.push { cls:=.type "range",data:=.fields #[.int lo t,.int hi u,.int 1 v] }).objs.size:=by simpa using hb
  subst e
  exact I1.fpOk (Nat.le_refl _) (I1.hok.fresh (Nat.le_refl _))
def Ck (ta:TA):TI:=fun σ H R=>ta σ H fun vs H1=>∃ j:Int,vs=[.int j]∧-(2 ^ 62)≤j∧j < 2 ^ 62∧R (Itr 0 j.toNat) H1
theorem wD {a:Expr} {ta:TA} {p pos:Pos} (hg:Gl X "range") (hm:X.mg "range" = none) (ha:PA X [a] ta) (hs:starEach [a] X.env=[(false,eval a X.env)]:=by rfl):PI X tg (.Call (.Name "range" p) [a] [] pos) (Ck ta):=by
 intro pins s σ H R I h
 refine Call_ (jg I hg hm boot_range (PyProof.Rows.callWith_type1 (thn (ha pos pins s σ H _ I h) fun us s1 ⟨vs,H1,I1,r1,q1⟩=>?_) hs rfl))
 obtain ⟨j,e,q1,q2,q⟩:=q1
 subst e
 cases r1 with
 | cons r rr=>
  cases rr
  obtain ⟨t,rfl⟩:=r
  exact call_range_1 (xt I1 (by omega) (by omega) q1 q2 (by simpa using q))
def CI (wi:TI) (g:TG) (tb:TS):TS:=fun D σ H=>wi σ H fun J H1=>∃ W:Nat→Nat→St→Hp→Prop,(∃ m,W 0 m σ H1)∧∀ i m σ H,W i m σ H →
 (J.stop i H∧D.nx σ H)∨(J.go i H∧∃ N:St→Hp→Prop,(∀ σ' H',N σ' H'→∃ m',m' < m∧W (i + 1) m' σ' H')∧∀ x H',J.yld i H x H'→g x σ H' fun σ2 H2=>tb { D with nx:=N,ct:=N,bk:=D.nx } σ2 H2)
def dB (fp:List Addr) (h:Heap):List (Addr×Obj):=fp.filterMap fun b=>(h.get? b).map fun o=>(b,o)
theorem hV {fp:List Addr} {h:Heap} {b:Addr} {o:Obj} (hb:b∈fp) (e:h.get? b=some o):(b,o)∈dB fp h:=List.mem_filterMap.mpr ⟨b,hb,by rw [e]; rfl⟩
theorem wJ {fp:List Addr} {h:Heap} {p:Addr×Obj} (hp:p∈dB fp h):p.1∈fp∧h.get? p.1=some p.2:=by
 obtain ⟨b,hb,e⟩:=List.mem_filterMap.mp hp
 cases q:h.get? b with
 | none=>rw [q] at e; cases e
 | some o=>
  rw [q] at e
  have e':(b,o)=p:=Option.some.inj e
  subst e'
  exact ⟨hb,q⟩
theorem Inv.pinned {pins:List (Addr×Obj)} {σ:St} {H:Hp} {s:Shared} {fp:List Addr} (I:Inv X pins σ H s) (hf:∀ b∈fp,cu X pins H b) (ho:∀ b∈fp,∃ o,s.heap.get? b=some o∧∀ v,o.data≠.cell v):Inv X (pins++dB fp s.heap) σ H s:=
 I.pins_of fun p hp=>(List.mem_append.mp hp).elim (fun z=>I.pin p (List.mem_append_right _ z)) fun z=>by
  obtain ⟨hb,e⟩:=wJ z
  obtain ⟨f0,f1,f2,_⟩:=hf p.1 hb
  obtain ⟨o,e',d⟩:=ho p.1 hb
  rw [e] at e'; cases e'
  exact ⟨e,f0,f1,f2,d⟩
theorem Inv.unpinned {pins pl:List (Addr×Obj)} {σ:St} {H:Hp} {s:Shared} (I:Inv X (pins++pl) σ H s):Inv X pins σ H s:=I.pins_of fun p hp=>I.pin p (List.mem_append_right _ (List.mem_append_left _ hp))
theorem nu {iter:Expr} {body:List Stmt} {wi:TI} {g:TG} {tb:TS} {pos:Pos} (hp:PassesOwn (model X.prog X.w) X.A X.env X.xe) (hc:X.calm=true) (hi:PI X tg iter wi) (hg:PG X tg g) (hb:PSs X body tb)
  (hs:∀ x,foldedSetIterable iter X.env x=pure x:=by intro _; rfl):PS X (.For tg iter body [] pos) (CI wi g tb):=by
 intro pins s σ H D I h
 refine wpAny_For (thn (hi pins s σ H _ I h) fun v s1 h1=>thn h1 fun itv s2 h2=>?_) hs
 obtain ⟨it,fp,tn,J,H2,e,I2,T,st2,f2,W,⟨m0,w0⟩,turn⟩:=h2
 subst e
 have stat:∀ {H':Hp},(∀ b∈fp,H' b=none)→∀ b∈fp,cu X pins H' b:=fun hn b hb=>⟨hn b hb,(f2 b hb).2⟩
 refine codeAny_forLoop_any (fun n s'=>∃ i σ' H',Inv X pins σ' H' s'∧tn i s'.heap∧(∀ b∈fp,H' b=none)∧W i n σ' H') ?_ m0 ⟨0,σ,H2,I2,st2,fun b hb=>(f2 b hb).1,w0⟩
 rintro n s3 ⟨i,σ3,H3,I3,st3,fr3,w3⟩
 rcases turn i n σ3 H3 w3 with ⟨stop,qn⟩ | ⟨go,N,hN,step⟩
 ·refine wpAny_passesOwn hp (thn (T.done X rfl rfl rfl hc i pins s3 σ3 H3 X.xe I3 (stat fr3) st3 stop) fun r s4 ⟨hr,I4⟩=>?_)
  subst hr
  exact wpAny_execs_nil ⟨σ3,H3,I4,qn⟩
 ·refine wpAny_passesOwn hp (thn (T.item X rfl rfl rfl hc i pins s3 σ3 H3 X.xe I3 (stat fr3) st3 go) fun r s4 ⟨u,hr,h4⟩=>?_)
  subst hr
  refine wpAny_passesOwn hp (thn h4 fun _ s5 ⟨x,H5,I5,r5,y5,st5,fr5⟩=>?_)
  have I5':=I5.pinned (stat fr5) (T.obj _ _ st5)
  refine wpAny_passesOwn hp (thn (hg _ s5 σ3 H5 x u _ I5' r5 (step x H5 y5)) fun _ s6 ⟨σ6,H6,I6,q6⟩=>?_)
  refine wpAny_passesOwn hp (thn (hb _ s6 σ6 H6 _ I6 q6) fun f s7 q7=>?_)
  have again:∀ {σ7:St} {H7:Hp},Inv X (pins++dB fp s5.heap) σ7 H7 s7→N σ7 H7→∃ m,m < n∧∃ i σ' H',Inv X pins σ' H' s7∧tn i s7.heap∧(∀ b∈fp,H' b=none)∧W i m σ' H':=fun {σ7 H7} I7 n7=>by
   obtain ⟨m',hm,w7⟩:=hN σ7 H7 n7
   refine ⟨m',hm,i + 1,σ7,H7,I7.unpinned,T.keep _ _ _ st5 fun b hb o e=>(I7.pin (b,o) (List.mem_append_right _ (List.mem_append_right _ (hV hb e)))).1,fun b hb=>?_,w7⟩
   obtain ⟨o,e,d⟩:=T.obj _ _ st5 b hb
   exact (I7.pin (b,o) (List.mem_append_right _ (List.mem_append_right _ (hV hb e)))).2.1
  cases f with
  | next=>obtain ⟨σ7,H7,I7,n7⟩:=q7; exact again I7 n7
  | cont=>obtain ⟨σ7,H7,I7,n7⟩:=q7; exact again I7 n7
  | brk=>obtain ⟨σ7,H7,I7,q7⟩:=q7; exact ⟨σ7,H7,I7.unpinned,q7⟩
  | ret v=>obtain ⟨x7,σ7,H7,I7,r7,q7⟩:=q7; exact ⟨x7,σ7,H7,I7.unpinned,r7,q7⟩
end
abbrev R2:=V→V→Hp→VK→Prop
def OpR (X:Cx) (f:Value→Value→Sem Value) (r:R2):Prop:=
 ∀ (pins:List (Addr×Obj)) (s:Shared) (σ:St) (H:Hp) (x y:V) (v u:Value) (Q:VK),Inv X pins σ H s→RelV x v→RelV y u→r x y H Q →
  wpAny (model X.prog X.w) X.A (f v u) (EP X pins σ Q) X.xe s
def UnR (X:Cx) (f:Value→Sem Value) (r:V→Hp→VK→Prop):Prop:=
 ∀ (pins:List (Addr×Obj)) (s:Shared) (σ:St) (H:Hp) (x:V) (v:Value) (Q:VK),Inv X pins σ H s→RelV x v→r x H Q →
  wpAny (model X.prog X.w) X.A (f v) (EP X pins σ Q) X.xe s
def CallR (X:Cx) (f:Value) (r:List V→Hp→VK→Prop):Prop:=
 ∀ (pins:List (Addr×Obj)) (s:Shared) (σ:St) (H:Hp) (xs:List V) (us:List Value) (Q:VK),Inv X pins σ H s→Vals xs us→r xs H Q →
  wpAny (model X.prog X.w) X.A (call f us) (EP X pins σ Q) X.xe s
def C5 (X:Cx) (r:V→Hp→(Bool→Hp→Prop)→Prop):Prop:=
 ∀ (pins:List (Addr×Obj)) (s:Shared) (σ:St) (H:Hp) (x:V) (v:Value) (Q:Bool→Hp→Prop),Inv X pins σ H s→RelV x v→r x H Q →
  wpAny (model X.prog X.w) X.A (truthy v) (TP X pins σ Q) X.xe s
def tOp (r:R2) (ta tb:TE):TE:=fun σ H Q=>ta σ H fun x H1=>tb σ H1 fun y H2=>r x y H2 Q
def tUn (r:V→Hp→VK→Prop) (ta:TE):TE:=fun σ H Q=>ta σ H fun x H1=>r x H1 Q
def rI (C:Int→Int→Prop) (g:Int→Int→V):R2:=fun x y H Q=>∃ i j,x=.int i∧y=.int j∧C i j∧Q (g i j) H
def rI0 (g:Int→Int→V):R2:=fun x y H Q=>∃ i j,x=.int i∧y=.int j∧Q (g i j) H
def rU (g:Int→V):V→Hp→VK→Prop:=fun x H Q=>∃ i,x=.int i∧Q (g i) H
section
variable {X:Cx} {a b c:Expr} {ta tb tc:TE} {pos:Pos}
theorem oB (ha:PE X a ta) (hb:PE X b tb) {pins:List (Addr×Obj)} {s:Shared} {σ:St} {H:Hp} {R:V→V→Hp→Prop} (I:Inv X pins σ H s)
  (h:ta σ H fun x H1=>tb σ H1 fun y H2=>R x y H2) {Q:Value→Shared→Prop} {f:Value→Value→Sem Value}
  (hf:∀ v u s2 x y H2,Inv X pins σ H2 s2→RelV x v→RelV y u→R x y H2→wpAny (model X.prog X.w) X.A (f v u) Q X.xe s2) :
  wpAny (model X.prog X.w) X.A (eval a X.env) (fun v s₁=>wpAny (model X.prog X.w) X.A (eval b X.env) (fun u s₂=>wpAny (model X.prog X.w) X.A (f v u) Q X.xe s₂) X.xe s₁) X.xe s:=by
 refine thn (ha pins s σ H _ I h) fun v s1 ⟨x,H1,I1,r1,q1⟩=>?_
 refine thn (hb pins s1 σ H1 _ I1 q1) fun u s2 ⟨y,H2,I2,r2,q2⟩=>?_
 exact hf v u s2 x y H2 I2 r1 r2 q2
theorem tj {op:Operator} {r:R2} (ho:OpR X (binaryOp op) r) (ha:PE X a ta) (hb:PE X b tb):PE X (.BinOp a op b pos) (tOp r ta tb):=by
 intro pins s σ H Q I h
 exact wpAny_BinOp (oB ha hb I h fun v u s2 x y H2 I2 rx ry q=>ho pins s2 σ H2 x y v u Q I2 rx ry q)
theorem BS {op:UnaryOp} {r:V→Hp→VK→Prop} (ho:UnR X (unaryOp op) r) (ha:PE X a ta):PE X (.UnaryOp op a pos) (tUn r ta):=by
 intro pins s σ H Q I h
 exact UnaryOp_ (thn (ha pins s σ H _ I h) fun v s1 ⟨x,H1,I1,r1,q1⟩=>ho pins s1 σ H1 x v Q I1 r1 q1)
theorem opI {f:Value→Value→Sem Value} {C:Int→Int→Prop} {g:Int→Int→Int}
  (rule:∀ (i j:Int) (t u:Tok) (s:Shared) (Q:Value→Shared→Prop) (E:Value→Shared→Prop),C i j→Q (.int (g i j) s.toks) { s with toks:=s.toks + 1 }→wpAny (model X.prog X.w) X.A (f (.int i t) (.int j u)) Q E s) :
  OpR X f (rI C fun i j=>.int (g i j)):=by
 intro pins s σ H x y v u Q I rx ry h
 obtain ⟨i,j,rfl,rfl,hc,q⟩:=h
 obtain ⟨t,rfl⟩:=rx
 obtain ⟨t',rfl⟩:=ry
 exact rule i j t t' s _ _ hc ⟨.int (g i j),H,I.tok _,⟨_,rfl⟩,q⟩
theorem tZ {f:Value→Value→Sem Value} {g:Int→Int→Int}
  (rule:∀ (i j:Int) (t u:Tok) (s:Shared) (Q:Value→Shared→Prop) (E:Value→Shared→Prop),Q (.int (g i j) s.toks) { s with toks:=s.toks + 1 }→wpAny (model X.prog X.w) X.A (f (.int i t) (.int j u)) Q E s) :
  OpR X f (rI0 fun i j=>.int (g i j)):=by
 intro pins s σ H x y v u Q I rx ry h
 obtain ⟨i,j,rfl,rfl,q⟩:=h
 obtain ⟨t,rfl⟩:=rx
 obtain ⟨t',rfl⟩:=ry
 exact rule i j t t' s _ _ ⟨.int (g i j),H,I.tok _,⟨_,rfl⟩,q⟩
theorem ls {f:Value→Value→Sem Value} {g:Int→Int→Bool}
  (rule:∀ (i j:Int) (t u:Tok) (s:Shared) (Q:Value→Shared→Prop) (E:Value→Shared→Prop),Q (.bool (g i j)) s→wpAny (model X.prog X.w) X.A (f (.int i t) (.int j u)) Q E s) :
  OpR X f (rI0 fun i j=>.bl (g i j)):=by
 intro pins s σ H x y v u Q I rx ry h
 obtain ⟨i,j,rfl,rfl,q⟩:=h
 obtain ⟨t,rfl⟩:=rx
 obtain ⟨t',rfl⟩:=ry
 exact rule i j t t' s _ _ ⟨.bl (g i j),H,I,rfl,q⟩
def C7 (i j:Int):Prop:=0≤j∧j≤1000000∧i.natAbs < 2 ^ 64
def CMul (i j:Int):Prop:=(-(2 ^ 64) < i∧i < 2 ^ 64)∨(-(2 ^ 64) < j∧j < 2 ^ 64)
theorem CMul.ok {i j:Int} (h:CMul i j):IntMulOk i j:=by
 rcases h with ⟨h1,h2⟩ | ⟨h1,h2⟩
 ·exact .of_left (intBits_le_64 h1 h2)
 ·exact .of_right (intBits_le_64 h1 h2)
theorem op_add:OpR X (binaryOp .Add) (rI0 fun i j=>.int (i + j)):=tZ fun _ _ _ _ _ _ _ q=>add_int q
theorem AM:OpR X (binaryOp .Sub) (rI0 fun i j=>.int (i - j)):=tZ fun _ _ _ _ _ _ _ q=>sub_int q
theorem op_mul:OpR X (binaryOp .Mult) (rI CMul fun i j=>.int (i * j)):=opI fun _ _ _ _ _ _ _ hc q=>mul_int q hc.ok
theorem AQ:OpR X (binaryOp .Mod) (rI (fun _ j=>0 < j) fun i j=>.int (i % j)):=opI fun i j _ _ _ _ _ hc q=>by
 have h1:(0:Int) < j:=hc
 exact mod_int' (by omega) (by rw [Int.fmod_eq_emod_of_nonneg i (by omega)]; exact q)
theorem AN:OpR X (binaryOp .Pow) (rI C7 fun i j=>.int (i ^ j.toNat)):=opI fun _ _ _ _ _ _ _ hc q=>pow_int_small hc.1 hc.2.1 hc.2.2 q
theorem unI {f:Value→Sem Value} {g:Int→Int}
  (rule:∀ (i:Int) (t:Tok) (s:Shared) (Q:Value→Shared→Prop) (E:Value→Shared→Prop),Q (.int (g i) s.toks) { s with toks:=s.toks + 1 }→wpAny (model X.prog X.w) X.A (f (.int i t)) Q E s) :
  UnR X f (rU fun i=>.int (g i)):=by
 intro pins s σ H x v Q I rx h
 obtain ⟨i,rfl,q⟩:=h
 obtain ⟨t,rfl⟩:=rx
 exact rule i t s _ _ ⟨.int (g i),H,I.tok _,⟨_,rfl⟩,q⟩
theorem Aj:UnR X (unaryOp .USub) (rU fun i=>.int (-i)):=unI fun _ _ _ _ _ q=>neg_int q
end
def oi:V→V→Bool
 | .non,.non=>true | .non,.int _=>true | .int _,.non=>true | .non,.bl _=>true | .bl _,.non=>true | .non,.str _=>true | .str _,.non=>true
 | .int _,.int _=>true | .bl _,.bl _=>true | .str _,.str _=>true | .byt _,.byt _=>true
 | .int _,.str _=>true | .str _,.int _=>true | .bl _,.str _=>true | .str _,.bl _=>true
 | _,_=>false
def rEq:R2:=fun x y H Q=>oi x y=true∧Q (.bl (decide (x=y))) H
def rNe:R2:=fun x y H Q=>oi x y=true∧Q (.bl (!decide (x=y))) H
theorem rF {i j:Int}:decide (V.int i=V.int j)=(i == j):=by
 rw [Bool.eq_iff_iff]
 simp
theorem sP {i j:Bool}:decide (V.bl i=V.bl j)=(i == j):=by
 rw [Bool.eq_iff_iff]
 simp
theorem rE {i j:Str}:decide (V.str i=V.str j)=(i == j):=by
 rw [Bool.eq_iff_iff]
 simp
theorem rG {i j:Array UInt8}:decide (V.byt i=V.byt j)=(i.toList == j.toList):=by
 rw [Bool.eq_iff_iff]
 cases i
 cases j
 simp
section
variable {X:Cx} {a b c:Expr} {ta tb tc:TE} {pos:Pos}
theorem bb {pins:List (Addr×Obj)} {σ:St} {H:Hp} {s:Shared} {Q:VK} {k k':Bool} (I:Inv X pins σ H s) (q:Q (.bl k) H) (e:k=k'):EP X pins σ Q (.bool k') s:=by
 subst e
 exact ⟨.bl k,H,I,rfl,q⟩
theorem B3:OpR X (compareOp .Eq) rEq:=by
 intro pins s σ H x y v u Q I rx ry h
 obtain ⟨hs,q⟩:=h
 cases x with
 | non=>
  cases rx
  cases y with
  | non=>cases ry; exact PySem.EqNone.eq_none_none (bb I q (by simp))
  | bl j=>cases ry; exact PySem.EqNone.eq_none_bool (bb I q (by simp))
  | int j=>obtain ⟨t',rfl⟩:=ry; exact PySem.EqNone.eq_none_int (bb I q (by simp))
  | str j=>obtain ⟨t',rfl⟩:=ry; exact PySem.EqNone.eq_none_str (bb I q (by simp))
  | _=>exact absurd (show false=true from hs) Bool.false_ne_true
 | bl i=>
  cases rx
  cases y with
  | non=>cases ry; exact PySem.EqNone.eq_bool_none (bb I q (by simp))
  | bl j=>cases ry; exact eq_bool (bb I q sP)
  | str j=>obtain ⟨t',rfl⟩:=ry; exact PySem.EqMixed.eq_bool_str (bb I q (by simp))
  | _=>exact absurd (show false=true from hs) Bool.false_ne_true
 | int i=>
  obtain ⟨t,rfl⟩:=rx
  cases y with
  | non=>cases ry; exact PySem.EqNone.eq_int_none (bb I q (by simp))
  | int j=>obtain ⟨t',rfl⟩:=ry; exact eq_int (bb I q rF)
  | str j=>obtain ⟨t',rfl⟩:=ry; exact PySem.EqMixed.eq_int_str (bb I q (by simp))
  | _=>exact absurd (show false=true from hs) Bool.false_ne_true
 | str i=>
  obtain ⟨t,rfl⟩:=rx
  cases y with
  | non=>cases ry; exact PySem.EqNone.eq_str_none (bb I q (by simp))
  | bl j=>cases ry; exact PySem.EqMixed.eq_str_bool (bb I q (by simp))
  | int j=>obtain ⟨t',rfl⟩:=ry; exact PySem.EqMixed.eq_str_int (bb I q (by simp))
  | str j=>obtain ⟨t',rfl⟩:=ry; exact eq_str (bb I q rE)
  | _=>exact absurd (show false=true from hs) Bool.false_ne_true
 | byt i=>
  obtain ⟨t,rfl⟩:=rx
  cases y with
  | byt j=>obtain ⟨t',rfl⟩:=ry; exact PySem.W.eq_bytes (bb I q rG)
  | _=>exact absurd (show false=true from hs) Bool.false_ne_true
 | _=>cases y <;> exact absurd (show false=true from hs) Bool.false_ne_true
theorem BY:OpR X (compareOp .NotEq) rNe:=by
 intro pins s σ H x y v u Q I rx ry h
 obtain ⟨hs,q⟩:=h
 cases x with
 | non=>
  cases rx
  cases y with
  | non=>cases ry; exact PySem.EqNone.ne_none_none (bb I q (by simp))
  | bl j=>cases ry; exact PySem.EqNone.ne_none_bool (bb I q (by simp))
  | int j=>obtain ⟨t',rfl⟩:=ry; exact PySem.EqNone.ne_none_int (bb I q (by simp))
  | str j=>obtain ⟨t',rfl⟩:=ry; exact PySem.EqNone.ne_none_str (bb I q (by simp))
  | _=>exact absurd (show false=true from hs) Bool.false_ne_true
 | bl i=>
  cases rx
  cases y with
  | non=>cases ry; exact PySem.EqNone.ne_bool_none (bb I q (by simp))
  | bl j=>cases ry; exact ne_bool (bb I q (congrArg not sP))
  | str j=>obtain ⟨t',rfl⟩:=ry; exact PySem.EqMixed.ne_bool_str (bb I q (by simp))
  | _=>exact absurd (show false=true from hs) Bool.false_ne_true
 | int i=>
  obtain ⟨t,rfl⟩:=rx
  cases y with
  | non=>cases ry; exact PySem.EqNone.ne_int_none (bb I q (by simp))
  | int j=>obtain ⟨t',rfl⟩:=ry; exact ne_int (bb I q (congrArg not rF))
  | str j=>obtain ⟨t',rfl⟩:=ry; exact PySem.EqMixed.ne_int_str (bb I q (by simp))
  | _=>exact absurd (show false=true from hs) Bool.false_ne_true
 | str i=>
  obtain ⟨t,rfl⟩:=rx
  cases y with
  | non=>cases ry; exact PySem.EqNone.ne_str_none (bb I q (by simp))
  | bl j=>cases ry; exact PySem.EqMixed.ne_str_bool (bb I q (by simp))
  | int j=>obtain ⟨t',rfl⟩:=ry; exact PySem.EqMixed.ne_str_int (bb I q (by simp))
  | str j=>obtain ⟨t',rfl⟩:=ry; exact ne_str (bb I q (congrArg not rE))
  | _=>exact absurd (show false=true from hs) Bool.false_ne_true
 | byt i=>
  obtain ⟨t,rfl⟩:=rx
  cases y with
  | byt j=>obtain ⟨t',rfl⟩:=ry; exact PySem.W.ne_bytes (bb I q (congrArg not rG))
  | _=>exact absurd (show false=true from hs) Bool.false_ne_true
 | _=>cases y <;> exact absurd (show false=true from hs) Bool.false_ne_true
theorem BZ:OpR X (compareOp .Lt) (rI0 fun i j=>.bl (decide (i < j))):=ls fun _ _ _ _ _ _ _ q=>lt_int q
theorem B0:OpR X (compareOp .LtE) (rI0 fun i j=>.bl (decide (i≤j))):=ls fun _ _ _ _ _ _ _ q=>le_int q
theorem B1:OpR X (compareOp .Gt) (rI0 fun i j=>.bl (decide (j < i))):=ls fun _ _ _ _ _ _ _ q=>gt_int q
theorem B2:OpR X (compareOp .GtE) (rI0 fun i j=>.bl (decide (j≤i))):=ls fun _ _ _ _ _ _ _ q=>ge_int q
theorem op_in_str:OpR X (compareOp .In) (fun x y H Q=>∃ i j,x=.str i∧y=.str j∧Q (.bl (!(Builtin.Str.occurrences j i 0 j.length 1).isEmpty)) H):=by
 intro pins s σ H x y v u Q I rx ry h
 obtain ⟨i,j,rfl,rfl,q⟩:=h
 obtain ⟨t,rfl⟩:=rx
 obtain ⟨t',rfl⟩:=ry
 exact in_str (bb I q rfl)
theorem AR:OpR X (compareOp .Is) (fun x y H Q=>y=.non∧Q (.bl (decide (x=.non))) H):=by
 intro pins s σ H x y v u Q I rx ry h
 obtain ⟨rfl,q⟩:=h
 cases ry
 refine is_none_gen (bb I q ?_)
 cases x <;> first
  | (cases rx; rfl)
  | (obtain ⟨t,rfl⟩:=rx; rfl)
theorem op_notN:OpR X (compareOp .IsNot) (fun x y H Q=>y=.non∧Q (.bl (!decide (x=.non))) H):=by
 intro pins s σ H x y v u Q I rx ry h
 obtain ⟨rfl,q⟩:=h
 cases ry
 refine isnot_none_gen (bb I q ?_)
 cases x <;> first
  | (cases rx; rfl)
  | (obtain ⟨t,rfl⟩:=rx; rfl)
theorem op_notin_str:OpR X (compareOp .NotIn) (fun x y H Q=>∃ i j,x=.str i∧y=.str j∧Q (.bl (!(!(Builtin.Str.occurrences j i 0 j.length 1).isEmpty))) H):=by
 intro pins s σ H x y v u Q I rx ry h
 obtain ⟨i,j,rfl,rfl,q⟩:=h
 obtain ⟨t,rfl⟩:=rx
 obtain ⟨t',rfl⟩:=ry
 exact notIn_str (bb I q rfl)
theorem OpR.or {f:Value→Value→Sem Value} {r r':R2} (h:OpR X f r) (h':OpR X f r'):OpR X f (fun x y H Q=>r x y H Q∨r' x y H Q):=by
 intro pins s σ H x y v u Q I rx ry q
 rcases q with q | q
 ·exact h pins s σ H x y v u Q I rx ry q
 ·exact h' pins s σ H x y v u Q I rx ry q
theorem sr (b:Expr) {op:CmpOp} (h:op≠.In:=by decide) (h2:op≠.NotIn:=by decide):behindInMarks op b=false:=by
 have e1:(op == CmpOp.In)=false:=by cases op <;> first | rfl | exact absurd rfl h
 have e2:(op == CmpOp.NotIn)=false:=by cases op <;> first | rfl | exact absurd rfl h2
 cases b <;> simp [behindInMarks,e1,e2]
theorem zb {op:CmpOp} {r:R2} (ho:OpR X (compareOp op) r) (ha:PE X a ta) (hb:PE X b tb) (hm:behindInMarks op b=false):PE X (.Compare a [op] [b] pos) (tOp r ta tb):=by
 intro pins s σ H Q I h
 exact wpAny_Compare1 (oB ha hb I h fun v u s2 x y H2 I2 rx ry q=>ho pins s2 σ H2 x y v u Q I2 rx ry q) hm
def sV (t:TE):TT:=fun σ H Q=>t σ H fun x H'=>∃ k,x=.bl k∧Q k H'
theorem yS {op:CmpOp} {r:R2} (ho:OpR X (compareOp op) r) (ha:PE X a ta) (hb:PE X b tb) (hm:behindInMarks op b=false):PT X (.Compare a [op] [b] pos) (sV (tOp r ta tb)):=by
 intro pins s σ H Q I h
 refine wpAny_isTrue_Compare1 (thn (ha pins s σ H _ I h) fun v s1 ⟨x,H1,I1,r1,q1⟩=>thn (hb pins s1 σ H1 _ I1 q1) fun u s2 ⟨y,H2,I2,r2,q2⟩=>
  thn (ho pins s2 σ H2 x y v u _ I2 r1 r2 q2) fun c s3 ⟨z,H3,I3,r3,k,e,q3⟩=>?_) hm
 subst e
 cases r3
 exact wpAny_truthy_bool ⟨H3,I3,q3⟩
def rR (r r':R2) (ta tb tc:TE):TE:=fun σ H Q=>ta σ H fun x H1=>tb σ H1 fun y H2=>r x y H2 fun z H3=>∃ k,z=.bl k ∧
 (if k=true then tc σ H3 fun w' H4=>r' y w' H4 Q else Q (.bl false) H3)
theorem xx {op op':CmpOp} {r r':R2} (ho:OpR X (compareOp op) r) (ho':OpR X (compareOp op') r') (ha:PE X a ta) (hb:PE X b tb) (hc:PE X c tc)
  (hm:lastMarks [op,op'] [b,c]=false:=by with_unfolding_all rfl):PT X (.Compare a [op,op'] [b,c] pos) (sV (rR r r' ta tb tc)):=by
 intro pins s σ H Q I h
 refine isTrue_chain (thn (ha pins s σ H _ I h) fun v s1 ⟨x,H1,I1,r1,q1⟩=>test_link (thn (hb pins s1 σ H1 _ I1 q1) fun u s2 ⟨y,H2,I2,r2,q2⟩=>
  thn (ho pins s2 σ H2 x y v u _ I2 r1 r2 q2) fun d s3 ⟨z,H3,I3,r3,k,e,q3⟩=>?_)) hm
 subst e
 cases r3
 refine wpAny_truthy_bool ?_
 cases k with
 | false=>
  obtain ⟨k',e',q'⟩:=q3
  cases e'
  exact ite_ff ⟨H3,I3,q'⟩
 | true=>
  refine ite_tt (test_last (thn (hc pins s3 σ H3 _ I3 q3) fun w' s4 ⟨z',H4,I4,r4,q4⟩=>thn (ho' pins s4 σ H4 y z' u w' _ I4 r2 r4 q4) fun d' s5 ⟨z2,H5,I5,r5,k2,e2,q5⟩=>?_))
  subst e2
  cases r5
  exact wpAny_truthy_bool ⟨H5,I5,q5⟩
def oE (K:Frag) (x:V) (H:Hp) (k:Bool):Prop:=
 match x with
 | .non=>k=false
 | .bl b=>k=b
 | .int i=>k=(i != 0)
 | .str y=>y.length≤sizeLine∧k=((y.length:Int) != 0)
 | .byt y=>y.size≤sizeLine∧k=((y.size:Int) != 0)
 | .ref p=>(∃ xs,SqL K H p xs∧k = !xs.isEmpty)∨(∃ xs,SqT K H p xs∧k = !xs.isEmpty)∨∃ kvs,H p=some (.dK kvs)∧k = !kvs.isEmpty
 | _=>False
theorem v4 {κ:Type} {kvs:List (κ×V)} {vs:List (κ×Value)} (r:KV kvs vs):(!vs.isEmpty) = !kvs.isEmpty:=by cases r <;> rfl
theorem pd {xs:List V} {its:List Value} (r:Vals xs its):(!its.toArray.isEmpty) = !xs.isEmpty:=by cases r <;> simp
theorem gH:(sizeLine:Nat) < 2 ^ 63:=by rw [sizeLine_eq]; decide
theorem Ak:C5 X (fun x H Q=>∃ k,oE X.K x H k∧Q k H):=by
 intro pins s σ H x v Q I rx h
 obtain ⟨k,e,q⟩:=h
 have hl:=gH
 have hs:sizeLine=16777216:=sizeLine_eq
 cases x with
 | non=>
  cases rx
  have e':k=false:=e
  subst e'
  exact truthy_none ⟨H,I,q⟩
 | bl b=>
  cases rx
  have e':k=b:=e
  subst e'
  exact wpAny_truthy_bool ⟨H,I,q⟩
 | int i=>
  obtain ⟨t,rfl⟩:=rx
  have e':k=(i != 0):=e
  subst e'
  exact PySem.P.truthy_int ⟨H,I,q⟩
 | str y=>
  obtain ⟨t,rfl⟩:=rx
  obtain ⟨hy,e'⟩:y.length≤sizeLine∧k=((y.length:Int) != 0):=e
  subst e'
  exact PySem.P.truthy_str (by omega) ⟨H,I.tok _,q⟩
 | byt y=>
  obtain ⟨t,rfl⟩:=rx
  obtain ⟨hy,e'⟩:y.size≤sizeLine∧k=((y.size:Int) != 0):=e
  subst e'
  exact PySem.W.truthy_bytes (by omega) ⟨H,I.tok _,q⟩
 | ref p=>
  cases rx
  have e':(∃ xs,SqL X.K H p xs∧k = !xs.isEmpty)∨(∃ xs,SqT X.K H p xs∧k = !xs.isEmpty)∨∃ kvs,H p=some (.dK kvs)∧k = !kvs.isEmpty:=e
  rcases e' with ⟨xs,hx,e'⟩ | ⟨xs,hx,e'⟩ | ⟨kvs,hx,e'⟩
  ·subst e'
   obtain ⟨its,r,pl,hz⟩:=I.list hx
   have hlen:=r.length
   exact wpAny_truthy_list pl.isList (by simp only [List.size_toArray]; omega) ⟨H,I.tok _,by rw [pd r]; exact q⟩
  ·subst e'
   obtain ⟨its,r,pl,hz⟩:=I.tuple hx
   have hlen:=r.length
   exact truthy_tuple pl (by simp only [List.size_toArray]; omega) ⟨H,I.tok _,by rw [pd r]; exact q⟩
  ·subst e'
   obtain ⟨hz,hS,vs,r,m⟩:kvs.length≤sizeLine∧(p == sysModules)=false∧∃ vs,KV kvs vs∧s.heap.DictOf (bt X.prog X.w) p vs:=I.hok p _ hx
   have hlen:kvs.length=vs.length:=Paired.length r
   exact wpAny_truthy_dict hS m (by omega) ⟨H,I.tok _,by rw [v4 r]; exact q⟩
 | _=>exact (show False from e).elim
theorem xw (ha:PE X a ta) (he:∀ whole,isTrue a X.env whole=(do let v ← whole; standAt a.pos; holding [v] (truthy v))) :
  PT X a (fun σ H Q=>ta σ H fun x H'=>∃ k,oE X.K x H' k∧Q k H'):=by
 intro pins s σ H Q I h
 exact isTrue_plain (thn (ha pins s σ H _ I h) fun v s1 ⟨x,H1,I1,r1,q1⟩=>Ak pins s1 σ H1 x v Q I1 r1 q1) (he _)
theorem op_add_str:OpR X (binaryOp .Add) (fun x y H Q=>∃ i j,x=.str i∧y=.str j∧i.length + j.length≤sizeLine∧Q (.str (i++j)) H):=by
 intro pins s σ H x y v u Q I rx ry h
 obtain ⟨i,j,rfl,rfl,hz,q⟩:=h
 obtain ⟨t,rfl⟩:=rx
 obtain ⟨t',rfl⟩:=ry
 exact add_str (fun t' tk=>⟨.str (i++j),H,I.tok _,⟨_,rfl⟩,q⟩) hz
theorem vals1 {x:V} {us:List Value} (r:Vals [x] us):∃ u,us=[u]∧RelV x u:=by
 cases r with
 | cons r1 r2=>cases r2; exact ⟨_,rfl,r1⟩
theorem vals2 {x y:V} {us:List Value} (r:Vals [x,y] us):∃ u w',us=[u,w']∧RelV x u∧RelV y w':=by
 cases r with
 | cons r1 r2=>
  cases r2 with
  | cons r3 r4=>cases r4; exact ⟨_,_,rfl,r1,r3⟩
theorem yu:CallR X (.builtin "abs") (fun xs H Q=>∃ i,xs=[.int i]∧Q (.int (if i < 0 then -i else i)) H):=by
 intro pins s σ H xs us Q I r h
 obtain ⟨i,rfl,q⟩:=h
 obtain ⟨u,rfl,t,rfl⟩:=vals1 r
 exact call_abs_int fun u tk=>⟨.int (if i < 0 then -i else i),H,I.tok _,⟨_,rfl⟩,q⟩
theorem call_int1:CallR X (.type "int") (fun xs H Q=>(∃ i,xs=[.int i]∧Q (.int i) H)∨∃ k,xs=[.bl k]∧Q (.int (if k then 1 else 0)) H):=by
 intro pins s σ H xs us Q I r h
 rcases h with ⟨i,rfl,q⟩ | ⟨k,rfl,q⟩
 ·obtain ⟨u,rfl,t,rfl⟩:=vals1 r
  exact call_int_int ⟨.int i,H,I,⟨_,rfl⟩,q⟩
 ·obtain ⟨u,rfl,r1⟩:=vals1 r
  cases r1
  exact call_int_bool ⟨.int (if k then 1 else 0),H,I.tok _,⟨_,rfl⟩,q⟩
theorem vt:CallR X (.type "str") (fun xs H Q=>∃ i,xs=[.int i]∧i.natAbs.log2 < 1920∧Q (.str (toString i)) H):=by
 intro pins s σ H xs us Q I r h
 obtain ⟨i,rfl,hz,q⟩:=h
 obtain ⟨u,rfl,t,rfl⟩:=vals1 r
 exact PySem.P.str_of_int hz ⟨.str _,H,I.tok _,⟨_,rfl⟩,q⟩
end
structure ObjM (h:Heap) (x dx C:Addr) (mA:Str→Option Value):Prop where
 obj:h.get? x=some (PySem.W.instObj C dx)
 ns:h.Ns1 dx mA
 ne:dx≠x
theorem wO {h:Heap} {dx:Addr} {mA:Str→Option Value} (n:h.Ns1 dx mA):∃ od,h.get? dx=some od∧∀ name,PySem.W.lookIn name od=some (mA name):=by
 obtain ⟨o,es,ep,ho,hd,hk,_,hm⟩:=n
 refine ⟨o,ho,fun name=>?_⟩
 have e:=hm name
 unfold nsFind findBy at e
 rw [← Array.find?_toList] at e
 unfold PySem.W.lookIn
 rw [hd]
 dsimp only
 split
 ·rename_i y q
  rw [q] at e
  exact congrArg some e
 ·rename_i q
  rw [q] at e
  have a:es.toList.any (·.refKey)=false:=by
   rw [List.any_eq_false]
   intro y hy
   obtain ⟨z,t,hkey⟩:=hk y (Array.mem_toList_iff.mp hy)
   simp [DictEntry.refKey,hkey]
  have a':¬ es.toList.any (·.refKey)=true:=by rw [a]; exact Bool.false_ne_true
  rw [if_neg a']
  exact congrArg some e
theorem ObjM.look {h:Heap} {x dx C:Addr} {mA:Str→Option Value} (I:ObjM h x dx C mA):∃ od,PySem.W.InstAt h x (PySem.W.instObj C dx) C (some od)∧∀ name,PySem.W.lookIn name od=some (mA name):=
 let ⟨od,ho,hl⟩:=wO I.ns
 ⟨od,⟨I.obj,rfl,rfl,ho⟩,hl⟩
section
variable {prog:Program} {w:World} {A:Around} {E:Value→Shared→Prop} {s:Shared} {K:Frag} {x dx C f:Addr} {mA:Str→Option Value} {name:Str} {v:Value}
end
theorem RelO.some_of {v:V} {o:Option Value} (r:RelO (some v) o):∃ u,o=some u∧RelV v u:=by
 cases o with
 | none=>exact (show False from r).elim
 | some u=>exact ⟨u,rfl,r⟩
section
variable {P:Program} {w:World} {H H':Hp} {h h':Heap} {a C dx:Addr} {fs fs':List (Str×V)}
theorem zF (hok:HOk P w H h) (e:H a=some (.ins C dx fs)):∃ mA,ObjM h a dx C mA∧(∀ f,RelO (fs.lookup f) (mA f))∧PySem.Within mA (fs.map (·.1))∧fs.length≤1000∧H dx=some (.own a):=by
 obtain ⟨d,z,ne,ob,mA,n,r,q⟩:=(show ObjOk P w H h a (.ins C dx fs) from hok a _ e)
 exact ⟨mA,⟨ob,n,ne⟩,r,q,z,d⟩
end
structure Cls (K:Frag) (C:Addr):Prop where
 pg:PySem.W.plainGet K C Str.empty=true
 hd:PySem.W.hasDictIn K C=true
 po:PySem.W.plainOver K C=true
 sa:PySem.W.findIn K (.ref C) "__setattr__" = some (some (.builtin "object.__setattr__"))
theorem Cls.get {K:Frag} {C:Addr} (c:Cls K C) (f:Str):PySem.W.plainGet K C f=true:=c.pg
structure Con (K:Frag) (C:Addr) (f:Str) (v:V) (u:Value):Prop where
 at_:PySem.W.findIn K (.ref C) f=some (some u)
 rel:RelV v u
 get:PySem.W.specialIn K u "__get__" = some none
 cp:PySem.W.copiedNames.contains f=false
structure Meth (K:Frag) (C:Addr) (m:Str) (f:Addr):Prop where
 at_:PySem.W.findIn K (.ref C) m=some (some (.ref f))
 fn:PySem.W.isFn K (.ref f)=true
 kp:PySem.W.keepIn K (.ref f)=true
section
variable {X:Cx} {pins:List (Addr×Obj)} {σ:St} {H:Hp} {s:Shared} {a C dx:Addr} {fs:List (Str×V)} {f:Str} {v:V} {A:Around} {E:Value→Shared→Prop}
end
section
variable {X:Cx} {o e value:Expr} {f:Str} {pos pos' tpos:Pos} {ta tv:TE}
end
section
variable {X:Cx} {pins:List (Addr×Obj)} {σ:St} {H:Hp} {s:Shared} {A:Around} {E:Value→Shared→Prop} {Q:Value→Shared→Prop} {c:Value} {b:Bool}
inductive TyOf (K:Frag) (H:Hp):V→Value→Prop where
 | non:TyOf K H .non (.type "NoneType")
 | bl (x:Bool):TyOf K H (.bl x) (.type "bool")
 | int (i:Int):TyOf K H (.int i) (.type "int")
 | str (x:Str):TyOf K H (.str x) (.type "str")
 | flt (x:UInt64):TyOf K H (.flt x) (.type "float")
 | lst {a:Addr} {xs:List V} (e:H a=some (.lst xs)):TyOf K H (.ref a) (.type "list")
 | frz {a:Addr} {o:Obj} {xs:List V} (e:H a=some (.frz o (.lst xs))):TyOf K H (.ref a) (.type "list")
 | tup {a:Addr} {xs:List V} (e:H a=some (.tup xs)):TyOf K H (.ref a) (.type "tuple")
 | dK {a:Addr} {kvs:List (Key×V)} (e:H a=some (.dK kvs)):TyOf K H (.ref a) (.type "dict")
 | dT {a:Addr} {kvs:List (List Key×V)} (e:H a=some (.dT kvs)):TyOf K H (.ref a) (.type "dict")
 | ins {a C dx:Addr} {fs:List (Str×V)} (e:H a=some (.ins C dx fs)) (cl:Cls K C) (ha:PySem.W.findIn K (.ref C) "__class__" = some (some (.builtin "object.__class__")))
   (hn:PySem.W.specialIn K (.builtin "object.__class__") "__get__" = some (some (.builtin "getset_descriptor.__get__"))) (htk:PySem.W.takesIn K (.builtin "object.__class__")=some true)
   (hm:PySem.W.mroIn K C (.type "object")=some true):TyOf K H (.ref a) (.ref C)
theorem jR {x:V} {u t:Value} (I:Inv X pins σ H s) (rx:RelV x u) (ty:TyOf X.K H x t) (e:PySem.W.kitOne X.K t c=some b) (h:∀ tk,Q (.bool b) { s with toks:=tk }) :
  wpAny (model X.prog X.w) A (call (.builtin "isinstance") [u,c]) Q E s:=by
 cases ty with
 | non=>cases (show u=Value.none from rx); exact PySem.W.kia_one PySem.W.kitx_none I.kIn True.intro e (fun z=>nomatch z) h
 | bl y=>cases (show u=Value.bool y from rx); exact PySem.W.kia_one PySem.W.kitx_bool I.kIn True.intro e (fun z=>nomatch z) h
 | int i=>obtain ⟨t,q⟩:=(show ∃ t,u=Value.int i t from rx); cases q; exact PySem.W.kia_one PySem.W.kitx_int I.kIn True.intro e (fun z=>nomatch z) h
 | str y=>obtain ⟨t,q⟩:=(show ∃ t,u=Value.str y t from rx); cases q; exact PySem.W.kia_one PySem.W.kitx_str I.kIn True.intro e (fun z=>nomatch z) h
 | flt y=>obtain ⟨t,q⟩:=(show ∃ t,u=Value.float y t from rx); cases q; exact PySem.W.kia_one PySem.W.kitx_float I.kIn True.intro e (fun z=>nomatch z) h
 | @lst a xs ea=>
  cases (show u=Value.ref a from rx)
  obtain ⟨_,_,n,_,h1⟩:=(show ObjOk X.prog X.w H s.heap a (.lst xs) from I.hok a _ ea)
  exact PySem.W.kia_one PySem.W.kitx_list I.kIn ⟨_,h1,rfl⟩ e (fun z=>nomatch z) h
 | @frz a ob xs ea=>
  cases (show u=Value.ref a from rx)
  obtain ⟨_,_,_,n,_,h1⟩:=(show ObjOk X.prog X.w H s.heap a (.frz ob (.lst xs)) from I.hok a _ ea)
  exact PySem.W.kia_one PySem.W.kitx_list I.kIn ⟨_,h1,rfl⟩ e (fun z=>nomatch z) h
 | @tup a xs ea=>
  cases (show u=Value.ref a from rx)
  obtain ⟨_,_,_,p⟩:=(show ObjOk X.prog X.w H s.heap a (.tup xs) from I.hok a _ ea)
  obtain ⟨o,h1,h2,_⟩:=p
  exact PySem.W.kia_one PySem.W.kitx_tuple I.kIn ⟨o,h1,h2⟩ e (fun z=>nomatch z) h
 | @dK a kvs ea=>
  cases (show u=Value.ref a from rx)
  obtain ⟨_,_,vs,_,p⟩:=(show ObjOk X.prog X.w H s.heap a (.dK kvs) from I.hok a _ ea)
  obtain ⟨o,es,ep,h1,h2,_⟩:=p
  exact PySem.W.kia_one PySem.W.kitx_dict I.kIn ⟨o,h1,h2.1⟩ e (fun z=>nomatch z) h
 | @dT a kvs ea=>
  cases (show u=Value.ref a from rx)
  obtain ⟨_,_,xs,_,o,es,ep,h1,h2,_⟩:=(show ObjOk X.prog X.w H s.heap a (.dT kvs) from I.hok a _ ea)
  exact PySem.W.kia_one PySem.W.kitx_dict I.kIn ⟨o,h1,h2.1⟩ e (fun z=>nomatch z) h
 | @ins a C dx fs ea cl ha hn htk hm=>
  cases (show u=Value.ref a from rx)
  obtain ⟨mA,O,_⟩:=zF I.hok ea
  obtain ⟨od,J,_⟩:=O.look
  exact PySem.W.kia_one (PySem.W.kitx_own (cl.get _) cl.hd ha hn htk hm) I.kIn J e (fun z=>nomatch z) h
end
structure Room (k:Nat) (A:Around):Prop where
 hd:A.handled=none
 dp:A.depth + 3 * k + 5 < recursionLimit
 un:A.units + 16 * k + 200 < cLine
 gd:A.guards=some []
theorem Room.mono {j k:Nat} {A:Around} (r:Room k A) (h:j≤k):Room j A:=⟨r.hd,by have:=r.dp; omega,by have:=r.un; omega,r.gd⟩
theorem Room.deeper {k:Nat} {A:Around} (r:Room (k + 1) A) (env:Env):Room k (A.deeper env):=⟨r.hd,by have:=r.dp; show A.depth + 1 + 3 * k + 5 < _; omega,by have:=r.un; show A.units + 3 + 16 * k + 200 < _; omega,r.gd⟩
theorem Room.depth {k:Nat} {A:Around} (r:Room k A):A.depth < recursionLimit:=by have:=r.dp; omega
def tQ:TA:=fun _ H Q=>Q [] H
def sW (ta:TE) (tr:TA):TA:=fun σ H Q=>ta σ H fun x H1=>tr σ H1 fun xs H2=>Q (x::xs) H2
section
variable {X:Cx} {e:Expr} {es:List Expr} {te:TE} {t:TA} {pos:Pos}
theorem cG:PA X [] tQ:=fun _ _ _ _ H Q I h=>Calls.spliced_nil ⟨[],H,I,.nil,h⟩
theorem bV (ha:PE X e te) (hr:PA X es t) (hs:starEach (e::es) X.env=(false,eval e X.env)::starEach es X.env:=by rfl):PA X (e::es) (sW te t):=by
 intro pos pins s σ H Q I h
 rw [hs]
 show wpAny _ _ (spliced ((false,eval e X.env)::backTo pos (starEach es X.env))) _ _ s
 refine Calls.spliced_cons (thn (ha pins s σ H _ I h) fun u s1 ⟨x,H1,I1,r1,q1⟩=>?_)
 exact thn (hr pos pins s1 σ H1 _ I1 q1) fun us s2 ⟨xs,H2,I2,r2,q2⟩=>⟨x::xs,H2,I2,.cons r1 r2,q2⟩
def CB (t:TA):TE:=fun σ H Q=>t σ H fun xs H1=>xs.length≤sizeLine∧∀ p,H1 p=none→Q (.ref p) (upd H1 p (.tup xs))
def CG (t:TA):TE:=fun σ H Q=>t σ H fun xs H1=>xs.length≤sizeLine∧∀ p,H1 p=none→Q (.ref p) (upd H1 p (.lst xs))
theorem AI {x1} (h:PA X es t):PE X (.Tuple es x1 pos) (CB t):=by
 intro pins s σ H Q I hq
 refine wpAny_Tuple_spliced (thn (h pos pins s σ H _ I hq) fun us s1 ⟨xs,H1,I1,r,z,q⟩=>⟨by rw [← r.length]; exact z,?_⟩)
 have hf:H1 s1.heap.objs.size=none:=I1.hok.fresh (Nat.le_refl _)
 refine ⟨.ref s1.heap.objs.size,upd H1 s1.heap.objs.size (.tup xs),I1.laid (t':=s1.toks) (fun b u e=>Heap.get?_push_of_some _ e) (Nat.le_refl _) ?_,rfl,q _ hf⟩
 exact ⟨z,us,r,⟨_,Heap.get?_push_size _ rfl,rfl,_,rfl⟩⟩
theorem nv (h:PA X es t):PE X (.List es pos) (CG t):=by
 intro pins s σ H Q I hq
 refine wpAny_List_spliced (thn (h pos pins s σ H _ I hq) fun us s1 ⟨xs,H1,I1,r,z,q⟩=>⟨by rw [← r.length]; exact z,?_⟩)
 have hf:H1 s1.heap.objs.size=none:=I1.hok.fresh (Nat.le_refl _)
 refine ⟨.ref s1.heap.objs.size,upd H1 s1.heap.objs.size (.lst xs),I1.laid (t':=s1.toks) (fun b u e=>Heap.get?_push_of_some _ e) (Nat.le_refl _) ?_,rfl,q _ hf⟩
 exact ⟨z,us,0,r,Heap.get?_push_size _ rfl⟩
end
abbrev Sp:=List V→Hp→VK→XK→Prop
abbrev CXT:=List Env→Hp→Shared→XK→Value→Shared→Prop
structure Env0 (P:Program) (w:World) (K:Frag) (mg:Str→Option Value) (base:Heap) (A:Around) (outer:List Env) (s:Shared) (H:Hp):Prop where
 frames:A.frames=some outer
 mod:Mod K mg base
 bs:∀ b o,base.get? b=some o→s.heap.get? b=some o∧H b=none
 bsz:base.objs.size≤s.heap.objs.size
 funs:s.heap.FunFrames base outer
 frf:∀ b∈frs outer,H b=none
 hok:HOk P w H s.heap
 bare:AllBare s.gens
def CE (outer:List Env) (P:Program) (w:World) (H:Hp) (s:Shared) (Q:VK) (u:Value) (s':Shared):Prop:=∃ v H',s'.os=s.os∧AllBare s'.gens∧Un (frs outer) [] H H' s.heap s'.heap∧HOk P w H' s'.heap∧RelV v u∧Q v H'
def CR (CX:CXT) (outer:List Env) (P:Program) (w:World) (H:Hp) (s:Shared) (Q:VK) (E:XK) (r:Result) (s':Shared):Prop:=
 match r with
 | .ok (.ret u)=>CE outer P w H s Q u s'
 | .ok _=>False
 | .error e=>CX outer H s E e s'
structure FnOk (P:Program) (w:World) (K:Frag) (mg:Str→Option Value) (base:Heap) (CX:CXT) (k:Nat) (f:Addr) (fd:FuncData) (ps:List Str) (sp:Sp):Prop where
 len:∀ vs H Q E,sp vs H Q E→vs.length=ps.length
 run:∀ (A:Around) (outer:List Env) (s:Shared) (H:Hp) (args:Args) (us:List Value) (vs:List V) (Q:VK) (E:XK),Room k A→Env0 P w K mg base A outer s H→BindsTo s fd args (ps.zip us)→Vals vs us→sp vs H Q E →
  codeAny (model P w) A (.call (.ref f) args) (CR CX outer P w H s Q E) s
section
variable {X:Cx} {pins:List (Addr×Obj)} {σ:St} {H:Hp} {s s':Shared}
theorem Inv.env0 (I:Inv X pins σ H s):Env0 X.prog X.w X.K X.mg X.base X.A X.stack s H:=⟨I.ok.frames,I.ok.mod,I.bs,Nat.le_trans I.ok.bsz I.sz,I.stack,I.stkFree,I.hok,I.bare⟩
theorem Inv.after {Q:VK} {u:Value} (I:Inv X pins σ H s) (h:CE X.stack X.prog X.w H s Q u s'):EP X pins σ Q u s':=by
 obtain ⟨v,H',os,bare,un,hok,r,q⟩:=h
 obtain ⟨hh,g,d,t,os'⟩:=s'
 obtain rfl:os'=s.os:=os
 exact ⟨v,H',I.call (h':=hh) (g':=g) (d':=d) (t':=t) (ch:=[]) un hok bare (fun b z=>absurd z (by simp)),r,q⟩
end
def sY (sp:Sp) (dvs:List V) (E:XK) (t:TA):TE:=fun σ H Q=>t σ H fun vs H1=>sp (vs++dvs) H1 Q E
def Binds (K:Frag) (fd:FuncData) (ps:List Str) (ds:List Value):Prop:=∀ (s:Shared) (us:List Value),K.In s.heap→(us++ds).length=ps.length→BindsTo s fd ⟨us,[]⟩ (ps.zip (us++ds))
theorem Binds.all {K:Frag} {fd:FuncData} {ps:List Str} (h:∀ us:List Value,us.length=ps.length→bindArgs fd ⟨us,[]⟩=pure (ps.zip us)):Binds K fd ps []:=fun s us _ hl=>by
 rw [List.append_nil] at hl ⊢
 exact .of_eq (h us hl)
def nR (CX:CXT) (X:Cx) (E:XK):Prop:=∀ (pins:List (Addr×Obj)) (σ:St) (H:Hp) (s:Shared) (e:Value) (s':Shared),Inv X pins σ H s→CX X.stack H s E e s'→X.xe e s'
section
variable {X:Cx} {CX:CXT} {k:Nat} {f C:Addr} {fd:FuncData} {ps:List Str} {sp:Sp} {dvs:List V} {ds:List Value} {E:XK} {x m:Str} {p pos apos:Pos} {e o:Expr} {es:List Expr} {ta:TE} {t:TA}
theorem Ay {pins:List (Addr×Obj)} {σ:St} {H:Hp} {s:Shared} {Q:VK} {us:List Value} {vs:List V} (F:FnOk X.prog X.w X.K X.mg X.base CX k f fd ps sp) (hr:Room k X.A) (hb:Binds X.K fd ps ds) (hd:Vals dvs ds) (hx:nR CX X E)
  (I:Inv X pins σ H s) (r:Vals vs us) (h:sp (vs++dvs) H Q E):wpAny (model X.prog X.w) X.A (call (.ref f) us) (EP X pins σ Q) X.xe s:=by
 have r2:Vals (vs++dvs) (us++ds):=r.append hd
 have hl:(us++ds).length=ps.length:=by rw [← r2.length]; exact F.len _ _ _ _ h
 refine wpAny_call (codeAny_mono (F.run X.A X.stack s H ⟨us,[]⟩ (us++ds) (vs++dvs) Q E hr I.env0 (hb s us I.kIn hl) r2 h) fun r s' hq=>?_)
 cases r with
 | error e=>exact hx pins σ H s e s' I hq
 | ok fl=>
  cases fl with
  | ret u=>exact I.after hq
  | next=>exact False.elim hq
  | brk=>exact False.elim hq
  | cont=>exact False.elim hq
theorem zc (F:FnOk X.prog X.w X.K X.mg X.base CX k f fd ps sp) (hr:Room k X.A) (hg:Gl X x) (hm:X.mg x=some (.ref f)) (hk:PySem.W.keepIn X.K (.ref f)=true) (hb:Binds X.K fd ps ds) (hd:Vals dvs ds) (hx:nR CX X E)
  (ha:PA X (e::es) t) (hdb:(x == ("__debug__" : Str))=false:=by decide) (he:starEach (e::es) X.env=(false,eval e X.env)::starEach es X.env:=by rfl) (hpl:(backTo pos (starEach es X.env)).any (·.1)=false:=by rfl) :
  PE X (.Call (.Name x p) (e::es) [] pos) (sY sp dvs E t):=by
 intro pins s σ H Q I h
 refine wpAny_Call_Name_kw (zy I hg hm ?_ hdb)
 refine PySem.W.callWith_K (h₀:=X.base) I.ok.mod.kin hk (thn (ha pos pins s σ H _ I h) fun us s1 ⟨vs,H1,I1,r,q⟩=>⟨I1.kIn,?_⟩) he hpl
 exact Ay F hr hb hd hx I1 r q
structure Mk (K:Frag) (C f:Addr):Prop where
 makes:PySem.W.makesIn K C=true
 init:PySem.W.findIn K (.ref C) "__init__" = some (some (.ref f))
 fn:PySem.W.isFn K (.ref f)=true
 kp:PySem.W.keepIn K (.ref C)=true
end
section
variable {X:Cx} {CX:CXT} {k:Nat} {f C:Addr} {fd:FuncData} {ps ks:List Str} {sp:Sp} {E:XK} {x m:Str} {p pos apos kpos:Pos} {e o:Expr} {es:List Expr} {kws:List Keyword} {te ta:TE} {t tk:TA} {nm:Option Str}
structure KBinds (K:Frag) (fd:FuncData) (ps ks:List Str) (g:List Value→List Value→List Value) (gV:List V→List V→List V):Prop where
 to:∀ (s:Shared) (us ws:List Value),K.In s.heap→(g us ws).length=ps.length→BindsTo s fd ⟨us,ks.zip ws⟩ (ps.zip (g us ws))
 rel:∀ {vs:List V} {us:List Value} {zs:List V} {ws:List Value},Vals vs us→Vals zs ws→Vals (gV vs zs) (g us ws)
variable {g:List Value→List Value→List Value} {gV:List V→List V→List V}
end
structure FnScope (N P:List Str) (sc:Scope):Prop where
 kind:sc.kind=.function
 co:sc.isCoroutine=false
 gen:sc.isGenerator=false
 nd:N.Nodup
 pre:N.take P.length=P
 par:∀ x∈P,sc.names.lookup x=some .local∨sc.names.lookup x=some .cell
 nofree:∀ y∈sc.names,y.2≠.free
theorem p0 {kindOf:Str→Option NameKind} {x:Str}:∀ {binds:List (Str×Value)} {m:Str→Option Value},(∀ v,(x,v)∉binds)→bindL kindOf binds m x=m x
 | [],_,_=>rfl
 | (n,v)::r,m,h=>by
  unfold bindL
  rw [p0 fun w hw=>h w (List.mem_cons_of_mem _ hw)]
  split
  ·have:x≠n:=by rintro rfl; exact h v List.mem_cons_self
   simp [this]
  ·rfl
theorem qa {kindOf:Str→Option NameKind} {x:Str}:∀ {binds:List (Str×Value)} {m:Str→Option Value},(∀ v,(x,v)∉binds)→bindC kindOf binds m x=m x
 | [],_,_=>rfl
 | (n,v)::r,m,h=>by
  unfold bindC
  rw [qa fun w hw=>h w (List.mem_cons_of_mem _ hw)]
  split
  ·rfl
  ·have:x≠n:=by rintro rfl; exact h v List.mem_cons_self
   simp [this]
theorem p7 {kindOf:Str→Option NameKind} {x:Str} {v:Value}:∀ {P:List Str} {vs:List Value} {i:Nat} {m:Str→Option Value},P.Nodup→P[i]? = some x→vs[i]? = some v→kindOf x=some .local →
  bindL kindOf (P.zip vs) m x=some v
 | [],_,_,_,_,h,_,_=>by simp at h
 | _::_,[],_,_,_,_,h,_=>by simp at h
 | p::P,w::vs,0,m,nd,h1,h2,hk=>by
  simp at h1 h2; subst h1; subst h2
  show bindL kindOf ((p,w)::P.zip vs) m p=_
  unfold bindL
  rw [p0 fun v hv=>(List.nodup_cons.mp nd).1 (List.of_mem_zip hv).1,if_pos hk]
  simp
 | p::P,w::vs,i + 1,m,nd,h1,h2,hk=>by
  show bindL kindOf ((p,w)::P.zip vs) m x=_
  unfold bindL
  exact p7 (i:=i) (List.nodup_cons.mp nd).2 (by simpa using h1) (by simpa using h2) hk
theorem qb {kindOf:Str→Option NameKind} {x:Str} {v:Value}:∀ {P:List Str} {vs:List Value} {i:Nat} {m:Str→Option Value},P.Nodup→P[i]? = some x→vs[i]? = some v→kindOf x≠some .local →
  bindC kindOf (P.zip vs) m x=some v
 | [],_,_,_,_,h,_,_=>by simp at h
 | _::_,[],_,_,_,_,h,_=>by simp at h
 | p::P,w::vs,0,m,nd,h1,h2,hk=>by
  simp at h1 h2; subst h1; subst h2
  show bindC kindOf ((p,w)::P.zip vs) m p=_
  unfold bindC
  rw [qa fun v hv=>(List.nodup_cons.mp nd).1 (List.of_mem_zip hv).1,if_neg hk]
  simp
 | p::P,w::vs,i + 1,m,nd,h1,h2,hk=>by
  show bindC kindOf ((p,w)::P.zip vs) m x=_
  unfold bindC
  exact qb (i:=i) (List.nodup_cons.mp nd).2 (by simpa using h1) (by simpa using h2) hk
def start (N:List Str) (vs:List V):St:=vs.map some++List.replicate (N.length - vs.length) none
def gb (CX:CXT) (P:Program) (w:World) (K:Frag) (mg:Str→Option Value) (base:Heap) (N:List Str) (qual:Str) (scope:Scope) (f:Addr) (cd:Value) (A:Around) (outer:List Env) (s:Shared) (H:Hp) (E:XK):Cx where
 prog:=P
 w:=w
 K:=K
 mg:=mg
 base:=base
 A:=A.deeper (envOfC qual scope s.heap.objs.size f cd)
 N:=N
 s₀:=s
 H₀:=H
 env:=envOfC qual scope s.heap.objs.size f cd
 outer:=outer
 stack:=envOfC qual scope s.heap.objs.size f cd::outer
 ex:=[]
 calm:=true
 fn:=fun _=>true
 pn:=[]
 xe:=fun e s'=>wpAny (model P w) (A.deeper (envOfC qual scope s.heap.objs.size f cd)) (leaving (envOfC qual scope s.heap.objs.size f cd) e) (fun _ s''=>CX outer H s E e s'') (fun e' s''=>CX outer H s E e' s'') s'
theorem qE {sc:Scope} {n:Nat} {x:Str} (h:sc.names.lookup x=some .cell):∃ c,(cellsFrom n sc.names []).lookup x=some c:=by
 have q:=PySem.W.cellsFrom_some sc.names n [] (.inl h)
 exact Option.isSome_iff_exists.mp q
theorem w6 {CX:CXT} {P:Program} {w:World} {K:Frag} {mg:Str→Option Value} {base:Heap} {N ps:List Str} {qual:Str} {scope:Scope} {f:Addr} {cd:Value} {A:Around} {outer:List Env} {s s1:Shared} {H:Hp} {E:XK} {us:List Value} {vs:List V}
  (S:FnScope N ps scope) (hd:A.handled=none) (e0:Env0 P w K mg base A outer s H) (hl:vs.length=ps.length) (r:Vals vs us)
  (x:InCallC s s.heap.objs.size (bindL (envOfC qual scope s.heap.objs.size f cd).kindOf (ps.zip us) fun _=>none) (cellsFrom (s.heap.objs.size + 1) scope.names []) (bindC (envOfC qual scope s.heap.objs.size f cd).kindOf (ps.zip us) fun _=>none) s1) :
  Inv (gb CX P w K mg base N qual scope f cd A outer s H E) [] (start N vs) H s1:=by
 have hpl:ps.length≤N.length:=by have:=congrArg List.length S.pre; rw [List.length_take] at this; omega
 obtain ⟨h1,tk,rfl,hk⟩:=x.done
 have noA:∀ b:Addr,b∉(gb CX P w K mg base N qual scope f cd A outer s H E).ex:=fun b z=>absurd (show b∈([]:List Addr) from z) (by simp)
 refine ⟨⟨e0.mod,S.kind,rfl,rfl,Nat.le_refl _,fun y z c h1 h2=>?_,fun y hy=>?_,fun y c _ h=>?_,fun _=>hd,Around.frames_deeper e0.frames,.inr ⟨rfl,rfl⟩,fun b z=>absurd z (noA b),e0.bs,e0.bsz,fun b _ _=>noA b,fun b z=>absurd z (noA b),e0.funs,e0.frf⟩,
  rfl,e0.bare,Un.kept hk,⟨_,x.toInCall.ns,fun i y v h1 h2 h3=>?_⟩,fun y c h=>⟨_,x.cell y c h⟩,e0.hok.fresh (Nat.le_refl _),fun y c h=>?_,fun p hp=>absurd (show p∈([]:List (Addr×Obj)) from hp) (by simp),e0.hok.kept hk,?_⟩
 ·exact name_of_addr x.apart (PySem.mem_of_lookup h1) (PySem.mem_of_lookup h2)
 ·have hy:scope.names.lookup y=some .cell∨scope.names.lookup y=some .free:=hy
  rcases hy with hy | hy
  ·exact qE hy
  ·exact absurd rfl (S.nofree _ (PySem.mem_of_lookup hy))
 ·exact Nat.le_of_lt (x.above y c (PySem.mem_of_lookup h))
 ·have hi:i < vs.length:=by
   unfold start at h2
   by_cases hi:i < vs.length
   ·exact hi
   ·rw [List.getElem?_append_right (by simpa using hi)] at h2
    rw [List.getElem?_replicate] at h2
    split at h2 <;> cases h2
  have ha:vs[i]? = some v:=by
   unfold start at h2
   rw [List.getElem?_append_left (by simpa using hi),List.getElem?_map] at h2
   cases e:vs[i]? with
   | none=>rw [e] at h2; cases h2
   | some a=>rw [e] at h2; cases h2; rfl
  obtain ⟨u,hu,rv⟩:=r.get ha
  have hp:ps[i]? = some y:=by
   rw [← S.pre,List.getElem?_take_of_lt (by omega)]; exact h1
  have ndP:ps.Nodup:=by rw [← S.pre]; exact S.nd.sublist (List.take_sublist _ _)
  refine ⟨u,rv,?_⟩
  rcases S.par y (List.mem_of_getElem? hp) with k | k
  ·exact .inl ⟨k,p7 ndP hp hu k⟩
  ·obtain ⟨c,e⟩:=qE (n:=s.heap.objs.size + 1) k
   refine .inr ⟨.inl k,c,e,?_⟩
   have q:=x.cell y c e
   rw [qb ndP hp hu (by show scope.names.lookup y≠_; rw [k]; decide)] at q
   exact q
 ·exact e0.hok.fresh (Nat.le_of_lt (x.above y c (PySem.mem_of_lookup h)))
 ·unfold start
  show _=N.length
  rw [List.length_append,List.length_map,List.length_replicate]
  omega
theorem Cm {CX:CXT} {P:Program} {w:World} {K:Frag} {mg:Str→Option Value} {base:Heap} {k:Nat} {f:Addr} {name qual:Str} {params:Arguments} {body:List Stmt} {scope:Scope} {dV kV doc pm cdv ct oc:Value} {an od:Option Addr}
  {osl:Array (Option Value)} {N ps:List Str} {sp:Sp} (lk:K.lookup f=some ⟨oc,od,.func (PySem.W.fnOf name qual params body scope dV kV doc pm an cdv ct),osl⟩) (hcd:PySem.W.codeIn K cdv qual=true) (S:FnScope N ps scope)
  (len:∀ vs H Q E,sp vs H Q E→vs.length=ps.length)
  (hbody:∀ (A:Around) (outer:List Env) (s:Shared) (H:Hp) (vs:List V) (Q:VK) (E:XK),Room k (A.deeper (envOfC qual scope s.heap.objs.size f cdv))→sp vs H Q E →
   ∃ t,PSs (gb CX P w K mg base N qual scope f cdv A outer s H E) body t∧t { nx:=fun _ H'=>Q .non H',rt:=Q } (start N vs) H) :
  FnOk P w K mg base CX (k + 1) f (PySem.W.fnOf name qual params body scope dV kV doc pm an cdv ct) ps sp:=by
 refine ⟨len,fun A outer s H args us vs Q E hr e0 hb r hsp=>?_⟩
 have hl:=len _ _ _ _ hsp
 have KX:K.In s.heap:=e0.mod.kin.keeps fun b o e=>(e0.bs b o e).1
 have lim:s.heap.NoLimit:=e0.mod.nolimit.keeps fun b o e=>(e0.bs b o e).1
 have hkind:∀ y∈ps.zip us,scope.names.lookup y.1=some .local∨(scope.names.lookup y.1=some .cell∧((cellsFrom (s.heap.objs.size + 1) scope.names []).lookup y.1).isSome=true):=fun ⟨n,v⟩ hy=>by
  rcases S.par n (List.of_mem_zip hy).1 with q | q
  ·exact .inl q
  ·exact .inr ⟨q,PySem.W.cellsFrom_some _ _ _ (.inl q)⟩
 refine codeAny_call_function hr.depth (KX _ _ lk) rfl S.co S.gen rfl (PySem.W.codeRec_of KX hcd) (hb _ _ _ _ ?_)
 refine wpAny_newFunctionEnv_cells S.kind hkind fun env he s1 x=>?_
 subst he
 refine ⟨lim.keeps x.toInCall.keep,codeAny_func ?_⟩
 obtain ⟨t,ht,hq⟩:=hbody A outer s H vs Q E (hr.deeper _) hsp
 have I:Inv (gb CX P w K mg base N qual scope f cdv A outer s H E) [] (start N vs) H s1:=w6 S hr.hd e0 hl r x
 refine wpAny_mono (ht [] s1 (start N vs) H _ I hq) (fun fl s' hs=>?_) fun e s' hs=>hs
 have fin:∀ {σ':St} {H':Hp} {v:V} {u:Value},Inv (gb CX P w K mg base N qual scope f cdv A outer s H E) [] σ' H' s'→RelV v u→Q v H'→CE outer P w H s Q u s':=
  fun {σ' H' v u} J rv q=>⟨v,H',J.os,J.bare,J.base,J.hok,rv,q⟩
 cases fl with
 | ret u=>
  obtain ⟨v,σ',H',J,rv,q⟩:=hs
  exact fin J rv q
 | next=>
  obtain ⟨σ',H',J,q⟩:=hs
  exact fin (v:=V.non) (u:=Value.none) J rfl q
 | brk=>
  obtain ⟨_,_,_,q⟩:=hs
  exact False.elim q
 | cont=>
  obtain ⟨_,_,_,q⟩:=hs
  exact False.elim q
section
variable {X:Cx} {x:Str} {p pos:Pos} {e:Expr} {es:List Expr} {t:TA} {id T:String} {r:List V→Hp→VK→Prop}
def tCB (r:List V→Hp→VK→Prop) (t:TA):TE:=fun σ H Q=>t σ H fun vs H1=>r vs H1 Q
theorem l6 (hc:CallR X (.builtin id) r) (hg:Gl X x) (hm:X.mg x=none) (hv:bootBuiltins x=some (.builtin id)) (ha:PA X (e::es) t) (hn:x≠"__name__":=by decide) (hdb:(x == ("__debug__" : Str))=false:=by decide)
  (he:starEach (e::es) X.env=(false,eval e X.env)::starEach es X.env:=by rfl) (hpl:(backTo pos (starEach es X.env)).any (·.1)=false:=by rfl):PE X (.Call (.Name x p) (e::es) [] pos) (tCB r t):=by
 intro pins s σ H Q I h
 refine wpAny_Call_Name_kw (jg I hg hm hv ?_ hn hdb)
 exact PyProof.Rows.callWith_builtin1 (thn (ha pos pins s σ H _ I h) fun us s1 ⟨vs,H1,I1,r1,q1⟩=>hc pins s1 σ H1 vs us Q I1 r1 q1) he hpl
theorem jP (hc:CallR X (.type T) r) (hg:Gl X x) (hm:X.mg x=none) (hv:bootBuiltins x=some (.type T)) (ha:PA X (e::es) t) (hn:x≠"__name__":=by decide) (hdb:(x == ("__debug__" : Str))=false:=by decide)
  (he:starEach (e::es) X.env=(false,eval e X.env)::starEach es X.env:=by rfl) (hpl:(backTo pos (starEach es X.env)).any (·.1)=false:=by rfl):PE X (.Call (.Name x p) (e::es) [] pos) (tCB r t):=by
 intro pins s σ H Q I h
 refine wpAny_Call_Name_kw (jg I hg hm hv ?_ hn hdb)
 exact PyProof.Rows.callWith_type1 (thn (ha pos pins s σ H _ I h) fun us s1 ⟨vs,H1,I1,r1,q1⟩=>hc pins s1 σ H1 vs us Q I1 r1 q1) he hpl
end
end L2
namespace HT
open PySem PyProof.Rows
section
open PySem.SeqAt
open PySem.AutoSeq1 (wpAny_loadPart')
open PySem.MeetsSeq PySem.MeetsSeq2 PySem.MeetsSeq3
end
section
variable {prog:Program} {w:World} {A:Around} {E:Value→Shared→Prop} {s:Shared}
theorem z9 {t b:Addr} {vs ws:List Value} {Q:Value→Shared→Prop} (ht:IsTup s.heap t vs.toArray) (hb:IsTup s.heap b ws.toArray) (hv:vs≠[])
  (h1:ws=[]→Q (.ref t) s) (h2:ws≠[]→Q (.ref s.heap.objs.size) { s with heap:=s.heap.push { cls:=.type "tuple",data:=.seq (vs++ws).toArray } })
  (hsz:vs.length + ws.length≤sizeLine):wpAny (model prog w) A (binaryOp .Add (.ref t) (.ref b)) Q E s:=by
 obtain ⟨⟨cls,dd,data,sl⟩,ho,hc,n,hd⟩:=id ht
 obtain ⟨⟨cls2,dd2,data2,sl2⟩,ho2,hc2,n2,hd2⟩:=id hb
 simp only at hc hd hc2 hd2
 subst hc hd hc2 hd2
 have e:vs.toArray++ws.toArray=(vs++ws).toArray:=by simp
 by_cases hw:ws=[]
 ·exact concat_meets ⟨_,ho,rfl⟩ ⟨_,ho2,rfl⟩ noFill_tuple_add seq_tuple_add PySem.F.slot_tuple_add PySem.F.entry_tuple_add (PySem.F.args_tuple_add_2 _ _)
   (tuple_addW1 t b vs.toArray ws.toArray n n2 dd dd2 sl sl2 (by simpa using hv) (by simp [hw])) ⟨ho,ho2,h1 hw⟩
 ·refine concat_meets ⟨_,ho,rfl⟩ ⟨_,ho2,rfl⟩ noFill_tuple_add seq_tuple_add PySem.F.slot_tuple_add PySem.F.entry_tuple_add (PySem.F.args_tuple_add_2 _ _)
   (tuple_addW2 t b vs.toArray ws.toArray n n2 dd dd2 sl sl2 (by simpa using hv) (by simpa using hw) (by rw [List.size_toArray,List.size_toArray]; exact hsz)) ⟨ho,ho2,?_⟩
  rw [e]
  exact h2 hw
def sIx (n d:Nat):Option Int→Nat
 | none=>d
 | some v=>if v < 0 then (v + (n:Int)).toNat else min v.toNat n
theorem Ax (n d:Nat) (hd:d≤n) (o:Option Int):sIx n d o≤n:=by
 cases o with
 | none=>exact hd
 | some v=>
  show (if v < 0 then (v + (n:Int)).toNat else min v.toNat n)≤n
  by_cases hv:v < 0
  ·rw [if_pos hv]; omega
  ·rw [if_neg hv]; exact Nat.min_le_right _ _
theorem rJ (v:Int) (n d:Nat):(if v < 0 then max (v + (n:Int)) 0 else min v (n:Int))=((sIx n d (some v):Nat):Int):=by
 show (if v < 0 then max (v + (n:Int)) 0 else min v (n:Int))=(((if v < 0 then (v + (n:Int)).toNat else min v.toNat n):Nat):Int)
 by_cases hv:v < 0
 ·simp only [if_pos hv]; omega
 ·simp only [if_neg hv]; omega
theorem wb (lo hi:Option Int) (n:Nat):Builtin.Slice.sliceAdjust lo hi 1 (n:Int)=(((sIx n 0 lo:Nat):Int),((sIx n n hi:Nat):Int)):=by
 have h1:¬ ((1:Int) < 0):=by omega
 unfold Builtin.Slice.sliceAdjust
 simp only [h1,if_false]
 refine Prod.ext ?_ ?_
 ·cases lo with
  | none=>rfl
  | some v=>exact rJ v n 0
 ·cases hi with
  | none=>rfl
  | some v=>exact rJ v n n
theorem vS (i j:Nat):Builtin.Slice.slicePlaces (i:Int) (j:Int) 1=j - i:=by
 unfold Builtin.Slice.slicePlaces
 have h1:(1:Int) > 0:=by omega
 simp only [h1,if_true,Int.ediv_one]
 split <;> omega
theorem oW {v:Value} {o:Option Int} {Q:Option Int→Shared→Prop} (p:IsPart v o) (h:Q o s):wpAny (model prog w) A (Builtin.Slice.slicePartIndex v) Q E s:=by
 cases p with
 | none=>exact slicePart_none h
 | int i t=>exact slicePart_int h
theorem oI {sl:Addr} {vl vu:Value} {lo hi:Option Int} {n:Nat} {Q:Int×Int×Nat→Shared→Prop} (hs:s.heap.IsSliceOf sl vl vu .none) (pl:IsPart vl lo) (pu:IsPart vu hi)
  (h:Q (((sIx n 0 lo:Nat):Int),1,sIx n n hi - sIx n 0 lo) s):wpAny (model prog w) A (Builtin.Slice.sliceApplied (.ref sl) (pure (n:Int))) Q E s:=by
 obtain ⟨os,hos,hcs,hds⟩:=id hs
 unfold Builtin.Slice.sliceApplied Builtin.Slice.sliceFields
 refine wpAny_bind (wpAny_bind (wpAny_field hos hds (x:=vl) rfl (wpAny_bind (wpAny_field hos hds (x:=vu) rfl (wpAny_bind (wpAny_field hos hds (x:=.none) rfl (wpAny_pure ?_)))))))
 refine wpAny_bind (slicePart_none ?_)
 show wpAny _ _ (if ((1:Int) == 0)=true then _ else _) _ _ s
 rw [if_neg (by decide)]
 refine wpAny_bind (oW pl (wpAny_bind (oW pu (wpAny_bind (wpAny_pure ?_)))))
 show wpAny _ _ (match Builtin.Slice.sliceAdjust lo hi 1 (n:Int) with | (lo,hi)=>pure (lo,(1:Int),Builtin.Slice.slicePlaces lo hi 1)) _ _ s
 rw [wb lo hi n]
 show wpAny _ _ (pure (((sIx n 0 lo:Nat):Int),(1:Int),Builtin.Slice.slicePlaces ((sIx n 0 lo:Nat):Int) ((sIx n n hi:Nat):Int) 1)) _ _ s
 rw [vS]
 exact wpAny_pure h
theorem xB (xs:Array Value) (i k:Nat):((List.range k).filterMap fun (m:Nat)=>xs[((i:Int) + (m:Int) * 1).toNat]?).toArray=((xs.toList.drop i).take k).toArray:=by
 have e:(fun (m:Nat)=>xs[((i:Int) + (m:Int) * 1).toNat]?)=fun m=>xs[i + m]?:=by
  funext m
  have:((i:Int) + (m:Int) * 1).toNat=i + m:=by omega
  rw [this]
 rw [e]
 have:=pick_run xs i k
 rw [List.filterMap_map] at this
 have e2:((fun x=>xs[x]?) ∘ fun x=>i + x)=fun m=>xs[i + m]?:=rfl
 rw [e2] at this
 rw [this]
theorem ux {t sl:Addr} {items:Array Value} {vl vu:Value} {lo hi:Option Int} {Q:Value→Shared→Prop} (ht:IsTup s.heap t items) (hs:s.heap.IsSliceOf sl vl vu .none) (pl:IsPart vl lo) (pu:IsPart vu hi)
  (hw:¬ (sIx items.size 0 lo=0∧sIx items.size items.size hi=items.size))
  (h:Q (.ref s.heap.objs.size) { s with heap:=s.heap.push { cls:=.type "tuple",data:=.seq ((items.toList.drop (sIx items.size 0 lo)).take (sIx items.size items.size hi - sIx items.size 0 lo)).toArray } })
  (hsz:items.size≤sizeLine):wpAny (model prog w) A (getItem (.ref t) (.ref sl)) Q E s:=by
 have htake:sizeOk (.seq ((items.toList.drop (sIx items.size 0 lo)).take (sIx items.size items.size hi - sIx items.size 0 lo)).toArray):=by
  show ((items.toList.drop (sIx items.size 0 lo)).take (sIx items.size items.size hi - sIx items.size 0 lo)).toArray.size≤sizeLine
  rw [List.size_toArray,List.length_take,List.length_drop,Array.length_toList]
  omega
 have hj:sIx items.size items.size hi≤items.size:=Ax _ _ (Nat.le_refl _) hi
 obtain ⟨os,hos,hcs,hds⟩:=id hs
 have hTs:s.TypeIs (.ref sl) "slice":=⟨os,hos,hcs⟩
 unfold getItem
 try with_reducible refine wpAny_holding ?_
 first | refine wpAny_bind (wpAny_pure ?_) | skip
 refine wpAny_bind (wpAny_sequenceKey ht.typeIs (by decide) ?_)
 refine wpAny_bind (wpAny_callSpecial?_slot (name:=Str.ofString "__getitem__") ht.typeIs PyProof.Rows.slot_tuple_getitem
  (wpAny_call_entry PyProof.Rows.slot_tuple_getitem ht.typeIs entry_tuple_getitem ?_ (args_tuple_getitem _ _)))
 show wpAny _ _ (Builtin.Tuple.tupleItemsOf (.ref t) >>= _) _ _ s
 refine wpAny_bind (tupleItemsOf_ ht ?_)
 refine wpAny_bind (wpAny_typeOf hTs ?_)
 rw [if_pos (by decide)]
 refine wpAny_bind (oI hs pl pu ?_)
 have hno:¬ ((((sIx items.size 0 lo:Nat):Int) == 0 && (1:Int) == 1 && (sIx items.size items.size hi - sIx items.size 0 lo) == items.size)=true):=by
  intro q
  rw [Bool.and_eq_true,Bool.and_eq_true] at q
  have q1:((sIx items.size 0 lo:Nat):Int)=0:=eq_of_beq q.1.1
  have q2:sIx items.size items.size hi - sIx items.size 0 lo=items.size:=eq_of_beq q.2
  exact hw ⟨by omega,by omega⟩
 show wpAny _ _ (if (((sIx items.size 0 lo:Nat):Int) == 0 && (1:Int) == 1 && (sIx items.size items.size hi - sIx items.size 0 lo) == items.size)=true then _ else _) _ _ s
 rw [if_neg hno,xB]
 first
  | exact wpAny_bind (m:=Builtin.Tuple.tupleExact _) (wpAny_newObj_type (wpAny_pure ⟨_,rfl,wpAny_pure h⟩) htake)
  | exact wpAny_bind (m:=Builtin.Tuple.tupleExact _) (wpAny_newObj_type (wpAny_bind (wpAny_pure (wpAny_pure ⟨_,rfl,wpAny_pure h⟩))) htake)
  | exact wpAny_bind (wpAny_bind (m:=Builtin.Tuple.tupleExact _) (wpAny_newObj_type (wpAny_pure (wpAny_pure ⟨_,rfl,wpAny_pure h⟩)) htake))
  | exact wpAny_bind (wpAny_bind (m:=Builtin.Tuple.tupleExact _) (wpAny_newObj_type (wpAny_pure ⟨_,rfl,wpAny_pure h⟩) htake))
end
end HT
namespace L2
open PySem PySem.Spec PyProof.Rows
abbrev TO:=St→Hp→(Option Int→Hp→Prop)→Prop
def PO (X:Cx) (e:Option Expr) (t:TO):Prop:=
 ∀ (pins:List (Addr×Obj)) (s:Shared) (σ:St) (H:Hp) (Q:Option Int→Hp→Prop),Inv X pins σ H s→t σ H Q →
  wpAny (model X.prog X.w) X.A (evalPart e X.env) (fun u s'=>∃ o H',Inv X pins σ H' s'∧IsPart u o∧Q o H') X.xe s
def yE:TO:=fun _ H Q=>Q none H
def BC (t:TE):TO:=fun σ H Q=>t σ H fun x H1=>∃ i,x=.int i∧Q (some i) H1
section
variable {X:Cx} {e:Expr} {te:TE} {lo hi:Option Expr} {tl th:TO} {pos p2:Pos}
theorem y8:PO X none yE:=by
 intro pins s σ H Q I h
 rw [evalPart_none]
 exact wpAny_pure ⟨none,H,I,.none,h⟩
theorem yZ (h:PE X e te):PO X (some e) (BC te):=by
 intro pins s σ H Q I hw
 rw [evalPart_some]
 refine thn (h pins s σ H _ I hw) fun u s1 ⟨x,H1,I1,r1,q1⟩=>?_
 obtain ⟨i,rfl,q⟩:=q1
 obtain ⟨t,rfl⟩:=r1
 exact ⟨some i,H1,I1,.int i t,q⟩
def SlR (X:Cx) (r:V→Option Int→Option Int→Hp→VK→Prop):Prop:=
 ∀ (pins:List (Addr×Obj)) (s:Shared) (σ:St) (H:Hp) (x:V) (v vl vu:Value) (lo hi:Option Int) (sl:Addr) (Q:VK),Inv X pins σ H s→RelV x v→s.heap.IsSliceOf sl vl vu .none→IsPart vl lo→IsPart vu hi→r x lo hi H Q →
  ∃ T id,typeLookup (.type T) "__getitem__" = pure (some (.builtin id))∧s.TypeIs v T∧wpAny (model X.prog X.w) X.A (getItem v (.ref sl)) (EP X pins σ Q) X.xe s
theorem SlR.or {r r':V→Option Int→Option Int→Hp→VK→Prop} (h:SlR X r) (h':SlR X r'):SlR X (fun x lo hi H Q=>r x lo hi H Q∨r' x lo hi H Q):=by
 intro pins s σ H x v vl vu lo hi sl Q I rx hs pl pu q
 rcases q with q | q
 ·exact h pins s σ H x v vl vu lo hi sl Q I rx hs pl pu q
 ·exact h' pins s σ H x v vl vu lo hi sl Q I rx hs pl pu q
def tSl (r:V→Option Int→Option Int→Hp→VK→Prop) (te:TE) (tl th:TO):TE:=fun σ H Q=>te σ H fun x H1=>tl σ H1 fun l H2=>th σ H2 fun u H3=>r x l u H3 Q
theorem xG {r:V→Option Int→Option Int→Hp→VK→Prop} (hr:SlR X r) (he:PE X e te) (hl:PO X lo tl) (hu:PO X hi th):PE X (.Subscript e (.Slice lo hi none p2) pos) (tSl r te tl th):=by
 intro pins s σ H Q I h
 refine Subscript_ (thn (he pins s σ H _ I h) fun v s1 ⟨x,H1,I1,r1,q1⟩=>?_)
 refine wpAny_Slice (thn (hl pins s1 σ H1 _ I1 q1) fun vl s2 ⟨l,H2,I2,pl,q2⟩=>thn (hu pins s2 σ H2 _ I2 q2) fun vu s3 ⟨u,H3,I3,pu,q3⟩=>?_)
 rw [evalPart_none]
 refine wpAny_pure ?_
 have I4:Inv X pins σ H3 { s3 with heap:=s3.heap.push { cls:=.type "slice",data:=.fields #[vl,vu,.none] } }:=I3.kept (t':=s3.toks) fun b ob q=>Heap.get?_push_of_some _ q
 obtain ⟨T,id,hT,ht,hg⟩:=hr pins { s3 with heap:=s3.heap.push { cls:=.type "slice",data:=.fields #[vl,vu,.none] } } σ H3 x v vl vu l u s3.heap.objs.size Q I4 r1 (Heap.IsSliceOf.new ..) pl pu q3
 show wpAny (model X.prog X.w) X.A (subscriptTail e (.Slice lo hi none p2) v (.ref s3.heap.objs.size)) (EP X pins σ Q) X.xe { s3 with heap:=s3.heap.push { cls:=.type "slice",data:=.fields #[vl,vu,.none] } }
 exact tail_any (ops:=[.ref s3.heap.objs.size,v]) ht hT hg (by with_unfolding_all rfl)
def fm (xs:List V) (lo hi:Option Int):List V:=(xs.drop (HT.sIx xs.length 0 lo)).take (HT.sIx xs.length xs.length hi - HT.sIx xs.length 0 lo)
theorem oS (xs:List V) (lo hi:Option Int):(fm xs lo hi).length≤xs.length:=by
 unfold fm
 rw [List.length_take,List.length_drop]
 omega
def CM (K:Frag):V→Option Int→Option Int→Hp→VK→Prop:=fun x lo hi H Q=>∃ a xs,x=.ref a∧SqT K H a xs ∧
 ¬ (HT.sIx xs.length 0 lo=0∧HT.sIx xs.length xs.length hi=xs.length)∧∀ p,H p=none→Q (.ref p) (upd H p (.tup (fm xs lo hi)))
theorem Au:SlR X (CM X.K):=by
 intro pins s σ H x v vl vu lo hi sl Q I rx hs pl pu h
 obtain ⟨a,xs,rfl,hx,hw,q⟩:=h
 cases rx
 obtain ⟨its,r,ht,hz⟩:=I.tuple hx
 have hlen:its.toArray.size=xs.length:=by rw [List.size_toArray]; exact r.length.symm
 refine ⟨"tuple",_,PyProof.Rows.slot_tuple_getitem.lookup,ht.typeIs,?_⟩
 refine HT.ux ht hs pl pu (by rw [hlen]; exact hw) ?_ (by rw [hlen]; exact hz)
 rw [hlen]
 refine ⟨.ref s.heap.objs.size,_,I.laid (t':=s.toks) (o:=.tup (fm xs lo hi)) (fun b ob q=>Heap.get?_push_of_some _ q) (Nat.le_refl _) ?_,rfl,q _ (I.hok.fresh (Nat.le_refl _))⟩
 exact ⟨Nat.le_trans (oS xs lo hi) hz,_,(r.drop (HT.sIx xs.length 0 lo)).take (HT.sIx xs.length xs.length hi - HT.sIx xs.length 0 lo),IsTup.new _ _⟩
def BN (K:Frag):R2:=fun x y H Q=>∃ a b xs ys,x=.ref a∧y=.ref b∧SqT K H a xs∧SqT K H b ys∧xs≠[]∧xs.length + ys.length≤sizeLine ∧
 (ys=[]→Q (.ref a) H)∧(ys≠[]→∀ p,H p=none→Q (.ref p) (upd H p (.tup (xs++ys))))
theorem Vals.nil_iff {xs:List V} {us:List Value} (r:Vals xs us):us=[]↔xs=[]:=by
 cases r with
 | nil=>simp
 | cons _ _=>simp
theorem zh:OpR X (binaryOp .Add) (BN X.K):=by
 intro pins s σ H x y v u Q I rx ry h
 obtain ⟨a,b,xs,ys,rfl,rfl,ha,hb,hx,hz,q1,q2⟩:=h
 cases rx
 cases ry
 obtain ⟨its,r1,p1,_⟩:=I.tuple ha
 obtain ⟨its2,r2,p2,_⟩:=I.tuple hb
 refine HT.z9 p1 p2 (fun z=>hx (r1.nil_iff.mp z)) (fun z=>⟨.ref a,H,I,rfl,q1 (r2.nil_iff.mp z)⟩) (fun z=>?_) (by rw [← r1.length,← r2.length]; exact hz)
 refine ⟨.ref s.heap.objs.size,_,I.laid (t':=s.toks) (o:=.tup (xs++ys)) (fun b ob q=>Heap.get?_push_of_some _ q) (Nat.le_refl _) ?_,rfl,q2 (fun w=>z (r2.nil_iff.mpr w)) _ (I.hok.fresh (Nat.le_refl _))⟩
 exact ⟨by rw [List.length_append]; exact hz,_,r1.append r2,IsTup.new _ _⟩
end
def ixN (n:Nat) (i:Int):Option Nat:=if 0≤i then (if i < n then some i.toNat else none) else if -(n:Int)≤i then some (i + n).toNat else none
def atI {α:Type} (xs:List α) (i:Int):Option α:=(ixN xs.length i).bind fun j=>xs[j]?
theorem rj {n:Nat} {i:Int} {j:Nat} (h:ixN n i=some j):seqIndex? i n=some j∧j < n∧-(n:Int)≤i∧i < n:=by
 unfold ixN at h
 by_cases h0:0≤i
 ·rw [if_pos h0] at h
  by_cases h1:i < n
  ·rw [if_pos h1] at h
   have e:i.toNat=j:=Option.some.inj h
   exact ⟨by rw [seqIndex_of h0 h1,e],by omega,by omega,h1⟩
  ·rw [if_neg h1] at h; cases h
 ·rw [if_neg h0] at h
  by_cases h1 : -(n:Int)≤i
  ·rw [if_pos h1] at h
   have e:(i + n).toNat=j:=Option.some.inj h
   exact ⟨by rw [seqIndex_neg (by omega) h1,e],by omega,h1,by omega⟩
  ·rw [if_neg h1] at h; cases h
theorem mY {α:Type} {xs:List α} {i:Int} {v:α} (h:atI xs i=some v):∃ j,seqIndex? i xs.length=some j∧xs[j]? = some v∧j < xs.length∧-(xs.length:Int)≤i∧i < xs.length:=by
 unfold atI at h
 cases e:ixN xs.length i with
 | none=>rw [e] at h; cases h
 | some j=>
  rw [e] at h
  obtain ⟨h1,h2,h3,h4⟩:=rj e
  exact ⟨j,h1,h,h2,h3,h4⟩
def rM (b:Expr):Prop:=∀ o i,subscripted b false o i=operate [o,i] (getItem o i)
def IxR (X:Cx) (r:R2):Prop:=
 ∀ (value slice:Expr) (pins:List (Addr×Obj)) (s:Shared) (σ:St) (H:Hp) (x y:V) (v u:Value) (Q:VK),Inv X pins σ H s→RelV x v→RelV y u→r x y H Q →
  subscripted slice false v u=operate [v,u] (getItem v u)→wpAny (model X.prog X.w) X.A (subscriptTail value slice v u) (EP X pins σ Q) X.xe s
def MtR (X:Cx) (id:String) (r:V→List V→Hp→VK→Prop):Prop:=
 ∀ (pins:List (Addr×Obj)) (s:Shared) (σ:St) (H:Hp) (x:V) (xs:List V) (v:Value) (us:List Value) (Q:VK),Inv X pins σ H s→RelV x v→Vals xs us→r x xs H Q →
  wpAny (model X.prog X.w) X.A (call (.builtin id) (v::us)) (EP X pins σ Q) X.xe s
section
variable {X:Cx} {a b:Expr} {ta tb:TE} {pos:Pos}
theorem IxR.or {r r':R2} (h:IxR X r) (h':IxR X r'):IxR X (fun x y H Q=>r x y H Q∨r' x y H Q):=by
 intro value slice pins s σ H x y v u Q I rx ry q hs
 rcases q with q | q
 ·exact h value slice pins s σ H x y v u Q I rx ry q hs
 ·exact h' value slice pins s σ H x y v u Q I rx ry q hs
theorem MtR.or {id:String} {r r':V→List V→Hp→VK→Prop} (h:MtR X id r) (h':MtR X id r'):MtR X id (fun x xs H Q=>r x xs H Q∨r' x xs H Q):=by
 intro pins s σ H x xs v us Q I rx rs q
 rcases q with q | q
 ·exact h pins s σ H x xs v us Q I rx rs q
 ·exact h' pins s σ H x xs v us Q I rx rs q
theorem BV {r:R2} (hr:IxR X r) (ha:PE X a ta) (hb:PE X b tb) (hs:rM b):PE X (.Subscript a b pos) (tOp r ta tb):=by
 intro pins s σ H Q I h
 exact Subscript_ (oB ha hb I h fun v u s2 x y H2 I2 rx ry q=>hr a b pins s2 σ H2 x y v u Q I2 rx ry q (hs _ _))
def tW (K:Frag):R2:=fun x y H Q=>∃ p xs i v,x=.ref p∧y=.int i∧SqL K H p xs∧atI xs i=some v∧Q v H
def tU (K:Frag):R2:=fun x y H Q=>∃ p xs i v,x=.ref p∧y=.int i∧SqT K H p xs∧atI xs i=some v∧Q v H
def tV:R2:=fun x y H Q=>∃ z i c,x=.str z∧y=.int i∧z.length≤sizeLine∧atI z.cps.toList i=some c∧Q (.str ⟨#[c]⟩) H
theorem ix_list:IxR X (tW X.K):=by
 intro value slice pins s σ H x y v u Q I rx ry h hs
 obtain ⟨p,xs,i,z,rfl,rfl,hq,he,q⟩:=h
 cases rx
 obtain ⟨t,rfl⟩:=ry
 obtain ⟨its,r,pl,hz⟩:=I.list hq
 obtain ⟨j,h1,h2,h3,h4,h5⟩:=mY he
 obtain ⟨w,ew,rw'⟩:=r.get h2
 have hl:=r.length
 have hn:=gH
 have fin:EP X pins σ Q w s:=⟨z,H,I,rw',q⟩
 by_cases h0:0≤i
 ·have hj:i.toNat=j:=by
   rw [seqIndex_of h0 h5] at h1
   exact Option.some.inj h1
  exact item_listR pl.isList h0 (by omega) (by rw [hj]; simpa using ew) fin hs
 ·have hj:(i + (its.toArray.size:Int)).toNat=j:=by
   rw [seqIndex_neg (by omega) h4] at h1
   rw [List.size_toArray,← hl]
   exact Option.some.inj h1
  exact subscriptTail_builtinR (x:=w) pl.isList.typeIs slot_list_getitem.lookup
   (wpAny_getItem_list_neg (Q:=fun r s'=>r=w∧EP X pins σ Q r s') pl.isList (by omega) (by rw [List.size_toArray] <;> omega) (by omega) (by rw [hj]; simpa using ew) ⟨rfl,fin⟩) hs
theorem ix_tup:IxR X (tU X.K):=by
 intro value slice pins s σ H x y v u Q I rx ry h hs
 obtain ⟨p,xs,i,z,rfl,rfl,hq,he,q⟩:=h
 cases rx
 obtain ⟨t,rfl⟩:=ry
 obtain ⟨its,r,pl,hz⟩:=I.tuple hq
 obtain ⟨j,h1,h2,h3,h4,h5⟩:=mY he
 obtain ⟨w,ew,rw'⟩:=r.get h2
 have hl:=r.length
 have hn:=gH
 have fin:EP X pins σ Q w s:=⟨z,H,I,rw',q⟩
 exact subscriptTail_builtinR (x:=w) pl.typeIs slot_tuple_getitem.lookup
  (getItem_tuple (j:=j) (Q:=fun r s'=>r=w∧EP X pins σ Q r s') pl (by omega) (by omega) (by rw [List.size_toArray,← hl]; exact h1) (by simpa using ew) ⟨rfl,fin⟩) hs
theorem A5:IxR X tV:=by
 intro value slice pins s σ H x y v u Q I rx ry h hs
 obtain ⟨z,i,c,rfl,rfl,hz,he,q⟩:=h
 obtain ⟨t,rfl⟩:=rx
 obtain ⟨t',rfl⟩:=ry
 obtain ⟨j,h1,h2,h3,h4,h5⟩:=mY he
 have hl:z.cps.toList.length=z.length:=by simp [Str.length]
 rw [hl] at h1 h4 h5
 have hn:=gH
 exact tail_any (typeIs_str s z t) slot_str_getitem.lookup (getItem_str (c:=c) (by
  have e1:decide (i < -(2 ^ 63:Int))=false:=decide_eq_false (by omega)
  have e2:decide (i≥2 ^ 63)=false:=decide_eq_false (by omega)
  rw [e1,e2,Bool.or_false]) (by rw [h1]; simpa using h2) ⟨.str ⟨#[c]⟩,H,I.tok _,⟨_,rfl⟩,q⟩) hs
def rIx (K:Frag):R2:=fun x y H Q=>tW K x y H Q∨tU K x y H Q∨tV x y H Q
theorem A6:IxR X (rIx X.K):=ix_list.or (ix_tup.or A5)
theorem vX (its:List Value) (n j:Nat) (u:Value):Obj.mapSeq (·.setIfInBounds j u) { cls:=.type "list",data:=.seq its.toArray n } = { cls:=.type "list",data:=.seq (its.set j u).toArray n }:=by simp [Obj.mapSeq]
theorem Inv.lst {pins:List (Addr×Obj)} {σ:St} {H:Hp} {s:Shared} {p:Addr} {xs:List V} (I:Inv X pins σ H s) (h:H p=some (.lst xs)) :
  ∃ (its:List Value) (n:Nat),Vals xs its∧s.heap.get? p=some { cls:=.type "list",data:=.seq its.toArray n }∧xs.length≤sizeLine:=by
 obtain ⟨z,its,n,r,e⟩:=I.hok p _ h
 exact ⟨its,n,r,e,z⟩
theorem Inv.lstUpd {pins:List (Addr×Obj)} {σ:St} {H:Hp} {s:Shared} {p:Addr} {xs ys:List V} {its its':List Value} {n n':Nat} {f:Obj→Obj} (I:Inv X pins σ H s) (h:H p=some (.lst xs))
  (ho:s.heap.get? p=some { cls:=.type "list",data:=.seq its.toArray n }) (hf:f { cls:=.type "list",data:=.seq its.toArray n } = { cls:=.type "list",data:=.seq its'.toArray n' }) (r:Vals ys its') (hz:ys.length≤sizeLine) (t:Nat) :
  Inv X pins σ (upd H p (.lst ys)) { s with heap:=s.heap.update p f,toks:=t }:=by
 have e:(s.heap.update p f).get? p=some { cls:=.type "list",data:=.seq its'.toArray n' }:=by
  rw [Heap.get?_update_self f ho (by rw [hf] <;> rfl),hf]
 refine I.write (x:=p) (e:=p) (by rw [h]; trivial) (.inl rfl) (fun b u hb q=>(Heap.get?_update_other _ _ (Ne.symm hb)).trans q) ⟨_,e⟩ ?_
 exact ⟨hz,its',n',r,e⟩
def BM:V→V→V→Hp→(Hp→Prop)→Prop:=fun o i v H Q=>∃ p xs k j,o=.ref p∧i=.int k∧H p=some (.lst xs)∧ixN xs.length k=some j∧Q (upd H p (.lst (xs.set j v)))
theorem set_list:ul X BM:=by
 intro pins s σ H o i v ov iv u Q I ro ri rv h
 obtain ⟨p,xs,k,j,rfl,rfl,hp,hj,q⟩:=h
 cases ro
 obtain ⟨t,rfl⟩:=ri
 obtain ⟨its,n,r,ho,hz⟩:=I.lst hp
 obtain ⟨h1,h2,h3,h4⟩:=rj hj
 have hl:=r.length
 have hn:=gH
 have I':Inv X pins σ (upd H p (.lst (xs.set j v))) { s with heap:=s.heap.update p (Obj.mapSeq (·.setIfInBounds j u)) }:=
  I.lstUpd hp ho (vX its n j u) (r.set rv j) (by rw [List.length_set]; exact hz) s.toks
 by_cases h0:0≤k
 ·have hk:k.toNat=j:=by
   rw [seqIndex_of h0 h4] at h1
   exact Option.some.inj h1
  exact PySem.W.ki_setAt ho h0 (by omega) (by rw [List.size_toArray,← hl]; exact h4) (by rw [hk]; exact ⟨_,I',q⟩)
 ·have hk:(k + (its.toArray.size:Int)).toNat=j:=by
   rw [seqIndex_neg (by omega) h3] at h1
   rw [List.size_toArray,← hl]
   exact Option.some.inj h1
  exact PySem.W.ki_setBack ho (by omega) (by rw [List.size_toArray,← hl]; exact h3) (by omega) (by rw [hk]; exact ⟨_,I',q⟩)
theorem u7 (lo hi:Option Int) (n:Nat):(sliceBounds lo hi none n).1=((HT.sIx n 0 lo:Nat):Int)∧(sliceBounds lo hi none n).2.1=((HT.sIx n n hi:Nat):Int)∧(sliceBounds lo hi none n).2.2=1:=by
 refine ⟨?_,?_,rfl⟩
 ·cases lo with
  | none=>simp [sliceBounds,HT.sIx]
  | some i=>
   simp only [sliceBounds,HT.sIx,Option.getD_none,show (1:Int) > 0 by decide,if_true]
   by_cases h:i < 0
   ·simp only [h,if_true] <;> omega
   ·simp only [h,if_false] <;> omega
 ·cases hi with
  | none=>simp [sliceBounds,HT.sIx]
  | some i=>
   simp only [sliceBounds,HT.sIx,Option.getD_none,show (1:Int) > 0 by decide,if_true]
   by_cases h:i < 0
   ·simp only [h,if_true] <;> omega
   ·simp only [h,if_false] <;> omega
theorem uT (its:List Value) (lo hi:Option Int):slicePick its.toArray lo hi none=((its.drop (HT.sIx its.length 0 lo)).take (HT.sIx its.length its.length hi - HT.sIx its.length 0 lo)).toArray:=by
 obtain ⟨h1,h2,h3⟩:=u7 lo hi its.toArray.size
 unfold slicePick
 rw [h1,h2,h3]
 simp only [sliceRange_one,pick_run,List.size_toArray] <;> rfl
def CN (K:Frag):V→Option Int→Option Int→Hp→VK→Prop:=fun x lo hi H Q=>∃ a xs,x=.ref a∧SqL K H a xs∧∀ p,H p=none→Q (.ref p) (upd H p (.lst (fm xs lo hi)))
theorem sl_list:SlR X (CN X.K):=by
 intro pins s σ H x v vl vu lo hi sl Q I rx hs pl pu h
 obtain ⟨a,xs,rfl,hx,q⟩:=h
 cases rx
 obtain ⟨its,r,ht,hz⟩:=I.list hx
 have hlen:=r.length
 refine ⟨"list",_,slot_list_getitem.lookup,ht.isList.typeIs,?_⟩
 refine wpAny_getItem_list_slice ht.isList hs pl pu .none (by simp) ?_ (by rw [List.size_toArray] <;> omega)
 rw [uT,← hlen]
 refine ⟨.ref s.heap.objs.size,_,I.laid (t':=s.toks) (o:=.lst (fm xs lo hi)) (fun b ob q=>Heap.get?_push_of_some _ q) (Nat.le_refl _) ?_,rfl,q _ (I.hok.fresh (Nat.le_refl _))⟩
 exact ⟨Nat.le_trans (oS xs lo hi) hz,_,0,(r.drop (HT.sIx xs.length 0 lo)).take (HT.sIx xs.length xs.length hi - HT.sIx xs.length 0 lo),Heap.get?_push_size _ rfl⟩
def eC:V→Bool
 | .non=>true
 | .bl _=>true
 | .int _=>true
 | .str _=>true
 | _=>false
def eqV:V→V→Bool
 | .non,.non=>true
 | .bl a,.bl b=>a == b
 | .bl a,.int b=>(if a then 1 else 0) == b
 | .int a,.bl b=>a == (if b then 1 else 0)
 | .int a,.int b=>a == b
 | .str a,.str b=>a == b
 | _,_=>false
theorem Bm {A:Around} {s:Shared} {y x:V} {u v:Value} (ry:RelV y u) (rx:RelV x v) (fy:eC y=true) (fx:eC x=true):SeqAt.EqAt A s u v (eqV y x):=by
 cases y with
 | non=>
  cases ry
  cases x with
  | non=>cases rx; exact SeqAt.EqAt.same _
  | bl b=>cases rx; exact SeqAt.EqAt.none_bool b
  | int b=>obtain ⟨t,rfl⟩:=rx; exact SeqAt.EqAt.none_int b t
  | str b=>obtain ⟨t,rfl⟩:=rx; exact SeqAt.EqAt.none_str b t
  | _=>exact absurd (show false=true from fx) Bool.false_ne_true
 | bl a=>
  cases ry
  cases x with
  | non=>cases rx; exact SeqAt.EqAt.bool_none a
  | bl b=>cases rx; exact SeqAt.EqAt.bool_bool a b
  | int b=>obtain ⟨t,rfl⟩:=rx; exact SeqAt.EqAt.bool_int a b t
  | str b=>obtain ⟨t,rfl⟩:=rx; exact SeqAt.EqAt.bool_str a b t
  | _=>exact absurd (show false=true from fx) Bool.false_ne_true
 | int a=>
  obtain ⟨t',rfl⟩:=ry
  cases x with
  | non=>cases rx; exact SeqAt.EqAt.int_none a t'
  | bl b=>cases rx; exact SeqAt.EqAt.int_bool a t' b
  | int b=>obtain ⟨t,rfl⟩:=rx; exact SeqAt.EqAt.int_int a t' b t
  | str b=>obtain ⟨t,rfl⟩:=rx; exact SeqAt.EqAt.int_str a t' b t
  | _=>exact absurd (show false=true from fx) Bool.false_ne_true
 | str a=>
  obtain ⟨t',rfl⟩:=ry
  cases x with
  | non=>cases rx; exact SeqAt.EqAt.str_none a t'
  | bl b=>cases rx; exact SeqAt.EqAt.str_bool a t' b
  | int b=>obtain ⟨t,rfl⟩:=rx; exact SeqAt.EqAt.str_int a t' b t
  | str b=>obtain ⟨t,rfl⟩:=rx; exact SeqAt.EqAt.str_str a t' b t
  | _=>exact absurd (show false=true from fx) Bool.false_ne_true
 | _=>exact absurd (show false=true from fy) Bool.false_ne_true
def eqU (x:V) (u:Value):Bool:=match u with
 | .none=>eqV .non x
 | .bool b=>eqV (.bl b) x
 | .int i _=>eqV (.int i) x
 | .str z _=>eqV (.str z) x
 | _=>false
theorem sJ {x y:V} {u:Value} (r:RelV y u) (f:eC y=true):eqU x u=eqV y x:=by
 cases y with
 | non=>cases r; rfl
 | bl b=>cases r; rfl
 | int i=>obtain ⟨t,rfl⟩:=r; rfl
 | str z=>obtain ⟨t,rfl⟩:=r; rfl
 | _=>exact absurd (show false=true from f) Bool.false_ne_true
theorem jb {x:V}:∀ {xs:List V} {us:List Value},Vals xs us→xs.all eC=true→us.any (eqU x)=xs.any fun y=>eqV y x
 | _,_,.nil,_=>rfl
 | y::xs,u::us,.cons r t,f=>by
  rw [List.all_cons,Bool.and_eq_true] at f
  rw [List.any_cons,List.any_cons,sJ r f.1,jb t f.2]
theorem iR {A:Around} {s:Shared} {x:V} {v:Value} (rx:RelV x v) (fx:eC x=true):∀ {xs:List V} {us:List Value},Vals xs us→xs.all eC=true→∀ u∈us,SeqAt.EqAt A s u v (eqU x u)
 | _,_,.nil,_=>fun u hu=>by cases hu
 | y::xs,u::us,.cons r t,f=>fun u' hu=>by
  rw [List.all_cons,Bool.and_eq_true] at f
  rcases List.mem_cons.mp hu with rfl | hu
  ·rw [sJ r f.1]; exact Bm r rx f.1 fx
  ·exact iR rx fx t f.2 u' hu
def inV (x:V) (xs:List V):Bool:=xs.any fun y=>eqV y x
def rIn (K:Frag) (neg:Bool):R2:=fun x y H Q=>∃ p xs,y=.ref p∧(SqL K H p xs∨SqT K H p xs)∧eC x=true∧xs.all eC=true∧Q (.bl (if neg then !inV x xs else inV x xs)) H
theorem pL:OpR X (compareOp .In) (rIn X.K false):=by
 intro pins s σ H x y v u Q I rx ry h
 obtain ⟨p,xs,rfl,hq,fx,fs,q⟩:=h
 cases ry
 rcases hq with hq | hq
 ·obtain ⟨its,r,pl,hz⟩:=I.list hq
  refine SeqAt.in_listAt (eqU x) pl.isList (fun w hw=>iR rx fx r fs w (by simpa using hw)) ⟨.bl _,H,I,rfl,?_⟩
  rw [show its.toArray.any (eqU x)=its.any (eqU x) by simp,jb r fs]
  exact q
 ·obtain ⟨its,r,pl,hz⟩:=I.tuple hq
  refine SeqAt.in_tupleAt (eqU x) pl (fun w hw=>iR rx fx r fs w (by simpa using hw)) ⟨.bl _,H,I,rfl,?_⟩
  rw [show its.toArray.any (eqU x)=its.any (eqU x) by simp,jb r fs]
  exact q
theorem oN:OpR X (compareOp .NotIn) (rIn X.K true):=by
 intro pins s σ H x y v u Q I rx ry h
 obtain ⟨p,xs,rfl,hq,fx,fs,q⟩:=h
 cases ry
 rcases hq with hq | hq
 ·obtain ⟨its,r,pl,hz⟩:=I.list hq
  refine SeqAt.notIn_listAt (eqU x) pl.isList (fun w hw=>iR rx fx r fs w (by simpa using hw)) ⟨.bl _,H,I,rfl,?_⟩
  rw [show its.toArray.any (eqU x)=its.any (eqU x) by simp,jb r fs]
  exact q
 ·obtain ⟨its,r,pl,hz⟩:=I.tuple hq
  refine SeqAt.notIn_tupleAt (eqU x) pl (fun w hw=>iR rx fx r fs w (by simpa using hw)) ⟨.bl _,H,I,rfl,?_⟩
  rw [show its.toArray.any (eqU x)=its.any (eqU x) by simp,jb r fs]
  exact q
theorem call_len_seq:CallR X (.builtin "len") (fun xs H Q=>∃ p ys,xs=[.ref p]∧(SqL X.K H p ys∨SqT X.K H p ys)∧Q (.int ys.length) H):=by
 intro pins s σ H xs us Q I r h
 obtain ⟨p,ys,rfl,hq,q⟩:=h
 obtain ⟨u,rfl,rx⟩:=vals1 r
 cases rx
 have hn:=gH
 rcases hq with hq | hq
 ·obtain ⟨its,r',pl,hz⟩:=I.list hq
  have hlen:=r'.length
  exact Calls.call_len_list pl.isList (by simp only [List.size_toArray] <;> omega) ⟨.int ys.length,H,I.tok _,⟨s.toks + 1,by rw [List.size_toArray,hlen]⟩,q⟩
 ·obtain ⟨its,r',pl,hz⟩:=I.tuple hq
  have hlen:=r'.length
  exact len_tuple pl (by simp only [List.size_toArray] <;> omega) ⟨.int ys.length,H,I.tok _,⟨s.toks + 1,by rw [List.size_toArray,hlen]⟩,q⟩
theorem call_len_str:CallR X (.builtin "len") (fun xs H Q=>∃ z,xs=[.str z]∧z.length≤sizeLine∧Q (.int z.length) H):=by
 intro pins s σ H xs us Q I r h
 obtain ⟨z,rfl,hz,q⟩:=h
 obtain ⟨u,rfl,t,rfl⟩:=vals1 r
 have hn:=gH
 exact len_str (by omega) ⟨.int z.length,H,I.tok _,⟨_,rfl⟩,q⟩
theorem CallR.or {f:Value} {r r':List V→Hp→VK→Prop} (h:CallR X f r) (h':CallR X f r'):CallR X f (fun xs H Q=>r xs H Q∨r' xs H Q):=by
 intro pins s σ H xs us Q I rs q
 rcases q with q | q
 ·exact h pins s σ H xs us Q I rs q
 ·exact h' pins s σ H xs us Q I rs q
theorem oO:CallR X (.type "list") (fun xs H Q=>∃ p ys,xs=[.ref p]∧(SqL X.K H p ys∨SqT X.K H p ys)∧∀ l,H l=none→Q (.ref l) (upd H l (.lst ys))):=by
 intro pins s σ H xs us Q I r h
 obtain ⟨p,ys,rfl,hq,q⟩:=h
 obtain ⟨u,rfl,rx⟩:=vals1 r
 cases rx
 have fin:∀ (its:List Value),Vals ys its→ys.length≤sizeLine→∀ (h':Heap) (c':Nat),(∀ b o',s.heap.get? b=some o'→h'.get? b=some o') →
   h'.get? s.heap.objs.size=some { cls:=.type "list",dict:=none,data:=.seq its.toArray c',slots:=#[] }→EP X pins σ Q (.ref s.heap.objs.size) { s with heap:=h' }:=fun its r' hz h' c' kp e=>
  ⟨.ref s.heap.objs.size,_,I.laid (t':=s.toks) kp (Nat.le_refl _) (show ObjOk X.prog X.w _ h' _ (.lst ys) from ⟨hz,its,c',r',e⟩),rfl,q _ (I.hok.fresh (Nat.le_refl _))⟩
 rcases hq with hq | hq
 ·obtain ⟨its,r',pl,hz⟩:=I.list hq
  have hlen:=r'.length
  obtain ⟨o,ho,hc,n,hd⟩:=pl.isList
  exact call_list_seq p (.inl rfl) ho hc hd (fun h' c' kp e=>fin its r' hz h' c' kp e) (by simp only [List.size_toArray] <;> omega)
 ·obtain ⟨its,r',pl,hz⟩:=I.tuple hq
  have hlen:=r'.length
  obtain ⟨o,ho,hc,n,hd⟩:=pl
  exact call_list_seq p (.inr rfl) ho hc hd (fun h' c' kp e=>fin its r' hz h' c' kp e) (by simp only [List.size_toArray] <;> omega)
theorem u5:CallR X (.type "tuple") (fun xs H Q=>∃ p ys,xs=[.ref p]∧((SqL X.K H p ys∧∀ l,H l=none→Q (.ref l) (upd H l (.tup ys)))∨(SqT X.K H p ys∧Q (.ref p) H))):=by
 intro pins s σ H xs us Q I r h
 obtain ⟨p,ys,rfl,h⟩:=h
 obtain ⟨u,rfl,rx⟩:=vals1 r
 cases rx
 rcases h with ⟨hq,q⟩ | ⟨hq,q⟩
 ·obtain ⟨its,r',pl,hz⟩:=I.list hq
  have hlen:=r'.length
  refine call_tuple_list pl.isList (fun h' kp=>?_) (by simp only [List.size_toArray] <;> omega)
  have I1:Inv X pins σ H { s with heap:=h' }:=I.kept (t':=s.toks) kp
  have I2:Inv X pins σ (upd H h'.objs.size (.tup ys)) { s with heap:=h'.push { cls:=.type "tuple",data:=.seq its.toArray } }:=
   I1.laid (t':=s.toks) (fun b o e=>Heap.get?_push_of_some _ e) (Nat.le_refl _) (show ObjOk X.prog X.w _ _ _ (.tup ys) from ⟨hz,its,r',IsTup.new _ _⟩)
  exact ⟨.ref h'.objs.size,_,I2,rfl,q _ (I1.hok.fresh (Nat.le_refl _))⟩
 ·obtain ⟨its,r',pl,hz⟩:=I.tuple hq
  exact call_tuple_same pl ⟨.ref p,H,I,rfl,q⟩
def tyV (K:Frag) (T:String) (x:V) (H:Hp):Prop:=match x with
 | .str _=>T = "str"
 | .int _=>T = "int"
 | .ref p=>(T = "list"∧∃ xs,SqL K H p xs)∨(T = "tuple"∧∃ o,K.lookup p=some o∧o.cls=.type "tuple"∧o.dict=none) ∨
   (T = "dict"∧((∃ kvs,H p=some (.dK kvs))∨∃ kvs,H p=some (.dT kvs)))∨(T = "set"∧∃ S n,H p=some (.set S n))
 | _=>False
theorem rP {pins:List (Addr×Obj)} {σ:St} {H:Hp} {s:Shared} {T:String} {x:V} {v:Value} (I:Inv X pins σ H s) (r:RelV x v) (ty:tyV X.K T x H) :
  s.TypeIs v T∧∀ a,v=.ref a→∃ ob,s.heap.get? a=some ob∧ob.dict=none:=by
 cases x with
 | str z=>
  obtain ⟨t,rfl⟩:=r
  cases (show T = "str" from ty)
  exact ⟨typeIs_str s z t,fun _ e=>nomatch e⟩
 | int i=>
  obtain ⟨t,rfl⟩:=r
  cases (show T = "int" from ty)
  exact ⟨typeIs_int s i t,fun _ e=>nomatch e⟩
 | ref p=>
  cases r
  rcases ty with ⟨rfl,xs,hq⟩ | ⟨rfl,o,hk,hc,hd⟩ | ⟨rfl,hk⟩ | ⟨rfl,S,n,hk⟩
  ·obtain ⟨its,_,pl,_⟩:=I.list hq
   refine ⟨pl.isList.typeIs,fun a e=>?_⟩
   cases e
   obtain ⟨o,n,e,c,hd,_⟩:=pl
   exact ⟨o,e,hd⟩
  ·refine ⟨⟨o,I.kIn p o hk,hc⟩,fun a e=>?_⟩
   cases e
   exact ⟨o,I.kIn _ o hk,hd⟩
  ·have z:∃ o,s.heap.get? p=some o∧o.ExactDict:=by
    rcases hk with ⟨kvs,hk⟩ | ⟨kvs,hk⟩
    ·obtain ⟨_,_,_,_,o,_,_,e,ex,_⟩:=I.hok p _ hk
     exact ⟨o,e,ex⟩
    ·obtain ⟨_,_,_,_,o,_,_,e,ex,_⟩:=I.hok p _ hk
     exact ⟨o,e,ex⟩
   obtain ⟨o,e,ex⟩:=z
   refine ⟨⟨o,e,ex.1⟩,fun a e2=>?_⟩
   cases e2
   exact ⟨o,e,ex.2.1⟩
  ·obtain ⟨o,_,_,_,e,ex,_⟩:=I.hok p _ hk
   refine ⟨⟨o,e,ex.1⟩,fun a e2=>?_⟩
   cases e2
   exact ⟨o,e,ex.2.1⟩
 | _=>exact False.elim ty
def CJ (K:Frag) (T:String) (r:V→List V→Hp→VK→Prop) (to:TE):TE:=fun σ H Q=>to σ H fun x H1=>tyV K T x H1∧r x [] H1 Q
def tBM (K:Frag) (T:String) (r:V→List V→Hp→VK→Prop) (to:TE) (t:TA):TE:=fun σ H Q=>to σ H fun x H1=>tyV K T x H1∧t σ H1 fun xs H2=>r x xs H2 Q
variable {o e:Expr} {es:List Expr} {to:TE} {t:TA} {name:Str} {apos cpos:Pos} {T id:String} {r:V→List V→Hp→VK→Prop}
theorem AL (pa:PlainAttrs T) (slot:Slot T name id) (hty:typeOf (.builtin id)=pure (.type "method_descriptor")) (hm:MtR X id r) (ho:PE X o to)
  (hbase:attributeBase o name X.env (eval o X.env)=eval o X.env:=by rfl) (hline:(apos.endLine == cpos.line)=true:=by rfl):PE X (.Call (.Attribute o name apos) [] [] cpos) (CJ X.K T r to):=by
 intro pins s σ H Q I h
 refine wpAny_Call_method0_late hbase hline (thn (ho pins s σ H _ I h) fun v s1 ⟨x,H1,I1,r1,ty,q1⟩=>?_)
 obtain ⟨h1,h2⟩:=rP I1 r1 ty
 exact ⟨T,id,pa,slot,hty,h1,h2,Calls.callWith_builtin rfl (PySem.evalArgs_none (hm pins s1 σ H1 x [] v [] Q I1 r1 .nil q1))⟩
theorem fR (pa:PlainAttrs T) (slot:Slot T name id) (hty:typeOf (.builtin id)=pure (.type "method_descriptor")) (hm:MtR X id r) (ho:PE X o to) (ha:PA X (e::es) t)
  (hbase:attributeBase o name X.env (eval o X.env)=eval o X.env:=by rfl)
  (hfew:((backTo cpos (starEach (e::es) X.env)).all (fun x=>!x.1) && (backToKw cpos (keywordEach [] X.env)).all (fun x=>x.1.isSome)
   && decide ((e::es).length + ([]:List Keyword).length + (if ([]:List Keyword).isEmpty then 0 else 1) < 30))=true:=by rfl)
  (hline:(apos.endLine == cpos.line)=true:=by rfl) (hs:starEach (e::es) X.env=(false,eval e X.env)::starEach es X.env:=by rfl) (hplain:(backTo cpos (starEach es X.env)).any (·.1)=false:=by rfl) :
  PE X (.Call (.Attribute o name apos) (e::es) [] cpos) (tBM X.K T r to t):=by
 intro pins s σ H Q I h
 refine wpAny_Call_method_late hbase hfew hline rfl (thn (ho pins s σ H _ I h) fun v s1 ⟨x,H1,I1,r1,ty,q1⟩=>?_)
 obtain ⟨h1,h2⟩:=rP I1 r1 ty
 refine ⟨T,id,pa,slot,hty,h1,h2,?_⟩
 have hA:=ha cpos pins s1 σ H1 _ I1 q1
 rw [hs] at hA ⊢
 refine Calls.callWith_builtin (by show (false || (backTo cpos (starEach es X.env)).any (·.1))=false; rw [hplain] <;> rfl) (Calls.evalArgs_plain ?_)
 exact thn hA fun us s2 ⟨vs,H2,I2,r2,q2⟩=>hm pins s2 σ H2 x vs v us Q I2 r1 r2 q2
end
def MtM (X:Cx) (id:String) (r:V→List V→Hp→VK→Prop):Prop:=
 ∀ (pins:List (Addr×Obj)) (s:Shared) (σ:St) (H:Hp) (x:V) (xs:List V) (v:Value) (us:List Value) (Q:VK),Inv X pins σ H s→RelV x v→Vals xs us→r x xs H Q →
  wpAny (model X.prog X.w) X.A (call (.builtin id) (v::us)) (EP X pins σ Q) X.xe s
theorem Vals.one:∀ {x:V} {us:List Value},Vals [x] us→∃ u,us=[u]∧RelV x u
 | _,_,.cons r .nil=>⟨_,rfl,r⟩
theorem Vals.zero:∀ {us:List Value},Vals [] us→us=[]
 | _,.nil=>rfl
theorem Vals.dropLast {xs:List V} {us:List Value} (h:Vals xs us):Vals xs.dropLast us.dropLast:=by
 induction h with
 | nil=>exact .nil
 | cons r t ih=>
  cases t with
  | nil=>exact .nil
  | cons q t'=>exact .cons r ih
theorem Vals.rep {xs:List V} {us:List Value} (h:Vals xs us):∀ k:Nat,Vals (List.replicate k xs).flatten (List.replicate k us).flatten
 | 0=>.nil
 | k + 1=>by
  rw [List.replicate_succ,List.replicate_succ,List.flatten_cons,List.flatten_cons]
  exact Vals.append h (Vals.rep h k)
theorem v5 {α:Type} (l:List α):l.eraseIdx (l.length - 1)=l.dropLast:=by
 induction l with
 | nil=>rfl
 | cons a r ih=>
  cases r with
  | nil=>rfl
  | cons b r=>
   have e:(a::b::r).length - 1=((b::r).length - 1) + 1:=by
    have h1:(a::b::r).length=r.length + 2:=rfl
    have h2:(b::r).length=r.length + 1:=rfl
    omega
   rw [e,List.eraseIdx_cons_succ,ih]
   all_goals rfl
theorem foldl_rep (its:List Value):∀ (k:Nat) (acc:List Value),
  List.foldl (fun x1 x2=>x1++x2) acc.toArray (List.replicate k its.toArray)=(acc++(List.replicate k its).flatten).toArray
 | 0,acc=>by simp
 | k + 1,acc=>by
  have e:acc.toArray++its.toArray=(acc++its).toArray:=by simp
  have e2:(acc++its)++(List.replicate k its).flatten=acc++(List.replicate (k + 1) its).flatten:=by
   rw [List.replicate_succ,List.flatten_cons,List.append_assoc]
  rw [← e2,← foldl_rep its k (acc++its),← e,List.replicate_succ,List.foldl_cons]
section
variable {X:Cx} {pins:List (Addr×Obj)} {σ:St} {H:Hp} {s:Shared} {l b:Addr} {xs ys zs:List V}
theorem Inv.lset {its its':List Value} {n:Nat} {f:Array Value→Array Value} {t':Nat} (I:Inv X pins σ H s) (hH:H l=some (.lst xs))
  (e:s.heap.get? l=some { cls:=.type "list",data:=.seq its.toArray n }) (hf:f its.toArray=its'.toArray) (hv:Vals ys its') (hz:ys.length≤sizeLine) :
  Inv X pins σ (upd H l (.lst ys)) { s with heap:=s.heap.update l (Obj.mapSeq f),toks:=t' }:=by
 have q:=PySem.IsL.update e f
 rw [hf] at q
 refine I.write (x:=l) (e:=l) (by rw [hH]; exact trivial) (.inl rfl) (fun b' u hb hu=>(Heap.get?_update_other s.heap (Obj.mapSeq f) (Ne.symm hb)).trans hu) ⟨_,q⟩ ?_
 exact ⟨hz,its',_,hv,q⟩
theorem Inv.lnew {its:List Value} {t':Nat} (I:Inv X pins σ H s) (hv:Vals ys its) (hz:ys.length≤sizeLine) :
  Inv X pins σ (upd H s.heap.objs.size (.lst ys)) { s with heap:=s.heap.push { cls:=.type "list",data:=.seq its.toArray },toks:=t' }:=I.laid (fun _ _ q=>Heap.get?_push_of_some _ q) (Nat.le_refl _) ⟨hz,its,0,hv,Heap.get?_push_size _ rfl⟩
theorem Inv.fresh (I:Inv X pins σ H s):H s.heap.objs.size=none:=I.hok.fresh (Nat.le_refl _)
theorem Inv.lstM (I:Inv X pins σ H s) (hH:H l=some (.lst xs)):xs.length≤sizeLine∧∃ (its:List Value) (n:Nat),Vals xs its∧xs.length=its.length∧s.heap.get? l=some { cls:=.type "list",data:=.seq its.toArray n }:=by
 obtain ⟨z,its,n,r,e⟩:=I.hok l _ hH
 exact ⟨z,its,n,r,r.length,e⟩
theorem xS {n:Nat} (h:n≤sizeLine):Builtin.List.listTooLong n=false:=by
 unfold Builtin.List.listTooLong
 exact decide_eq_false (by omega)
end
section
variable {X:Cx}
def yN:V→List V→Hp→VK→Prop:=fun x vs H Q=>∃ l xs y,x=.ref l∧vs=[y]∧H l=some (.lst xs)∧xs.length < sizeLine∧Q .non (upd H l (.lst (xs++[y])))
theorem pM:MtM X "list.append" yN:=by
 intro pins s σ H x vs v us Q I rx rv h
 obtain ⟨l,xs,y,rfl,rfl,hH,hz,q⟩:=h
 cases rx
 obtain ⟨u,rfl,ru⟩:=rv.one
 obtain ⟨z,its,n,r,hl,e⟩:=I.lstM hH
 refine call_meets F.slot_list_append ⟨_,e,rfl⟩ F.entry_list_append (F.args_list_append_2 _ _) (PySem.list_append l its.toArray n u (by rw [List.size_toArray]; omega)) ⟨e,?_⟩
 refine ⟨.non,_,I.lset (its':=its++[u]) hH e (by simp) (r.append (.cons ru .nil)) ?_,rfl,q⟩
 rw [List.length_append,List.length_singleton]
 omega
def CO:V→List V→Hp→VK→Prop:=fun x vs H Q=>∃ l xs y,x=.ref l∧vs=[]∧H l=some (.lst xs)∧xs[xs.length - 1]? = some y∧Q y (upd H l (.lst xs.dropLast))
theorem A1:MtM X "list.pop" CO:=by
 intro pins s σ H x vs v us Q I rx rv h
 obtain ⟨l,xs,y,rfl,rfl,hH,hy,q⟩:=h
 cases rx
 have hus:=rv.zero
 subst hus
 obtain ⟨z,its,n,r,hl,e⟩:=I.lstM hH
 obtain ⟨u,hu,ru⟩:=r.get hy
 have hy':its.toArray[its.toArray.size - 1]? = some u:=by
  show its.toArray[its.length - 1]? = some u
  rw [← Array.getElem?_toList,← hl]
  exact hu
 refine call_meets F.slot_list_pop ⟨_,e,rfl⟩ F.entry_list_pop (F.args_list_pop_1 _) (MeetsSeq.list_pop_last l its.toArray n u hy' (by rw [List.size_toArray]; omega)) ⟨e,?_⟩
 refine ⟨y,_,I.lset (its':=its.dropLast) hH e ?_ r.dropLast ?_,ru,q⟩
 ·show its.toArray.eraseIdxIfInBounds (its.toArray.size - 1)=its.dropLast.toArray
  rw [List.size_toArray,List.eraseIdxIfInBounds_toArray,v5]
 ·rw [List.length_dropLast]
  omega
theorem len_rep {α:Type} (xs:List α) (k:Nat):(List.replicate k xs).flatten.length=k * xs.length:=by
 induction k with
 | zero=>simp
 | succ k ih=>rw [List.replicate_succ,List.flatten_cons,List.length_append,ih,Nat.succ_mul,Nat.add_comm]
end
section
variable {prog:Program} {w:World} {A:Around} {E:Value→Shared→Prop} {s:Shared}
end
section
variable {X:Cx}
end
section
variable {κ:Type} [DecidableEq κ]
def bu (kvs:List (κ×V)) (k:κ):Option V:=(kvs.find? fun kv=>decide (kv.1=k)).map (·.2)
def putK (kvs:List (κ×V)) (k:κ) (v:V):List (κ×V):=if (kvs.any fun kv=>decide (kv.1=k))=true then kvs.map (fun kv=>if kv.1=k then (kv.1,v) else kv) else kvs++[(k,v)]
def cz (kvs:List (κ×V)) (k:κ):List (κ×V):=kvs.filter fun kv=>decide (kv.1≠k)
theorem lV {p:κ×V} {r:List (κ×V)} {k:κ} (e:p.1=k):bu (p::r) k=some p.2:=by simp [bu,List.find?_cons,e]
theorem lW {p:κ×V} {r:List (κ×V)} {k:κ} (e:¬ p.1=k):bu (p::r) k=bu r k:=by simp [bu,List.find?_cons,e]
theorem lX (k:κ):∀ kvs:List (κ×V),(kvs.any fun kv=>decide (kv.1=k))=(bu kvs k).isSome
 | []=>rfl
 | p::r=>by
  rw [List.any_cons]
  by_cases e:p.1=k
  ·simp only [lV e,decide_eq_true e,Bool.true_or,Option.isSome_some]
  ·rw [lW e,decide_eq_false e,Bool.false_or]; exact lX k r
theorem lF (kvs:List (κ×V)) (k:κ) (v:V):(putK kvs k v).length≤kvs.length + 1:=by
 unfold putK
 split
 ·rw [List.length_map]; omega
 ·rw [List.length_append,List.length_cons,List.length_nil]; omega
theorem xu {kvs:List (κ×V)} {k:κ} (v:V) (h:bu kvs k=none):putK kvs k v=kvs++[(k,v)]:=by
 unfold putK
 rw [lX,h]
 exact if_neg (by decide)
theorem RelO.isSome_eq {o:Option V} {u:Option Value} (r:RelO o u):o.isSome=u.isSome:=by
 cases o with
 | none=>cases u with
  | none=>rfl
  | some _=>exact (show False from r).elim
 | some _=>cases u with
  | none=>exact (show False from r).elim
  | some _=>rfl
theorem KV.val {kvs:List (κ×V)} {vs:List (κ×Value)} (r:KV kvs vs) (k:κ):RelO (bu kvs k) (valueAt vs k):=by
 unfold KV at r
 induction r with
 | nil=>exact True.intro
 | @cons p q ps qs h t ih=>
  obtain ⟨h1,h2⟩:=h
  by_cases e:p.1=k
  ·have e':q.1=k:=h1.symm.trans e
   have b:valueAt (q::qs) k=some q.2:=by simp [valueAt,List.find?_cons,e']
   rw [lV e,b]; exact h2
  ·have e':¬ q.1=k:=fun z=>e (h1.trans z)
   have b:valueAt (q::qs) k=valueAt qs k:=by simp [valueAt,List.find?_cons,e']
   rw [lW e,b]; exact ih
theorem KV.any {kvs:List (κ×V)} {vs:List (κ×Value)} (r:KV kvs vs) (k:κ):(kvs.any fun kv=>decide (kv.1=k))=vs.any fun kv=>decide (kv.1=k):=by
 unfold KV at r
 induction r with
 | nil=>rfl
 | cons h t ih=>rw [List.any_cons,List.any_cons,ih,h.1]
theorem KV.repl {kvs:List (κ×V)} {vs:List (κ×Value)} (r:KV kvs vs) (k:κ) {y:V} {u:Value} (ry:RelV y u) :
  KV (kvs.map fun kv=>if kv.1=k then (kv.1,y) else kv) (vs.map fun kv=>if kv.1=k then (kv.1,u) else kv):=by
 unfold KV at r ⊢
 induction r with
 | nil=>exact .nil
 | @cons p q ps qs h t ih=>
  rw [List.map_cons,List.map_cons]
  refine .cons ?_ ih
  obtain ⟨h1,h2⟩:=h
  by_cases e:p.1=k
  ·rw [if_pos e,if_pos (h1.symm.trans e)]; exact ⟨h1,ry⟩
  ·rw [if_neg e,if_neg (fun z=>e (h1.trans z))]; exact ⟨h1,h2⟩
theorem KV.put {kvs:List (κ×V)} {vs:List (κ×Value)} (r:KV kvs vs) (k:κ) {y:V} {u:Value} (ry:RelV y u):KV (putK kvs k y) (stored vs k u):=by
 unfold putK stored
 rw [r.any k]
 by_cases e:(vs.any fun kv=>decide (kv.1=k))=true
 ·rw [if_pos e,if_pos e]; exact r.repl k ry
 ·rw [if_neg e,if_neg e]; exact Paired.snoc r ⟨rfl,ry⟩
theorem KV.drop {kvs:List (κ×V)} {vs:List (κ×Value)} (r:KV kvs vs) (k:κ):KV (cz kvs k) (without vs k):=by
 unfold KV at r ⊢
 unfold cz without
 induction r with
 | nil=>exact .nil
 | @cons p q ps qs h t ih=>
  obtain ⟨h1,h2⟩:=h
  rw [List.filter_cons,List.filter_cons]
  by_cases e:p.1=k
  ·have a:¬ decide (p.1≠k)=true:=by simp [e]
   have b:¬ decide (q.1≠k)=true:=by simp [h1.symm.trans e]
   rw [if_neg a,if_neg b]; exact ih
  ·have e':¬ q.1=k:=fun z=>e (h1.trans z)
   have a:decide (p.1≠k)=true:=by simp [e]
   have b:decide (q.1≠k)=true:=by simp [e']
   rw [if_pos a,if_pos b]; exact .cons ⟨h1,h2⟩ ih
theorem KV.keys {kvs:List (κ×V)} {vs:List (κ×Value)} (r:KV kvs vs):kvs.map (·.1)=vs.map (·.1):=by
 unfold KV at r
 induction r with
 | nil=>rfl
 | cons h t ih=>rw [List.map_cons,List.map_cons,ih,h.1]
theorem KV.length {kvs:List (κ×V)} {vs:List (κ×Value)} (r:KV kvs vs):kvs.length=vs.length:=Paired.length r
theorem yj (kvs:List (κ×V)) (k:κ):(cz kvs k).length≤kvs.length:=List.length_filter_le _ _
end
theorem gS {P:Program} {w:World} {k:Key} {u:Value} (r:RelV (kV k) u):(bt P w).is k u=true:=by
 cases k with
 | inl i=>obtain ⟨t,e⟩:=(show ∃ t,u=Value.int i t from r); subst e; exact vD P w i t
 | inr x=>obtain ⟨t,e⟩:=(show ∃ t,u=Value.str x t from r); subst e; exact vC P w x t
theorem pQ {P:Program} {w:World}:∀ {ks:List Key} {us:List Value},Vals (ks.map kV) us→ItemsAre (bt P w) ks us
 | [],_,r=>by rw [List.map_nil] at r; cases r; exact .nil
 | k::ks,_,r=>by
  rw [List.map_cons] at r
  cases r with
  | cons h t=>exact .cons (gS h) (pQ t)
abbrev KT (H:Hp):List (List Key×V)→List (List Key×Addr×Value)→Prop:=Paired fun p q=>p.1=q.1∧H q.2.1=some (.tup (p.1.map kV))∧RelV p.2 q.2.2
theorem KT.val {H:Hp} {kvs:List (List Key×V)} {xs:List (List Key×Addr×Value)} (r:KT H kvs xs) (k:List Key):RelO (bu kvs k) ((atKey xs k).map (·.2)):=by
 induction r with
 | nil=>exact True.intro
 | @cons p q ps qs h t ih=>
  obtain ⟨h1,_,h2⟩:=h
  by_cases e:p.1=k
  ·have e':q.1=k:=h1.symm.trans e
   have b:atKey (q::qs) k=some q.2:=by simp [atKey,List.find?_cons,e']
   rw [lV e,b]; exact h2
  ·have e':¬ q.1=k:=fun z=>e (h1.trans z)
   have b:atKey (q::qs) k=atKey qs k:=by simp [atKey,List.find?_cons,e']
   rw [lW e,b]; exact ih
theorem KT.repl {H:Hp} {kvs:List (List Key×V)} {xs:List (List Key×Addr×Value)} (r:KT H kvs xs) (k:List Key) {y:V} {u:Value} (ry:RelV y u) :
  KT H (kvs.map fun kv=>if kv.1=k then (kv.1,y) else kv) (xs.map (putAt k u)):=by
 induction r with
 | nil=>exact .nil
 | @cons p q ps qs h t ih=>
  rw [List.map_cons,List.map_cons]
  refine .cons ?_ ih
  obtain ⟨h1,h2,h3⟩:=h
  unfold putAt
  by_cases e:p.1=k
  ·rw [if_pos e,if_pos (h1.symm.trans e)]; exact ⟨h1,h2,ry⟩
  ·rw [if_neg e,if_neg (fun z=>e (h1.trans z))]; exact ⟨h1,h2,h3⟩
theorem KT.put {H:Hp} {kvs:List (List Key×V)} {xs:List (List Key×Addr×Value)} (r:KT H kvs xs) (k:List Key) {b:Addr} {y:V} {u:Value} (hb:H b=some (.tup (k.map kV))) (ry:RelV y u) :
  KT H (putK kvs k y) (storedH xs k b u):=by
 have e:(kvs.any fun kv=>decide (kv.1=k))=(atKey xs k).isSome:=by
  rw [lX,(r.val k).isSome_eq,Option.isSome_map]
 unfold putK storedH
 rw [e]
 by_cases q:(atKey xs k).isSome=true
 ·rw [if_pos q,if_pos q]; exact r.repl k ry
 ·rw [if_neg q,if_neg q]; exact Paired.snoc r ⟨rfl,hb,ry⟩
theorem KT.keeps {H H':Hp} {kvs:List (List Key×V)} {xs:List (List Key×Addr×Value)} (r:KT H kvs xs) (ht:∀ b ys,H b=some (.tup ys)→H' b=some (.tup ys)):KT H' kvs xs:=Paired.mapP r fun _ _ z=>⟨z.1,ht _ _ z.2.1,z.2.2⟩
section
variable {P:Program} {w:World} {H:Hp} {h:Heap} {a:Addr}
theorem tf {u:HO} (ok:HOk P w H h) (e:Rd H a u):ObjOk P w H h a u:=e.ok ok
theorem eF {kvs:List (Key×V)} (ok:HOk P w H h) (e:Rd H a (.dK kvs)):kvs.length≤sizeLine∧(a == sysModules)=false∧∃ vs,KV kvs vs∧h.DictOf (bt P w) a vs:=show ObjOk P w H h a (.dK kvs) from tf ok e
theorem tF {kvs:List (Key×V)} (ok:HOk P w H h) (e:H a=some (.dK kvs)):kvs.length≤sizeLine∧(a == sysModules)=false∧∃ vs,KV kvs vs∧h.DictOf (bt P w) a vs:=eF ok (.inl e)
theorem jh {ks:List Key} (ok:HOk P w H h) (e:H a=some (.tup (ks.map kV))):(tupleKind (bt P w)).is h ks a:=by
 obtain ⟨_,its,r,o,h1,h2,n,h3⟩:=(show ObjOk P w H h a (.tup (ks.map kV)) from ok a _ e)
 exact ⟨o,its.toArray,n,h1,h2,h3,by simpa using pQ r⟩
theorem jA {kvs:List (List Key×V)} (ok:HOk P w H h) (e:Rd H a (.dT kvs)):kvs.length≤sizeLine∧(a == sysModules)=false ∧
  ∃ xs,KT H kvs xs∧h.DictOfH (tupleKind (bt P w)) a xs:=by
 obtain ⟨z,y,xs,r,o,es,ep,h1,h2,h3,h4,h5⟩:=(show ObjOk P w H h a (.dT kvs) from tf ok e)
 refine ⟨z,y,xs,r,o,es,ep,h1,h2,h3,h4,fun x hx=>?_,h5⟩
 have all:∀ {l:List (List Key×V)} {m:List (List Key×Addr×Value)},KT H l m→∀ x∈m,(tupleKind (bt P w)).is h x.1 x.2.1:=by
  intro l m q
  induction q with
  | nil=>intro x hx; exact nomatch hx
  | @cons p q ps qs hq t ih=>
   intro x hx
   rcases List.mem_cons.mp hx with e | hx
   ·subst e
    exact jh ok (by rw [← hq.1]; exact hq.2.1)
   ·exact ih x hx
 exact all r x hx
theorem Cp {kvs:List (List Key×V)} (ok:HOk P w H h) (e:H a=some (.dT kvs)):kvs.length≤sizeLine∧(a == sysModules)=false ∧
  ∃ xs,KT H kvs xs∧h.DictOfH (tupleKind (bt P w)) a xs:=jA ok (.inl e)
end
def DGet (H:Hp) (a:Addr) (y:V) (r:Option V):Prop:=(∃ kvs k,Rd H a (.dK kvs)∧y=kV k∧r=bu kvs k)∨∃ kvs k b,Rd H a (.dT kvs)∧y=.ref b∧H b=some (.tup (k.map kV))∧r=bu kvs k
def DPut (H:Hp) (a:Addr) (y v:V) (H':Hp):Prop:=
 (∃ kvs k,H a=some (.dK kvs)∧y=kV k∧kvs.length < sizeLine∧H'=upd H a (.dK (putK kvs k v))) ∨
 ∃ kvs k b,H a=some (.dT kvs)∧y=.ref b∧H b=some (.tup (k.map kV))∧kvs.length < sizeLine∧H'=upd H a (.dT (putK kvs k v))
theorem DPut.k {H:Hp} {a:Addr} {kvs:List (Key×V)} {k:Key} {v:V} (e:H a=some (.dK kvs)) (hl:kvs.length < sizeLine):DPut H a (kV k) v (upd H a (.dK (putK kvs k v))):=.inl ⟨kvs,k,e,rfl,hl,rfl⟩
section
variable {X:Cx} {pins:List (Addr×Obj)} {σ:St} {H:Hp} {s:Shared} {a:Addr} {y v:V} {u r:Value} {o:Option V} {A:Around} {E:Value→Shared→Prop}
theorem Inv.big (I:Inv X pins σ H s):sysModules < s.heap.objs.size:=by
 have h:mainGlobals < s.heap.objs.size:=(I.mod.glob.keeps I.bk).lt
 exact Nat.lt_trans (by decide) h
theorem xh {Q:Value→Shared→Prop} (hu:A.units + 1 < cLine) (I:Inv X pins σ H s) (g:DGet H a y (some v)) (ry:RelV y u) (h:∀ w' s',Inv X pins σ H s'→RelV v w'→Q w' s') :
  wpAny (model X.prog X.w) A (getItem (.ref a) u) Q E s:=by
 rcases g with ⟨kvs,k,e,ey,l⟩ | ⟨kvs,k,b,e,ey,eb,l⟩
 ·subst ey
  obtain ⟨z,hd,vs,rel,dd⟩:=eF I.hok e
  obtain ⟨w',hw,rw'⟩:=RelO.some_of (v:=v) (o:=valueAt vs k) (by rw [l]; exact rel.val k)
  exact wpAny_getItem_of (gS ry) dd.mapOf hw (h w' _ (I.tok _) rw')
 ·subst ey
  cases (show u=Value.ref b from ry)
  obtain ⟨z,hd,xs,rel,dd⟩:=jA I.hok e
  obtain ⟨w',hw,rw'⟩:=RelO.some_of (v:=v) (o:=(atKey xs k).map (·.2)) (by rw [l]; exact rel.val k)
  obtain ⟨p,hp,hp2⟩:=Option.map_eq_some_iff.mp hw
  refine wpAny_getItem_heap (tupleKind_room_in1 hu) (jh I.hok eb) dd hp ?_
  rw [hp2]
  exact h w' _ (I.tok _) rw'
theorem C2 {Q:Value→Shared→Prop} (hu:A.units + 1 < cLine) (I:Inv X pins σ H s) (g:DGet H a y o) (ry:RelV y u) (h:∀ s',Inv X pins σ H s'→Q (.bool o.isSome) s') :
  wpAny (model X.prog X.w) A (compareOp .In u (.ref a)) Q E s:=by
 rcases g with ⟨kvs,k,e,ey,l⟩ | ⟨kvs,k,b,e,ey,eb,l⟩
 ·subst ey
  obtain ⟨z,hd,vs,rel,dd⟩:=eF I.hok e
  refine wpAny_in_of (gS ry) hd dd.mapOf ?_
  rw [← (rel.val k).isSome_eq,← l]
  exact h _ (I.tok _)
 ·subst ey
  cases (show u=Value.ref b from ry)
  obtain ⟨z,hd,xs,rel,dd⟩:=jA I.hok e
  refine wpAny_in_heap (tupleKind_room_in1 hu) (jh I.hok eb) hd dd ?_
  have q:=(rel.val k).isSome_eq
  rw [Option.isSome_map] at q
  rw [← q,← l]
  exact h _ (I.tok _)
theorem z8 {Q:Value→Shared→Prop} (hu:A.units + 1 < cLine) (I:Inv X pins σ H s) (g:DGet H a y o) (ry:RelV y u) (h:∀ s',Inv X pins σ H s'→Q (.bool (!o.isSome)) s') :
  wpAny (model X.prog X.w) A (compareOp .NotIn u (.ref a)) Q E s:=by
 rcases g with ⟨kvs,k,e,ey,l⟩ | ⟨kvs,k,b,e,ey,eb,l⟩
 ·subst ey
  obtain ⟨z,hd,vs,rel,dd⟩:=eF I.hok e
  refine wpAny_notIn_of (gS ry) hd dd.mapOf ?_
  rw [← (rel.val k).isSome_eq,← l]
  exact h _ (I.tok _)
 ·subst ey
  cases (show u=Value.ref b from ry)
  obtain ⟨z,hd,xs,rel,dd⟩:=jA I.hok e
  refine wpAny_notIn_heap (tupleKind_room_in1 hu) (jh I.hok eb) hd dd ?_
  have q:=(rel.val k).isSome_eq
  rw [Option.isSome_map] at q
  rw [← q,← l]
  exact h _ (I.tok _)
theorem mW {h':Heap} {t':Nat} {ob:HO} (I:Inv X pins σ H s) (mu:Mut (H a)) (hs:Heap.SameBut a s.heap h') (he:∃ q,h'.get? a=some q) (new:ObjOk X.prog X.w (upd H a ob) h' a ob) :
  Inv X pins σ (upd H a ob) { s with heap:=h',toks:=t' }:=I.write (x:=a) (e:=a) mu (.inl rfl) (fun b q hb z=>(hs.2 b hb).trans z) he new
theorem kK {P:Program} {w:World} {H':Hp} {h':Heap} {kvs:List (Key×V)} {vs:List (Key×Value)} (z:kvs.length≤sizeLine) (hd:(a == sysModules)=false) (rel:KV kvs vs) (dd:h'.DictOf (bt P w) a vs) :
  ObjOk P w H' h' a (.dK kvs):=⟨z,hd,vs,rel,dd⟩
theorem xg {H':Hp} {Q:Unit→Shared→Prop} (hu:A.units + 1 < cLine) (I:Inv X pins σ H s) (g:DPut H a y v H') (ry:RelV y u) (rv:RelV v r) (h:∀ s',Inv X pins σ H' s'→Q () s') :
  wpAny (model X.prog X.w) A (setItem (.ref a) u r) Q E s:=by
 rcases g with ⟨kvs,k,e,ey,l,eH⟩ | ⟨kvs,k,b,e,ey,eb,l,eH⟩
 ·subst ey eH
  obtain ⟨z,hd,vs,rel,dd⟩:=tF I.hok e
  have hz:vs.length≤sizeLine:=by rw [← rel.length]; exact z
  have hl:(putK kvs k v).length≤sizeLine:=by have:=lF kvs k v; omega
  refine wpAny_setItem_pairs (hsz:=hz) (gS ry) dd fun h' dd' hs=>h _ ?_
  have he:∃ q,h'.get? a=some q:=let ⟨q,_,_,hq,_⟩:=dd'; ⟨q,hq⟩
  exact mW I (by rw [e]; exact True.intro) hs he (kK hl hd (rel.put k rv) dd')
 ·subst ey eH
  cases (show u=Value.ref b from ry)
  obtain ⟨z,hd,xs,rel,dd⟩:=Cp I.hok e
  have hz:xs.length≤sizeLine:=by rw [← Paired.length rel]; exact z
  have hl:(putK kvs k v).length≤sizeLine:=by have:=lF kvs k v; omega
  refine wpAny_setItem_heap (hsz:=hz) (tupleKind_room_in1 hu) (jh I.hok eb) dd fun h' dd' hs=>h _ ?_
  obtain ⟨q,es,ep,hq,h2,h3,h4,_,h5⟩:=dd'
  refine mW I (by rw [e]; exact True.intro) hs ⟨q,hq⟩ ⟨hl,hd,_,(rel.put k eb rv).keeps fun c ys ec=>?_,q,es,ep,hq,h2,h3,h4,h5⟩
  rw [aK (B7 ec e (fun z=>nomatch z))]
  exact ec
end
section
variable {X:Cx} {pins:List (Addr×Obj)} {σ:St} {H:Hp} {s:Shared} {a:Addr} {kvs:List (Key×V)} {k:Key} {u:Value} {A:Around} {E:Value→Shared→Prop}
theorem Cs {v:V} {more:List Value} {Q:Value→Shared→Prop} (I:Inv X pins σ H s) (e:H a=some (.dK kvs)) (ry:RelV (kV k) u) (l:bu kvs k=some v) (hm:more=[]∨∃ x,more=[x])
  (h:∀ w' s',Inv X pins σ (upd H a (.dK (cz kvs k))) s'→RelV v w'→Q w' s'):wpAny (model X.prog X.w) A (call (.builtin "dict.pop") (.ref a::u::more)) Q E s:=by
 obtain ⟨z,hd,vs,rel,dd⟩:=tF I.hok e
 obtain ⟨w',hw,rw'⟩:=RelO.some_of (v:=v) (o:=valueAt vs k) (by rw [← l]; exact rel.val k)
 have hp:(keyPart u).isSome=true:=by
  cases k with
  | inl i=>obtain ⟨t,q⟩:=(show ∃ t,u=Value.int i t from ry); subst q; rfl
  | inr x=>obtain ⟨t,q⟩:=(show ∃ t,u=Value.str x t from ry); subst q; rfl
 have ha:argsOk "dict.pop" ⟨.ref a::u::more,[]⟩:=by
  rcases hm with q | ⟨x,q⟩
  ·subst q; exact PySem.F.args_dict_pop_2 _ _
  ·subst q; exact PySem.F.args_dict_pop_3 _ _ _
 refine call_meetsIn PySem.F.slot_dict_pop dd.typeIs PySem.F.entry_dict_pop ha (meets_dict_pop_there (bt X.prog X.w) a (gS ry) more hm hp)
  ⟨vs,w',dd,by rw [← rel.length]; exact z,hw,fun h' dd' hs=>h w' _ ?_ rw'⟩
 have he:∃ q,h'.get? a=some q:=let ⟨q,_,_,hq,_⟩:=dd'; ⟨q,hq⟩
 exact mW I (by rw [e]; exact True.intro) hs he (kK (Nat.le_trans (yj kvs k) z) hd (rel.drop k) dd')
theorem Ct {Q:Value→Shared→Prop} (I:Inv X pins σ H s) (e:Rd H a (.dK kvs)) (h:∀ t s',Inv X pins σ H s'→Q (.int kvs.length t) s'):wpAny (model X.prog X.w) A (call (.builtin "len") [.ref a]) Q E s:=by
 obtain ⟨z,hd,vs,rel,dd⟩:=eF I.hok e
 refine call_len_dict hd dd (by rw [← rel.length]; rw [sizeLine_eq] at z; omega) ?_
 rw [← rel.length]
 exact h _ _ (I.tok _)
end
theorem oR {X:Cx} {pins:List (Addr×Obj)} {σ:St} {H:Hp} {s:Shared} {a:Addr} {y:V} {o:Option V} (I:Inv X pins σ H s) (g:DGet H a y o):s.TypeIs (.ref a) "dict":=by
 rcases g with ⟨kvs,k,e,_,_⟩ | ⟨kvs,k,b,e,_,_,_⟩
 ·obtain ⟨_,_,vs,_,dd⟩:=eF I.hok e
  exact dd.typeIs
 ·obtain ⟨_,_,xs,_,dd⟩:=jA I.hok e
  exact dd.typeIs
def BI (td ty tv:TE):TS:=fun D σ H=>tv σ H fun v H1=>td σ H1 fun x H2=>ty σ H2 fun y H3=>∃ a H4,x=.ref a∧DPut H3 a y v H4∧D.nx σ H4
section
variable {X:Cx} {o i e value:Expr} {pos pos' tpos:Pos} {td ty tv:TE}
theorem yW (hu:X.A.units + 1 < cLine) (ho:PE X o td) (hi:PE X i ty) (hv:PE X value tv) (hs:swapsWith value (some (.Subscript o i pos')) pos.line X.env=pure false) :
  PS X (.Assign [.Subscript o i pos'] value pos) (BI td ty tv):=by
 intro pins s σ H D I h
 refine wpAny_Assign_Subscript (thn (hv pins s σ H _ I h) fun r s1 ⟨v,H1,I1,rv,q1⟩=>thn (ho pins s1 σ H1 _ I1 q1) fun u s2 ⟨x,H2,I2,rx,q2⟩=>thn (hi pins s2 σ H2 _ I2 q2) fun iv s3 ⟨y,H3,I3,ry,a,H4,ex,g,q3⟩=>?_) hs
 subst ex
 obtain rfl:u=Value.ref a:=rx
 exact xg hu I3 g ry rv fun s4 I4=>⟨σ,H4,I4,q3⟩
end
theorem yk {P:Program} {w:World} {H:Hp} (h:Heap) (hb:sysModules < h.objs.size):ObjOk P w H (h.push { cls:=.type "dict",data:=.dict #[] }) h.objs.size (.dK []):=⟨Nat.zero_le _,beq_eq_false_iff_ne.mpr (Ne.symm (Nat.ne_of_lt hb)),[],.nil,Heap.DictOf.new h⟩
def Ao:TE:=fun _ H Q=>∀ p,H p=none→Q (.ref p) (upd H p (.dK []))
section
variable {X:Cx} {pos:Pos}
theorem xI:PE X (.Dict [] [] pos) Ao:=fun pins s σ H Q I h=>
 wpAny_Dict_empty ⟨.ref s.heap.objs.size,_,I.laid (a:=s.heap.objs.size) (o:=.dK []) (t':=s.toks) (fun _ _ q=>Heap.get?_push_of_some _ q) (Nat.le_refl _) (yk s.heap I.big),rfl,h _ (I.hok.fresh (Nat.le_refl _))⟩
end
def m8:List (TE×TE)→St→Hp→(List (V×V)→Hp→Prop)→Prop
 | [],_,H,Q=>Q [] H
 | (tk,tv)::r,σ,H,Q=>tk σ H fun x H1=>tv σ H1 fun y H2=>m8 r σ H2 fun ps H3=>Q ((x,y)::ps) H3
abbrev VV:List (V×V)→List (Value×Value)→Prop:=Paired fun p q=>RelV p.1 q.1∧RelV p.2 q.2
def PPs (X:Cx) (pos:Pos) (keys:List (Option Expr)) (values:List Expr) (trs:List (TE×TE)):Prop:=
 ∀ (pins:List (Addr×Obj)) (s:Shared) (σ:St) (H:Hp) (Q:List (V×V)→Hp→Prop),Inv X pins σ H s→m8 trs σ H Q →
  wpAny (model X.prog X.w) X.A (evalPairs (pairTrees keys values X.env pos)) (fun vs s'=>∃ ps H',Inv X pins σ H' s'∧VV ps vs∧Q ps H') X.xe s
def d7 (kvs more:List (Key×V)):List (Key×V):=more.foldl (fun acc kv=>putK acc kv.1 kv.2) kvs
theorem KV.merge:∀ {more:List (Key×V)} {rs:List (Key×Value)} {kvs:List (Key×V)} {vs:List (Key×Value)},KV more rs→KV kvs vs→KV (d7 kvs more) (merged vs rs):=by
 intro more rs kvs vs r
 unfold KV at r
 induction r generalizing kvs vs with
 | nil=>intro q; exact q
 | @cons p q ps qs h t ih=>
  intro r0
  have e:KV (putK kvs p.1 p.2) (stored vs q.1 q.2):=by
   have:=r0.put p.1 h.2
   rw [← h.1]; exact this
  exact ih e
theorem oK:∀ (more kvs:List (Key×V)),(d7 kvs more).length≤kvs.length + more.length
 | [],kvs=>by show kvs.length≤kvs.length + 0; omega
 | p::r,kvs=>by
  have h1:=oK r (putK kvs p.1 p.2)
  have h2:=lF kvs p.1 p.2
  show (d7 (putK kvs p.1 p.2) r).length≤_
  rw [List.length_cons]; omega
structure M1 (X:Cx) (o:Expr) (m:Str) (apos:Pos) (e:Expr) (cpos:Pos):Prop where
 base:attributeBase o m X.env (eval o X.env)=eval o X.env
 few:((backTo cpos (starEach [e] X.env)).all (fun x=>!x.1) && (backToKw cpos (keywordEach [] X.env)).all (fun x=>x.1.isSome)
  && decide (([e]:List Expr).length + ([]:List Keyword).length + (if ([]:List Keyword).isEmpty then 0 else 1) < 30))=true
 line:(apos.endLine == cpos.line)=true
 trees:backTo cpos (starEach [e] X.env)=[(false,eval e X.env)]
structure M2 (X:Cx) (o:Expr) (m:Str) (apos:Pos) (e f:Expr) (cpos:Pos):Prop where
 base:attributeBase o m X.env (eval o X.env)=eval o X.env
 few:((backTo cpos (starEach [e,f] X.env)).all (fun x=>!x.1) && (backToKw cpos (keywordEach [] X.env)).all (fun x=>x.1.isSome)
  && decide (([e,f]:List Expr).length + ([]:List Keyword).length + (if ([]:List Keyword).isEmpty then 0 else 1) < 30))=true
 line:(apos.endLine == cpos.line)=true
 trees:backTo cpos (starEach [e,f] X.env)=[(false,eval e X.env),(false,eval f X.env)]
section
variable {X:Cx} {pins:List (Addr×Obj)} {σ:St} {H:Hp} {s:Shared} {a:Addr} {y d:V} {u r:Value} {o:Option V} {A:Around} {E:Value→Shared→Prop}
end
section
variable {X:Cx} {o e f:Expr} {apos cpos:Pos} {td ty tx:TE}
end
section
variable {X:Cx} {pins:List (Addr×Obj)} {σ:St} {H:Hp} {s:Shared} {a:Addr} {kvs:List (Key×V)} {A:Around} {E:Value→Shared→Prop}
theorem yn {Q:Value→Shared→Prop} (I:Inv X pins σ H s) (e:Rd H a (.dK kvs)) (h:∀ p s',H p=none→Inv X pins σ (upd H p (.dK kvs)) s'→Q (.ref p) s'):wpAny (model X.prog X.w) A (call (.type "dict") [.ref a]) Q E s:=by
 obtain ⟨z,hd,vs,rel,dd⟩:=eF I.hok e
 refine kt_call_dict hd dd (by rw [← rel.length]; exact z) fun h' dd' hs=>?_
 refine h _ _ (I.hok.fresh (Nat.le_refl _)) (I.laid (a:=s.heap.objs.size) (o:=.dK kvs) (t':=s.toks) (fun b q hq=>?_) (Nat.le_refl _) (kK z (beq_eq_false_iff_ne.mpr (Ne.symm (Nat.ne_of_lt I.big))) rel dd'))
 exact (hs.2 b (Nat.ne_of_lt (Heap.lt_size hq))).trans (Heap.get?_push_of_some _ hq)
end
section
variable {X:Cx} {pins:List (Addr×Obj)} {σ:St} {H:Hp} {s:Shared} {a:Addr} {y:V} {u:Value} {A:Around} {E:Value→Shared→Prop}
end
end L2
namespace Att
open PySem PySem.W PySem.Calls PyProof.Rows
theorem uI {P:Params} {h:Heap}:∀ (ns:List Int) (vs:List Value),WellAll P h vs (ns.map WData.int)→IntsAre vs ns:=by
 intro ns
 induction ns with
 | nil=>
  intro vs w
  rw [List.map_nil] at w
  cases w
  exact .nil
 | cons n ns ih=>
  intro vs w
  rw [List.map_cons] at w
  cases w with
  | cons a b=>
   cases a
   exact .cons _ _ (ih _ b)
theorem wA {l:OpenLaw} {n:Nat} (hn:l.most=some n) {P:Params} {h:Heap} {args:List WData} {vals:List Value}
  (hpre:l.row.toRowW.claim.pre args=true) (hwl:WellAll P h vals args) :
  ∃ a vs ns,vals=[Value.ref a]∧args=[WData.list (ns.map WData.int)]∧h.get? a=some { cls:=.type "list",data:=.seq vs.toArray }∧IntsAre vs ns∧ns.length≤n:=by
 have hsh:WShape.hasAll [] args [.list .int]=true:=(pre_splitW hpre).1
 have hc:l.pre.holds [] { args:=args } = true:=(pre_splitW hpre).2
 obtain ⟨d,r,rfl,h1,h2⟩:=hasAllW_cons hsh
 obtain rfl:=hasAllW_nil h2
 obtain ⟨xs,rfl,h3⟩:=hasW_list h1
 obtain ⟨ns,rfl⟩:=items_int h3
 have hlen:ns.length≤n:=by
  unfold OpenLaw.pre at hc
  have h4:(WTm.not (.lt (.lit (.int (n:Int))) (.len (.arg 0)))).holds [] { args:=[.list (ns.map .int)] } = true:=by
   have h4:=(holds_andW hc).1
   rw [hn] at h4
   exact h4
  have h5:=condW_of h4 (w_not (w_lt w_lit (w_len_list (w_arg rfl))))
  rw [List.length_map] at h5
  refine Nat.le_of_not_lt fun q=>?_
  have q':(n:Int) < ((ns.length:Nat):Int):=by omega
  first
   | (rw [decide_eq_true q'] at h5; exact absurd h5 (by decide))
   | (simp at h5; omega)
 cases hwl with
 | cons w1 w2=>
  cases w2
  cases w1 with
  | list ho hall=>exact ⟨_,_,ns,rfl,rfl,ho,uI ns _ hall,hlen⟩
theorem wC (l:OpenLaw) (args:List WData):l.row.toRowW.claim.post args (.bool true) args=true:=
 postW_of (r:=l.row.toRowW) (X:=(true == true))
  (show WShape.has [] (.bool true) .bool=true by first | rfl | decide | simp [WShape.has,WShape.arms,WShape.armsAll])
  (show (WTm.eq .res (.lit (.bool true))).value [] { args:=args,res:=some (.bool true),after:=args } = some (.bool (true == true)) from w_eq_bool (w_res rfl) w_lit) rfl
theorem vM {l:OpenLaw} {n:Nat} {q:Program} {loose:List Str} {XP:(Str→Option Value)→Heap→Prop} {YP:World→Heap→Prop} {d:DefRec}
  (hn:l.most=some n) (hdf:d.params.defaults=[])
  (call:∀ (w:World) (s₀ s₁:Shared) (mg mb:Str→Option Value) (fa:Addr) (o:Obj) (pm cd doc:Value) (a:Addr) (vs:List Value) (ns:List Int),
   Ground q loose [] XP w s₀ mg mb s₁.heap→YP w s₁.heap →
   s₁.heap.get? fa=some o→o.data=.func (docDef d.name d.params d.body d.scope pm cd doc)→s₁.heap.CodeRec cd d.name→mg d.name=some (.ref fa) →
   s₁.heap.get? a=some { cls:=.type "list",data:=.seq vs.toArray }→IntsAre vs ns→ns.length≤n→s₁.gens = #[] →
   codeAny (model l.prog w) callerA (.call (.ref fa) ⟨[.ref a],[]⟩) (fun r s'=>r=.ok (.ret (.bool true))∧OldK s₁.heap s'.heap∧s'.os=s₁.os∧AllBare s'.gens) s₁) :
  WalkO q loose XP YP l.row.toRowW d [] (fun f vs=>PySem.call f vs):=by
 intro w s₀ s₁ mg mb G Y fa o pm cd doc dV kV ho hd hcd hD hmg hg args vals as hpre hlay hrd hwl hlo
 obtain rfl:dV=.none:=Dflts.none hD hdf
 obtain rfl:kV=.none:=Dflts.noKw hD
 obtain ⟨a,vs,ns,rfl,rfl,hobj,hints,hlen⟩:=wA hn hpre hwl
 refine enter_call (codeAny_mono (call w s₀ s₁ mg mb fa o pm cd doc a vs ns G Y ho (fd_plain hd) hcd hmg hobj hints hlen hg) fun r s' hq=>?_)
 obtain ⟨rfl,h2,h3,h4⟩:=hq
 exact ⟨.inl ⟨.bool true,.bool true,[],rfl,fun _=>rfl,.bool true,wC l _,fun _=>⟨List.Pairwise.nil,fun _ hm=>(nomatch hm)⟩⟩,h2,h3,h4⟩
section
variable {prog:Program} {w:World} {A:Around} {E:Value→Shared→Prop} {s:Shared} {K:Frag}
end
end Att
namespace L2
open PySem PySem.Spec PyProof.Rows
theorem pz:∀ {vs:List Value} {ns:List Int},IntsAre vs ns→Vals (ns.map V.int) vs
 | _,_,.nil=>.nil
 | _,_,.cons n t h=>.cons ⟨t,rfl⟩ (pz h)
def oH (H:Hp):Prop:=∀ b,H b=none∨∃ o xs,H b=some (.frz o (.lst xs))
theorem x6 {P:Program} {w:World} {K:Frag} {mg mb:Str→Option Value} {CX:CXT} {k:Nat} {fa a:Addr} {fd:FuncData} {x:Str} {sp:Sp} {s₁:Shared} {vs:List Value} {ns:List Int}
  (KX:K.In s₁.heap) (hns:s₁.heap.Ns mainGlobals mg) (hb:s₁.heap.Ns builtinsNs mb) (hbb:∀ x:Str,x≠"__name__"→mb x=bootBuiltins x) (hlim:s₁.heap.NoLimit) (hg:s₁.gens = #[])
  (ha:s₁.heap.get? a=some { cls:=.type "list",data:=.seq vs.toArray }) (hi:IntsAre vs ns) (hl:ns.length≤sizeLine) (hr:Room k callerA)
  (F:∀ base:Heap,K.In base→base.Ns mainGlobals mg→FnOk P w K mg base CX k fa fd [x] sp) (hbind:∀ (s:Shared) (u:Value),BindsTo s fd ⟨[u],[]⟩ [(x,u)])
  (hsp:∀ H:Hp,oH H→SqL K H a (ns.map V.int)→sp [.ref a] H (fun v _=>v=.bl true) fun _ _ _=>False)
  (hCX:∀ H e s',CX [] H s₁ (fun _ _ _=>False) e s'→False) :
  codeAny (model P w) callerA (.call (.ref fa) ⟨[.ref a],[]⟩) (fun r s'=>r=.ok (.ret (.bool true))∧OldK s₁.heap s'.heap∧s'.os=s₁.os∧AllBare s'.gens) s₁:=by
 have rv:=pz hi
 have lenV:=hi.length
 have core:∀ H:Hp,oH H→SqL K H a (ns.map V.int)→HOk P w H s₁.heap→(∀ b,H b≠none→b=a)→(H a≠none→K.lookup a=none) →
   codeAny (model P w) callerA (.call (.ref fa) ⟨[.ref a],[]⟩) (fun r s'=>r=.ok (.ret (.bool true))∧OldK s₁.heap s'.heap∧s'.os=s₁.os∧AllBare s'.gens) s₁:=by
  intro H hO hS hok hA hK
  have base_of:∀ {b:Addr} {o:Obj},s₁.heap.get? b=some o→H b=none→(fh s₁.heap H).get? b=some o:=fun e n=>ya e n
  have noA:∀ {b:Addr} {o:Obj} {es:Array DictEntry} {ep:Nat},s₁.heap.get? b=some o→o.data=.dict es ep→H b=none:=fun {b o es ep} e d=>by
   cases q:H b with
   | none=>rfl
   | some u=>
    have e':b=a:=hA b (by rw [q]; simp)
    subst e'
    rw [ha] at e; cases e
    have d':Data.seq vs.toArray _=Data.dict es ep:=d
    cases d'
  have nsK:∀ {b:Addr} {m:Str→Option Value},s₁.heap.Ns b m→(fh s₁.heap H).Ns b m:=fun {b m} ⟨o,es,ep,e,d,r⟩=>⟨o,es,ep,base_of e (noA e d),d,r⟩
  have hKb:K.In (fh s₁.heap H):=fun b o e=>base_of (KX b o e) (by
   cases q:H b with
   | none=>rfl
   | some u=>
    have e':b=a:=hA b (by rw [q]; simp)
    subst e'
    rw [hK (by rw [q]; simp)] at e; cases e)
  have hM:Mod K mg (fh s₁.heap H):=⟨hKb,nsK hns,⟨mb,nsK hb,hbb⟩,let ⟨mc,h1,h2⟩:=hlim; ⟨mc,nsK h1,h2⟩⟩
  have e0:Env0 P w K mg (fh s₁.heap H) callerA [] s₁ H:=⟨rfl,hM,fun b o e=>zi e,Nat.le_of_eq (xa _ _),trivial,fun b hb=>absurd (show b∈([]:List Addr) from hb) (by simp),hok,.of_eq hg⟩
  refine codeAny_mono ((F _ hKb (nsK hns)).run callerA [] s₁ H ⟨[.ref a],[]⟩ [.ref a] [.ref a] _ _ hr e0 (hbind s₁ (.ref a)) (.cons rfl .nil) (hsp H hO hS)) fun r s' h=>?_
  cases r with
  | error e=>exact (hCX H e s' h).elim
  | ok fl=>
   cases fl with
   | next=>exact False.elim h
   | brk=>exact False.elim h
   | cont=>exact False.elim h
   | ret u=>
    obtain ⟨v,H',os,bare,un,hok',r',q⟩:=h
    have q':v=.bl true:=q
    subst q'
    obtain rfl:u=Value.bool true:=r'
    refine ⟨rfl,OldK.of_keep fun b o e=>?_,os,bare⟩
    cases q:H b with
    | none=>exact un.keep b o e q (by intro z; exact absurd (show b∈([]:List Addr) from z) (by simp)) (by simp)
    | some u=>
     rcases hO b with z | ⟨ob,xs,z⟩
     ·rw [q] at z; cases z
     ·have z2:=un.frzs b ob _ z
      obtain ⟨e1,_⟩:=hok b _ z
      obtain ⟨e2,_⟩:=hok' b _ z2
      rw [e] at e1; cases e1
      exact e2
 cases hk:K.lookup a with
 | some o=>
  have e:=KX a o hk
  rw [ha] at e
  cases e
  refine core (fun _=>none) (fun _=>.inl rfl) (.inr ⟨_,vs.toArray,_,hk,rfl,rfl,rfl,by rw [List.size_toArray,lenV]; exact hl,by simpa using rv⟩) (fun b u z=>by have z':(none:Option HO)=some u:=z; cases z') (fun b z=>absurd rfl z) fun z=>absurd rfl z
 | none=>
  refine core (fun b=>if b=a then some (.frz { cls:=.type "list",data:=.seq vs.toArray } (.lst (ns.map V.int))) else none) (fun b=>?_) (.inl (.inr ⟨{ cls:=.type "list",data:=.seq vs.toArray },if_pos rfl⟩)) (fun b u z=>?_) (fun b z=>?_) fun _=>hk
  ·by_cases hb:b=a
   ·exact .inr ⟨_,_,if_pos hb⟩
   ·exact .inl (if_neg hb)
  ·by_cases hb:b=a
   ·have z':=(if_pos hb).symm.trans z
    cases z'
    subst hb
    exact ⟨ha,by rw [List.length_map]; exact hl,vs,_,rv,ha⟩
   ·have z':=(if_neg hb).symm.trans z
    cases z'
  ·by_cases hb:b=a
   ·exact hb
   ·exact absurd (if_neg hb) z
theorem yC {l:PySem.W.OpenLaw} {n k:Nat} {q:Program} {loose:List Str} {XP:(Str→Option Value)→Heap→Prop} {YP:World→Heap→Prop} {d:DefRec} {K:Params→Frag} {CX:World→CXT} {sp:World→Sp} {x:Str}
  (hn:l.most=some n) (hn2:n≤sizeLine) (hdf:d.params.defaults=[]) (hr:Room k callerA)
  (hY:∀ (w:World) (h:Heap),YP w h→(K w.params).In h)
  (F:∀ (w:World) (mg:Str→Option Value) (fa:Addr) (h:Heap),(K w.params).In h→h.Ns mainGlobals mg→mg d.name=some (.ref fa) →
   ∃ fd:FuncData,(∀ (s:Shared) (u:Value),BindsTo s fd ⟨[u],[]⟩ [(x,u)]) ∧
    ∀ base:Heap,(K w.params).In base→base.Ns mainGlobals mg→FnOk l.prog w (K w.params) mg base (CX w) k fa fd [x] (sp w))
  (hsp:∀ (w:World) (H:Hp) (a:Addr) (ns:List Int),ns.length≤n→oH H→SqL (K w.params) H a (ns.map V.int)→sp w [.ref a] H (fun v _=>v=.bl true) fun _ _ _=>False)
  (hCX:∀ (w:World) (H:Hp) (s:Shared) (e:Value) (s':Shared),CX w [] H s (fun _ _ _=>False) e s'→False) :
  PySem.W.WalkO q loose XP YP l.row.toRowW d [] (fun f vs=>PySem.call f vs):=by
 refine Att.vM hn hdf fun w s₀ s₁ mg mb fa o pm cd doc a vs ns G Y ho hd hcd hmg hobj hints hlen hg=>?_
 have KX:=hY w _ Y
 obtain ⟨fd,hb,hF⟩:=F w mg fa _ KX G.T.g hmg
 exact x6 KX G.T.g G.T.b G.T.builtins G.T.nolimit hg hobj hints (Nat.le_trans hlen hn2) hr hF hb (fun H hO hS=>hsp w H a ns hlen hO hS) fun H e s'=>hCX w H s₁ e s'
def d4 (s:Stmt):Arguments:=match s with
 | .FunctionDef _ a _ _ _ _ _ _ _ _=>a
 | _=>{ posonlyargs:=[],args:=[],vararg:=none,kwonlyargs:=[],kw_defaults:=[],kwarg:=none,defaults:=[] }
def c7 (s:Stmt):List Stmt:=match s with
 | .FunctionDef _ _ b _ _ _ _ _ _ _=>b
 | _=>[]
def aM (s:Stmt):Scope:=match s with
 | .FunctionDef _ _ _ _ _ _ sc _ _ _=>sc
 | _=>{ kind:=.function,names:=[],isGenerator:=false,isCoroutine:=false }
abbrev CX0:CXT:=fun _ _ _ _ _ _=>False
abbrev E0:XK:=fun _ _ _=>False
theorem BX {X:Cx}:nR CX0 X E0:=fun _ _ _ _ _ _ _ h=>h.elim
structure Fun (K:Frag) (x qual:Str) (st:Stmt) (f:Addr) (fd:FuncData):Prop where
 ex:∃ (oc:Value) (od:Option Addr) (kV doc pm:Value) (an:Option Addr) (cdv ct:Value) (osl:Array (Option Value)),
  fd=PySem.W.fnOf x qual (d4 st) (c7 st) (aM st) .none kV doc pm an cdv ct∧K.lookup f=some ⟨oc,od,.func fd,osl⟩∧PySem.W.codeIn K cdv qual=true
 kp:PySem.W.keepIn K (.ref f)=true
section
variable {P:Program} {w:World} {K:Frag} {mg:Str→Option Value} {base:Heap}
theorem Fun.ok {x qual:Str} {st:Stmt} {f:Addr} {fd:FuncData} {N ps:List Str} {k:Nat} {sp:Sp} (F:Fun K x qual st f fd) (S:FnScope N ps (aM st)) (len:∀ vs H Q E,sp vs H Q E→vs.length=ps.length)
  (hbody:∀ (cdv:Value) (A:Around) (outer:List Env) (s:Shared) (H:Hp) (vs:List V) (Q:VK) (E:XK),Room k (A.deeper (envOfC qual (aM st) s.heap.objs.size f cdv))→sp vs H Q E →
   ∃ t,PSs (gb CX0 P w K mg base N qual (aM st) f cdv A outer s H E).nox (c7 st) t∧t { nx:=fun _ H'=>Q .non H',rt:=Q } (start N vs) H):FnOk P w K mg base CX0 (k + 1) f fd ps sp:=by
 obtain ⟨oc,od,kV,doc,pm,an,cdv,ct,osl,rfl,lk,hcd⟩:=F.ex
 refine Cm lk hcd S len fun A outer s H vs Q E hr hsp=>?_
 obtain ⟨t,h,q⟩:=hbody cdv A outer s H vs Q E hr hsp
 exact ⟨t,h.nox,q⟩
theorem Fun.binds {x qual:Str} {st:Stmt} {f:Addr} {fd:FuncData} {ps:List Str} (F:Fun K x qual st f fd)
  (h:∀ (kV doc pm:Value) (an:Option Addr) (cdv ct:Value) (us:List Value),us.length=ps.length→bindArgs (PySem.W.fnOf x qual (d4 st) (c7 st) (aM st) .none kV doc pm an cdv ct) ⟨us,[]⟩=pure (ps.zip us)):Binds K fd ps []:=by
 obtain ⟨oc,od,kV,doc,pm,an,cdv,ct,osl,rfl,lk,hcd⟩:=F.ex
 exact .all (h kV doc pm an cdv ct)
theorem sH {x qual:Str} {st:Stmt} {f:Addr} {oc:Value} {od an:Option Addr} {osl:Array (Option Value)} {kV doc pm cdv ct:Value} (l:K.lookup f=some ⟨oc,od,.func (PySem.W.fnOf x qual (d4 st) (c7 st) (aM st) .none kV doc pm an cdv ct),osl⟩)
  (c:PySem.W.codeIn K cdv qual=true) (k:PySem.W.keepIn K (.ref f)=true):Fun K x qual st f (PySem.W.fnOf x qual (d4 st) (c7 st) (aM st) .none kV doc pm an cdv ct):=⟨⟨oc,od,kV,doc,pm,an,cdv,ct,osl,rfl,l,c⟩,k⟩
end
section
variable {X:Cx}
theorem pv (i:Nat) {x:Str} {pos:Pos} (hN:X.N[i]? = some x:=by rfl) (hv:Vis X.env.scope x:=by first | exact Or.inl rfl | exact Or.inr (Or.inl rfl) | exact Or.inr (Or.inr rfl)) (hd:(x == ("__debug__" : Str))=false:=by decide)
  (hcd:(x == ("__classdict__" : Str))=false:=by decide):PE X (.Name x pos) (tP i):=AH hN hv hd hcd
end
theorem fY {A B:Prop} (h:B):if false=true then A else B:=by
 rw [if_neg Bool.false_ne_true]
 exact h
theorem fX {A B:Prop} (h:A):if true=true then A else B:=by
 rw [if_pos rfl]
 exact h
end L2
set_option maxHeartbeats 4000000
namespace K1
open PySem
def has (signs x:Str):Bool:=x.cps.toList.all fun c=>decide (c∈signs.cps.toList)
def di (best:Int):List Int→Int
 | []=>best
 | n::r=>di (if n > best then n else best) r
def cB (d:Int):List Int→Int
 | []=>d
 | n::r=>di n r
theorem pb:∀ (l:List Int) (b:Int),b≤di b l
 | [],b=>Int.le_refl b
 | n::r,b=>by
  show b≤di (if n > b then n else b) r
  have:=pb r (if n > b then n else b)
  split at this <;> (rename_i h; simp only [h,if_true,if_false] <;> omega)
theorem zq (l:List Int) (h:∀ n∈l,0≤n):0≤cB 0 l:=by
 cases l with
 | nil=>exact Int.le_refl 0
 | cons n r=>exact Int.le_trans (h n List.mem_cons_self) (pb r n)
end K1
namespace L2
open PySem
def bv (env:Env):List (Str×NameKind)→List (Str×Addr)→List (Str×Addr)
 | [],acc=>acc
 | (n,k)::r,acc=>bv env r (if (k == .free)=true then (n,(env.cells.lookup n).getD 0)::acc else acc)
theorem lS {env:Env}:∀ (l:List (Str×NameKind)) (acc:List (Str×Addr)),(∀ x∈l,x.2=.free→∃ c,env.cells.lookup x.1=some c) →
  (forIn l acc (fun x r=>match x with
   | (name,kind)=>if (kind == NameKind.free)=true then (do
     let c ← cellOf env name
     pure (ForInStep.yield ((name,c)::r))) else pure (ForInStep.yield r)):Sem (List (Str×Addr)))=pure (bv env l acc)
 | [],acc,_=>rfl
 | (n,k)::r,acc,h=>by
  rw [List.forIn_cons]
  have hr:∀ x∈r,x.2=.free→∃ c,env.cells.lookup x.1=some c:=fun x hx=>h x (List.mem_cons_of_mem _ hx)
  cases hk:(k == NameKind.free) with
  | false=>
   have ih:=lS r acc hr
   have e:bv env ((n,k)::r) acc=bv env r acc:=by simp [bv,hk]
   rw [e]
   dsimp only
   rw [if_neg (by rw [hk]; exact Bool.false_ne_true)]
   exact ih
  | true=>
   obtain ⟨c,hc⟩:=h (n,k) List.mem_cons_self (by simpa using hk)
   have ih:=lS r ((n,c)::acc) hr
   have hc':env.cells.lookup n=some c:=hc
   have e:bv env ((n,k)::r) acc=bv env r ((n,c)::acc):=by simp [bv,hk,hc']
   have e2:cellOf env n=pure c:=by unfold cellOf; rw [hc']
   rw [e]
   dsimp only
   rw [if_pos hk,e2]
   exact ih
theorem lH {scope:Scope} {env:Env} (h:∀ x∈scope.names,x.2=.free→∃ c,env.cells.lookup x.1=some c):closureFor scope env=pure (bv env scope.names []):=by
 have q:=lS (env:=env) scope.names [] h
 unfold closureFor
 exact congrArg (fun t=>t >>= fun z=>pure z) q
theorem lG {env:Env}:∀ (l:List (Str×NameKind)) (acc:List (Str×Addr)) (x:Str) (c:Addr),(∀ y d,acc.lookup y=some d→env.cells.lookup y=some d) →
  (∀ y∈l,y.2=.free→∃ c,env.cells.lookup y.1=some c)→(bv env l acc).lookup x=some c→env.cells.lookup x=some c
 | [],acc,x,c,ha,_,e=>ha x c e
 | (n,k)::r,acc,x,c,ha,h,e=>by
  have hr:∀ x∈r,x.2=.free→∃ c,env.cells.lookup x.1=some c:=fun x hx=>h x (List.mem_cons_of_mem _ hx)
  refine lG r _ x c ?_ hr e
  intro y d q
  cases hk:(k == NameKind.free) with
  | false=>rw [hk,if_neg Bool.false_ne_true] at q; exact ha y d q
  | true=>
   rw [hk,if_pos rfl] at q
   obtain ⟨c',hc⟩:=h (n,k) List.mem_cons_self (by simpa using hk)
   have hc':env.cells.lookup n=some c':=hc
   rw [List.lookup_cons] at q
   by_cases z:y=n
   ·subst z
    simp [hc'] at q
    rw [hc',q]
   ·have z':(y == n)=false:=beq_eq_false_iff_ne.mpr z
    rw [z'] at q
    exact ha y d q
theorem pq {env:Env}:∀ (l:List (Str×NameKind)) (acc:List (Str×Addr)) (x:Str),(acc.lookup x).isSome=true→((bv env l acc).lookup x).isSome=true
 | [],_,_,h=>h
 | (n,k)::r,acc,x,h=>by
  refine pq r _ x ?_
  cases hk:(k == NameKind.free) with
  | false=>rw [if_neg Bool.false_ne_true]; exact h
  | true=>
   rw [if_pos rfl,List.lookup_cons]
   cases z:(x == n) with
   | true=>rfl
   | false=>exact h
theorem lI {env:Env}:∀ (l:List (Str×NameKind)) (acc:List (Str×Addr)) (x:Str),(x,NameKind.free)∈l→((bv env l acc).lookup x).isSome=true
 | [],_,_,h=>absurd h (by simp)
 | (n,k)::r,acc,x,h=>by
  rcases List.mem_cons.mp h with e | e
  ·cases e
   refine pq r _ _ ?_
   rw [if_pos (by decide),List.lookup_cons]
   simp
  ·exact lI r _ x e
open PySem PySem.Spec PyProof.Rows
structure CS (osc:Scope) (N:List Str) (x:Str) (scope:Scope) (N':List Str):Prop where
 kind:scope.kind=.function
 nocell:∀ y∈scope.names,y.2≠.cell
 names:∀ y∈scope.names,y.2=.local→scope.names.lookup y.1=some .local
 hx:scope.names.lookup x=some .local
 only:∀ y∈scope.names,y.2=.local→y.1=x∨y.1 = ".0"
 free:∀ y∈scope.names,y.2=.free→osc.names.lookup y.1=some .cell∨osc.names.lookup y.1=some .free
 nd:(x::N').Nodup
 n0:(".0" : Str)∉N'
 len:N'.length=N.length
 rel:∀ p∈N'.zip N,p.1=p.2∨∀ q∈scope.names,q.1≠p.1
theorem CS.at {osc:Scope} {N N':List Str} {x:Str} {scope:Scope} (S:CS osc N x scope N') {j:Nat} {y:Str} (h:N'[j]? = some y):N[j]? = some y∨∀ q∈scope.names,q.1≠y:=by
 have hl:j < N'.length:=(List.getElem?_eq_some_iff.mp h).1
 have hl2:j < N.length:=by rw [← S.len]; exact hl
 have m:(N'.zip N)[j]? = some (y,N[j]):=by
  rw [List.getElem?_zip_eq_some]
  exact ⟨h,List.getElem?_eq_getElem hl2⟩
 rcases S.rel _ (List.mem_of_getElem? m) with z | z
 ·left
  rw [List.getElem?_eq_getElem hl2]
  exact congrArg some z.symm
 ·exact .inr z
theorem qq {c:Str×NameKind→Bool}:∀ {names:List (Str×NameKind)} {y:Str} {k':NameKind},
  (names.map fun p=>if (p.2 == NameKind.free && c p)=true then (p.1,NameKind.cell) else (p.1,p.2)).lookup y=some k'→∃ k,(y,k)∈names∧(k'=k∨(k=.free∧k'=.cell))
 | [],_,_,h=>by simp at h
 | (n,k)::r,y,k',h=>by
  rw [List.map_cons] at h
  by_cases hy:y=n
  ·subst hy
   cases hc:(k == NameKind.free && c (y,k)) with
   | false=>
    simp only [hc,Bool.false_eq_true,if_false,List.lookup_cons,beq_self_eq_true] at h
    cases h
    exact ⟨k,List.mem_cons_self,.inl rfl⟩
   | true=>
    simp only [hc,if_true,List.lookup_cons,beq_self_eq_true] at h
    cases h
    have e:k=.free:=by
     have:=(Bool.and_eq_true _ _).mp hc
     simpa using this.1
    exact ⟨k,List.mem_cons_self,.inr ⟨e,rfl⟩⟩
  ·have hb:(y == n)=false:=beq_eq_false_iff_ne.mpr hy
   have h':(r.map fun p=>if (p.2 == NameKind.free && c p)=true then (p.1,NameKind.cell) else (p.1,p.2)).lookup y=some k':=by
    cases hc:(k == NameKind.free && c (n,k)) with
    | false=>simp only [hc,Bool.false_eq_true,if_false,List.lookup_cons,hb] at h; exact h
    | true=>simp only [hc,if_true,List.lookup_cons,hb] at h; exact h
   obtain ⟨k2,m,e⟩:=qq h'
   exact ⟨k2,List.mem_cons_of_mem _ m,e⟩
theorem hG {scope:Scope} {env:Env} {y:Str} {k':NameKind} (h:(relabel scope env).names.lookup y=some k'):∃ k,(y,k)∈scope.names∧(k'=k∨(k=.free∧k'=.cell)):=by
 refine qq (c:=fun p=>env.scope.kind == .function && env.kindOf p.1 == some .cell) ?_
 rw [← h]
 unfold relabel
 congr 1
 refine List.map_congr_left fun p _=>?_
 obtain ⟨n,k⟩:=p
 simp only [Bool.and_assoc]
abbrev b8 (X:Cx) (x:Str) (scope:Scope) (C:Addr) (s0:Shared) (H0:Hp) (ex:List Addr) (N':List Str):Cx where
 prog:=X.prog
 w:=X.w
 K:=X.K
 mg:=X.mg
 base:=X.base
 A:=X.A
 N:=x::N'
 s₀:=s0
 H₀:=H0
 env:=compEnvC scope (bv X.env scope.names []) C X.env
 outer:=X.stack
 stack:=X.stack
 ex:=ex
 fn:=fun _=>false
 calm:=X.calm
 pn:=[]
 xe:=fun _ _=>False
section
variable {X:Cx} {pins:List (Addr×Obj)} {σ:St} {H:Hp} {s:Shared} {x:Str} {scope:Scope} {N':List Str}
theorem me (I:Inv X pins σ H s) (S:CS X.env.scope X.N x scope N'):∀ y∈scope.names,y.2=.free→∃ c,X.env.cells.lookup y.1=some c:=fun y hy e=>
 I.ok.has y.1 (S.free y hy e)
theorem pX (I:Inv X pins σ H s) (S:CS X.env.scope X.N x scope N') {y:Str} {c:Addr} (e:(bv X.env scope.names []).lookup y=some c):X.env.cells.lookup y=some c:=lG scope.names [] y c (fun _ _ z=>by simp at z) (me I S) e
theorem qD (I:Inv X pins σ H s) (S:CS X.env.scope X.N x scope N') {y:Str} (e:(y,NameKind.free)∈scope.names):∃ c,(bv X.env scope.names []).lookup y=some c∧X.env.cells.lookup y=some c:=by
 obtain ⟨c,hc⟩:=Option.isSome_iff_exists.mp (lI (env:=X.env) scope.names [] y e)
 exact ⟨c,hc,pX I S hc⟩
theorem ph {fp:List Addr} {h':Heap} {m:Str→Option Value} {tk:Nat} {oD oC:Obj} (I:Inv X pins σ H s) (S:CS X.env.scope X.N x scope N') (hf:∀ b∈fp,cu X pins H b) (ho:∀ b∈fp,∃ o,s.heap.get? b=some o)
  (hns:h'.Ns (s.heap.push oD).objs.size m) (hsb:Heap.SameBut (s.heap.push oD).objs.size ((s.heap.push oD).push oC) h') :
  Inv (b8 X x scope (s.heap.push oD).objs.size { s with heap:=s.heap.push oD } H (s.heap.objs.size::fp) N') [] (none::σ) H { s with heap:=h',toks:=tk }:=by
 have I3:Inv X pins σ H { s with heap:=s.heap.push oD,toks:=s.toks }:=I.kept fun b o e=>Heap.get?_push_of_some _ e
 have hC:(s.heap.push oD).objs.size=s.heap.objs.size + 1:=Heap.size_push ..
 have up3:∀ b o,(s.heap.push oD).get? b=some o→h'.get? b=some o:=fun b o e=>
  (hsb.2 b (Nat.ne_of_lt (Heap.lt_size e))).trans (Heap.get?_push_of_some _ e)
 have up:∀ b o,s.heap.get? b=some o→h'.get? b=some o:=fun b o e=>up3 b o (Heap.get?_push_of_some _ e)
 have cl:=fun {y c} e=>pX (y:=y) (c:=c) I S e
 have clt:∀ y c,X.env.cells.lookup y=some c→c < s.heap.objs.size:=fun y c e=>let ⟨v,q⟩:=I.cell y c e; q.lt
 have inner:∀ {y:Str} {k':NameKind},(relabel scope X.env).names.lookup y=some k'→(k'=.cell∨k'=.free)→(y,NameKind.free)∈scope.names:=fun {y k'} e hk=>by
  obtain ⟨k,mem,r⟩:=hG e
  rcases r with r | ⟨r,_⟩
  ·rcases hk with z | z
   ·exact absurd (r.symm.trans z) (S.nocell _ mem)
   ·rw [← r.symm.trans z]; exact mem
  ·rw [← r]; exact mem
 have ok:(b8 X x scope (s.heap.push oD).objs.size { s with heap:=s.heap.push oD } H (s.heap.objs.size::fp) N').Ok:=by
  refine ⟨I.ok.mod,S.kind,I.ok.glob,I.ok.blt,Nat.le_refl _,fun y z c e1 e2=>I.ok.inj y z c (cl e1) (cl e2),fun y hk=>?_,fun y c e=>(nomatch e),I.ok.hd,I.ok.frames,.inl rfl,fun b hb=>?_,fun b o e=>?_,
   Nat.le_trans (Nat.le_trans I.ok.bsz I.sz) (by show s.heap.objs.size≤(s.heap.push oD).objs.size; omega),fun b o e hb=>?_,fun b hb z=>?_,I3.stack,I.stkFree⟩
  ·have mem:(y,NameKind.free)∈scope.names:=by
    rcases hk with z | z
    ·exact inner z (.inl rfl)
    ·exact inner z (.inr rfl)
   obtain ⟨c,hc,_⟩:=qD I S mem
   exact ⟨c,hc⟩
  ·rcases List.mem_cons.mp hb with e | e
   ·subst e
    exact ⟨by show s.heap.objs.size≠(s.heap.push oD).objs.size; omega,fun y c e=>Nat.ne_of_lt (clt y c (cl e))⟩
   ·obtain ⟨o,q⟩:=ho b e
    have q2:=Heap.lt_size q
    exact ⟨by show b≠(s.heap.push oD).objs.size; rw [hC]; exact Nat.ne_of_lt (Nat.lt_succ_of_lt q2),fun y c e'=>(hf b e).2.2.2.2.1 y c (cl e')⟩
  ·exact ⟨Heap.get?_push_of_some _ (I.bs b o e).1,(I.bs b o e).2⟩
  ·rcases List.mem_cons.mp hb with z | z
   ·have q2:=Heap.lt_size (I.bs b o e).1
    rw [z] at q2
    exact Nat.lt_irrefl _ q2
   ·rcases (hf b z).2.2.2.1 with q | q
    ·exact I.ok.noex b o e q
    ·have q2:=Heap.lt_size (I.ok.bs b o e).1
     exact Nat.lt_irrefl _ (Nat.lt_of_lt_of_le q2 q)
  ·have z':=I.stkSub b z
   rcases List.mem_cons.mp hb with e | e
   ·subst e
    rcases List.mem_cons.mp z' with q | q
    ·have q2:=I.lt
     rw [← q] at q2
     exact Nat.lt_irrefl _ q2
    ·exact I.nofs (Nat.le_refl _) q
   ·rcases List.mem_cons.mp z' with q | q
    ·exact (hf b e).2.1 q
    ·exact (hf b e).2.2.1 q
 obtain ⟨mo,hno,hlo⟩:=I.loc
 refine ⟨ok,rfl,I.bare,Un.kept up3,⟨m,hns,fun i y v e1 e2 e3=>?_⟩,fun y c e=>?_,I.hok.fresh (by show s.heap.objs.size≤(s.heap.push oD).objs.size; omega),fun y c e=>I.freeC y c (cl e),fun p hp=>absurd hp (by simp),I.hok.kept up,?_⟩
 ·cases i with
  | zero=>simp at e2
  | succ j=>
   have e1n:N'[j]? = some y:=by simpa using e1
   have vis:∃ k,(y,k)∈scope.names:=by
    rcases (show Vis (relabel scope X.env) y from e3) with z | z | z <;> exact let ⟨k,mem,_⟩:=hG z; ⟨k,mem⟩
   have e1':X.N[j]? = some y:=by
    rcases S.at e1n with z | z
    ·exact z
    ·obtain ⟨k,mem⟩:=vis
     exact absurd rfl (z _ mem)
   have e2':σ[j]? = some (some v):=by simpa using e2
   have yx:y≠x:=fun z=>by
    have nd:=S.nd
    rw [List.nodup_cons] at nd
    refine nd.1 ?_
    rw [← z]
    exact List.mem_of_getElem? e1n
   have kin:((relabel scope X.env).names.lookup y=some .cell∨(relabel scope X.env).names.lookup y=some .free):=by
    rcases (show Vis (relabel scope X.env) y from e3) with z | z | z
    ·obtain ⟨k,mem,r⟩:=hG z
     rcases r with r | ⟨_,r⟩
     ·rcases S.only _ mem r.symm with z2 | z2
      ·exact absurd z2 yx
      ·exact absurd (List.mem_of_getElem? e1n) (by rw [show y=(".0" : Str) from z2]; exact S.n0)
     ·cases r
    ·exact .inl z
    ·exact .inr z
   have mem:(y,NameKind.free)∈scope.names:=by
    rcases kin with z | z
    ·exact inner z (.inl rfl)
    ·exact inner z (.inr rfl)
   have vo:Vis X.env.scope y:=by
    rcases S.free _ mem rfl with z | z
    ·exact .inr (.inl z)
    ·exact .inr (.inr z)
   obtain ⟨u,ru,lk⟩:=hlo j y v e1' e2' vo
   refine ⟨u,ru,.inr ⟨kin,?_⟩⟩
   obtain ⟨c,hc,hc'⟩:=qD I S mem
   refine ⟨c,hc,?_⟩
   rcases lk with ⟨z,_⟩ | ⟨_,c2,z2,q⟩
   ·exfalso
    have z':X.env.scope.names.lookup y=some .local:=z
    rcases S.free _ mem rfl with r | r <;> (rw [z'] at r; cases r)
   ·rw [hc'] at z2
    cases z2
    obtain ⟨o,q1,q2⟩:=q
    exact ⟨o,up _ _ q1,q2⟩
 ·obtain ⟨v,o,q1,q2⟩:=I.cell y c (cl e)
  exact ⟨v,o,up _ _ q1,q2⟩
 ·have:=I.len
  simp [this,S.len]
theorem pf {fp:List Addr} {σ':St} {pins':List (Addr×Obj)} {H1:Hp} {s1:Shared} {h':Heap} {C:Addr} {oD:Obj} {ys:List V} (I:Inv X pins σ H s) (hf:∀ b∈fp,cu X pins H b)
  (hCd:C=(s.heap.push oD).objs.size) (J:Inv (b8 X x scope C { s with heap:=s.heap.push oD } H (s.heap.objs.size::fp) N') pins' σ' H1 s1) (hsb:Heap.SameBut C s1.heap h') (hD0:H1 s.heap.objs.size=none)
  (new:∃ its n,Vals ys its∧s1.heap.get? s.heap.objs.size=some { cls:=.type "list",data:=.seq its.toArray n }) (hz:ys.length≤sizeLine) :
  Inv X pins σ (upd H1 s.heap.objs.size (.lst ys)) { s1 with heap:=h' }:=by
 have hC:C=s.heap.objs.size + 1:=by rw [hCd]; exact Heap.size_push ..
 have nD:∀ b o,s.heap.get? b=some o→b≠s.heap.objs.size:=fun b o e=>Nat.ne_of_lt (Heap.lt_size e)
 have nC:∀ b o,s.heap.get? b=some o→b≠C:=fun b o e=>by rw [hC]; exact Nat.ne_of_lt (Nat.lt_succ_of_lt (Heap.lt_size e))
 have up:∀ b o,s.heap.get? b=some o→(s.heap.push oD).get? b=some o:=fun b o e=>Heap.get?_push_of_some _ e
 have nx:∀ b,b∉fp→b≠s.heap.objs.size→b∉s.heap.objs.size::fp:=fun b h1 h2 z=>(List.mem_cons.mp z).elim h2 h1
 have hDC:s.heap.objs.size≠C:=by rw [hC]; exact Nat.ne_of_lt (Nat.lt_succ_self _)
 have tr:∀ b u,H1 b=some u→b≠s.heap.objs.size:=fun b u e z=>by rw [z,hD0] at e; cases e
 have trC:∀ b u,H1 b=some u→b≠C:=fun b u e z=>by
  have:=J.free
  rw [z] at e
  have q:H1 C=none:=J.free
  rw [q] at e; cases e
 obtain ⟨its,n,rv,eD⟩:=new
 have B:Un (frs X.stack) (s.heap.objs.size::fp) H H1 (s.heap.push oD) s1.heap:=J.base
 refine I.call' (s':={ s1 with heap:=h' }) (ch:=fp) J.os ⟨fun b o e q h1 h2=>?_,fun b o e q h1 h2=>?_,fun b o e q h2=>?_,fun b o e h2=>?_,fun b xs e=>?_,fun b o u e=>?_,fun b ps e=>?_⟩ (fun b u e=>?_) J.bare fun b hb=>?_
 ·exact (hsb.2 b (nC b o e)).trans (B.keep b o (up b o e) q h1 (nx b h2 (nD b o e)))
 ·obtain ⟨sl,z⟩:=B.slot b o (up b o e) q h1 (nx b h2 (nD b o e))
  exact ⟨sl,(hsb.2 b (nC b o e)).trans z⟩
 ·rw [aK (nD b o e)]
  exact B.free b o (up b o e) q (nx b h2 (nD b o e))
 ·obtain ⟨o',z⟩:=B.there b o (up b o e) (nx b h2 (nD b o e))
  exact ⟨o',(hsb.2 b (nC b o e)).trans z⟩
 ·have z:=B.tups b xs e
  rw [aK (tr b _ z)]; exact z
 ·have z:=B.frzs b o u e
  rw [aK (tr b _ z)]; exact z
 ·obtain ⟨more,z⟩:=B.tbls b ps e
  exact ⟨more,by rw [aK (tr b _ z)]; exact z⟩
 ·by_cases hb:b=s.heap.objs.size
  ·subst hb
   rw [br] at e
   cases e
   exact ⟨hz,its,n,rv,(hsb.2 _ hDC).trans eD⟩
  ·rw [aK hb] at e
   refine (J.hok b u e).stay (fun c v hc q=>(hsb.2 c ?_).trans q) (fun c q=>by rw [aK (tr c _ q)]; exact q) fun c xs q=>by rw [aK (tr c _ q)]; exact q
   rcases hc with z | z
   ·rw [z]; exact trC b u e
   ·exact trC c _ z
 ·obtain ⟨_,f1,_,f3,f4,f5⟩:=hf b hb
  exact ⟨f3,f1,f4,f5⟩
end
def PTs (X:Cx) (ifs:List Expr) (t:TT):Prop:=
 ∀ (pins:List (Addr×Obj)) (s:Shared) (σ:St) (H:Hp) (Q:Bool→Hp→Prop) (E:Value→Shared→Prop),Inv X pins σ H s→t σ H Q →
  wpAny (model X.prog X.w) X.A (forIn ifs true fun c r=>if r=true then do
   let ok ← isTrue c X.env (eval c X.env)
   pure (ForInStep.yield ok) else pure (ForInStep.yield r)) (TP X pins σ Q) E s
theorem yR {X:Cx}:PTs X [] (fun _ H Q=>Q true H):=fun _ _ _ H _ _ I h=>wpAny_tests_nil ⟨H,I,h⟩
theorem yQ {X:Cx} {c:Expr} {t:TT} (hx:X.xe=fun _ _=>False) (h:PT X c t):PTs X [c] t:=fun pins s σ H Q _ I q=>
 wpAny_tests_one (wpAny_mono (h pins s σ H Q I q) (fun _ _ z=>z) fun e s' z=>by rw [hx] at z; exact z.elim)
def lh (σ:St) (J:It) (tt:TT) (te:TE) (W:Nat→Nat→List V→Hp→Prop) (D:List V→Hp→Prop):Prop:=∀ i m ys H,W i m ys H →
 (J.stop i H∧ys.length≤sizeLine∧D ys H)∨(J.go i H∧ys.length < sizeLine∧∃ N:List V→Hp→Prop,(∀ ys' H',N ys' H'→∃ m',m' < m∧W (i + 1) m' ys' H')∧∀ v H',J.yld i H v H'→tt (some v::σ) H' fun b H2=>
  if b=true then te (some v::σ) H2 fun y H3=>N (ys++[y]) H3 else N ys H2)
section
variable {X:Cx} {pins:List (Addr×Obj)} {σ:St} {H:Hp} {s:Shared} {x:Str} {scope:Scope} {N':List Str}
theorem pW {fp:List Addr} {it C:Addr} {tn:Nat→Heap→Prop} {J:It} {oD:Obj} {elt iter:Expr} {ifs:List Expr} {px pos:Pos} {te:TE} {tt:TT} {W:Nat→Nat→List V→Hp→Prop} {Dn:List V→Hp→Prop}
  {R:Result→Shared→Prop} {σ':St} {s4:Shared} {m0:Nat} (hcalm:X.calm=true) (S:CS X.env.scope X.N x scope N') (hf:∀ b∈fp,cu X pins H b) (ho:∀ b∈fp,∃ o,s.heap.get? b=some o) (hCd:C=(s.heap.push oD).objs.size)
  (T:Turn X.prog X.w X.K (.Name x px) J fp it tn) (I4:Inv (b8 X x scope C { s with heap:=s.heap.push oD } H (s.heap.objs.size::fp) N') [] (none::σ) H s4) (st4:tn 0 s4.heap) (hD4:s4.heap.get? s.heap.objs.size=some { cls:=.type "list",data:=.seq #[] 0 })
  (hDn:H s.heap.objs.size=none) (hte:PE (b8 X x scope C { s with heap:=s.heap.push oD } H (s.heap.objs.size::fp) N') elt te) (htt:PTs (b8 X x scope C { s with heap:=s.heap.push oD } H (s.heap.objs.size::fp) N') ifs tt)
  (w0:W 0 m0 [] H) (turn:lh σ J tt te W Dn)
  (hR:∀ s1 H1 σ1 ys its n,Inv (b8 X x scope C { s with heap:=s.heap.push oD } H (s.heap.objs.size::fp) N') [] σ1 H1 s1→H1 s.heap.objs.size=none→Vals ys its→s1.heap.get? s.heap.objs.size=some { cls:=.type "list",data:=.seq its.toArray n }→ys.length≤sizeLine→Dn ys H1→R (.ok .next) s1) :
  codeAny (model X.prog X.w) X.A (.compLoop (.ListComp elt [⟨.Name x px,iter,ifs,0⟩] scope pos) 0 (.ref it) (.ref s.heap.objs.size) (compEnvC scope (bv X.env scope.names []) C X.env)) R s4:=by
 have hC:C=s.heap.objs.size + 1:=by rw [hCd]; exact Heap.size_push ..
 generalize hX:b8 X x scope C { s with heap:=s.heap.push oD } H (s.heap.objs.size::fp) N'=X' at *
 have xP:X'.prog=X.prog:=by rw [← hX]
 have xW:X'.w=X.w:=by rw [← hX]
 have xK:X'.K=X.K:=by rw [← hX]
 have xA:X'.A=X.A:=by rw [← hX]
 have xE:X'.env=compEnvC scope (bv X.env scope.names []) C X.env:=by rw [← hX]
 have xC:X'.calm=true:=by rw [← hX]; exact hcalm
 have xex:X'.ex=s.heap.objs.size::fp:=by rw [← hX]
 have xpn:X'.pn=[]:=by rw [← hX]
 have xxe:X'.xe=fun _ _=>False:=by rw [← hX]
 have xN:X'.N=x::N':=by rw [← hX]
 have xL:X'.env.locals=C:=by rw [xE]; rfl
 have xloc:X'.env.scope.names.lookup x=some .local:=by rw [xE]; exact lookup_relabel_local S.hx
 have lt:∀ b∈fp,b < s.heap.objs.size:=fun b hb=>let ⟨_,e⟩:=ho b hb; Heap.lt_size e
 have fpk:∀ {pl:List (Addr×Obj)} {H':Hp},(∀ p∈pl,p.1=s.heap.objs.size)→(∀ b∈fp,H' b=none)→∀ b∈fp,cu X' pl H' b:=fun {pl H'} hp hn b hb=>by
  have okk:=I4.ok
  have hm:b∈X'.ex:=by rw [xex]; exact List.mem_cons_of_mem _ hb
  refine ⟨hn b hb,(okk.exf b hm).1,okk.exfs b hm,.inl hm,(okk.exf b hm).2,fun p hpl z=>?_⟩
  rw [xpn] at hpl
  have q1:=hp p (by simpa using hpl)
  have q2:=lt b hb
  rw [← z,q1] at q2
  exact Nat.lt_irrefl _ q2
 have dok:∀ {pl:List (Addr×Obj)} {H':Hp},(∀ p∈pl,p.1∈fp)→H' s.heap.objs.size=none→cu X' pl H' s.heap.objs.size:=fun {pl H'} hp hn=>by
  have okk:=I4.ok
  have hm:s.heap.objs.size∈X'.ex:=by rw [xex]; exact List.mem_cons_self
  refine ⟨hn,(okk.exf _ hm).1,okk.exfs _ hm,.inl hm,(okk.exf _ hm).2,fun p hpl z=>?_⟩
  rw [xpn] at hpl
  have q2:=lt p.1 (hp p (by simpa using hpl))
  rw [z] at q2
  exact Nat.lt_irrefl _ q2
 refine codeAny_compLoop_tests (I:=fun m s'=>∃ i σx H' ys its n,Inv X' [] (σx::σ) H' s'∧tn i s'.heap∧(∀ b∈fp,H' b=none)∧H' s.heap.objs.size=none∧Vals ys its∧s'.heap.get? s.heap.objs.size=some { cls:=.type "list",data:=.seq its.toArray n }∧W i m ys H') ?_ m0
  ⟨0,none,H,[],[],0,I4,st4,fun b hb=>(hf b hb).1,hDn,.nil,hD4,w0⟩
 rintro m s5 ⟨i,σx,H5,ys,its,n,I5,st5,fr5,d5,rv,e5,w5⟩
 have I5d:Inv X' ([]++dB [s.heap.objs.size] s5.heap) (σx::σ) H5 s5:=I5.pinned (fun b hb=>by
   have e:b=s.heap.objs.size:=by simpa using hb
   rw [e]; exact dok (fun p hp=>absurd hp (by simp)) d5) fun b hb=>by
   have e:b=s.heap.objs.size:=by simpa using hb
   rw [e]; exact ⟨_,e5,fun v z=>by cases z⟩
 have pD:([]++dB [s.heap.objs.size] s5.heap:List (Addr×Obj))=[(s.heap.objs.size,{ cls:=.type "list",data:=.seq its.toArray n })]:=by
  simp [dB,e5]
 rw [pD] at I5d
 have p1:∀ p∈[(s.heap.objs.size,({ cls:=.type "list",data:=.seq its.toArray n }:Obj))],p.1=s.heap.objs.size:=fun p hp=>by
  have e:p=(s.heap.objs.size,{ cls:=.type "list",data:=.seq its.toArray n }):=by simpa using hp
  rw [e]
 have hsz:its.length=ys.length:=rv.length.symm
 rcases turn i m ys H5 w5 with ⟨stop,hz,dn⟩ | ⟨go,hz,N,hN,step⟩
 ·have q:=T.done X' xP xW xK xC i _ s5 (σx::σ) H5 (notedBy (model X.prog X.w) X.A (compEnvC scope (bv X.env scope.names []) C X.env) fun e s'=>R (.error e) s') I5d (fpk p1 fr5) st5 stop
  rw [xA] at q
  refine wpAny_mono q (fun r s6 z=>?_) fun _ _ z=>z
  obtain ⟨rfl,I6⟩:=z
  refine hR s6 H5 (σx::σ) ys its n ?_ d5 rv (I6.pin _ (List.mem_append_right _ (List.mem_singleton.mpr rfl))).1 hz dn
  exact I6.pins_of fun p hp=>absurd hp (by simp)
 ·have q:=T.item X' xP xW xK xC i _ s5 (σx::σ) H5 (notedBy (model X.prog X.w) X.A (compEnvC scope (bv X.env scope.names []) C X.env) fun e s'=>R (.error e) s') I5d (fpk p1 fr5) st5 go
  rw [xA] at q
  refine wpAny_mono q (fun r s6 z=>?_) fun _ _ z=>z
  obtain ⟨u,rfl,z⟩:=z
  dsimp only
  have z':wpAny (model X.prog X.w) X.A (pure ()) _ _ s6:=z
  refine wpAny_bind (m:=pure ()) (f:=fun _=>assign (.Name x px) (compEnvC scope (bv X.env scope.names []) C X.env) u) (wpAny_mono z' (fun _ s7 z=>?_) fun _ _ z=>z)
  obtain ⟨v,H7,I7,rv7,y7,st7,fr7⟩:=z
  have I7p:=I7.pinned (fpk p1 fr7) (T.obj _ _ st7)
  rw [← xE]
  have nd:X'.N.Nodup:=by rw [xN]; exact S.nd
  have hi0:X'.N[0]? = some x:=by rw [xN]; rfl
  refine wpAny_assign_Name (lY (E:=notedBy (model X.prog X.w) X.A X'.env fun e s'=>R (.error e) s') (i:=0) I7p nd hi0 (.inl xloc) rv7 (fun s8 I8=>?_) (.inr xloc))
  have I8':Inv X' _ (some v::σ) H7 s8:=I8
  have t8:=htt _ s8 (some v::σ) H7 _ (notedBy (model X.prog X.w) X.A X'.env fun e s'=>R (.error e) s') I8' (step v H7 y7)
  rw [xP,xW,xA] at t8
  refine wpAny_mono t8 (fun ok s9 z=>?_) fun _ _ z=>z
  obtain ⟨H9,I9,q9⟩:=z
  have back:∀ {s':Shared} {H':Hp} {σ2:St},Inv X' ([(s.heap.objs.size,({ cls:=.type "list",data:=.seq its.toArray n }:Obj))]++dB fp s7.heap) σ2 H' s' →
    tn (i + 1) s'.heap∧(∀ b∈fp,H' b=none)∧H' s.heap.objs.size=none∧s'.heap.get? s.heap.objs.size=some { cls:=.type "list",data:=.seq its.toArray n }∧Inv X' [] σ2 H' s':=fun {s' H' σ2} I'=>by
   refine ⟨T.keep _ _ _ st7 fun b hb o e=>(I'.pin (b,o) (List.mem_append_right _ (List.mem_append_right _ (hV hb e)))).1,fun b hb=>?_,?_,?_,I'.pins_of fun p hp=>absurd hp (by simp)⟩
   ·obtain ⟨o,e,_⟩:=T.obj _ _ st7 b hb
    exact (I'.pin (b,o) (List.mem_append_right _ (List.mem_append_right _ (hV hb e)))).2.1
   ·exact (I'.pin (s.heap.objs.size,_) (List.mem_append_right _ (List.mem_append_left _ (List.mem_singleton.mpr rfl)))).2.1
   ·exact (I'.pin (s.heap.objs.size,_) (List.mem_append_right _ (List.mem_append_left _ (List.mem_singleton.mpr rfl)))).1
  cases ok with
  | false=>
   simp only [Bool.false_eq_true,if_false] at q9 ⊢
   obtain ⟨m',hm,w9⟩:=hN _ _ q9
   obtain ⟨a1,a2,a3,a4,a5⟩:=back I9
   exact ⟨m',hm,i + 1,some v,H9,ys,its,n,a5,a1,a2,a3,rv,a4,w9⟩
  | true=>
   simp only [if_true] at q9 ⊢
   have t9:=hte _ s9 (some v::σ) H9 _ I9 q9
   rw [xP,xW,xA,xxe] at t9
   refine wpAny_mono t9 (fun u2 s10 z=>?_) fun _ _ z=>z.elim
   obtain ⟨y,H10,I10,r10,q10⟩:=z
   obtain ⟨m',hm,w10⟩:=hN _ _ q10
   obtain ⟨a1,a2,a3,a4,a5⟩:=back I10
   refine wpAny_list_append_plain ⟨n,a4⟩ (fun h' pl sb=>?_) (by rw [List.size_toArray]; omega)
   obtain ⟨n',e'⟩:=pl
   have D0:=dok (pl:=[]) (fun p hp=>absurd hp (by simp)) a3
   refine ⟨m',hm,i + 1,some v,H10,ys++[y],its++[u2],n',a5.turned (t':=s10.toks) (fun b o hb e=>(sb.2 b hb).trans e) D0.1 D0.2.1 D0.2.2.2.1 D0.2.2.2.2.1 D0.2.2.2.2.2,?_,a2,a3,rv.append (.cons r10 .nil),by simpa using e',w10⟩
   exact T.keep _ _ _ a1 fun b hb o e=>(sb.2 b (Nat.ne_of_lt (lt b hb))).trans e
end
section
variable {X:Cx} {x:Str} {scope:Scope} {N':List Str} {elt iter:Expr} {ifs:List Expr} {px pos:Pos} {wi:TI} {te:TE} {tt:TT}
def sX (wi:TI) (tt:TT) (te:TE):TE:=fun σ H Q=>wi σ H fun J H1=>∃ W:Nat→Nat→List V→Hp→Prop,(∃ m,W 0 m [] H1)∧lh σ J tt te W fun ys H=>∀ p,H p=none→Q (.ref p) (upd H p (.lst ys))
theorem za (hc:X.calm=true) (S:CS X.env.scope X.N x scope N') (hi:PI X (.Name x px) iter wi) (he:∀ C s0 H0 ex,PE (b8 X x scope C s0 H0 ex N') elt te)
  (ht:∀ C s0 H0 ex,PTs (b8 X x scope C s0 H0 ex N') ifs tt) (hs:∀ v,foldedSetIterable iter X.env v=pure v:=by intro _; rfl):PE X (.ListComp elt [⟨.Name x px,iter,ifs,0⟩] scope pos) (sX wi tt te):=by
 intro pins s σ H Q I h
 rw [eval_ListComp]
 refine wpAny_comprehension_free (use:=none) rfl hs (lH (me I S)) S.kind S.names (thn (hi pins s σ H _ I h) fun v s1 h1=>thn h1 fun itv s2 h2=>?_)
 obtain ⟨it,fp,tn,J,H2,rfl,I2,T,st2,f2,W,⟨m0,w0⟩,turn⟩:=h2
 have ho:∀ b∈fp,∃ o,s2.heap.get? b=some o:=fun b hb=>let ⟨o,e,_⟩:=T.obj _ _ st2 b hb; ⟨o,e⟩
 refine wpAny_newObj_type (wpAny_newFunctionEnv S.nocell (by intro y hy; simp at hy) (fun h' hns hsb=>?_) S.kind)
 have I4:=ph (x:=x) (scope:=scope) (tk:=s2.toks + ([]:List (Str×Value)).length) I2 S f2 ho hns hsb
 have up3:∀ b o,(s2.heap.push { cls:=.type "list",dict:=none,data:=.seq ([]:List Value).toArray }).get? b=some o→h'.get? b=some o:=fun b o e=>
  (hsb.2 b (Nat.ne_of_lt (Heap.lt_size e))).trans (Heap.get?_push_of_some _ e)
 have st4:tn 0 h':=T.keep _ _ _ st2 fun b _ o e=>up3 b o (Heap.get?_push_of_some _ e)
 have loop:=pW (elt:=elt) (iter:=iter) (ifs:=ifs) (pos:=pos) (R:=compPost (model X.prog X.w) X.A X.xe none (EP X pins σ Q) (.ref s2.heap.objs.size) (s2.heap.push { cls:=.type "list",dict:=none,data:=.seq ([]:List Value).toArray }).objs.size) (σ':=σ)
  hc S f2 ho rfl T I4 st4 (up3 _ _ (Heap.get?_push_size _ rfl)) (I2.hok.fresh (Nat.le_refl _)) (he _ _ _ _) (ht _ _ _ _) w0 turn fun s5 H5 σ5 ys its n J5 d5 rv e5 hz dn=>by
   obtain ⟨m,hn,_⟩:=J5.loc
   exact ⟨m,hn,fun h'' sb=>⟨.ref s2.heap.objs.size,_,pf I2 f2 rfl J5 sb d5 ⟨its,n,rv,e5⟩ hz,rfl,dn _ d5⟩⟩
 exact codeAny_compStart_list loop (T.self X.A 0 _ _ _ st4 loop)
def BJ (i:Nat) (wi:TI) (tt:TT) (te:TE):TS:=fun D σ H=>wi σ H fun J H1=>∃ W:Nat→Nat→List V→Hp→Prop,(∃ m,W 0 m [] H1)∧lh σ J tt te W fun ys H=>∀ p,H p=none→D.nx (σ.set i (some (.ref p))) (upd H p (.lst ys))
theorem yV {i:Nat} {y:Str} {py spos:Pos} (hc:X.calm=true) (S:CS X.env.scope X.N x scope N') (hN:X.N.Nodup) (hi':X.N[i]? = some y) (hy:Loc X.env.scope y) (hf':X.fn y=true∨X.env.scope.names.lookup y=some .local)
  (hi:PI X (.Name x px) iter wi) (he:∀ C s0 H0 ex,PE (b8 X x scope C s0 H0 ex N') elt te)
  (ht:∀ C s0 H0 ex,PTs (b8 X x scope C s0 H0 ex N') ifs tt) (hsw:swapsWith (.ListComp elt [⟨.Name x px,iter,ifs,0⟩] scope pos) (some (.Name y py)) spos.line X.env=pure true) (hs:∀ v,foldedSetIterable iter X.env v=pure v:=by intro _; rfl) :
  PS X (.Assign [.Name y py] (.ListComp elt [⟨.Name x px,iter,ifs,0⟩] scope pos) spos) (BJ i wi tt te):=by
 intro pins s σ H D I h
 rw [exec_Assign_Name_used _ _ _ _ hsw]
 refine wpAny_bind (wpAny_standAt (wpAny_bind ?_))
 show wpAny _ _ (do let _ ← comprehension (.ListComp elt [⟨.Name x px,iter,ifs,0⟩] scope pos) scope X.env _ (newList []) false (eval iter X.env) (some (assign (.Name y py) X.env))) _ _ s
 refine wpAny_bind (wpAny_mono (wpAny_comprehension_free (use:=some (assign (.Name y py) X.env)) (Q:=fun _ s'=>SP X pins D .next s') rfl hs (lH (me I S)) S.kind S.names (thn (hi pins s σ H _ I h) fun v s1 h1=>thn h1 fun itv s2 h2=>?_)) (fun _ _ q=>wpAny_pure (wpAny_pure q)) fun _ _ q=>q)
 obtain ⟨it,fp,tn,J,H2,rfl,I2,T,st2,f2,W,⟨m0,w0⟩,turn⟩:=h2
 have ho:∀ b∈fp,∃ o,s2.heap.get? b=some o:=fun b hb=>let ⟨o,e,_⟩:=T.obj _ _ st2 b hb; ⟨o,e⟩
 refine wpAny_newObj_type (wpAny_newFunctionEnv S.nocell (by intro y hy; simp at hy) (fun h' hns hsb=>?_) S.kind)
 have I4:=ph (x:=x) (scope:=scope) (tk:=s2.toks + ([]:List (Str×Value)).length) I2 S f2 ho hns hsb
 have up3:∀ b o,(s2.heap.push { cls:=.type "list",dict:=none,data:=.seq ([]:List Value).toArray }).get? b=some o→h'.get? b=some o:=fun b o e=>
  (hsb.2 b (Nat.ne_of_lt (Heap.lt_size e))).trans (Heap.get?_push_of_some _ e)
 have st4:tn 0 h':=T.keep _ _ _ st2 fun b _ o e=>up3 b o (Heap.get?_push_of_some _ e)
 have hCs:s2.heap.objs.size≤(s2.heap.push { cls:=.type "list",dict:=none,data:=.seq ([]:List Value).toArray }).objs.size:=by rw [Heap.size_push]; omega
 have hDC:(s2.heap.push { cls:=.type "list",dict:=none,data:=.seq ([]:List Value).toArray }).objs.size≠s2.heap.objs.size:=by rw [Heap.size_push]; omega
 have loop:=pW (elt:=elt) (iter:=iter) (ifs:=ifs) (pos:=pos) (R:=compPost (model X.prog X.w) X.A X.xe (some (assign (.Name y py) X.env)) (fun _ s'=>SP X pins D .next s') (.ref s2.heap.objs.size) (s2.heap.push { cls:=.type "list",dict:=none,data:=.seq ([]:List Value).toArray }).objs.size) (σ':=σ)
  hc S f2 ho rfl T I4 st4 (up3 _ _ (Heap.get?_push_size _ rfl)) (I2.hok.fresh (Nat.le_refl _)) (he _ _ _ _) (ht _ _ _ _) w0 turn fun s5 H5 σ5 ys its n J5 d5 rv e5 hz dn=>by
   have J6:=pf I2 f2 rfl J5 (Heap.SameBut.refl _ _) d5 ⟨its,n,rv,e5⟩ hz
   obtain ⟨m,hn,_⟩:=J5.loc
   refine wpAny_assign_Name (pA (u:=.ref s2.heap.objs.size) J6 hN hi' hy (show RelV (.ref s2.heap.objs.size) _ from rfl) (fun s7 I7 ⟨a,sb,ha⟩=>?_) hf')
   have hCa:(s2.heap.push { cls:=.type "list",dict:=none,data:=.seq ([]:List Value).toArray }).objs.size≠a:=by
    rcases ha with z | z
    ·rw [z]
     exact Nat.ne_of_gt (Nat.lt_of_lt_of_le I2.lt hCs)
    ·obtain ⟨v,q⟩:=I2.cell _ _ z
     exact Nat.ne_of_gt (Nat.lt_of_lt_of_le q.lt hCs)
   have hn5:H5 (s2.heap.push { cls:=.type "list",dict:=none,data:=.seq ([]:List Value).toArray }).objs.size=none:=J5.free
   have fk:=I2.fpOk (b:=(s2.heap.push { cls:=.type "list",dict:=none,data:=.seq ([]:List Value).toArray }).objs.size) (H':=upd H5 s2.heap.objs.size (.lst ys)) hCs (by rw [aK hDC]; exact hn5)
   refine ⟨m,hn.sameBut sb hCa,fun h'' sb2=>⟨_,_,I7.turned (t':=s7.toks) (fun b o hb e=>(sb2.2 b hb).trans e) fk.1 fk.2.1 fk.2.2.2.1 fk.2.2.2.2.1 fk.2.2.2.2.2,dn _ d5⟩⟩
 exact codeAny_compStart_list loop (T.self X.A 0 _ _ _ st4 loop)
end
section
variable {σ:St} {tt:TT} {te:TE}
end
def Its (z:Str):It:=⟨fun i _=>i < z.cps.size,fun i H v H'=>H'=H∧∃ c,z.cps[i]? = some c∧v=.str ⟨#[c]⟩,fun i _=>z.cps.size≤i⟩
theorem qe {P:Program} {w:World} {K:Frag} {tg:Expr} (z:Str) (t:Tok) (ty:String) (it:Addr) (hty:ty = "str_ascii_iterator"∨ty = "str_iterator") :
  Turn P w K tg (Its z) [it] it (fun i h=>h.IsStrIter it ty z t i) where
 mem:=by simp
 obj:=fun i h st b hb=>by
  have e:b=it:=by simpa using hb
  subst e
  obtain ⟨o,e,c,d⟩:=st
  exact ⟨o,e,fun v q=>by rw [d] at q; cases q⟩
 keep:=fun i h h' st k=>let ⟨o,e,r⟩:=st; ⟨o,k it (by simp) o e,r⟩
 item:=by
  intro X hP hw hK hc i pins s σ H E I hf st hg
  subst hP hw hK
  have hi:i < z.cps.size:=hg
  obtain ⟨f0,f1,f2,f3,f4,f5⟩:=hf it (by simp)
  have fin:∀ h',h'.IsStrIter it ty z t (i + 1)→Heap.SameBut it s.heap h'→∃ u,(some (Value.str ⟨#[z.cps[i]]⟩ s.toks):Option Value)=some u ∧
    wpAny (model X.prog X.w) X.A (letOwnedTupleGo tg (.ref it) u) (fun _ s2=>∃ x H',Inv X pins σ H' s2∧RelV x u∧(Its z).yld i H x H'∧s2.heap.IsStrIter it ty z t (i + 1)∧∀ b∈[it],H' b=none) E { s with heap:=h',toks:=s.toks + 1 }:=fun h' st' sb=>by
   have I1:Inv X pins σ H { s with heap:=h',toks:=s.toks + 1 }:=I.turned (fun b o hb e=>(sb.2 b hb).trans e) f0 f1 f3 f4 f5
   obtain ⟨o,e,c,d⟩:=id st'
   refine ⟨_,rfl,jz (s:={ s with heap:=h',toks:=s.toks + 1 }) (n:=ty) e c d ?_ ⟨.str ⟨#[z.cps[i]]⟩,H,I1,⟨_,rfl⟩,⟨rfl,z.cps[i],by simp [hi],rfl⟩,st',fun b hb=>(hf b hb).1⟩⟩
   rcases hty with e | e <;> (rw [e]; decide)
  rcases hty with e | e
  ·subst e
   exact wpAny_pyNext_ascii_item st (c:=z.cps[i]) (by simp [hi]) fin
  ·subst e
   exact wpAny_pyNext_wide_item st (c:=z.cps[i]) (by simp [hi]) fin
 done:=by
  intro X hP hw hK hc i pins s σ H E I hf st hg
  subst hP hw hK
  have hi:z.cps.size≤i:=hg
  obtain ⟨f0,f1,f2,f3,f4,f5⟩:=hf it (by simp)
  have fin:∀ h',Heap.ExtBut it s.heap h'→(none:Option Value)=none∧Inv X pins σ H { s with heap:=h' }:=fun h' eb=>⟨rfl,I.turned (t':=s.toks) (fun b o hb e=>eb b o hb e) f0 f1 f3 f4 f5⟩
  rcases hty with e | e
  ·subst e
   exact wpAny_pyNext_ascii_end (I.ok.hd hc) st (by simp; omega) fin
  ·subst e
   exact wpAny_pyNext_wide_end (I.ok.hd hc) st (by simp; omega) fin
 self:=fun _ _ _ _ _ st h=>by
  rcases hty with e | e
  ·subst e
   exact wpAny_pyIter_striter_ascii st h
  ·subst e
   exact wpAny_pyIter_striter_wide st h
section
variable {X:Cx} {tg:Expr}
end
theorem all_range (bs:List Bool) (n:Nat) (hn:n=bs.length):(List.range n).all (fun i=>bs.getD i false)=bs.all id:=by
 subst hn
 rw [Bool.eq_iff_iff,List.all_eq_true,List.all_eq_true]
 constructor
 ·intro h b hb
  obtain ⟨i,hi,rfl⟩:=List.getElem_of_mem hb
  have:=h i (List.mem_range.mpr hi)
  simpa [List.getD,hi] using this
 ·intro h i hi
  have hi':=List.mem_range.mp hi
  have:=h bs[i] (List.getElem_mem hi')
  simpa [List.getD,hi'] using this
theorem oY:∀ (ns:List Int) (k:Nat),k≤ns.length→preSum (fun i=>ns.getD i 0) k=(ns.take k).sum
 | ns,0,_=>by simp [preSum]
 | ns,k + 1,h=>by
  have hk:k < ns.length:=h
  have ih:=oY ns k (Nat.le_of_lt hk)
  have e:(ns.take (k + 1)).sum=(ns.take k).sum + ns.getD k 0:=by
   rw [List.take_add_one,List.sum_append]
   simp [List.getD,hk]
  rw [e,← ih]
  rfl
section
variable {X:Cx}
theorem yt (hc:X.calm=true):CallR X (.builtin "all") (fun xs H Q=>∃ (p:Addr) (bs:List Bool),xs=[.ref p]∧SqL X.K H p (bs.map V.bl)∧Q (.bl (bs.all id)) H):=by
 intro pins s σ H xs us Q I r h
 obtain ⟨p,bs,rfl,hq,q⟩:=h
 obtain ⟨u,rfl,ru⟩:=vals1 r
 cases ru
 obtain ⟨its,rv,pl,hz⟩:=I.list hq
 have hlen:its.length=bs.length:=by have:=rv.length; simpa using this.symm
 have hlt:p < s.heap.objs.size:=by
  obtain ⟨o,n,e,_⟩:=pl
  exact Heap.lt_size e
 refine call_all_walk (wpAny_pyIter_list pl.isList ?_)
 refine ⟨s.heap.objs.size,_,_,_,_,_,fun i=>bs.getD i false,rfl,Walks.list (A:=X.A.in1) (I.ok.hd hc) _ p (Nat.ne_of_lt hlt) its.toArray,⟨⟨_,Heap.get?_push_size _ rfl,rfl,rfl⟩,?_⟩,fun i v s' Q' E' hv hQ'=>?_,fun h' tk hk=>?_⟩
 ·obtain ⟨o,n,e,r⟩:=pl.isList
  exact ⟨o,Heap.get?_push_of_some _ n,e,r⟩
 ·have hi:i < its.length:=by
   have:=(Array.getElem?_eq_some_iff.mp hv).1
   simpa using this
  have hi2:i < bs.length:=by omega
  obtain ⟨u,hu,ru⟩:=rv.get (i:=i) (x:=.bl bs[i]) (by simp [hi2])
  have e:v=u:=by
   have hv':its[i]? = some v:=by simpa using hv
   rw [hu] at hv'
   exact (Option.some.inj hv').symm
  subst e
  cases (show v=Value.bool bs[i] from ru)
  refine wpAny_truthy_bool ?_
  have e:bs[i]=bs.getD i false:=by simp [List.getD,hi2]
  rw [e]
  exact hQ'
 ·have e:(List.range its.toArray.size).all (fun i=>bs.getD i false)=bs.all id:=all_range bs _ (by simpa using hlen)
  rw [e]
  exact ⟨.bl _,H,I.kept (t':=tk) fun b o q=>hk b o (by simp; exact Nat.ne_of_lt (Heap.lt_size q)) (Heap.get?_push_of_some _ q),rfl,q⟩
theorem rq {ns:List Int} {its:List Value} (rv:Vals (ns.map V.int) its) {i:Nat} {v:Value} (hv:its.toArray[i]? = some v):∃ t,v=.int (ns.getD i 0) t:=by
 have hlen:its.length=ns.length:=by have:=rv.length; simpa using this.symm
 have hi:i < its.length:=by
  have:=(Array.getElem?_eq_some_iff.mp hv).1
  simpa using this
 have hi2:i < ns.length:=by omega
 obtain ⟨u,hu,ru⟩:=rv.get (i:=i) (x:=.int ns[i]) (by simp [hi2])
 have e:v=u:=by
  have hv':its[i]? = some v:=by simpa using hv
  rw [hu] at hv'
  exact (Option.some.inj hv').symm
 subst e
 obtain ⟨t,e⟩:=(show ∃ t,v=Value.int ns[i] t from ru)
 refine ⟨t,?_⟩
 rw [e]
 simp [List.getD,hi2]
theorem yp (hc:X.calm=true):CallR X (.builtin "sum") (fun xs H Q=>∃ (p:Addr) (ns:List Int),xs=[.ref p]∧SqL X.K H p (ns.map V.int)∧Q (.int ns.sum) H):=by
 intro pins s σ H xs us Q I r h
 obtain ⟨p,ns,rfl,hq,q⟩:=h
 obtain ⟨u,rfl,ru⟩:=vals1 r
 cases ru
 obtain ⟨its,rv,pl,hz⟩:=I.list hq
 have hlen:its.length=ns.length:=by have:=rv.length; simpa using this.symm
 have hlt:p < s.heap.objs.size:=by
  obtain ⟨o,n,e,_⟩:=pl
  exact Heap.lt_size e
 refine call_sum_walkG (wpAny_pyIter_list pl.isList ?_)
 refine ⟨s.heap.objs.size,_,_,_,_,_,fun i=>ns.getD i 0,rfl,Walks.list (A:=X.A.in1) (I.ok.hd hc) _ p (Nat.ne_of_lt hlt) its.toArray,⟨⟨_,Heap.get?_push_size _ rfl,rfl,rfl⟩,?_⟩,fun b hb=>?_,fun i v hv=>rq rv hv,fun h' tk t' hk=>?_⟩
 ·obtain ⟨o,n,e,r⟩:=pl.isList
  exact ⟨o,Heap.get?_push_of_some _ n,e,r⟩
 ·rw [Heap.size_push]
  rcases (by simpa using hb:b=s.heap.objs.size∨b=p) with e | e
  ·rw [e]; exact Nat.lt_succ_self _
  ·rw [e]; exact Nat.lt_succ_of_lt hlt
 ·have e:preSum (fun i=>ns.getD i 0) its.toArray.size=ns.sum:=by
   rw [oY ns _ (by simp; omega)]
   rw [List.take_of_length_le (by simp; omega)]
  rw [e]
  exact ⟨.int _,H,I.kept (t':=tk) fun b o q=>hk b o (by simp; exact Nat.ne_of_lt (Heap.lt_size q)) (Heap.get?_push_of_some _ q),⟨t',rfl⟩,q⟩
end
open K1 (di cB)
theorem zp {prog:Program} {w:World} {A:Around} {E:Value→Shared→Prop} {s:Shared} {Q:Value→Shared→Prop} {a b:Int} {t u:Tok} (h:Q (.bool (decide (a > b))) s):wpAny (model prog w) A (richCompare .Gt (.int a t) (.int b u)) Q E s:=
 CmpOf.ints_gt (P:=fun i v=>v=if i=0 then Value.int a t else Value.int b u) (fun i=>if i=0 then a else b) (fun i v hv=>by
  by_cases hi:i=0
  ·exact ⟨t,by rw [hv,if_pos hi,if_pos hi]⟩
  ·exact ⟨u,by rw [hv,if_neg hi,if_neg hi]⟩) 0 1 _ _ s Q E rfl rfl h
section
variable {prog:Program} {w:World} {A:Around} {R:Result→Shared→Prop} {it S:Addr} {fp wr:List Addr} {P:Nat→Value→Prop} {St:Nat→Heap→Prop} {ns:List Int} {kw:List (Str×Value)}
theorem wN (W:Walks prog w A.in1 it fp wr ns.length P St) (hval:∀ i v,P i v→∃ t,v=.int (ns.getD i 0) t) (hSf:S∉fp) :
  ∀ (k j:Nat) (s:Shared) (best:Int) (tb:Tok) (c:Nat),ns.length - j=k→j≤ns.length→St j s.heap →
   s.heap.get? S=some { cls:=.type "list",dict:=none,data:=.seq #[.int best tb,.int best tb] c,slots:=#[] } →
   (∀ h' tk t',(∀ b o,b∉wr→b≠S→s.heap.get? b=some o→h'.get? b=some o)→R (.ok (.ret (.int (di best (ns.drop j)) t'))) { s with heap:=h',toks:=tk }) →
   codeAny (model prog w) A (.builtin "max.loop" ⟨[.ref it,.none,.ref S],kw⟩) R s:=by
 have sw:S∉wr:=fun h=>hSf (W.sub _ h)
 have nm:(toString "max"++toString ".loop" : String) = "max.loop":=by decide
 intro k
 induction k with
 | zero=>
  intro j s best tb c hk hj st hS hR
  have ej:j=ns.length:=by omega
  refine codeAny_builtin F.entry_max_loop ?_
  rw [Around.under_plainId F.plain_max_loop _]
  show wpAny (model prog w) A.in1 (seqItems? (.ref S) >>= _) _ _ s
  refine wpAny_bind (wpAny_seqItems hS rfl ?_)
  show wpAny (model prog w) A.in1 (tryCatch (pyNext (.ref it)) _ >>= _) _ _ s
  refine wpAny_bind (wpAny_tryCatch (W.done s _ _ (ej ▸ st) fun h' tk kk=>?_))
  have hS2:=kk S _ sw hS
  show wpAny (model prog w) A.in1 (updateSeq S (fun _=>#[]) >>= _) _ _ _
  refine wpAny_bind ?_
  refine wpAny_updateSeq hS2 rfl (wpAny_bind (wpAny_letGo (wpAny_pure ?_)))
  have q:=hR (h'.update S (Obj.mapSeq fun _=>#[])) tk tb fun b o h1 h2 e=>(Heap.get?_update_other _ _ (Ne.symm h2)).trans (kk b o h1 e)
  rw [List.drop_eq_nil_of_le (Nat.le_of_eq ej.symm)] at q
  exact q
 | succ k ih=>
  intro j s best tb c hk hj st hS hR
  have hlt:j < ns.length:=by omega
  have ed:ns.drop j=ns.getD j 0::ns.drop (j + 1):=by
   rw [List.drop_eq_getElem_cons hlt]
   simp [List.getD,hlt]
  refine codeAny_builtin F.entry_max_loop ?_
  rw [Around.under_plainId F.plain_max_loop _]
  show wpAny (model prog w) A.in1 (seqItems? (.ref S) >>= _) _ _ s
  refine wpAny_bind (wpAny_seqItems hS rfl ?_)
  show wpAny (model prog w) A.in1 (tryCatch (pyNext (.ref it)) _ >>= _) _ _ s
  refine wpAny_bind (wpAny_tryCatch (W.item j s _ _ hlt st fun v h' tk hP st2 kk=>?_))
  obtain ⟨t,rfl⟩:=hval j v hP
  have hS2:=kk S _ sw hS
  show wpAny (model prog w) A.in1 (tryCatch (holding [Value.int (ns.getD j 0) t,Value.int (ns.getD j 0) t] (richCompare .Gt (Value.int (ns.getD j 0) t) (Value.int best tb) >>= _)) _ >>= _) _ _ _
  refine wpAny_bind (wpAny_tryCatch (wpAny_holding (wpAny_bind (zp ?_))))
  refine wpAny_bind (wpAny_holding (wpAny_truthy_bool ?_))
  refine wpAny_bind (wpAny_letGo (wpAny_pure ?_))
  by_cases hb:ns.getD j 0 > best
  ·rw [decide_eq_true hb]
   simp only [if_true]
   refine wpAny_bind ?_
   refine wpAny_updateSeq hS2 rfl (wpAny_bind (wpAny_letGo ?_))
   rw [nm]
   refine wpAny_pure ⟨plainId_quiet F.plain_max_loop _,ih (j + 1) _ (ns.getD j 0) t _ (by omega) hlt (W.frame _ _ _ st2 fun b hbf o e=>?_) (Heap.get?_update_self _ hS2 rfl) fun h2 tk2 t2 k2=>?_⟩
   ·exact (Heap.get?_update_other _ _ (fun z:S=b=>hSf (by rw [z]; exact hbf))).trans e
   ·have q:=hR h2 tk2 t2 fun b o h1 h3 e=>k2 b o h1 h3 ((Heap.get?_update_other _ _ (Ne.symm h3)).trans (kk b o h1 e))
    rw [ed,di,if_pos hb] at q
    exact q
  ·rw [decide_eq_false hb]
   simp only [Bool.false_eq_true,if_false]
   refine wpAny_bind (wpAny_letGo ?_)
   rw [nm]
   refine wpAny_pure ⟨plainId_quiet F.plain_max_loop _,ih (j + 1) _ best tb c (by omega) hlt st2 hS2 fun h2 tk2 t2 k2=>?_⟩
   have q:=hR h2 tk2 t2 fun b o h1 h3 e=>k2 b o h1 h3 (kk b o h1 e)
   rw [ed,di,if_neg hb] at q
   exact q
theorem vW (W:Walks prog w A.in1 it fp wr ns.length P St) (hval:∀ i v,P i v→∃ t,v=.int (ns.getD i 0) t) (hSf:S∉fp) {s:Shared} {c:Nat} {d:Int} {td:Tok} (st:St 0 s.heap)
  (hS:s.heap.get? S=some { cls:=.type "list",dict:=none,data:=.seq #[] c,slots:=#[] })
  (hR:∀ h' tk t',(∀ b o,b∉wr→b≠S→s.heap.get? b=some o→h'.get? b=some o)→R (.ok (.ret (.int (cB d ns) t'))) { s with heap:=h',toks:=tk }) :
  codeAny (model prog w) A (.builtin "max.loop" ⟨[.ref it,.none,.ref S],[(Str.ofString "default",.int d td)]⟩) R s:=by
 have sw:S∉wr:=fun h=>hSf (W.sub _ h)
 have nm:(toString "max"++toString ".loop" : String) = "max.loop":=by decide
 refine codeAny_builtin F.entry_max_loop ?_
 rw [Around.under_plainId F.plain_max_loop _]
 show wpAny (model prog w) A.in1 (seqItems? (.ref S) >>= _) _ _ s
 refine wpAny_bind (wpAny_seqItems hS rfl ?_)
 show wpAny (model prog w) A.in1 (tryCatch (pyNext (.ref it)) _ >>= _) _ _ s
 cases hn:ns with
 | nil=>
  have e0:ns.length=0:=by rw [hn]; rfl
  refine wpAny_bind (wpAny_tryCatch (W.done s _ _ (by rw [e0]; exact st) fun h' tk kk=>?_))
  refine wpAny_bind (wpAny_rule (wpAny_pure ?_))
  have q:=hR h' tk td fun b o h1 _ e=>kk b o h1 e
  rw [hn] at q
  exact q
 | cons n0 r0=>
  have e0:0 < ns.length:=by rw [hn]; exact Nat.succ_pos _
  refine wpAny_bind (wpAny_tryCatch (W.item 0 s _ _ e0 st fun v h' tk hP st2 kk=>?_))
  obtain ⟨t,rfl⟩:=hval 0 v hP
  have hS2:=kk S _ sw hS
  show wpAny (model prog w) A.in1 (updateSeq S (fun _=>#[Value.int (ns.getD 0 0) t,Value.int (ns.getD 0 0) t]) >>= _) _ _ _
  refine wpAny_bind ?_
  refine wpAny_updateSeq hS2 rfl ?_
  rw [nm]
  refine wpAny_pure ⟨plainId_quiet F.plain_max_loop _,wN W hval hSf _ 1 _ (ns.getD 0 0) t _ rfl e0 (W.frame _ _ _ st2 fun b hbf o e=>?_) (Heap.get?_update_self _ hS2 rfl) fun h2 tk2 t2 k2=>?_⟩
  ·exact (Heap.get?_update_other _ _ (fun z:S=b=>hSf (by rw [z]; exact hbf))).trans e
  ·have q:=hR h2 tk2 t2 fun b o h1 h3 e=>k2 b o h1 h3 ((Heap.get?_update_other _ _ (Ne.symm h3)).trans (kk b o h1 e))
   rw [hn] at q ⊢
   exact q
end
theorem u6 (a v:Value):argsOk "max" ⟨[a],[(Str.ofString "default",v)]⟩:=by unfold argsOk; kernel_rfl
section
variable {X:Cx}
theorem xr (hc:X.calm=true) {pins:List (Addr×Obj)} {s:Shared} {σ:St} {H:Hp} {p:Addr} {ns:List Int} {d:Int} {td:Tok} {Q:VK} (I:Inv X pins σ H s) (hq:SqL X.K H p (ns.map V.int)) (q:Q (.int (cB d ns)) H) :
  wpAny (model X.prog X.w) X.A (call (.builtin "max") [.ref p] [(Str.ofString "default",.int d td)]) (EP X pins σ Q) X.xe s:=by
 obtain ⟨its,rv,pl,hz⟩:=I.list hq
 have hlen:its.length=ns.length:=by have:=rv.length; simpa using this.symm
 have hlt:p < s.heap.objs.size:=by
  obtain ⟨o,n,e,_⟩:=pl
  exact Heap.lt_size e
 have nm:(toString "max"++toString ".loop" : String) = "max.loop":=by decide
 refine kmk_tree PySem.F.kind_max PySem.F.plain_max PySem.F.entry_max (u6 _ _) ?_
 show wpAny (model X.prog X.w) X.A.in1 (Builtin.Builtins.bindParams "max" ["key","default"] 0 ⟨[],[(Str.ofString "default",Value.int d td)]⟩ >>= _) _ _ s
 refine wpAny_bind (wpAny_of_eq (show Builtin.Builtins.bindParams "max" ["key","default"] 0 ⟨[],[(Str.ofString "default",Value.int d td)]⟩=pure [none,some (.int d td)] from rfl) ?_)
 refine wpAny_bind (wpAny_pure ?_)
 refine wpAny_bind (wpAny_pyIter_list pl.isList ?_)
 refine wpAny_bind (wpAny_newObj_type ?_)
 rw [nm]
 have W:=Walks.list (prog:=X.prog) (w:=X.w) (A:=X.A.in1) (I.ok.hd hc) s.heap.objs.size p (Nat.ne_of_lt hlt) its.toArray
 have en:its.toArray.size=ns.length:=by simpa using hlen
 rw [en] at W
 have hS:(s.heap.push { cls:=.type "list_iterator",data:=.fields #[.ref p,.int 0 0] }).objs.size=s.heap.objs.size + 1:=Heap.size_push ..
 have nS:(s.heap.push { cls:=.type "list_iterator",data:=.fields #[.ref p,.int 0 0] }).objs.size∉[s.heap.objs.size,p]:=fun hm=>by
  rw [hS] at hm
  rcases List.mem_cons.mp hm with e | e
  ·exact Nat.succ_ne_self _ e
  ·rw [← List.mem_singleton.mp e] at hlt
   exact absurd hlt (Nat.not_lt_of_le (Nat.le_succ _))
 refine wpAny_pure ⟨plainId_quiet PySem.F.plain_max_loop _,vW W (fun i v hv=>rq rv hv) nS ⟨⟨_,Heap.get?_push_of_some _ (Heap.get?_push_size _ rfl),rfl,rfl⟩,?_⟩ (Heap.get?_push_size _ rfl) fun h' tk t' hk=>?_⟩
 ·obtain ⟨o,n,e,r⟩:=pl.isList
  exact ⟨o,Heap.get?_push_of_some _ (Heap.get?_push_of_some _ n),e,r⟩
 ·exact ⟨.int _,H,I.kept (t':=tk) fun b o z=>hk b o (by simp; exact Nat.ne_of_lt (Heap.lt_size z)) (by rw [hS]; exact Nat.ne_of_lt (Nat.lt_succ_of_lt (Heap.lt_size z))) (Heap.get?_push_of_some _ (Heap.get?_push_of_some _ z)),⟨t',rfl⟩,q⟩
def BF (K:Frag) (te td:TE):TE:=fun σ H Q=>te σ H fun x H1=>∃ x',[x]=[x']∧td σ H1 fun y H2=>∃ p ns d,x'=.ref p∧y=.int d∧SqL K H2 p (ns.map V.int)∧Q (.int (cB d ns)) H2
end
section
variable {X:Cx} {e ed:Expr} {te td:TE} {p pos kpos:Pos}
theorem y9 (hc:X.calm=true) (hg:Gl X "max") (hm:X.mg "max" = none) (ha:PE X e te) (hd:PE X ed td) (hs:starEach [e] X.env=(false,eval e X.env)::starEach [] X.env:=by rfl)
  (h1:backTo pos (starEach [e] X.env)=(false,eval e X.env)::backTo pos (starEach [] X.env):=by rfl)
  (h2:(backTo pos (starEach [e] X.env)).any (·.1)=false:=by rfl) (h3:(backToKw pos (keywordEach [⟨some "default",ed,kpos⟩] X.env)).all (·.1.isSome)=true:=by rfl)
  (h4:(backToKw pos (keywordEach [⟨some "default",ed,kpos⟩] X.env)).any (·.1.isNone)=false:=by rfl) (h5:(backToKw pos (keywordEach [⟨some "default",ed,kpos⟩] X.env)).filterMap (·.1)=[Str.ofString "default"]:=by rfl) :
  PE X (.Call (.Name "max" p) [e] [⟨some "default",ed,kpos⟩] pos) (BF X.K te td):=by
 intro pins s σ H Q I h
 refine wpAny_Call_Name_kw (jg I hg hm boot_max ?_ (by decide) (by decide))
 refine PyProof.Rows.callWith_kw (thn ((bV ha cG hs) pos pins s σ H (fun vs H1=>∃ x,vs=[x]∧td σ H1 fun y H2=>∃ p ns d,x=.ref p∧y=.int d∧SqL X.K H2 p (ns.map V.int)∧Q (.int (cB d ns)) H2) I ?_) fun us s1 ⟨vs,H1,I1,r,x,ex,q⟩=>?_) h1 h2 h3 h4
 ·exact h
 ·subst ex
  obtain ⟨u,rfl,ru⟩:=vals1 r
  refine PyProof.Rows.kws_cons (thn (hd pins s1 σ H1 _ I1 q) fun v s2 ⟨y,H2,I2,r2,q2⟩=>PyProof.Rows.kws_nil ?_)
  obtain ⟨p,ns,d,rfl,rfl,hq,q⟩:=q2
  cases ru
  obtain ⟨t,rfl⟩:=r2
  rw [h5]
  exact xr hc I2 hq q
end
section
variable {X:Cx}
theorem wH:OpR X (compareOp .IsNot) (fun x y H Q=>∃ b c,x=.bl b∧y=.bl c∧Q (.bl (b != c)) H):=by
 intro pins s σ H x y v u Q I rx ry h
 obtain ⟨b,c,rfl,rfl,q⟩:=h
 cases rx
 cases ry
 exact isnot_bool ⟨.bl (b != c),H,I,rfl,q⟩
theorem op_catG:OpR X (binaryOp .Add) (fun x y H Q=>∃ a b xs ys,x=.ref a∧y=.ref b∧SqT X.K H a xs∧SqT X.K H b ys∧xs.length + ys.length≤sizeLine ∧
  (xs=[]→Q (.ref b) H)∧(xs≠[]→ys=[]→Q (.ref a) H)∧(xs≠[]→ys≠[]→∀ p,H p=none→Q (.ref p) (upd H p (.tup (xs++ys))))):=by
 intro pins s σ H x y v u Q I rx ry h
 obtain ⟨a,b,xs,ys,rfl,rfl,ha,hb,hz,q0,q1,q2⟩:=h
 by_cases hx:xs=[]
 ·cases rx
  cases ry
  obtain ⟨its,r1,p1,_⟩:=I.tuple ha
  obtain ⟨its2,r2,p2,_⟩:=I.tuple hb
  have hv:its=[]:=r1.nil_iff.mpr hx
  obtain ⟨⟨cls,dd,data,sl⟩,ho,hc,n,hd⟩:=id p1
  obtain ⟨⟨cls2,dd2,data2,sl2⟩,ho2,hc2,n2,hd2⟩:=id p2
  simp only at hc hd hc2 hd2
  subst hc hd hc2 hd2
  exact concat_meets ⟨_,ho,rfl⟩ ⟨_,ho2,rfl⟩ noFill_tuple_add seq_tuple_add PySem.F.slot_tuple_add PySem.F.entry_tuple_add (PySem.F.args_tuple_add_2 _ _)
   (tuple_addW0 a b its.toArray its2.toArray n n2 dd dd2 sl sl2 (by simp [hv])) ⟨ho,ho2,⟨.ref b,H,I,rfl,q0 hx⟩⟩
 ·exact zh pins s σ H _ _ v u Q I rx ry ⟨a,b,xs,ys,rfl,rfl,ha,hb,hx,hz,q1 hx,q2 hx⟩
theorem Av:SlR X (fun x lo hi H Q=>∃ z:Str,x=.str z∧z.length≤sizeLine∧Q (.str (Txt.slice z lo hi)) H):=by
 intro pins s σ H x v vl vu lo hi sl Q I rx hs pl pu h
 obtain ⟨z,rfl,hz,q⟩:=h
 obtain ⟨t,rfl⟩:=rx
 have fin:∀ l u:Option (Int×Tok),l.map (·.1)=lo→u.map (·.1)=hi→s.heap.IsSlice sl l u none→wpAny (model X.prog X.w) X.A (getItem (.str z t) (.ref sl)) (EP X pins σ Q) X.xe s:=fun l u el eu h=>by
  refine wpAny_getItem_str_slice h rfl ?_
  refine post_val_or_made (fun _=>?_) fun t' k=>?_
  ·have:=sliceIndices_le (l.map (·.1)) (u.map (·.1)) z.length
   have e:=List.length_filterMap_le (fun i=>z.cps[i]?) (slicePicked z l u none)
   show ((slicePicked z l u none).filterMap (z.cps[·]?)).toArray.size≤sizeLine
   rw [List.size_toArray]
   unfold slicePicked at e ⊢
   simp only [Option.map_none,Option.getD_none] at e ⊢
   omega
  ·refine ⟨.str (Txt.slice z lo hi),H,I.tok _,⟨t',?_⟩,q⟩
   rw [← el,← eu]
   rfl
 refine ⟨"str",_,PySem.F.slot_str_getitem.lookup,typeIs_str s z t,?_⟩
 cases pl with
 | none=>
  cases pu with
  | none=>exact fin none none rfl rfl hs
  | int j u=>exact fin none (some (j,u)) rfl rfl hs
 | int i u=>
  cases pu with
  | none=>exact fin (some (i,u)) none rfl rfl hs
  | int j u'=>exact fin (some (i,u)) (some (j,u')) rfl rfl hs
theorem wx {z:Str} {lo hi:Option Int} {c:Nat} (h:c∈(Txt.slice z lo hi).cps.toList):c∈z.cps.toList:=by
 unfold Txt.slice at h
 split at h
 ·exact h
 ·obtain ⟨i,_,hi⟩:=List.mem_filterMap.mp (by simpa using h)
  have:=Array.mem_of_getElem? hi
  simpa using this
theorem op_mulS:OpR X (binaryOp .Mult) (fun x y H Q=>∃ z k,x=.str z∧y=.int k∧0≤k∧k≤2000∧z.length≤1000∧Q (.str (Txt.mul z k)) H):=by
 intro pins s σ H x y v u Q I rx ry h
 obtain ⟨z,k,rfl,rfl,h1,h2,h3,q⟩:=h
 obtain ⟨t,rfl⟩:=rx
 obtain ⟨t',rfl⟩:=ry
 have hm:z.length * k.toNat≤1000 * 2000:=Nat.mul_le_mul h3 (by omega)
 refine SB.mul ⟨?_,fun g1 g2=>?_,fun g1 g2=>?_⟩ fun t' k'=>⟨.str _,H,I.tok _,⟨t',rfl⟩,q⟩
 ·simp; omega
 ·have hk:1≤k:=by simp at g1; omega
  have e1:(1000:Int)≤(2 ^ 63 - 1) / k:=by
   rw [Int.le_ediv_iff_mul_le (by omega)]
   omega
  omega
 ·unfold Builtin.Str.tooLong
  simp [sizeLine]
  omega
end
theorem oV {ys:List Str}:∀ {us:List Value},Vals (ys.map V.str) us→StrsAre us ys:=by
 induction ys with
 | nil=>intro us r; rw [List.map_nil] at r; cases r; exact .nil
 | cons y ys ih=>
  intro us r
  rw [List.map_cons] at r
  cases r with
  | cons r1 r2=>
   obtain ⟨t,e⟩:=r1
   subst e
   exact .cons y t (ih r2)
section
variable {X:Cx}
end
structure Fn (P:Program) (w:World) (K:Frag) (mg:Str→Option Value) (base:Heap) (name:Str) (ps:List Str) (k:Nat) (sp:Sp):Prop where
 ex:∃ f fd,FnOk P w K mg base CX0 k f fd ps sp∧Binds K fd ps []∧PySem.W.keepIn K (.ref f)=true∧mg name=some (.ref f)
section
variable {X:Cx} {name:Str} {ps:List Str} {k:Nat} {sp:Sp} {e:Expr} {es:List Expr} {t:TA} {p pos:Pos}
theorem fQ (F:Fn X.prog X.w X.K X.mg X.base name ps k sp) (hr:Room k X.A) (hg:Gl X name) (ha:PA X (e::es) t) (hdb:(name == ("__debug__" : Str))=false:=by decide)
  (he:starEach (e::es) X.env=(false,eval e X.env)::starEach es X.env:=by rfl) (hpl:(backTo pos (starEach es X.env)).any (·.1)=false:=by rfl):PE X (.Call (.Name name p) (e::es) [] pos) (sY sp [] E0 t):=by
 obtain ⟨f,fd,h1,h2,h3,h4⟩:=F.ex
 exact zc h1 hr hg h4 h3 h2 .nil BX ha hdb he hpl
end
theorem xM {X:Cx} {x:Str} {scope osc:Scope} {N N':List Str} {elt iter:Expr} {ifs:List Expr} {px pos:Pos} {wi:TI} {te:TE} {tt:TT} (S:CS osc N x scope N') (hi:PI X (.Name x px) iter wi)
  (he:∀ C s0 H0 ex,PE (b8 X x scope C s0 H0 ex N') elt te) (ht:∀ C s0 H0 ex,PTs (b8 X x scope C s0 H0 ex N') ifs tt) (hc:X.calm=true:=by rfl) (hs:X.env.scope=osc:=by rfl) (hN:X.N=N:=by rfl)
  (hf:∀ v,foldedSetIterable iter X.env v=pure v:=by intro _; rfl):PE X (.ListComp elt [⟨.Name x px,iter,ifs,0⟩] scope pos) (sX wi tt te):=by
 subst hs hN
 exact za hc S hi he ht hf
end L2
namespace D
open PySem PySem.Spec PyProof.Rows L2
inductive Gh (P:Hp→Prop):Hp→Prop where
 | done {H:Hp}:P H→Gh P H
 | frz {H:Hp} {a:Addr} {kvs:List (Key×V)}:H a=some (.dK kvs)→(∀ o,Gh P (upd H a (.frz o (.dK kvs))))→Gh P H
theorem Gh.imp {P P':Hp→Prop} {H:Hp} (g:Gh P H) (i:∀ H,P H→P' H):Gh P' H:=by
 induction g with
 | done h=>exact .done (i _ h)
 | frz e _ ih=>exact .frz e ih
section
variable {X:Cx} {pins:List (Addr×Obj)} {σ:L2.St} {H:Hp} {s:Shared}
theorem rp (I:Inv X pins σ H s) {a:Addr} {kvs:List (Key×V)} (e:H a=some (.dK kvs)):∃ o,Inv X pins σ (upd H a (.frz o (.dK kvs))) s:=by
 obtain ⟨z,y,vs,kv,o,es,ep,eo,r⟩:=I.hok a _ e
 have U:∀ {b:Addr} {u:HO},H b=some u→(∀ ks,u≠.dK ks)→upd H a (.frz o (.dK kvs)) b=some u:=fun {b u} q n=>by
  rw [aK (fun z=>by subst z; rw [e] at q; cases q; exact n _ rfl)]
  exact q
 have hok:HOk X.prog X.w (upd H a (.frz o (.dK kvs))) s.heap:=fun b u q=>by
  by_cases hb:b=a
  ·subst hb
   rw [br] at q
   cases q
   exact ⟨eo,(I.hok b _ e).stay (fun _ _ _ q=>q) (fun c q=>U q (fun _ z=>nomatch z)) fun c xs q=>U q (fun _ z=>nomatch z)⟩
  ·rw [aK hb] at q
   exact (I.hok b u q).stay (fun _ _ _ q=>q) (fun c q=>U q (fun _ z=>nomatch z)) fun c xs q=>U q (fun _ z=>nomatch z)
 exact ⟨o,I.un (h':=s.heap) (t':=s.toks) ⟨fun b ob q n _ _=>q,fun b ob q n _ _=>⟨_,q⟩,fun b ob q n _=>by rw [aK (fun z=>by subst z; rw [e] at n; cases n)]; exact n,fun b ob q _=>⟨_,q⟩,fun b xs q=>U q (fun _ z=>nomatch z),
  fun b ob u q=>U q (fun _ z=>nomatch z),fun b ps q=>⟨#[],by rw [U q (fun _ z=>nomatch z)]; simp⟩⟩ hok⟩
theorem Gh.ok {P:Hp→Prop} (g:Gh P H) (I:Inv X pins σ H s):∃ H',Inv X pins σ H' s∧P H':=by
 induction g with
 | done h=>exact ⟨_,I,h⟩
 | frz e _ ih=>
  obtain ⟨o,I'⟩:=rp I e
  exact ih o I'
end
section
variable {X:Cx}
theorem BR {st:Stmt} {t:TS} (h:PS X st t):PS X st (fun D σ H=>Gh (t D σ) H):=fun pins s σ H D I q=>by
 obtain ⟨H',I',q'⟩:=q.ok I
 exact h pins s σ H' D I' q'
theorem AE {st:List Stmt} {t:TS} (h:PSs X st t):PSs X st (fun D σ H=>Gh (t D σ) H):=fun pins s σ H D I q=>by
 obtain ⟨H',I',q'⟩:=q.ok I
 exact h pins s σ H' D I' q'
end
def f9 (o:Obj):Nat:=match o.data with
 | .dict _ ep=>ep
 | _=>0
def Itd (a:Addr) (o:Obj) (kvs:List (Key×V)):It:=⟨fun i H=>H a=some (.frz o (.dK kvs))∧i < kvs.length,fun i H x H'=>H'=H∧∃ k v,kvs[i]? = some (k,v)∧x=kV k,fun i H=>H a=some (.frz o (.dK kvs))∧i=kvs.length⟩
theorem gr {P:Program} {w:World} {H:Hp} {h:Heap} {a:Addr} {o:Obj} {kvs:List (Key×V)} (ok:HOk P w H h) (e:H a=some (.frz o (.dK kvs))):kvs.length≤sizeLine∧(a == sysModules)=false∧∃ vs,KV kvs vs∧h.DictAt (bt P w) a vs (f9 o):=by
 obtain ⟨e1,z,y,vs,kv,o',es,ep,e2,ed,dd,r⟩:=ok a _ e
 rw [e1] at e2
 cases e2
 refine ⟨z,y,vs,kv,o,es,e1,ed,?_,r⟩
 unfold f9
 rw [dd]
theorem ou {P:Program} {w:World} {k:Key} {v:Value} (e:(bt P w).is k v=true):RelV (kV k) v:=by
 rcases dv (show dR k v=true from e) with ⟨i,t,rfl,rfl⟩ | ⟨x,t,rfl,rfl⟩
 ·exact ⟨t,rfl⟩
 ·exact ⟨t,rfl⟩
theorem Cg {kvs:List (Key×V)} {vs:List (Key×Value)} (r:KV kvs vs) {i:Nat} {k:Key} {x:Value} (e:vs[i]? = some (k,x)):∃ v,kvs[i]? = some (k,v):=by
 have h:=r.keys
 have h1:(vs.map (·.1))[i]? = some k:=by rw [List.getElem?_map,e]; rfl
 rw [← h,List.getElem?_map] at h1
 cases q:kvs[i]? with
 | none=>rw [q] at h1; cases h1
 | some p=>
  rw [q] at h1
  cases h1
  exact ⟨p.2,rfl⟩
theorem wm {P:Program} {w:World} {K:Frag} {tg:Expr} (a it:Addr) (o:Obj) (kvs:List (Key×V)):Turn P w K tg (Itd a o kvs) [it] it (fun i h=>h.IsKeyIter it a i kvs.length (f9 o)) where
 mem:=by simp
 obj:=fun i h st b hb=>by
  have e:b=it:=by simpa using hb
  subst e
  obtain ⟨o,e,c,d⟩:=st
  exact ⟨o,e,fun v z=>by rw [d] at z; cases z⟩
 keep:=fun i h h' st k=>st.at fun o e=>k it (by simp) o e
 item:=by
  intro X hP hw hK hc i pins s σ H E I hf st hg
  subst hP hw hK
  obtain ⟨hg1,hg2⟩:=hg
  obtain ⟨z,y,vs,kv,dd⟩:=gr I.hok hg1
  obtain ⟨f0,f1,f2,f3,f4,f5⟩:=hf it (by simp)
  have hl:=kv.length
  have ne:a≠it:=fun q=>by rw [q,f0] at hg1; cases hg1
  have W:=Walks.dictKeys (prog:=X.prog) (w:=X.w) (knd:=bt X.prog X.w) (I.ok.hd hc) it a ne vs (f9 o)
  refine W.item i s _ _ (by omega) ⟨by rw [← hl]; exact st,dd⟩ fun v h' tk hv st' kk=>?_
  obtain ⟨k,x,h1,h2⟩:=hv
  have I1:Inv X pins σ H { s with heap:=h',toks:=tk }:=I.turned (fun b o hb e=>kk b o (by simpa using hb) e) f0 f1 f3 f4 f5
  have st1:h'.IsKeyIter it a (i + 1) kvs.length (f9 o):=by rw [hl]; exact st'.1
  obtain ⟨o1,e1,c1,d1⟩:=id st1
  obtain ⟨v0,h3⟩:=Cg kv h1
  exact ⟨v,rfl,jz (s:={ s with heap:=h',toks:=tk }) e1 c1 d1 (by decide) ⟨kV k,H,I1,ou h2,⟨rfl,k,v0,h3,rfl⟩,st1,fun b hb=>(hf b hb).1⟩⟩
 done:=by
  intro X hP hw hK hc i pins s σ H E I hf st hg
  subst hP hw hK
  obtain ⟨hg1,hg2⟩:=hg
  obtain ⟨z,y,vs,kv,dd⟩:=gr I.hok hg1
  obtain ⟨f0,f1,f2,f3,f4,f5⟩:=hf it (by simp)
  have hl:=kv.length
  have ne:a≠it:=fun q=>by rw [q,f0] at hg1; cases hg1
  have W:=Walks.dictKeys (prog:=X.prog) (w:=X.w) (knd:=bt X.prog X.w) (I.ok.hd hc) it a ne vs (f9 o)
  refine W.done s _ _ ⟨by rw [← hl,← hg2]; rw [← hg2] at st; exact st,dd⟩ fun h' tk kk=>⟨rfl,I.turned (fun b o hb e=>kk b o (by simpa using hb) e) f0 f1 f3 f4 f5⟩
 self:=fun _ _ _ _ _ st h=>wpAny_pyIter_keyiter st h
inductive W where
 | d (x:PyData) | tp (i:Nat) | loc (x:PyData)
abbrev Tp:=List (List PyData)
abbrev Rho:=List (Option W)
noncomputable def bnd {α β:Type} (o:Option (α×Tp)) (k:α→Tp→Option β):Option β:=match o with
 | some (a,T)=>k a T
 | none=>none
theorem aG {α β:Type} {o:Option (α×Tp)} {k:α→Tp→Option β} {b:β} (h:bnd o k=some b):∃ a T,o=some (a,T)∧k a T=some b:=by
 cases o with
 | none=>cases h
 | some p=>exact ⟨p.1,p.2,rfl,h⟩
theorem Bv {α β:Type} {a:α} {T:Tp} {k:α→Tp→Option β}:bnd (some (a,T)) k=k a T:=rfl
def cV:Key→PyData
 | .inl i=>.int i
 | .inr x=>.str x
def TupAt (K:Frag) (O:Addr→Prop) (H:Hp) (a:Addr) (vs:List V):Prop:=(¬ O a∧Rd H a (.tup vs))∨SqT K (fun _=>none) a vs
def LstAt (K:Frag) (O:Addr→Prop) (H:Hp) (a:Addr) (vs:List V):Prop:=(¬ O a∧Rd H a (.lst vs))∨SqL K (fun _=>none) a vs
theorem Ar {K:Frag} {H:Hp} {a:Addr} {vs:List V} (h:SqT K (fun _=>none) a vs):SqT K H a vs:=by
 rcases h with (h | ⟨o,h⟩) | h
 ·cases h
 ·cases h
 ·exact .inr h
theorem As {K:Frag} {H:Hp} {a:Addr} {vs:List V} (h:SqL K (fun _=>none) a vs):SqL K H a vs:=by
 rcases h with (h | ⟨o,h⟩) | h
 ·cases h
 ·cases h
 ·exact .inr h
theorem TupAt.sq {K:Frag} {O:Addr→Prop} {H:Hp} {a:Addr} {vs:List V} (h:TupAt K O H a vs):SqT K H a vs:=by
 rcases h with h | h
 ·exact .inl h.2
 ·exact Ar h
theorem LstAt.sq {K:Frag} {O:Addr→Prop} {H:Hp} {a:Addr} {vs:List V} (h:LstAt K O H a vs):SqL K H a vs:=by
 rcases h with h | h
 ·exact .inl h.2
 ·exact As h
mutual
inductive Rep (K:Frag) (O:Addr→Prop) (H:Hp):V→PyData→Prop where
 | non:Rep K O H .non .none
 | bl (b:Bool):Rep K O H (.bl b) (.bool b)
 | int (i:Int):Rep K O H (.int i) (.int i)
 | str (x:Str):Rep K O H (.str x) (.str x)
 | tup {a:Addr} {vs:List V} {ds:List PyData}:TupAt K O H a vs→Reps K O H vs ds→Rep K O H (.ref a) (.tuple ds)
 | lst {a:Addr} {vs:List V} {ds:List PyData}:LstAt K O H a vs→Reps K O H vs ds→Rep K O H (.ref a) (.list ds)
 | dct {a:Addr} {o:Obj} {kvs:List (Key×V)} {ds:List (PyData×PyData)}:¬ O a→H a=some (.frz o (.dK kvs))→RepK K O H kvs ds→Rep K O H (.ref a) (.dict ds)
inductive Reps (K:Frag) (O:Addr→Prop) (H:Hp):List V→List PyData→Prop where
 | nil:Reps K O H [] []
 | cons {v:V} {d:PyData} {vs:List V} {ds:List PyData}:Rep K O H v d→Reps K O H vs ds→Reps K O H (v::vs) (d::ds)
inductive RepK (K:Frag) (O:Addr→Prop) (H:Hp):List (Key×V)→List (PyData×PyData)→Prop where
 | nil:RepK K O H [] []
 | cons {k:Key} {v:V} {d:PyData} {kvs:List (Key×V)} {ds:List (PyData×PyData)}:Rep K O H v d→RepK K O H kvs ds→RepK K O H ((k,v)::kvs) ((cV k,d)::ds)
end
def Le (O:Addr→Prop) (H:Hp) (O':Addr→Prop) (H':Hp):Prop:=∀ a o,¬ O a→H a=some o→¬ O' a∧H' a=some o
theorem Le.trans {O O1 O2:Addr→Prop} {H H1 H2:Hp} (h:Le O H O1 H1) (g:Le O1 H1 O2 H2):Le O H O2 H2:=fun a o n e=>let ⟨n1,e1⟩:=h a o n e; g a o n1 e1
theorem TupAt.mono {K:Frag} {O O':Addr→Prop} {H H':Hp} (h:Le O H O' H') {a:Addr} {vs:List V} (t:TupAt K O H a vs):TupAt K O' H' a vs:=by
 rcases t with ⟨n,t | ⟨o,t⟩⟩ | t
 ·exact .inl ⟨(h _ _ n t).1,.inl (h _ _ n t).2⟩
 ·exact .inl ⟨(h _ _ n t).1,.inr ⟨o,(h _ _ n t).2⟩⟩
 ·exact .inr t
theorem LstAt.mono {K:Frag} {O O':Addr→Prop} {H H':Hp} (h:Le O H O' H') {a:Addr} {vs:List V} (t:LstAt K O H a vs):LstAt K O' H' a vs:=by
 rcases t with ⟨n,t | ⟨o,t⟩⟩ | t
 ·exact .inl ⟨(h _ _ n t).1,.inl (h _ _ n t).2⟩
 ·exact .inl ⟨(h _ _ n t).1,.inr ⟨o,(h _ _ n t).2⟩⟩
 ·exact .inr t
mutual
theorem Rep.mono {K:Frag} {O O':Addr→Prop} {H H':Hp} (e:Le O H O' H'):∀ {v:V} {d:PyData},Rep K O H v d→Rep K O' H' v d
 | _,_,.non=>.non
 | _,_,.bl b=>.bl b
 | _,_,.int i=>.int i
 | _,_,.str x=>.str x
 | _,_,.tup t r=>.tup (t.mono e) (Reps.mono e r)
 | _,_,.lst t r=>.lst (t.mono e) (Reps.mono e r)
 | _,_,.dct n h r=>.dct (e _ _ n h).1 (e _ _ n h).2 (RepK.mono e r)
theorem Reps.mono {K:Frag} {O O':Addr→Prop} {H H':Hp} (e:Le O H O' H'):∀ {vs:List V} {ds:List PyData},Reps K O H vs ds→Reps K O' H' vs ds
 | _,_,.nil=>.nil
 | _,_,.cons r t=>.cons (Rep.mono e r) (Reps.mono e t)
theorem RepK.mono {K:Frag} {O O':Addr→Prop} {H H':Hp} (e:Le O H O' H'):∀ {vs:List (Key×V)} {ds:List (PyData×PyData)},RepK K O H vs ds→RepK K O' H' vs ds
 | _,_,.nil=>.nil
 | _,_,.cons r t=>.cons (Rep.mono e r) (RepK.mono e t)
end
section
variable {K:Frag} {O:Addr→Prop} {H:Hp}
theorem Reps.length:∀ {vs:List V} {ds:List PyData},Reps K O H vs ds→vs.length=ds.length
 | _,_,.nil=>rfl
 | _,_,.cons _ t=>congrArg (· + 1) (Reps.length t)
theorem Reps.get:∀ {vs:List V} {ds:List PyData} {i:Nat} {v:V},Reps K O H vs ds→vs[i]? = some v→∃ d,ds[i]? = some d∧Rep K O H v d
 | _,_,_,_,.nil,e=>by simp at e
 | _,_,0,_,.cons r _,e=>by simp at e; subst e; exact ⟨_,rfl,r⟩
 | _,_,i + 1,v,.cons _ t,e=>by
  obtain ⟨d,h1,h2⟩:=Reps.get (i:=i) (v:=v) t (by simpa using e)
  exact ⟨d,by simpa using h1,h2⟩
theorem Reps.getD:∀ {vs:List V} {ds:List PyData} {i:Nat} {d:PyData},Reps K O H vs ds→ds[i]? = some d→∃ v,vs[i]? = some v∧Rep K O H v d
 | _,_,_,_,.nil,e=>by simp at e
 | _,_,0,_,.cons r _,e=>by simp at e; subst e; exact ⟨_,rfl,r⟩
 | _,_,i + 1,v,.cons _ t,e=>by
  obtain ⟨d,h1,h2⟩:=Reps.getD (i:=i) (d:=v) t (by simpa using e)
  exact ⟨d,by simpa using h1,h2⟩
theorem Reps.set {v:V} {d:PyData} (r:Rep K O H v d):∀ {vs:List V} {ds:List PyData} (i:Nat),Reps K O H vs ds→Reps K O H (vs.set i v) (ds.set i d)
 | _,_,_,.nil=>.nil
 | _,_,0,.cons _ t=>.cons r t
 | _,_,i + 1,.cons q t=>.cons q (Reps.set r i t)
theorem Reps.append {ws:List V} {es:List PyData}:∀ {vs:List V} {ds:List PyData},Reps K O H vs ds→Reps K O H ws es→Reps K O H (vs++ws) (ds++es)
 | _,_,.nil,r=>r
 | _,_,.cons q t,r=>.cons q (Reps.append t r)
theorem Reps.take:∀ {vs:List V} {ds:List PyData} (n:Nat),Reps K O H vs ds→Reps K O H (vs.take n) (ds.take n)
 | _,_,0,_=>.nil
 | _,_,_ + 1,.nil=>.nil
 | _,_,n + 1,.cons r t=>.cons r (Reps.take n t)
theorem Reps.drop:∀ {vs:List V} {ds:List PyData} (n:Nat),Reps K O H vs ds→Reps K O H (vs.drop n) (ds.drop n)
 | _,_,0,r=>r
 | _,_,_ + 1,.nil=>.nil
 | _,_,n + 1,.cons _ t=>Reps.drop n t
theorem Reps.rep {vs:List V} {ds:List PyData} (r:Reps K O H vs ds):∀ n:Nat,Reps K O H (List.replicate n vs).flatten (List.replicate n ds).flatten
 | 0=>.nil
 | n + 1=>by
  rw [List.replicate_succ,List.replicate_succ,List.flatten_cons,List.flatten_cons]
  exact r.append (r.rep n)
end
def SameX (ts:List Addr) (H H':Hp):Prop:=∀ b o,b∉ts→H b=some o→H' b=some o
theorem SameX.refl (ts:List Addr) (H:Hp):SameX ts H H:=fun _ _ _ h=>h
theorem SameX.trans {ts:List Addr} {H H1 H2:Hp} (a:SameX ts H H1) (b:SameX ts H1 H2):SameX ts H H2:=fun c o n h=>b c o n (a c o n h)
theorem SameX.new {ts:List Addr} {H:Hp} {p:Addr} (h:H p=none) (o:HO):SameX ts H (upd H p o):=fun b u _ q=>by rw [aK (c6 q h)]; exact q
def Mut (o:Option HO):Prop:=(∃ vs,o=some (.lst vs))∨(∃ kvs,o=some (.dK kvs))∨∃ C dx fs,o=some (.ins C dx fs)
theorem Mut.ex {o:Option HO} (h:Mut o):∃ u,o=some u:=by rcases h with ⟨vs,e⟩ | ⟨vs,e⟩ | ⟨C,dx,fs,e⟩ <;> exact ⟨_,e⟩
theorem Mut.to {o o':Option HO} (h:Mut o) (k:∀ u,o=some u→o'=some u):Mut o':=by
 rcases h with ⟨vs,e⟩ | ⟨vs,e⟩ | ⟨C,dx,fs,e⟩
 ·exact .inl ⟨vs,k _ e⟩
 ·exact .inr (.inl ⟨vs,k _ e⟩)
 ·exact .inr (.inr ⟨C,dx,fs,k _ e⟩)
def CA (C:Addr):PyData:=.dict [(.none,.int (C:Int))]
def isO:List PyData→Bool
 | .dict [(.none,_)]::_=>true
 | _=>false
def pairF (p:Str×PyData):PyData:=.tuple [.str p.1,p.2]
inductive RepF (K:Frag) (O:Addr→Prop) (H:Hp):List (Str×V)→List (Str×PyData)→Prop where
 | nil:RepF K O H [] []
 | cons {n:Str} {v:V} {d:PyData} {vs:List (Str×V)} {ds:List (Str×PyData)}:Rep K O H v d→RepF K O H vs ds→RepF K O H ((n,v)::vs) ((n,d)::ds)
theorem RepF.mono {K:Frag} {O O':Addr→Prop} {H H':Hp} (e:Le O H O' H') {vs:List (Str×V)} {ds:List (Str×PyData)} (r:RepF K O H vs ds):RepF K O' H' vs ds:=by
 induction r with
 | nil=>exact .nil
 | cons r _ ih=>exact .cons (Rep.mono e r) ih
def RowAt (K:Frag) (O:Addr→Prop) (H:Hp) (a:Addr) (xs:List PyData):Prop:=(isO xs=false∧∃ vs,H a=some (.lst vs)∧Reps K O H vs xs)∨∃ C dx fs fd,H a=some (.ins C dx fs)∧xs=CA C::fd.map pairF∧RepF K O H fs fd
theorem RowAt.mono {K:Frag} {O O':Addr→Prop} {H H':Hp} {a:Addr} {xs:List PyData} (h:RowAt K O H a xs) (k:∀ o,H a=some o→H' a=some o) (l:Le O H O' H'):RowAt K O' H' a xs:=by
 rcases h with ⟨n,vs,h1,h2⟩ | ⟨C,dx,fs,fd,h1,h2,h3⟩
 ·exact .inl ⟨n,vs,k _ h1,h2.mono l⟩
 ·exact .inr ⟨C,dx,fs,fd,k _ h1,h2,h3.mono l⟩
theorem RowAt.lst {K:Frag} {O:Addr→Prop} {H:Hp} {a:Addr} {xs:List PyData} (h:RowAt K O H a xs) (n:isO xs=false):∃ vs,H a=some (.lst vs)∧Reps K O H vs xs:=by
 rcases h with ⟨_,h⟩ | ⟨C,dx,fs,fd,h1,h2,h3⟩
 ·exact h
 ·rw [h2] at n
  cases n
theorem yM {K:Frag} {O:Addr→Prop} {H:Hp} {v:V} {y:PyData} (h:Rep K O H v (.dict [(.none,y)])):False:=by
 cases h with
 | dct _ _ r=>
  generalize hl:[(PyData.none,y)]=l at r
  cases r with
  | nil=>cases hl
  | @cons k _ _ _ _ _ _=>
   injection hl with h1 _
   injection h1 with h1 _
   rcases k with i | x
   ·cases h1
   ·cases h1
theorem Reps.notO {K:Frag} {O:Addr→Prop} {H:Hp} {vs:List V} {xs:List PyData} (r:Reps K O H vs xs):isO xs=false:=by
 cases r with
 | nil=>rfl
 | cons h _=>
  rename_i d _ _ _
  unfold isO
  split
  ·rename_i e
   cases e
   exact (yM h).elim
  ·rfl
structure HC (K:Frag) (O:Addr→Prop) (ts:List Addr) (H:Hp) (T:Tp):Prop where
 own:∀ b∈ts,O b
 trk:∀ b,O b→Mut (H b)
 nd:ts.Nodup
 len:ts.length=T.length
 tape:∀ (i:Nat) (a:Addr) (xs:List PyData),ts[i]? = some a→T[i]? = some xs→RowAt K O H a xs
section
variable {K:Frag} {O:Addr→Prop} {ts:List Addr} {H H':Hp} {T:Tp}
theorem HC.le (c:HC K O ts H T) (s:SameX ts H H'):Le O H O H':=fun a o n e=>⟨n,s a o (fun z=>n (c.own a z)) e⟩
theorem HC.step (c:HC K O ts H T) (s:SameX ts H H') (t:∀ b∈ts,H' b=H b):HC K O ts H' T where
 own:=c.own
 trk:=fun b hb=>by
  by_cases z:b∈ts
  ·rw [t b z]; exact c.trk b hb
  ·exact (c.trk b hb).to fun u e=>s b _ z e
 nd:=c.nd
 len:=c.len
 tape:=fun i a xs e1 e2=>by
  exact (c.tape i a xs e1 e2).mono (fun o h1=>by rw [t a (List.mem_of_getElem? e1)]; exact h1) (c.le s)
theorem HC.fresh (c:HC K O ts H T) {p:Addr} (h:H p=none):¬ O p:=fun z=>by
 obtain ⟨u,e⟩:=(c.trk p z).ex
 rw [h] at e
 cases e
theorem HC.new (c:HC K O ts H T) {p:Addr} (h:H p=none) (o:HO):HC K O ts (upd H p o) T:=c.step (.new h o) fun b hb=>aK fun z=>c.fresh h (z ▸ c.own b hb)
theorem HC.leNew (c:HC K O ts H T) {p:Addr} (h:H p=none) (o:HO):Le O H O (upd H p o):=c.le (.new h o)
theorem HC.newT (c:HC K O ts H T) {p:Addr} (h:H p=none) {vs:List V} {ds:List PyData} (r:Reps K O H vs ds):Rep K O (upd H p (.tup vs)) (.ref p) (.tuple ds):=.tup (.inl ⟨c.fresh h,.inl br⟩) (r.mono (c.leNew h _))
theorem HC.newL (c:HC K O ts H T) {p:Addr} (h:H p=none) {vs:List V} {ds:List PyData} (r:Reps K O H vs ds):Rep K O (upd H p (.lst vs)) (.ref p) (.list ds):=.lst (.inl ⟨c.fresh h,.inl br⟩) (r.mono (c.leNew h _))
end
inductive Vw (K:Frag) (O:Addr→Prop) (H:Hp):V→PyData→Prop where
 | rep {v:V} {x:PyData}:Rep K O H v x→Vw K O H v x
 | raw {a:Addr} {vs:List V} {xs:List PyData}:H a=some (.lst vs)→Reps K O H vs xs→Vw K O H (.ref a) (.list xs)
 | rawD {a:Addr} {kvs:List (Key×V)} {ds:List (PyData×PyData)}:H a=some (.dK kvs)→RepK K O H kvs ds→Vw K O H (.ref a) (.dict ds)
section
variable {K:Frag} {O:Addr→Prop} {H:Hp} {v:V}
theorem Vw.int {i:Int} (h:Vw K O H v (.int i)):v=.int i:=by cases h with | rep h=>cases h; rfl
theorem Vw.str {x:Str} (h:Vw K O H v (.str x)):v=.str x:=by cases h with | rep h=>cases h; rfl
theorem Vw.bl {b:Bool} (h:Vw K O H v (.bool b)):v=.bl b:=by cases h with | rep h=>cases h; rfl
theorem Vw.non (h:Vw K O H v .none):v=.non:=by cases h with | rep h=>cases h; rfl
theorem Vw.tup {ds:List PyData} (h:Vw K O H v (.tuple ds)):∃ a vs,v=.ref a∧TupAt K O H a vs∧Reps K O H vs ds:=by cases h with | rep h=>cases h with | tup t r=>exact ⟨_,_,rfl,t,r⟩
theorem Vw.tupR {ds:List PyData} (h:Vw K O H v (.tuple ds)):Rep K O H v (.tuple ds):=by cases h with | rep h=>exact h
theorem Vw.lst {ds:List PyData} (h:Vw K O H v (.list ds)):∃ a vs,v=.ref a∧SqL K H a vs∧Reps K O H vs ds:=by
 cases h with
 | rep h=>cases h with | lst t r=>exact ⟨_,_,rfl,t.sq,r⟩
 | raw h r=>exact ⟨_,_,rfl,SqL.of h,r⟩
theorem Vw.dct {ds:List (PyData×PyData)} (h:Vw K O H v (.dict ds)):∃ a kvs,v=.ref a∧Rd H a (.dK kvs)∧RepK K O H kvs ds:=by
 cases h with
 | rep h=>cases h with | dct n t r=>exact ⟨_,_,rfl,.inr ⟨_,t⟩,r⟩
 | rawD t r=>exact ⟨_,_,rfl,.inl t,r⟩
end
def OwnAt (K:Frag) (O:Addr→Prop) (H:Hp) (a:Addr):PyData→Prop
 | .list xs=>∃ vs,H a=some (.lst vs)∧Reps K O H vs xs
 | .dict ds=>∃ kvs,H a=some (.dK kvs)∧RepK K O H kvs ds
 | _=>False
theorem OwnAt.mono {K:Frag} {O O':Addr→Prop} {H H':Hp} {a:Addr} {x:PyData} (h:OwnAt K O H a x) (k:∀ o,H a=some o→H' a=some o) (l:Le O H O' H'):OwnAt K O' H' a x:=by
 cases x with
 | list xs=>obtain ⟨vs,h1,h2⟩:=h; exact ⟨vs,k _ h1,h2.mono l⟩
 | dict ds=>obtain ⟨vs,h1,h2⟩:=h; exact ⟨vs,k _ h1,h2.mono l⟩
 | _=>cases h
theorem OwnAt.some {K:Frag} {O:Addr→Prop} {H:Hp} {a:Addr} {x:PyData} (h:OwnAt K O H a x):∃ o,H a=some o:=by
 cases x with
 | list xs=>obtain ⟨vs,h1,h2⟩:=h; exact ⟨_,h1⟩
 | dict ds=>obtain ⟨vs,h1,h2⟩:=h; exact ⟨_,h1⟩
 | _=>cases h
def RepW (K:Frag) (O:Addr→Prop) (ts:List Addr) (H:Hp) (v:V):W→Prop
 | .d x=>Rep K O H v x
 | .tp i=>∃ a,ts[i]? = some a∧v=.ref a
 | .loc x=>∃ a,v=.ref a∧O a∧a∉ts∧OwnAt K O H a x
def iH (xs:List PyData):Option PyData:=if isO xs=true then none else some (.list xs)
noncomputable def view (T:Tp):W→Option PyData
 | .d x=>some x
 | .tp i=>(T[i]?).bind iH
 | .loc (.list xs)=>some (.list xs)
 | .loc (.dict ds)=>some (.dict ds)
 | .loc _=>none
noncomputable def views (T:Tp):List W→Option (List PyData)
 | []=>some []
 | w::r=>match view T w with
  | some x=>(match views T r with
   | some xs=>some (x::xs)
   | none=>none)
  | none=>none
def eZ (K:Frag) (O:Addr→Prop) (ts:List Addr) (H:Hp):List V→List W→Prop:=Paired fun v w=>RepW K O ts H v w
def Vws (K:Frag) (O:Addr→Prop) (H:Hp):List V→List PyData→Prop:=Paired fun v x=>Vw K O H v x
def RelE (K:Frag) (O:Addr→Prop) (ts:List Addr) (H:Hp) (σ:L2.St) (ρ:Rho):Prop:=∀ (i:Nat) (w:W),ρ[i]? = some (some w)→∃ v,σ[i]? = some (some v)∧RepW K O ts H v w
section
variable {K:Frag} {O:Addr→Prop} {ts:List Addr} {H H':Hp} {T:Tp} {v:V} {w:W}
theorem RepW.mono (r:RepW K O ts H v w) (c:HC K O ts H T) (s:SameX ts H H'):RepW K O ts H' v w:=by
 cases w with
 | d x=>exact Rep.mono (c.le s) r
 | tp i=>exact r
 | loc xs=>
  obtain ⟨a,e,h1,h2,h3⟩:=r
  exact ⟨a,e,h1,h2,h3.mono (fun o q=>s _ _ h2 q) (c.le s)⟩
theorem RelE.mono {σ:L2.St} {ρ:Rho} (r:RelE K O ts H σ ρ) (c:HC K O ts H T) (s:SameX ts H H'):RelE K O ts H' σ ρ:=fun i w e=>
 let ⟨v,h1,h2⟩:=r i w e; ⟨v,h1,h2.mono c s⟩
theorem HC.view (c:HC K O ts H T) {x:PyData} (r:RepW K O ts H v w) (e:view T w=some x):Vw K O H v x:=by
 cases w with
 | d y=>cases e; exact .rep r
 | tp i=>
  obtain ⟨a,h1,rfl⟩:=r
  have e':(T[i]?).bind iH=some x:=e
  cases ht:T[i]? with
  | none=>rw [ht] at e'; cases e'
  | some xs=>
   rw [ht] at e'
   have e2:(if isO xs=true then none else some (PyData.list xs))=some x:=e'
   split at e2
   ·cases e2
   ·rename_i hn
    cases e2
    obtain ⟨vs,h2,h3⟩:=(c.tape i a xs h1 ht).lst (by simpa using hn)
    exact .raw h2 h3
 | loc xs=>
  obtain ⟨a,rfl,_,_,h3⟩:=r
  cases xs with
  | list xs=>cases e; obtain ⟨vs,h1,h2⟩:=h3; exact .raw h1 h2
  | dict ds=>cases e; obtain ⟨vs,h1,h2⟩:=h3; exact .rawD h1 h2
  | _=>cases h3
theorem HC.views (c:HC K O ts H T):∀ {vs:List V} {ws:List W} {xs:List PyData},eZ K O ts H vs ws→views T ws=some xs→Vws K O H vs xs
 | _,[],xs,.nil,e=>by cases e; exact .nil
 | _,w::r,xs,.cons h t,e=>by
  unfold D.views at e
  split at e
  ·rename_i x h1
   split at e
   ·rename_i ys h2
    cases e
    exact .cons (c.view h h1) (HC.views c t h2)
   ·cases e
  ·cases e
end
def noStar:Expr→Bool
 | .Starred _ _=>false
 | _=>true
theorem bq {e:Expr} {es:List Expr} {env:Env} (h:noStar e=true):starEach (e::es) env=(false,eval e env)::starEach es env:=by cases e <;> first | rfl | cases h
theorem lZ {e:Expr} {env:Env} (h:noStar e=true):starEach [e] env=[(false,eval e env)]:=bq h
theorem bD {env:Env} {pos:Pos}:∀ {es:List Expr},es.all noStar=true→(backTo pos (starEach es env)).any (·.1)=false
 | [],_=>rfl
 | e::r,h=>by
  rw [List.all_cons,Bool.and_eq_true] at h
  rw [bq h.1]
  show (false || (backTo pos (starEach r env)).any (·.1))=false
  rw [bD h.2]
  rfl
theorem pC {e:Expr} {es:List Expr} {env:Env} {pos:Pos} (h:noStar e=true):backTo pos (starEach (e::es) env)=(false,eval e env)::backTo pos (starEach es env):=by
 rw [bq h]
 rfl
theorem g4 {e:Expr} {env:Env} {cpos:Pos} (h:noStar e=true):((backTo cpos (starEach [e] env)).all (fun x=>!x.1) && (backToKw cpos (keywordEach [] env)).all (fun x=>x.1.isSome)
   && decide (([e]:List Expr).length + ([]:List Keyword).length + (if ([]:List Keyword).isEmpty then 0 else 1) < 30))=true:=by
 rw [lZ h]
 rfl
abbrev FE:=Rho→Tp→Option (W×Tp)
abbrev FT:=Rho→Tp→Option (Bool×Tp)
abbrev FA:=Rho→Tp→Option (List W×Tp)
inductive LiftP (K:Frag) (f:FE) (σ:L2.St) (H:Hp) (Q:VK):Prop where
 | mk (O:Addr→Prop) (ts:List Addr) (ρ:Rho) (T:Tp) (w:W) (T':Tp) (hc:HC K O ts H T) (re:RelE K O ts H σ ρ) (e:f ρ T=some (w,T')) (q:∀ v H',SameX ts H H'→HC K O ts H' T'→RepW K O ts H' v w→Q v H'):LiftP K f σ H Q
def lift (K:Frag) (f:FE):TE:=fun σ H Q=>LiftP K f σ H Q
inductive LiftTP (K:Frag) (f:FT) (σ:L2.St) (H:Hp) (Q:Bool→Hp→Prop):Prop where
 | mk (O:Addr→Prop) (ts:List Addr) (ρ:Rho) (T:Tp) (b:Bool) (T':Tp) (hc:HC K O ts H T) (re:RelE K O ts H σ ρ) (e:f ρ T=some (b,T')) (q:∀ H',SameX ts H H'→HC K O ts H' T'→Q b H'):LiftTP K f σ H Q
def liftT (K:Frag) (f:FT):TT:=fun σ H Q=>LiftTP K f σ H Q
inductive LiftAP (K:Frag) (f:FA) (σ:L2.St) (H:Hp) (Q:List V→Hp→Prop):Prop where
 | mk (O:Addr→Prop) (ts:List Addr) (ρ:Rho) (T:Tp) (ws:List W) (T':Tp) (hc:HC K O ts H T) (re:RelE K O ts H σ ρ) (e:f ρ T=some (ws,T')) (q:∀ vs H',SameX ts H H'→HC K O ts H' T'→eZ K O ts H' vs ws→Q vs H'):LiftAP K f σ H Q
def tq (K:Frag) (f:FA):TA:=fun σ H Q=>LiftAP K f σ H Q
structure DE (X:Cx) (e:Expr) (f:FE):Prop where
 pe:PE X e (lift X.K f)
structure DT (X:Cx) (e:Expr) (f:FT):Prop where
 pe:PT X e (liftT X.K f)
structure DW (X:Cx) (e:Expr) (f:FT):Prop where
 pe:PW X e (liftT X.K f)
structure DA (X:Cx) (es:List Expr) (f:FA):Prop where
 pe:PA X es (tq X.K f)
theorem bx {X:Cx} {e:Expr} {t t':TE} (h:PE X e t) (i:∀ σ H Q,t' σ H Q→t σ H Q):PE X e t':=fun pins s σ H Q I q=>h pins s σ H Q I (i σ H Q q)
theorem kr {X:Cx} {e:Expr} {t t':TT} (h:PT X e t) (i:∀ σ H Q,t' σ H Q→t σ H Q):PT X e t':=fun pins s σ H Q I q=>h pins s σ H Q I (i σ H Q q)
theorem r9 {X:Cx} {e:Expr} {t t':TT} (h:PW X e t) (i:∀ σ H Q,t' σ H Q→t σ H Q):PW X e t':=fun wh pins s σ H Q I q=>h wh pins s σ H Q I (i σ H Q q)
theorem sk {X:Cx} {e:List Expr} {t t':TA} (h:PA X e t) (i:∀ σ H Q,t' σ H Q→t σ H Q):PA X e t':=fun po pins s σ H Q I q=>h po pins s σ H Q I (i σ H Q q)
def aa (i:Nat):FE:=fun ρ T=>match ρ[i]? with
 | some (some w)=>some (w,T)
 | _=>none
noncomputable def fC (x:PyData):FE:=fun _ T=>some (.d x,T)
section
variable {X:Cx} {pos:Pos}
theorem ag (i:Nat) {x:Str} (hN:X.N[i]? = some x:=by rfl) (hv:Vis X.env.scope x:=by first | exact Or.inl rfl | exact Or.inr (Or.inl rfl) | exact Or.inr (Or.inr rfl)) (hd:(x == ("__debug__" : Str))=false:=by decide)
  (hcd:(x == ("__classdict__" : Str))=false:=by decide):DE X (.Name x pos) (aa i):=by
 refine ⟨?_⟩
 refine bx (pv i hN hv hd hcd) fun σ H Q=>?_
 rintro ⟨O,ts,ρ,T,w,T',hc,re,e,q⟩
 unfold aa at e
 split at e
 ·rename_i w' he
  cases e
  obtain ⟨v,h1,h2⟩:=re i _ he
  exact ⟨v,h1,q v H (.refl _ _) hc h2⟩
 ·cases e
theorem kF {x:PyData} {v:V} (h:∀ O H,Rep X.K O H v x):∀ σ H Q,lift X.K (fC x) σ H Q→tC v σ H Q:=by
 rintro σ H Q ⟨O,ts,ρ,T,w,T',hc,re,e,q⟩
 cases e
 exact q v H (.refl _ _) hc (h O H)
theorem ak {i j}:DE X (.Constant (.int i) j pos) (fC (.int i)):=⟨bx sj (kF fun _ _=>.int i)⟩
theorem da {i j}:DE X (.Constant (.bool i) j pos) (fC (.bool i)):=⟨bx BW (kF fun _ _=>.bl i)⟩
theorem aE {i j}:DE X (.Constant (.str i) j pos) (fC (.str i)):=⟨bx AJ (kF fun _ _=>.str i)⟩
theorem nJ {j}:DE X (.Constant .none j pos) (fC .none):=⟨bx si (kF fun _ _=>.non)⟩
end
def op1 (g:PyData→Option PyData) (T:Tp) (w:W):Option (W×Tp):=match view T w with
 | some x=>match g x with
  | some d=>some (.d d,T)
  | none=>none
 | none=>none
def op2 (g:PyData→PyData→Option PyData) (T:Tp) (w1 w2:W):Option (W×Tp):=match view T w1,view T w2 with
 | some x,some y=>match g x y with
  | some d=>some (.d d,T)
  | none=>none
 | _,_=>none
theorem kA {g:PyData→Option PyData} {T T':Tp} {w1 w:W} (e:op1 g T w1=some (w,T')):∃ x d,view T w1=some x∧g x=some d∧w=.d d∧T'=T:=by
 unfold op1 at e
 split at e
 ·rename_i x h1
  split at e
  ·rename_i d h3
   cases e
   exact ⟨x,d,h1,h3,rfl,rfl⟩
  ·cases e
 ·cases e
theorem ig {g:PyData→PyData→Option PyData} {T T':Tp} {w1 w2 w:W} (e:op2 g T w1 w2=some (w,T')):∃ x y d,view T w1=some x∧view T w2=some y∧g x y=some d∧w=.d d∧T'=T:=by
 unfold op2 at e
 split at e
 ·rename_i x y h1 h2
  split at e
  ·rename_i d h3
   cases e
   exact ⟨x,y,d,h1,h2,h3,rfl,rfl⟩
  ·cases e
 ·cases e
def af (g:PyData→PyData→Option PyData) (fa fb:FE):FE:=fun ρ T=>bnd (fa ρ T) fun w1 T1=>bnd (fb ρ T1) fun w2 T2=>op2 g T2 w1 w2
def fUn (g:PyData→Option PyData) (fa:FE):FE:=fun ρ T=>bnd (fa ρ T) fun w1 T1=>op1 g T1 w1
def gc (K:Frag) (r:R2) (g:PyData→PyData→Option PyData):Prop:=∀ (O:Addr→Prop) (ts:List Addr) (H:Hp) (T:Tp) (v1 v2:V) (x y d:PyData) (Q:VK),HC K O ts H T→Vw K O H v1 x→Vw K O H v2 y→g x y=some d →
 (∀ v H',SameX ts H H'→HC K O ts H' T→Rep K O H' v d→Q v H')→r v1 v2 H Q
def C6 (K:Frag) (r:V→Hp→VK→Prop) (g:PyData→Option PyData):Prop:=∀ (O:Addr→Prop) (ts:List Addr) (H:Hp) (T:Tp) (v1:V) (x d:PyData) (Q:VK),HC K O ts H T→Vw K O H v1 x→g x=some d →
 (∀ v H',SameX ts H H'→HC K O ts H' T→Rep K O H' v d→Q v H')→r v1 H Q
def OpD (X:Cx) (f:Value→Value→Sem Value) (g:PyData→PyData→Option PyData):Prop:=∃ r,OpR X f r∧gc X.K r g
def IxD (X:Cx) (g:PyData→PyData→Option PyData):Prop:=∃ r,IxR X r∧gc X.K r g
theorem ke {K:Frag} {r:R2} {g:PyData→PyData→Option PyData} {fa fb:FE} (snd:gc K r g) {σ:L2.St} {H:Hp} {Q:VK} (h:lift K (af g fa fb) σ H Q):tOp r (lift K fa) (lift K fb) σ H Q:=by
 obtain ⟨O,ts,ρ,T,w,T',hc,re,e,q⟩:=h
 obtain ⟨w1,T1,e1,e⟩:=aG e
 obtain ⟨w2,T2,e2,e⟩:=aG e
 obtain ⟨x,y,d,h1,h2,h3,rfl,rfl⟩:=ig e
 refine ⟨O,ts,ρ,T,w1,T1,hc,re,e1,fun v1 H1 s1 hc1 r1=>?_⟩
 refine ⟨O,ts,ρ,T1,w2,T',hc1,re.mono hc s1,e2,fun v2 H2 s2 hc2 r2=>?_⟩
 exact snd O ts H2 T' v1 v2 x y d Q hc2 (hc2.view (r1.mono hc1 s2) h1) (hc2.view r2 h2) h3 fun v H' s3 hc3 r3=>q v H' (s1.trans (s2.trans s3)) hc3 r3
noncomputable def asB:W→Option Bool
 | .d (.bool b)=>some b
 | _=>none
theorem nP {w:W} {b:Bool} (h:asB w=some b):w=.d (.bool b):=by
 unfold asB at h
 split at h
 ·cases h; rfl
 ·cases h
def au (f:FE):FT:=fun ρ T=>bnd (f ρ T) fun w T1=>match asB w with
 | some b=>some (b,T1)
 | none=>none
theorem qJ {K:Frag} {f:FE} {σ:L2.St} {H:Hp} {Q:Bool→Hp→Prop} (h:liftT K (au f) σ H Q):lift K f σ H fun x H'=>∃ k,x=.bl k∧Q k H':=by
 obtain ⟨O,ts,ρ,T,w,T',hc,re,e,q⟩:=h
 obtain ⟨w1,T1,e1,e⟩:=aG e
 refine ⟨O,ts,ρ,T,w1,T1,hc,re,e1,fun v1 H1 s1 hc1 r1=>?_⟩
 split at e
 ·rename_i b hb
  cases e
  have hw:=nP hb
  subst hw
  cases (show Rep K O H1 v1 _ from r1)
  exact ⟨_,rfl,q H1 s1 hc1⟩
 ·cases e
section
variable {X:Cx} {pos:Pos} {a b c:Expr} {fa fb fc:FE} {g g':PyData→PyData→Option PyData}
theorem aT {op:Operator} (ho:OpD X (binaryOp op) g) (ha:DE X a fa) (hb:DE X b fb):DE X (.BinOp a op b pos) (af g fa fb):=by
 refine ⟨?_⟩
 obtain ⟨r,hr,snd⟩:=ho
 exact bx (tj hr ha.pe hb.pe) fun σ H Q=>ke snd
theorem dP {op:CmpOp} (ho:OpD X (compareOp op) g) (ha:DE X a fa) (hb:DE X b fb) (hm:behindInMarks op b=false:=by first | exact sr _ | with_unfolding_all rfl):DE X (.Compare a [op] [b] pos) (af g fa fb):=by
 refine ⟨?_⟩
 obtain ⟨r,hr,snd⟩:=ho
 exact bx (zb hr ha.pe hb.pe hm) fun σ H Q=>ke snd
theorem aH {op:CmpOp} (ho:OpD X (compareOp op) g) (ha:DE X a fa) (hb:DE X b fb) (hm:behindInMarks op b=false:=by first | exact sr _ | with_unfolding_all rfl):DT X (.Compare a [op] [b] pos) (au (af g fa fb)):=by
 refine ⟨?_⟩
 obtain ⟨r,hr,snd⟩:=ho
 exact kr (yS hr ha.pe hb.pe hm) fun σ H Q h=>ke snd (qJ h)
theorem ax (ho:IxD X g) (ha:DE X a fa) (hb:DE X b fb) (hs:rM b:=by exact fun _ _=>rfl):DE X (.Subscript a b pos) (af g fa fb):=by
 refine ⟨?_⟩
 obtain ⟨r,hr,snd⟩:=ho
 exact bx (BV hr ha.pe hb.pe hs) fun σ H Q=>ke snd
def jl (g g':PyData→PyData→Option PyData) (fa fb fc:FE):FE:=fun ρ T=>bnd (fa ρ T) fun w1 T1=>bnd (fb ρ T1) fun w2 T2=>bnd (op2 g T2 w1 w2) fun w T3=>match asB w with
 | some b=>if b=true then bnd (fc ρ T3) fun w3 T4=>op2 g' T4 w2 w3 else some (.d (.bool false),T3)
 | none=>none
theorem xj {K:Frag} {r r':R2} (snd:gc K r g) (snd':gc K r' g') {σ:L2.St} {H:Hp} {Q:VK} (h:lift K (jl g g' fa fb fc) σ H Q):rR r r' (lift K fa) (lift K fb) (lift K fc) σ H Q:=by
 obtain ⟨O,ts,ρ,T,w,T',hc,re,e,q⟩:=h
 obtain ⟨w1,T1,e1,e⟩:=aG e
 obtain ⟨w2,T2,e2,e⟩:=aG e
 obtain ⟨wz,T3,e3,ez⟩:=aG e
 obtain ⟨x,y,d,h1,h2,h3,rfl,rfl⟩:=ig e3
 clear e
 refine ⟨O,ts,ρ,T,w1,T1,hc,re,e1,fun v1 H1 s1 hc1 r1=>?_⟩
 refine ⟨O,ts,ρ,T1,w2,T3,hc1,re.mono hc s1,e2,fun v2 H2 s2 hc2 r2=>?_⟩
 refine snd O ts H2 T3 v1 v2 x y d _ hc2 (hc2.view (r1.mono hc1 s2) h1) (hc2.view r2 h2) h3 fun v H3 s3 hc3 r3=>?_
 split at ez
 ·rename_i b hb
  have hd:=nP hb
  injection hd with hd
  subst hd
  cases r3
  cases b with
  | true=>
   rw [if_pos rfl] at ez
   refine ⟨true,rfl,fX ?_⟩
   obtain ⟨w3,T4,e4,e5⟩:=aG ez
   obtain ⟨x',y',d',h1',h2',h3',rfl,rfl⟩:=ig e5
   refine ⟨O,ts,ρ,T3,w3,T',hc3,(re.mono hc (s1.trans (s2.trans s3))),e4,fun v3 H4 s4 hc4 r4=>?_⟩
   exact snd' O ts H4 T' v2 v3 x' y' d' Q hc4 (hc4.view (r2.mono hc2 (s3.trans s4)) h1') (hc4.view r4 h2') h3' fun v H' s5 hc5 r5=>q v H' (s1.trans (s2.trans (s3.trans (s4.trans s5)))) hc5 r5
  | false=>
   rw [if_neg Bool.false_ne_true] at ez
   cases ez
   exact ⟨false,rfl,fY (q _ H3 (s1.trans (s2.trans s3)) hc3 (.bl false))⟩
 ·cases ez
theorem qt {op op':CmpOp} (ho:OpD X (compareOp op) g) (ho':OpD X (compareOp op') g') (ha:DE X a fa) (hb:DE X b fb) (hc:DE X c fc)
  (hm:lastMarks [op,op'] [b,c]=false:=by with_unfolding_all rfl):DT X (.Compare a [op,op'] [b,c] pos) (au (jl g g' fa fb fc)):=by
 refine ⟨?_⟩
 obtain ⟨r,hr,snd⟩:=ho
 obtain ⟨r',hr',snd'⟩:=ho'
 exact kr (xx hr hr' ha.pe hb.pe hc.pe hm) fun σ H Q h=>xj snd snd' (qJ h)
def lj:PyData→Option Bool
 | .none=>some false
 | .bool b=>some b
 | .int i=>some (i != 0)
 | .str y=>if y.length≤sizeLine then some ((y.length:Int) != 0) else none
 | .list xs=>some (!xs.isEmpty)
 | .tuple xs=>some (!xs.isEmpty)
 | .dict _=>none
def ll (T:Tp) (w:W):Option (Bool×Tp):=match view T w with
 | some x=>match lj x with
  | some b=>some (b,T)
  | none=>none
 | none=>none
def a8 (f:FE):FT:=fun ρ T=>bnd (f ρ T) fun w T1=>ll T1 w
theorem oX {K:Frag} {O:Addr→Prop} {H:Hp} {vs:List V} {ds:List PyData} (r:Reps K O H vs ds):vs.isEmpty=ds.isEmpty:=by cases r <;> rfl
theorem Al {K:Frag} {O:Addr→Prop} {H:Hp} {v:V} {x:PyData} {b:Bool} (h:Vw K O H v x) (e:lj x=some b):oE K v H b:=by
 cases x with
 | none=>cases h.non; cases e; rfl
 | bool c=>cases h.bl; cases e; rfl
 | int i=>cases h.int; cases e; rfl
 | str y=>
  cases h.str
  have e':(if y.length≤sizeLine then some ((y.length:Int) != 0) else none)=some b:=e
  split at e'
  ·rename_i hl
   cases e'
   exact ⟨hl,rfl⟩
  ·cases e'
 | list xs=>
  obtain ⟨a,vs,rfl,h1,h2⟩:=h.lst
  cases e
  exact .inl ⟨vs,h1,by rw [oX h2]⟩
 | tuple xs=>
  obtain ⟨a,vs,rfl,h1,h2⟩:=h.tup
  cases e
  exact .inr (.inl ⟨vs,h1.sq,by rw [oX h2]⟩)
 | dict kvs=>
  cases e
theorem b7 (ha:DE X a fa) (he:∀ whole,isTrue a X.env whole=(do let v ← whole; standAt a.pos; holding [v] (truthy v)):=by intro _; rfl):DT X a (a8 fa):=by
 refine ⟨?_⟩
 refine kr (xw ha.pe he) fun σ H Q=>?_
 rintro ⟨O,ts,ρ,T,b,T',hc,re,e,q⟩
 obtain ⟨w1,T1,e1,e⟩:=aG e
 refine ⟨O,ts,ρ,T,w1,T1,hc,re,e1,fun v1 H1 s1 hc1 r1=>?_⟩
 unfold ll at e
 split at e
 ·rename_i x h1
  split at e
  ·rename_i k h2
   cases e
   exact ⟨b,Al (hc1.view r1 h1) h2,q H1 s1 hc1⟩
  ·cases e
 ·cases e
def cy (f g:FT):FT:=fun ρ T=>bnd (f ρ T) fun b T1=>if b=true then g ρ T1 else some (false,T1)
def cW (f g:FT):FT:=fun ρ T=>bnd (f ρ T) fun b T1=>if b=true then some (true,T1) else g ρ T1
def cj (f:FT):FT:=fun ρ T=>bnd (f ρ T) fun b T1=>some (!b,T1)
variable {ta tb:FT} {rest:List Expr}
theorem cL {f:FT} (h:DW X a f):DT X a f:=⟨PW.pt h.pe⟩
theorem eM (ha:DT X a ta):DW X (.BoolOp .And [a] pos) ta:=⟨yO ha.pe⟩
theorem gM (ha:DT X a ta):DW X (.BoolOp .Or [a] pos) ta:=⟨AB ha.pe⟩
theorem d9 (ha:DT X a ta) (hb:DW X (.BoolOp .And (b::rest) pos) tb):DW X (.BoolOp .And (a::b::rest) pos) (cy ta tb):=by
 refine ⟨?_⟩
 refine r9 (AC ha.pe hb.pe) fun σ H Q=>?_
 rintro ⟨O,ts,ρ,T,b,T',hc,re,e,q⟩
 obtain ⟨b1,T1,e1,e⟩:=aG e
 refine ⟨O,ts,ρ,T,b1,T1,hc,re,e1,fun H1 s1 hc1=>?_⟩
 cases b1 with
 | true=>exact fX ⟨O,ts,ρ,T1,b,T',hc1,re.mono hc s1,by simpa using e,fun H2 s2 hc2=>q H2 (s1.trans s2) hc2⟩
 | false=>
  have e':some (false,T1)=some (b,T'):=by simpa using e
  cases e'
  exact fY (q H1 s1 hc1)
theorem fU (ha:DT X a ta) (hb:DW X (.BoolOp .Or (b::rest) pos) tb):DW X (.BoolOp .Or (a::b::rest) pos) (cW ta tb):=by
 refine ⟨?_⟩
 refine r9 (BP ha.pe hb.pe) fun σ H Q=>?_
 rintro ⟨O,ts,ρ,T,b,T',hc,re,e,q⟩
 obtain ⟨b1,T1,e1,e⟩:=aG e
 refine ⟨O,ts,ρ,T,b1,T1,hc,re,e1,fun H1 s1 hc1=>?_⟩
 cases b1 with
 | false=>exact fY ⟨O,ts,ρ,T1,b,T',hc1,re.mono hc s1,by simpa using e,fun H2 s2 hc2=>q H2 (s1.trans s2) hc2⟩
 | true=>
  have e':some (true,T1)=some (b,T'):=by simpa using e
  cases e'
  exact fX (q H1 s1 hc1)
theorem eP (ha:DT X a ta):DT X (.UnaryOp .Not a pos) (cj ta):=by
 refine ⟨?_⟩
 refine kr (AD ha.pe) fun σ H Q=>?_
 rintro ⟨O,ts,ρ,T,b,T',hc,re,e,q⟩
 obtain ⟨b1,T1,e1,e⟩:=aG e
 cases e
 exact ⟨O,ts,ρ,T,b1,T',hc,re,e1,fun H1 s1 hc1=>q H1 s1 hc1⟩
def Co (f g:FE):FE:=fun ρ T=>bnd (f ρ T) fun w T1=>match asB w with
 | some b=>if b=true then g ρ T1 else some (.d (.bool false),T1)
 | none=>none
def C1 (f g:FE):FE:=fun ρ T=>bnd (f ρ T) fun w T1=>match asB w with
 | some b=>if b=true then some (.d (.bool true),T1) else g ρ T1
 | none=>none
def n9 (f:FE):FE:=fun ρ T=>bnd (f ρ T) fun w T1=>match asB w with
 | some b=>some (.d (.bool (!b)),T1)
 | none=>none
theorem Br (ha:DE X a fa):DE X (.UnaryOp .Not a pos) (n9 fa):=by
 refine ⟨?_⟩
 refine bx (AK ha.pe) fun σ H Q=>?_
 rintro ⟨O,ts,ρ,T,w,T',hc,re,e,q⟩
 obtain ⟨w1,T1,e1,e⟩:=aG e
 refine ⟨O,ts,ρ,T,w1,T1,hc,re,e1,fun v1 H1 s1 hc1 r1=>?_⟩
 split at e
 ·rename_i b hb
  have hw:=nP hb
  subst hw
  cases (show Rep X.K O H1 v1 _ from r1)
  cases e
  exact ⟨_,rfl,q _ H1 s1 hc1 (.bl _)⟩
 ·cases e
def bY (c:FT) (f g:FE):FE:=fun ρ T=>bnd (c ρ T) fun b T1=>if b=true then f ρ T1 else g ρ T1
theorem dE (hc:DT X c ta) (ha:DE X a fa) (hb:DE X b fb):DE X (.IfExp c a b pos) (bY ta fa fb):=by
 refine ⟨?_⟩
 refine bx (xH hc.pe ha.pe hb.pe) fun σ H Q=>?_
 rintro ⟨O,ts,ρ,T,w,T',hc,re,e,q⟩
 obtain ⟨b1,T1,e1,e⟩:=aG e
 refine ⟨O,ts,ρ,T,b1,T1,hc,re,e1,fun H1 s1 hc1=>?_⟩
 cases b1 with
 | true=>exact fX ⟨O,ts,ρ,T1,w,T',hc1,re.mono hc s1,by simpa using e,fun v H2 s2 hc2 r2=>q v H2 (s1.trans s2) hc2 r2⟩
 | false=>exact fY ⟨O,ts,ρ,T1,w,T',hc1,re.mono hc s1,by simpa using e,fun v H2 s2 hc2 r2=>q v H2 (s1.trans s2) hc2 r2⟩
theorem Cr {op:UnaryOp} {r:V→Hp→VK→Prop} {g1:PyData→Option PyData} (hr:UnR X (unaryOp op) r) (snd:C6 X.K r g1) (ha:DE X a fa):DE X (.UnaryOp op a pos) (fUn g1 fa):=by
 refine ⟨?_⟩
 refine bx (BS hr ha.pe) fun σ H Q=>?_
 rintro ⟨O,ts,ρ,T,w,T',hc,re,e,q⟩
 obtain ⟨w1,T1,e1,e⟩:=aG e
 obtain ⟨x,d,h1,h3,rfl,rfl⟩:=kA e
 refine ⟨O,ts,ρ,T,w1,T',hc,re,e1,fun v1 H1 s1 hc1 r1=>?_⟩
 exact snd O ts H1 T' v1 x d Q hc1 (hc1.view r1 h1) h3 fun v H' s3 hc3 r3=>q v H' (s1.trans s3) hc3 r3
end
def ai:FA:=fun _ T=>some ([],T)
def ae (f:FE) (g:FA):FA:=fun ρ T=>bnd (f ρ T) fun w T1=>bnd (g ρ T1) fun ws T2=>some (w::ws,T2)
def dq:List W→Option (List PyData)
 | []=>some []
 | .d x::r=>match dq r with
  | some xs=>some (x::xs)
  | none=>none
 | _::_=>none
theorem iV {K:Frag} {O:Addr→Prop} {ts:List Addr} {H:Hp}:∀ {vs:List V} {ws:List W} {xs:List PyData},eZ K O ts H vs ws→dq ws=some xs→Reps K O H vs xs
 | _,[],_,.nil,e=>by cases e; exact .nil
 | _,.d x::r,xs,.cons h t,e=>by
  unfold dq at e
  split at e
  ·rename_i ys h2
   cases e
   exact .cons h (iV t h2)
  ·cases e
 | _,.tp _::_,_,.cons _ _,e=>by cases e
 | _,.loc _::_,_,.cons _ _,e=>by cases e
def ay (mk:List PyData→PyData) (f:FA):FE:=fun ρ T=>bnd (f ρ T) fun ws T1=>match dq ws with
 | some xs=>if xs.length≤1000 then some (.d (mk xs),T1) else none
 | none=>none
theorem j8 {n:Nat} (h:n≤1000):n≤sizeLine:=Nat.le_trans h (by decide)
def dU (X:Cx) (f:Value) (g:List PyData→Option PyData):Prop:=∃ r,CallR X f r∧∀ (O:Addr→Prop) (ts:List Addr) (H:Hp) (T:Tp) (vs:List V) (xs:List PyData) (d:PyData) (Q:VK),HC X.K O ts H T→Vws X.K O H vs xs→g xs=some d →
 (∀ v H',SameX ts H H'→HC X.K O ts H' T→Rep X.K O H' v d→Q v H')→r vs H Q
def fCB (g:List PyData→Option PyData) (f:FA):FE:=fun ρ T=>bnd (f ρ T) fun ws T1=>match views T1 ws with
 | some xs=>match g xs with
  | some d=>some (.d d,T1)
  | none=>none
 | none=>none
section
variable {X:Cx} {pos p:Pos} {e:Expr} {es:List Expr} {f:FE} {g:FA}
theorem ao:DA X [] ai:=by
 refine ⟨?_⟩
 refine sk cG fun σ H Q=>?_
 rintro ⟨O,ts,ρ,T,w,T',hc,re,e,q⟩
 cases e
 exact q [] H (.refl _ _) hc .nil
theorem ah (ha:DE X e f) (hr:DA X es g) (hs:starEach (e::es) X.env=(false,eval e X.env)::starEach es X.env:=by exact bq rfl):DA X (e::es) (ae f g):=by
 refine ⟨?_⟩
 refine sk (bV ha.pe hr.pe hs) fun σ H Q=>?_
 rintro ⟨O,ts,ρ,T,w,T',hc,re,e,q⟩
 obtain ⟨w1,T1,e1,e⟩:=aG e
 obtain ⟨ws,T2,e2,e⟩:=aG e
 cases e
 refine ⟨O,ts,ρ,T,w1,T1,hc,re,e1,fun v1 H1 s1 hc1 r1=>?_⟩
 exact ⟨O,ts,ρ,T1,ws,_,hc1,re.mono hc s1,e2,fun vs H2 s2 hc2 r2=>q _ H2 (s1.trans s2) hc2 (.cons (r1.mono hc1 s2) r2)⟩
theorem qM {mk:List PyData→PyData} {g:FA} {ρ:Rho} {T T':Tp} {w:W} (e:ay mk g ρ T=some (w,T')):∃ ws xs,g ρ T=some (ws,T')∧dq ws=some xs∧xs.length≤1000∧w=.d (mk xs):=by
 obtain ⟨ws,T1,e1,e⟩:=aG e
 split at e
 ·rename_i xs h1
  split at e
  ·rename_i h2
   cases e
   exact ⟨ws,xs,e1,h1,h2,rfl⟩
  ·cases e
 ·cases e
theorem aP {x1} (h:DA X es g):DE X (.Tuple es x1 pos) (ay .tuple g):=by
 refine ⟨?_⟩
 refine bx (AI h.pe) fun σ H Q=>?_
 rintro ⟨O,ts,ρ,T,w,T',hc,re,e,q⟩
 obtain ⟨ws,xs,e1,h1,h2,rfl⟩:=qM e
 refine ⟨O,ts,ρ,T,ws,T',hc,re,e1,fun vs H1 s1 hc1 r1=>?_⟩
 have rs:=iV r1 h1
 refine ⟨j8 (by rw [rs.length]; exact h2),fun p hp=>?_⟩
 exact q _ _ (s1.trans (.new hp _)) (hc1.new hp _) (hc1.newT hp rs)
theorem cw (h:DA X es g):DE X (.List es pos) (ay .list g):=by
 refine ⟨?_⟩
 refine bx (nv h.pe) fun σ H Q=>?_
 rintro ⟨O,ts,ρ,T,w,T',hc,re,e,q⟩
 obtain ⟨ws,xs,e1,h1,h2,rfl⟩:=qM e
 refine ⟨O,ts,ρ,T,ws,T',hc,re,e1,fun vs H1 s1 hc1 r1=>?_⟩
 have rs:=iV r1 h1
 refine ⟨j8 (by rw [rs.length]; exact h2),fun p hp=>?_⟩
 exact q _ _ (s1.trans (.new hp _)) (hc1.new hp _) (hc1.newL hp rs)
theorem sQ {K:Frag} {r:List V→Hp→VK→Prop} {gg:List PyData→Option PyData} (snd:∀ (O:Addr→Prop) (ts:List Addr) (H:Hp) (T:Tp) (vs:List V) (xs:List PyData) (d:PyData) (Q:VK),HC K O ts H T→Vws K O H vs xs→gg xs=some d →
  (∀ v H',SameX ts H H'→HC K O ts H' T→Rep K O H' v d→Q v H')→r vs H Q) {σ:L2.St} {H:Hp} {Q:VK} (h:lift K (fCB gg g) σ H Q):tCB r (tq K g) σ H Q:=by
 obtain ⟨O,ts,ρ,T,w,T',hc,re,e,q⟩:=h
 obtain ⟨ws,T1,e1,e⟩:=aG e
 refine ⟨O,ts,ρ,T,ws,T1,hc,re,e1,fun vs H1 s1 hc1 r1=>?_⟩
 split at e
 ·rename_i xs h1
  split at e
  ·rename_i d h2
   cases e
   exact snd O ts H1 T' vs xs d Q hc1 (hc1.views r1 h1) h2 fun v H' s3 hc3 r3=>q v H' (s1.trans s3) hc3 r3
  ·cases e
 ·cases e
theorem bh {x:Str} {id:String} {gg:List PyData→Option PyData} (hc:dU X (.builtin id) gg) (hg:Gl X x) (hm:X.mg x=none) (hv:bootBuiltins x=some (.builtin id)) (ha:DA X (e::es) g) (hn:x≠"__name__":=by decide) (hdb:(x == ("__debug__" : Str))=false:=by decide)
  (he:starEach (e::es) X.env=(false,eval e X.env)::starEach es X.env:=by exact bq rfl) (hpl:(backTo pos (starEach es X.env)).any (·.1)=false:=by exact bD rfl):DE X (.Call (.Name x p) (e::es) [] pos) (fCB gg g):=by
 refine ⟨?_⟩
 obtain ⟨r,hr,snd⟩:=hc
 exact bx (l6 hr hg hm hv ha.pe hn hdb he hpl) fun σ H Q h=>sQ snd h
theorem cE {x:Str} {id:String} {gg:List PyData→Option PyData} (hc:dU X (.type id) gg) (hg:Gl X x) (hm:X.mg x=none) (hv:bootBuiltins x=some (.type id)) (ha:DA X (e::es) g) (hn:x≠"__name__":=by decide) (hdb:(x == ("__debug__" : Str))=false:=by decide)
  (he:starEach (e::es) X.env=(false,eval e X.env)::starEach es X.env:=by exact bq rfl) (hpl:(backTo pos (starEach es X.env)).any (·.1)=false:=by exact bD rfl):DE X (.Call (.Name x p) (e::es) [] pos) (fCB gg g):=by
 refine ⟨?_⟩
 obtain ⟨r,hr,snd⟩:=hc
 exact bx (jP hr hg hm hv ha.pe hn hdb he hpl) fun σ H Q h=>sQ snd h
end
abbrev FI:=Rho→Tp→Option (List PyData×Tp)
def CW (K:Frag) (tl:TE):TI:=fun σ H R=>tl σ H fun x H1=>(∃ a xs,x=.ref a∧SqL K H1 a xs∧(xs.length≤sizeLine→R (Itl K a) H1))∨(∃ a xs,x=.ref a∧SqT K H1 a xs∧(xs.length≤sizeLine→R (Itt K a) H1))∨(∃ z,x=.str z∧R (Its z) H1)∨∃ a o kvs,x=.ref a∧H1 a=some (.frz o (.dK kvs))∧(kvs.length≤sizeLine→R (Itd a o kvs) H1)
theorem AF {X:Cx} {tg l:Expr} {tl:TE} (hl:PE X l tl):PI X tg l (CW X.K tl):=by
 intro pins s σ H R I h
 refine thn (hl pins s σ H _ I h) fun v s1 ⟨x,H1,I1,r1,q1⟩=>?_
 have fk:∀ b∈[s1.heap.objs.size],cu X pins H1 b:=fun b hb=>by
  have e:b=s1.heap.objs.size:=by simpa using hb
  subst e
  exact I1.fpOk (Nat.le_refl _) (I1.hok.fresh (Nat.le_refl _))
 rcases q1 with ⟨a,xs,e,hq,q⟩ | ⟨a,xs,e,hq,q⟩ | ⟨z,e,q⟩ | ⟨a,o,kvs,e,hq,q⟩
 ·subst e
  cases r1
  obtain ⟨its,rv,p,hz⟩:=I1.list hq
  refine wpAny_pyIter_list p.isList ?_
  exact ⟨s1.heap.objs.size,[s1.heap.objs.size],_,_,H1,rfl,I1.kept (t':=s1.toks) fun b o e=>Heap.get?_push_of_some _ e,wj a _,⟨_,Heap.get?_push_size _ rfl,rfl,rfl⟩,fk,q hz⟩
 ·subst e
  cases r1
  obtain ⟨its,rv,p,hz⟩:=I1.tuple hq
  refine wpAny_pyIter_tuple (show s1.heap.IsTuple a its.toArray from p) ?_
  exact ⟨s1.heap.objs.size,[s1.heap.objs.size],_,_,H1,rfl,I1.kept (t':=s1.toks) fun b o e=>Heap.get?_push_of_some _ e,vN a _,⟨_,Heap.get?_push_size _ rfl,rfl,rfl⟩,fk,q hz⟩
 ·subst e
  obtain ⟨t,rfl⟩:=r1
  cases ha:z.cps.all (· < 128) with
  | false=>
   refine wpAny_pyIter_wide ha ?_
   exact ⟨s1.heap.objs.size,[s1.heap.objs.size],_,_,H1,rfl,I1.kept (t':=s1.toks) fun b o e=>Heap.get?_push_of_some _ e,qe z t "str_iterator" _ (.inr rfl),⟨_,Heap.get?_push_size _ rfl,rfl,rfl⟩,fk,q⟩
  | true=>
   refine wpAny_pyIter_ascii ha ?_
   exact ⟨s1.heap.objs.size,[s1.heap.objs.size],_,_,H1,rfl,I1.kept (t':=s1.toks) fun b o e=>Heap.get?_push_of_some _ e,qe z t "str_ascii_iterator" _ (.inl rfl),⟨_,Heap.get?_push_size _ rfl,rfl,rfl⟩,fk,q⟩
 ·subst e
  cases r1
  obtain ⟨z,y,vs,kv,dd⟩:=gr I1.hok hq
  refine wpAny_pyIter_dict y dd ?_
  exact ⟨s1.heap.objs.size,[s1.heap.objs.size],_,_,H1,rfl,I1.kept (t':=s1.toks) fun b o e=>Heap.get?_push_of_some _ e,wm a _ o kvs,⟨_,Heap.get?_push_size _ rfl,rfl,by rw [kv.length]; rfl⟩,fk,q z⟩
def ItOk (K:Frag) (O:Addr→Prop) (H1:Hp) (J:It) (ds:List PyData):Prop:=∀ O' H',Le O H1 O' H'→(∀ i,i < ds.length→J.go i H')∧J.stop ds.length H'∧∀ i v H'',J.yld i H' v H''→i < ds.length→H''=H'∧∃ d,ds[i]? = some d∧Rep K O' H' v d
inductive LiftIP (K:Frag) (f:FI) (σ:L2.St) (H:Hp) (R:It→Hp→Prop):Prop where
 | mk (O:Addr→Prop) (ts:List Addr) (ρ:Rho) (T:Tp) (ds:List PyData) (T':Tp) (hc:HC K O ts H T) (re:RelE K O ts H σ ρ) (e:f ρ T=some (ds,T')) (q:∀ J H1,SameX ts H H1→HC K O ts H1 T'→ItOk K O H1 J ds→ds.length≤sizeLine→R J H1):LiftIP K f σ H R
def kY (K:Frag) (f:FI):TI:=fun σ H R=>LiftIP K f σ H R
structure DI (X:Cx) (tg e:Expr) (f:FI):Prop where
 pe:PI X tg e (kY X.K f)
theorem sg {X:Cx} {tg e:Expr} {t t':TI} (h:PI X tg e t) (i:∀ σ H Q,t' σ H Q→t σ H Q):PI X tg e t':=fun pins s σ H Q I q=>h pins s σ H Q I (i σ H Q q)
def signs (z:Str):List PyData:=z.cps.toList.map fun c=>.str ⟨#[c]⟩
def gI:PyData→Option (List PyData)
 | .list xs=>some xs
 | .tuple xs=>some xs
 | .str z=>if z.length≤sizeLine then some (signs z) else none
 | .dict ds=>some (ds.map (·.1))
 | _=>none
def aW (f:FE):FI:=fun ρ T=>bnd (f ρ T) fun w T1=>match w with
 | .d x=>match gI x with
  | some xs=>some (xs,T1)
  | none=>none
 | _=>none
theorem ItOk.lst {K:Frag} {O:Addr→Prop} {H1:Hp} {a:Addr} {vs:List V} {ds:List PyData} (h:LstAt K O H1 a vs) (r:Reps K O H1 vs ds):ItOk K O H1 (Itl K a) ds:=fun O' H' le=>by
 have sq:=(h.mono le).sq
 have hl:=r.length
 refine ⟨fun i hi=>⟨vs,vs[i]'(by omega),sq,by simp⟩,⟨vs,sq,by omega⟩,fun i v H'' y hi=>?_⟩
 obtain ⟨e,y⟩:=y
 obtain ⟨d,h1,h2⟩:=r.get (y vs sq)
 exact ⟨e,d,h1,h2.mono le⟩
theorem ItOk.tup {K:Frag} {O:Addr→Prop} {H1:Hp} {a:Addr} {vs:List V} {ds:List PyData} (h:TupAt K O H1 a vs) (r:Reps K O H1 vs ds):ItOk K O H1 (Itt K a) ds:=fun O' H' le=>by
 have sq:=(h.mono le).sq
 have hl:=r.length
 refine ⟨fun i hi=>⟨vs,vs[i]'(by omega),sq,by simp⟩,⟨vs,sq,by omega⟩,fun i v H'' y hi=>?_⟩
 obtain ⟨e,y⟩:=y
 obtain ⟨d,h1,h2⟩:=r.get (y vs sq)
 exact ⟨e,d,h1,h2.mono le⟩
theorem ItOk.str {K:Frag} {O:Addr→Prop} {H1:Hp} {z:Str}:ItOk K O H1 (Its z) (signs z):=fun O' H' le=>by
 have hl:(signs z).length=z.cps.size:=by simp [signs]
 refine ⟨fun i hi=>by rw [hl] at hi; exact hi,by rw [hl]; exact Nat.le_refl _,fun i v H'' y hi=>?_⟩
 obtain ⟨e,c,hc,y⟩:=y
 subst y
 refine ⟨e,.str ⟨#[c]⟩,?_,.str _⟩
 unfold signs
 rw [List.getElem?_map]
 have:z.cps.toList[i]? = some c:=by simpa using hc
 rw [this]
 rfl
theorem jO {K:Frag} {O:Addr→Prop} {H:Hp}:∀ {kvs:List (Key×V)} {ds:List (PyData×PyData)},RepK K O H kvs ds→kvs.length=ds.length
 | _,_,.nil=>rfl
 | _,_,.cons _ t=>congrArg (· + 1) (jO t)
theorem qi {K:Frag} {O:Addr→Prop} {H:Hp}:∀ {kvs:List (Key×V)} {ds:List (PyData×PyData)} {i:Nat} {k:Key} {v:V},RepK K O H kvs ds→kvs[i]? = some (k,v)→(ds.map (·.1))[i]? = some (cV k)
 | _,_,_,_,_,.nil,e=>by simp at e
 | _,_,0,_,_,.cons r _,e=>by simp at e; obtain ⟨rfl,rfl⟩:=e; rfl
 | _,_,i + 1,k,v,.cons _ t,e=>by
  have:=qi (i:=i) t (by simpa using e)
  simpa using this
theorem mD {K:Frag} {O:Addr→Prop} {H:Hp} (k:Key):Rep K O H (kV k) (cV k):=by
 cases k with
 | inl i=>exact .int i
 | inr x=>exact .str x
theorem ItOk.dct {K:Frag} {O:Addr→Prop} {H1:Hp} {a:Addr} {o:Obj} {kvs:List (Key×V)} {ds:List (PyData×PyData)} (n:¬ O a) (h:H1 a=some (.frz o (.dK kvs))) (r:RepK K O H1 kvs ds):ItOk K O H1 (Itd a o kvs) (ds.map (·.1)):=fun O' H' le=>by
 have h':=(le a _ n h).2
 have hl:=jO r
 refine ⟨fun i hi=>⟨h',by simp at hi; omega⟩,⟨h',by simp [hl]⟩,fun i v H'' y hi=>?_⟩
 obtain ⟨e,k,v0,y1,y2⟩:=y
 subst y2
 exact ⟨e,_,qi r y1,mD k⟩
theorem bE {X:Cx} {tg e:Expr} {f:FE} (h:DE X e f):DI X tg e (aW f):=by
 refine ⟨?_⟩
 refine sg (AF h.pe) fun σ H R=>?_
 rintro ⟨O,ts,ρ,T,ds,T',hc,re,e,q⟩
 obtain ⟨w1,T1,e1,e⟩:=aG e
 refine ⟨O,ts,ρ,T,w1,T1,hc,re,e1,fun v1 H1 s1 hc1 r1=>?_⟩
 split at e
 ·rename_i x
  split at e
  ·rename_i xs h1
   cases e
   have rr:Rep X.K O H1 v1 x:=r1
   cases x with
   | list ys=>
    cases h1
    cases rr with
    | lst t r=>exact .inl ⟨_,_,rfl,t.sq,fun hz=>q _ H1 s1 hc1 (.lst t r) (by rw [← r.length]; exact hz)⟩
   | tuple ys=>
    cases h1
    cases rr with
    | tup t r=>exact .inr (.inl ⟨_,_,rfl,t.sq,fun hz=>q _ H1 s1 hc1 (.tup t r) (by rw [← r.length]; exact hz)⟩)
   | str z=>
    have h1':(if z.length≤sizeLine then some (signs z) else none)=some _:=h1
    split at h1'
    ·rename_i hz
     cases h1'
     cases rr
     exact .inr (.inr (.inl ⟨z,rfl,q _ H1 s1 hc1 .str (by rw [show (signs z).length=z.cps.size by simp [signs]]; exact hz)⟩))
    ·cases h1'
   | dict ys=>
    cases h1
    cases rr with
    | dct n t r=>exact .inr (.inr (.inr ⟨_,_,_,rfl,t,fun hz=>q _ H1 s1 hc1 (.dct n t r) (by rw [List.length_map,← jO r]; exact hz)⟩))
   | _=>cases h1
  ·cases e
 ·cases e
def bL (lo:Int) (n:Nat):List PyData:=(List.range n).map fun (i:Nat)=>.int (lo + (i:Int))
theorem ItOk.rng {K:Frag} {O:Addr→Prop} {H1:Hp} {lo:Int} {n:Nat}:ItOk K O H1 (Itr lo n) (bL lo n):=fun O' H' le=>by
 have hl:(bL lo n).length=n:=by simp [bL]
 refine ⟨fun i hi=>by rw [hl] at hi; exact hi,by rw [hl]; exact Nat.le_refl _,fun i v H'' y hi=>?_⟩
 obtain ⟨e,y⟩:=y
 subst y
 rw [hl] at hi
 exact ⟨e,.int (lo + i),by simp [bL,hi],.int _⟩
def dm (j:Int):Bool:=decide (-1000000≤j∧j≤16777216)
theorem rng_ok {j:Int} (h:dm j=true) : -(2 ^ 62)≤j∧j < 2 ^ 62∧j.toNat≤sizeLine:=by
 have h':=of_decide_eq_true h
 have e:sizeLine=16777216:=by decide
 omega
def bR (f:FE):FI:=fun ρ T=>bnd (f ρ T) fun w T1=>match w with
 | .d (.int j)=>if dm j=true then some (bL 0 j.toNat,T1) else none
 | _=>none
theorem gC {X:Cx} {tg a:Expr} {f:FE} {p pos:Pos} (hg:Gl X "range") (hm:X.mg "range" = none) (ha:DE X a f) (hs:starEach [a] X.env=[(false,eval a X.env)]:=by exact lZ rfl):DI X tg (.Call (.Name "range" p) [a] [] pos) (bR f):=by
 refine ⟨?_⟩
 refine sg (wD (ta:=sW (lift X.K f) tQ) hg hm (bV ha.pe cG (by rw [hs]; rfl)) hs) fun σ H R=>?_
 rintro ⟨O,ts,ρ,T,ds,T',hc,re,e,q⟩
 obtain ⟨w1,T1,e1,e⟩:=aG e
 refine ⟨O,ts,ρ,T,w1,T1,hc,re,e1,fun v1 H1 s1 hc1 r1=>?_⟩
 split at e
 ·rename_i j
  split at e
  ·rename_i h1
   cases e
   cases (show Rep X.K O H1 v1 _ from r1)
   obtain ⟨b1,b2,b3⟩:=rng_ok h1
   exact ⟨j,rfl,b1,b2,q _ H1 s1 hc1 .rng (by simpa [bL] using b3)⟩
  ·cases e
 ·cases e
def a6 (c:FT) (e:FE) (ρ:Rho):List PyData→Tp→Option (List PyData×Tp)
 | [],T=>some ([],T)
 | d::r,T=>bnd (c (some (.d d)::ρ) T) fun b T1=>if b=true then bnd (e (some (.d d)::ρ) T1) fun w T2=>match w with
   | .d y=>bnd (a6 c e ρ r T2) fun ys T3=>some (y::ys,T3)
   | _=>none
  else a6 c e ρ r T1
def bf (it:FI) (c:FT) (e:FE):FE:=fun ρ T=>bnd (it ρ T) fun ds T1=>bnd (a6 c e ρ ds T1) fun ys T2=>some (.d (.list ys),T2)
def bo:FT:=fun _ T=>some (true,T)
theorem RelE.cons {K:Frag} {O:Addr→Prop} {ts:List Addr} {H:Hp} {σ:L2.St} {ρ:Rho} {v:V} {d:PyData} (re:RelE K O ts H σ ρ) (r:Rep K O H v d):RelE K O ts H (some v::σ) (some (.d d)::ρ):=fun i w e=>by
 cases i with
 | zero=>cases e; exact ⟨v,rfl,r⟩
 | succ i=>
  obtain ⟨u,h1,h2⟩:=re i w (by simpa using e)
  exact ⟨u,by simpa using h1,h2⟩
theorem rH {K:Frag} {O:Addr→Prop} {ts:List Addr} {H1:Hp} {σ:L2.St} {ρ:Rho} {J:It} {c:FT} {e:FE} {ds ys:List PyData} {T1 T2:Tp} {Dn:List V→Hp→Prop} (hc:HC K O ts H1 T1) (re:RelE K O ts H1 σ ρ) (ok:ItOk K O H1 J ds) (hz:ds.length≤sizeLine)
  (ee:a6 c e ρ ds T1=some (ys,T2)) (q:∀ vs H',SameX ts H1 H'→HC K O ts H' T2→Reps K O H' vs ys→Dn vs H') :
  ∃ W:Nat→Nat→List V→Hp→Prop,(∃ m,W 0 m [] H1)∧lh σ J (liftT K c) (lift K e) W Dn:=by
 refine ⟨fun i m vs H'=>m=ds.length - i∧i≤ds.length∧vs.length≤i∧∃ T dn rs,SameX ts H1 H'∧HC K O ts H' T∧Reps K O H' vs dn∧a6 c e ρ (ds.drop i) T=some (rs,T2)∧ys=dn++rs,⟨_,rfl,Nat.zero_le _,Nat.le_refl _,T1,[],ys,.refl _ _,hc,.nil,ee,rfl⟩,?_⟩
 rintro i m vs H' ⟨rfl,hi,hv,T,dn,rs,s1,hc1,rv,ec,ey⟩
 obtain ⟨k1,k2,k3⟩:=ok O H' (hc.le s1)
 by_cases hlt:i < ds.length
 ·refine .inr ⟨k1 i hlt,by omega,fun vs' H2=>i + 1≤ds.length∧vs'.length≤i + 1∧∃ T dn rs,SameX ts H1 H2∧HC K O ts H2 T∧Reps K O H2 vs' dn∧a6 c e ρ (ds.drop (i + 1)) T=some (rs,T2)∧ys=dn++rs,fun vs' H2 n=>⟨ds.length - (i + 1),by omega,rfl,n⟩,fun v H2 y=>?_⟩
  obtain ⟨e2,d,hd,rd⟩:=k3 i v H2 y hlt
  subst e2
  have hdr:ds.drop i=d::ds.drop (i + 1):=by
   rw [List.drop_eq_getElem_cons hlt]
   have:=(List.getElem?_eq_some_iff.mp hd).2
   rw [this]
  rw [hdr] at ec
  obtain ⟨b,T3,e3,ec⟩:=aG ec
  refine ⟨O,ts,some (.d d)::ρ,T,b,T3,hc1,(re.mono hc s1).cons rd,e3,fun H3 s3 hc3=>?_⟩
  cases b with
  | false=>
   rw [if_neg Bool.false_ne_true] at ec
   exact fY ⟨hlt,by omega,T3,dn,rs,s1.trans s3,hc3,rv.mono (hc1.le s3),ec,ey⟩
  | true=>
   rw [if_pos rfl] at ec
   obtain ⟨w,T4,e4,ec⟩:=aG ec
   refine fX ⟨O,ts,some (.d d)::ρ,T3,w,T4,hc3,((re.mono hc s1).cons rd).mono hc1 s3,e4,fun u H4 s4 hc4 r4=>?_⟩
   split at ec
   ·rename_i y
    obtain ⟨zs,T5,e5,ec⟩:=aG ec
    cases ec
    refine ⟨hlt,by simp; omega,T4,dn++[y],zs,s1.trans (s3.trans s4),hc4,(rv.mono (hc1.le (s3.trans s4))).append (.cons r4 .nil),e5,by rw [ey]; simp⟩
   ·cases ec
 ·have e:i=ds.length:=by omega
  subst e
  rw [List.drop_eq_nil_of_le (Nat.le_refl _)] at ec
  cases ec
  rw [List.append_nil] at ey
  subst ey
  exact .inl ⟨k2,by omega,q vs H' s1 hc1 rv⟩
structure DTs (X:Cx) (es:List Expr) (f:FT):Prop where
 pe:PTs X es (liftT X.K f)
theorem dA {X:Cx}:DTs X [] bo:=⟨fun pins s σ H Q E I h=>by
 refine yR pins s σ H Q E I ?_
 obtain ⟨O,ts,ρ,T,w,T',hc,re,e,q⟩:=h
 cases e
 exact q H (.refl _ _) hc⟩
theorem ic {X:Cx} {c:Expr} {f:FT} (hx:X.xe=fun _ _=>False) (h:DT X c f):DTs X [c] f:=⟨yQ hx h.pe⟩
theorem c8 {X:Cx} {x:Str} {scope osc:Scope} {N N':List Str} {elt iter:Expr} {ifs:List Expr} {px pos:Pos} {it:FI} {c:FT} {f:FE} (S:CS osc N x scope N') (hi:DI X (.Name x px) iter it)
  (he:∀ C s0 H0 ex,DE (b8 X x scope C s0 H0 ex N') elt f) (ht:∀ C s0 H0 ex,DTs (b8 X x scope C s0 H0 ex N') ifs c) (hc:X.calm=true:=by rfl) (hs:X.env.scope=osc:=by rfl) (hN:X.N=N:=by rfl)
  (hf:∀ v,foldedSetIterable iter X.env v=pure v:=by intro _; rfl):DE X (.ListComp elt [⟨.Name x px,iter,ifs,0⟩] scope pos) (bf it c f):=by
 refine ⟨?_⟩
 refine bx (xM (wi:=kY X.K it) (tt:=liftT X.K c) (te:=lift X.K f) S hi.pe (fun C s0 H0 ex=>(he C s0 H0 ex).pe) (fun C s0 H0 ex=>(ht C s0 H0 ex).pe) hc hs hN hf) fun σ H Q=>?_
 rintro ⟨O,ts,ρ,T,w,T',hc,re,e,q⟩
 obtain ⟨ds,T1,e1,e⟩:=aG e
 obtain ⟨ys,T2,e2,e⟩:=aG e
 cases e
 refine ⟨O,ts,ρ,T,ds,T1,hc,re,e1,fun J H1 s1 hc1 ok hz=>?_⟩
 exact rH hc1 (re.mono hc s1) ok hz e2 fun vs H' s2 hc2 r2 p hp=>q _ _ (s1.trans (s2.trans (.new hp _))) (hc2.new hp _) (hc2.newL hp r2)
inductive Fl where
 | nx | rt (x:PyData) | ro (x:PyData) | bk | ct
abbrev FS:=Rho→Tp→Option ((Fl×Rho)×Tp)
structure RS (K:Frag) (O₀:Addr→Prop) (H₀:Hp) (F:List ((Addr→Prop)×Hp)) (ts:List Addr) (O:Addr→Prop) (H:Hp) (σ:L2.St) (ρ:Rho) (T:Tp):Prop where
 hc:HC K O ts H T
 re:RelE K O ts H σ ρ
 sub:∀ b,O₀ b→O b
 ots:∀ b∈ts,O₀ b
 same:SameX ts H₀ H
 fresh:∀ (i:Nat) (xs:PyData) (a:Addr),ρ[i]? = some (some (.loc xs))→σ[i]? = some (some (.ref a))→H₀ a=none∧¬ O₀ a
 dist:∀ (i j:Nat) (xs ys:PyData) (v:V),ρ[i]? = some (some (.loc xs))→ρ[j]? = some (some (.loc ys))→σ[i]? = some (some v)→σ[j]? = some (some v)→i=j
 frs:∀ f∈F,Le f.1 f.2 O H
 len:σ.length=ρ.length
def OwnV (K:Frag) (O A:Addr→Prop) (H:Hp) (v:V):PyData→Prop
 | .tuple [x,y]=>∃ p a b,v=.ref p∧a≠b∧(∀ c,A c↔c=a∨c=b)∧¬ O p∧H p=some (.tup [.ref a,.ref b])∧OwnAt K O H a x∧OwnAt K O H b y
 | .none=>v=.non∧∀ c,¬ A c
 | x=>∃ a,v=.ref a∧(∀ c,A c↔c=a)∧OwnAt K O H a x
theorem OwnV.mono {K:Frag} {O O' A:Addr→Prop} {H:Hp} {v:V} {x:PyData} (le:Le O H O' H) (h:OwnV K O A H v x):OwnV K O' A H v x:=by
 unfold OwnV at h ⊢
 split at h
 ·obtain ⟨p,a,b,e1,e2,e3,np,hp,oa,ob⟩:=h
  exact ⟨p,a,b,e1,e2,e3,(le p _ np hp).1,hp,oa.mono (fun _ h=>h) le,ob.mono (fun _ h=>h) le⟩
 ·exact h
 ·obtain ⟨a,e,hA,oa⟩:=h
  exact ⟨a,e,hA,oa.mono (fun _ h=>h) le⟩
def tJ (K:Frag) (O₀:Addr→Prop) (H₀:Hp) (F:List ((Addr→Prop)×Hp)) (ts:List Addr) (D:Ends) (ρ':Rho) (T':Tp):Fl→Prop
 | .nx=>∀ O' σ' H',RS K O₀ H₀ F ts O' H' σ' ρ' T'→D.nx σ' H'
 | .bk=>∀ O' σ' H',RS K O₀ H₀ F ts O' H' σ' ρ' T'→D.bk σ' H'
 | .ct=>∀ O' σ' H',RS K O₀ H₀ F ts O' H' σ' ρ' T'→D.ct σ' H'
 | .rt x=>∀ v H',SameX ts H₀ H'→HC K O₀ ts H' T'→Rep K O₀ H' v x→D.rt v H'
 | .ro x=>∀ (A:Addr→Prop) v H',SameX ts H₀ H'→(∀ b,A b→H₀ b=none∧¬ O₀ b)→HC K (fun b=>O₀ b∨A b) ts H' T'→OwnV K (fun b=>O₀ b∨A b) A H' v x→D.rt v H'
inductive LiftSP (K:Frag) (f:FS) (D:Ends) (σ:L2.St) (H:Hp):Prop where
 | mk (O₀:Addr→Prop) (H₀:Hp) (F:List ((Addr→Prop)×Hp)) (ts:List Addr) (O:Addr→Prop) (ρ:Rho) (T:Tp) (fl:Fl) (ρ':Rho) (T':Tp) (rs:RS K O₀ H₀ F ts O H σ ρ T) (e:f ρ T=some ((fl,ρ'),T')) (q:tJ K O₀ H₀ F ts D ρ' T' fl):LiftSP K f D σ H
def nY (K:Frag) (f:FS):TS:=fun D σ H=>LiftSP K f D σ H
structure DS (X:Cx) (s:Stmt) (f:FS):Prop where
 pe:PS X s (nY X.K f)
structure DSs (X:Cx) (s:List Stmt) (f:FS):Prop where
 pe:PSs X s (nY X.K f)
theorem bw {X:Cx} {e:Stmt} {t t':TS} (h:PS X e t) (i:∀ D σ H,t' D σ H→t D σ H):PS X e t':=fun pins s σ H D I q=>h pins s σ H D I (i D σ H q)
theorem jZ {X:Cx} {e:List Stmt} {t t':TS} (h:PSs X e t) (i:∀ D σ H,t' D σ H→t D σ H):PSs X e t':=fun pins s σ H D I q=>h pins s σ H D I (i D σ H q)
section
variable {K:Frag} {O₀:Addr→Prop} {H₀:Hp} {F:List ((Addr→Prop)×Hp)} {ts:List Addr} {O:Addr→Prop} {H H1:Hp} {σ:L2.St} {ρ:Rho} {T T1:Tp}
theorem RS.step (r:RS K O₀ H₀ F ts O H σ ρ T) (s:SameX ts H H1) (c:HC K O ts H1 T1):RS K O₀ H₀ F ts O H1 σ ρ T1 where
 hc:=c
 re:=r.re.mono r.hc s
 sub:=r.sub
 ots:=r.ots
 same:=r.same.trans s
 fresh:=r.fresh
 dist:=r.dist
 frs:=fun f hf=>(r.frs f hf).trans (r.hc.le s)
 len:=r.len
theorem dw {i j:Nat} {w:W} {xs:PyData} (hw:∀ ys,w≠.loc ys) (e:(ρ.set i (some w))[j]? = some (some (.loc xs))):j≠i∧ρ[j]? = some (some (.loc xs)):=by
 by_cases z:i=j
 ·subst z
  rw [List.getElem?_set_self'] at e
  cases h:ρ[i]? with
  | none=>rw [h] at e; cases e
  | some u=>
   rw [h] at e
   have e':some (some w)=some (some (W.loc xs)):=e
   cases e'
   exact absurd rfl (hw xs)
 ·rw [List.getElem?_set_ne z] at e
  exact ⟨fun q=>z q.symm,e⟩
theorem RS.set {i:Nat} {v:V} {w:W} (r:RS K O₀ H₀ F ts O H σ ρ T) (rw':RepW K O ts H v w) (hw:∀ ys,w≠.loc ys):RS K O₀ H₀ F ts O H (σ.set i (some v)) (ρ.set i (some w)) T where
 hc:=r.hc
 re:=fun j u e=>by
  by_cases z:i=j
  ·subst z
   have hl:i < ρ.length:=by
    have:=(List.getElem?_eq_some_iff.mp e).1
    simpa using this
   rw [List.getElem?_set_self hl] at e
   cases e
   exact ⟨v,by rw [List.getElem?_set_self (by rw [r.len]; exact hl)],rw'⟩
  ·rw [List.getElem?_set_ne z] at e
   obtain ⟨x,h1,h2⟩:=r.re j u e
   exact ⟨x,by rw [List.getElem?_set_ne z]; exact h1,h2⟩
 sub:=r.sub
 ots:=r.ots
 same:=r.same
 fresh:=fun j xs a e1 e2=>by
  obtain ⟨n,e⟩:=dw hw e1
  rw [List.getElem?_set_ne (Ne.symm n)] at e2
  exact r.fresh j xs a e e2
 dist:=fun j k xs ys u e1 e2 e3 e4=>by
  obtain ⟨n1,e1⟩:=dw hw e1
  obtain ⟨n2,e2⟩:=dw hw e2
  rw [List.getElem?_set_ne (Ne.symm n1)] at e3
  rw [List.getElem?_set_ne (Ne.symm n2)] at e4
  exact r.dist j k xs ys u e1 e2 e3 e4
 frs:=r.frs
 len:=by simp [r.len]
theorem RS.ownO {i:Nat} {p:Addr} {o:HO} {xs:PyData} (r:RS K O₀ H₀ F ts O H σ ρ T) (hp:H p=none) (hm:Mut (some o)) (rv:Le O H (fun b=>O b∨b=p) (upd H p o)→OwnAt K (fun b=>O b∨b=p) (upd H p o) p xs):RS K O₀ H₀ F ts (fun b=>O b∨b=p) (upd H p o) (σ.set i (some (.ref p))) (ρ.set i (some (.loc xs))) T:=by
 have le:Le O H (fun b=>O b∨b=p) (upd H p o):=fun a o n e=>by
  have z:a≠p:=c6 e hp
  exact ⟨fun q=>q.elim n z,by rw [aK z]; exact e⟩
 have h0:∀ {G:Hp},SameX ts G H→p∉ts→G p=none:=fun {G} s nt=>by
  cases e:G p with
  | none=>rfl
  | some o=>rw [s p o nt e] at hp; cases hp
 have nO:=r.hc.fresh hp
 have nt:p∉ts:=fun z=>nO (r.hc.own p z)
 have old:∀ {j:Nat} {v:V} {w:W},σ[j]? = some (some v)→RepW K O ts H v w→RepW K (fun b=>O b∨b=p) ts (upd H p o) v w:=fun {j v w} e q=>by
  cases w with
  | d x=>exact Rep.mono le q
  | tp k=>exact q
  | loc ys=>
   obtain ⟨a,e1,h1,h2,h3⟩:=q
   exact ⟨a,e1,.inl h1,h2,h3.mono (fun o' q=>by rw [aK (c6 q hp)]; exact q) le⟩
 have notp:∀ {j:Nat} {ys:PyData},ρ[j]? = some (some (.loc ys))→σ[j]? = some (some (.ref p))→False:=fun {j ys} e1 e2=>by
  obtain ⟨v,h1,a,ea,h2,h3,h4⟩:=r.re j _ e1
  rw [e2] at h1
  cases h1
  cases ea
  obtain ⟨o',h5⟩:=h4.some
  rw [hp] at h5
  cases h5
 refine ⟨⟨fun b hb=>.inl (r.hc.own b hb),fun b hb=>?_,r.hc.nd,r.hc.len,fun j a ys e1 e2=>?_⟩,fun j w e=>?_,fun b hb=>.inl (r.sub b hb),r.ots,r.same.trans (.new hp _),fun j ys a e1 e2=>?_,fun j k ys zs v e1 e2 e3 e4=>?_,fun f hf=>(r.frs f hf).trans le,by simp [r.len]⟩
 ·by_cases z:b=p
  ·subst z; rw [br]; exact hm
  ·rw [aK z]
   exact r.hc.trk b (hb.resolve_right z)
 ·exact (r.hc.tape j a ys e1 e2).mono (fun o' h1=>by rw [aK (c6 h1 hp)]; exact h1) le
 ·by_cases z:i=j
  ·subst z
   have hl:i < ρ.length:=by
    have:=(List.getElem?_eq_some_iff.mp e).1
    simpa using this
   rw [List.getElem?_set_self hl] at e
   cases e
   exact ⟨.ref p,by rw [List.getElem?_set_self (by rw [r.len]; exact hl)],p,rfl,.inr rfl,nt,rv le⟩
  ·rw [List.getElem?_set_ne z] at e
   obtain ⟨x,h1,h2⟩:=r.re j w e
   exact ⟨x,by rw [List.getElem?_set_ne z]; exact h1,old h1 h2⟩
 ·by_cases z:i=j
  ·subst z
   have hl:i < ρ.length:=by
    have:=(List.getElem?_eq_some_iff.mp e1).1
    simpa using this
   rw [List.getElem?_set_self (by rw [r.len]; exact hl)] at e2
   cases e2
   exact ⟨h0 r.same nt,fun q=>nO (r.sub _ q)⟩
  ·rw [List.getElem?_set_ne z] at e1 e2
   exact r.fresh j ys a e1 e2
 ·by_cases z:i=j
  ·by_cases z':i=k
   ·rw [← z,← z']
   ·exfalso
    subst z
    have hl:i < ρ.length:=by
     have:=(List.getElem?_eq_some_iff.mp e1).1
     simpa using this
    rw [List.getElem?_set_self (by rw [r.len]; exact hl)] at e3
    cases e3
    rw [List.getElem?_set_ne z'] at e2 e4
    exact notp e2 e4
  ·by_cases z':i=k
   ·exfalso
    subst z'
    have hl:i < ρ.length:=by
     have:=(List.getElem?_eq_some_iff.mp e2).1
     simpa using this
    rw [List.getElem?_set_self (by rw [r.len]; exact hl)] at e4
    cases e4
    rw [List.getElem?_set_ne z] at e1 e3
    exact notp e1 e3
   ·rw [List.getElem?_set_ne z] at e1 e3
    rw [List.getElem?_set_ne z'] at e2 e4
    exact r.dist j k ys zs v e1 e2 e3 e4
theorem RS.own {i:Nat} {p:Addr} {vs:List V} {xs:List PyData} (r:RS K O₀ H₀ F ts O H σ ρ T) (hp:H p=none) (rv:Reps K O H vs xs):RS K O₀ H₀ F ts (fun b=>O b∨b=p) (upd H p (.lst vs)) (σ.set i (some (.ref p))) (ρ.set i (some (.loc (.list xs)))) T:=r.ownO hp (.inl ⟨_,rfl⟩) fun le=>⟨vs,br,rv.mono le⟩
theorem RS.putO {i:Nat} {a:Addr} {o:HO} {xs ys:PyData} (r:RS K O₀ H₀ F ts O H σ ρ T) (e1:ρ[i]? = some (some (.loc xs))) (e2:σ[i]? = some (some (.ref a))) (hm:Mut (some o)) (rv:Le O H O (upd H a o)→OwnAt K O (upd H a o) a ys):RS K O₀ H₀ F ts O (upd H a o) σ (ρ.set i (some (.loc ys))) T:=by
 obtain ⟨v,z1,a',ea,oa,nt,ha⟩:=r.re i _ e1
 rw [e2] at z1
 cases z1
 cases ea
 have hl:i < ρ.length:=(List.getElem?_eq_some_iff.mp e1).1
 obtain ⟨f1,f2⟩:=r.fresh i xs a e1 e2
 have le:Le O H O (upd H a o):=fun b o n e=>⟨n,by rw [aK (show b≠a from fun z=>n (by rw [z]; exact oa))]; exact e⟩
 have back:∀ {j:Nat} {zs:PyData},(ρ.set i (some (W.loc ys)))[j]? = some (some (.loc zs))→∃ ws,ρ[j]? = some (some (.loc ws)):=fun {j zs} e=>by
  by_cases z:i=j
  ·subst z; exact ⟨xs,e1⟩
  ·rw [List.getElem?_set_ne z] at e; exact ⟨zs,e⟩
 refine ⟨⟨r.hc.own,fun b hb=>?_,r.hc.nd,r.hc.len,fun j b zs q1 q2=>?_⟩,fun j w e=>?_,r.sub,r.ots,fun b o n e=>?_,fun j zs b q1 q2=>?_,fun j k zs zs' v q1 q2 q3 q4=>?_,fun f hf=>(r.frs f hf).trans le,by simp [r.len]⟩
 ·by_cases z:b=a
  ·subst z; rw [br]; exact hm
  ·rw [aK z]; exact r.hc.trk b hb
 ·exact (r.hc.tape j b zs q1 q2).mono (fun o' h1=>by rw [aK (show b≠a from fun z=>nt (by rw [← z]; exact List.mem_of_getElem? q1))]; exact h1) le
 ·by_cases z:i=j
  ·subst z
   rw [List.getElem?_set_self hl] at e
   cases e
   exact ⟨.ref a,e2,a,rfl,oa,nt,rv le⟩
  ·rw [List.getElem?_set_ne z] at e
   obtain ⟨x,h1,h2⟩:=r.re j w e
   refine ⟨x,h1,?_⟩
   cases w with
   | d x=>exact Rep.mono le h2
   | tp k=>exact h2
   | loc zs=>
    obtain ⟨b,eb,k1,k2,k3⟩:=h2
    have n:b≠a:=fun q=>z (r.dist i j xs zs (.ref a) e1 e e2 (by rw [h1,eb,q]))
    exact ⟨b,eb,k1,k2,k3.mono (fun o' q=>by rw [aK n]; exact q) le⟩
 ·have:=r.same b o n e
  rw [aK (show b≠a from fun z=>by rw [z,f1] at e; cases e)]
  exact this
 ·obtain ⟨ws,q⟩:=back q1
  exact r.fresh j ws b q q2
 ·obtain ⟨ws,q⟩:=back q1
  obtain ⟨ws',q'⟩:=back q2
  exact r.dist j k ws ws' v q q' q3 q4
theorem RS.put {i:Nat} {a:Addr} {vs us:List V} {xs ys:List PyData} (r:RS K O₀ H₀ F ts O H σ ρ T) (e1:ρ[i]? = some (some (.loc (.list xs)))) (e2:σ[i]? = some (some (.ref a))) (rv:Reps K O H vs ys):RS K O₀ H₀ F ts O (upd H a (.lst vs)) σ (ρ.set i (some (.loc (.list ys)))) T:=r.putO e1 e2 (.inl ⟨_,rfl⟩) fun le=>⟨vs,br,rv.mono le⟩
theorem RS.tapeO {n:Nat} {a:Addr} {o:HO} {ys:List PyData} (r:RS K O₀ H₀ F ts O H σ ρ T) (e:ts[n]? = some a) (hm:Mut (some o)) (rv:Le O H O (upd H a o)→RowAt K O (upd H a o) a ys):RS K O₀ H₀ F ts O (upd H a o) σ ρ (T.set n ys):=by
 have am:a∈ts:=List.mem_of_getElem? e
 have le:Le O H O (upd H a o):=fun b o' k q=>⟨k,by rw [aK (show b≠a from fun z=>k (by rw [z]; exact r.hc.own a am))]; exact q⟩
 have sx:SameX ts H (upd H a o):=fun b o' k q=>by rw [aK (show b≠a from fun z=>k (by rw [z]; exact am))]; exact q
 refine ⟨⟨r.hc.own,fun b hb=>?_,r.hc.nd,by simp [r.hc.len],fun j b zs q1 q2=>?_⟩,r.re.mono r.hc sx,r.sub,r.ots,r.same.trans sx,r.fresh,r.dist,fun f hf=>(r.frs f hf).trans le,r.len⟩
 ·by_cases z:b=a
  ·subst z; rw [br]; exact hm
  ·rw [aK z]; exact r.hc.trk b hb
 ·by_cases z:n=j
  ·subst z
   rw [e] at q1
   cases q1
   have hl:n < T.length:=by
    have:=(List.getElem?_eq_some_iff.mp e).1
    rw [← r.hc.len]; exact this
   rw [List.getElem?_set_self hl] at q2
   cases q2
   exact rv le
  ·rw [List.getElem?_set_ne z] at q2
   refine (r.hc.tape j b zs q1 q2).mono (fun o' h1=>?_) le
   have nb:b≠a:=fun q=>by
    rw [q] at q1
    exact z ((List.getElem?_inj (List.getElem?_eq_some_iff.mp e).1 r.hc.nd).mp (e.trans q1.symm))
   rw [aK nb]
   exact h1
theorem RS.tape {n:Nat} {a:Addr} {vs:List V} {ys:List PyData} (r:RS K O₀ H₀ F ts O H σ ρ T) (e:ts[n]? = some a) (rv:Reps K O H vs ys):RS K O₀ H₀ F ts O (upd H a (.lst vs)) σ ρ (T.set n ys):=r.tapeO e (.inl ⟨_,rfl⟩) fun le=>.inl ⟨rv.notO,vs,br,rv.mono le⟩
def iK:W→W
 | .loc x=>.d x
 | w=>w
def bH (ρ:Rho):Rho:=ρ.map (Option.map iK)
theorem RS.frzH (r:RS K O₀ H₀ F ts O H σ ρ T):HC K O₀ ts H T:=by
 have le:Le O H O₀ H:=fun a o n e=>⟨fun z=>n (r.sub a z),e⟩
 exact ⟨r.ots,fun b hb=>r.hc.trk b (r.sub b hb),r.hc.nd,r.hc.len,fun i a xs e1 e2=>(r.hc.tape i a xs e1 e2).mono (fun _ h=>h) le⟩
def um (ρ:Rho):Prop:=∀ (i:Nat) (ds:List (PyData×PyData)),ρ[i]?≠some (some (.loc (.dict ds)))
theorem RS.frz (r:RS K O₀ H₀ F ts O H σ ρ T) (nd:um ρ):HC K O₀ ts H T∧RelE K O₀ ts H σ (bH ρ):=by
 have le:Le O H O₀ H:=fun a o n e=>⟨fun z=>n (r.sub a z),e⟩
 refine ⟨r.frzH,fun i w e=>?_⟩
 unfold bH at e
 rw [List.getElem?_map] at e
 cases hu:ρ[i]? with
 | none=>rw [hu] at e; cases e
 | some u=>
  cases u with
  | none=>rw [hu] at e; cases e
  | some u=>
   rw [hu] at e
   cases e
   obtain ⟨v,h1,h2⟩:=r.re i u hu
   refine ⟨v,h1,?_⟩
   cases u with
   | d x=>exact Rep.mono le h2
   | tp k=>exact h2
   | loc xs=>
    obtain ⟨a,rfl,k1,k2,k3⟩:=h2
    cases xs with
    | list xs=>obtain ⟨vs,k3,k4⟩:=k3; exact .lst (.inl ⟨(r.fresh i _ a hu h1).2,.inl k3⟩) (k4.mono le)
    | dict xs=>exact absurd hu (nd i xs)
    | _=>cases k3
theorem RS.frzD {i:Nat} {ds:List (PyData×PyData)} (r:RS K O₀ H₀ F ts O H σ ρ T) (h1:ρ[i]? = some (some (.loc (.dict ds)))):∃ a kvs,H a=some (.dK kvs)∧∀ o,RS K O₀ H₀ F ts (fun b=>O b∧b≠a) (upd H a (.frz o (.dK kvs))) σ (ρ.set i (some (.d (.dict ds)))) T:=by
 obtain ⟨v,k1,a,rfl,k2,k3,kvs,k4,k5⟩:=r.re i _ h1
 refine ⟨a,kvs,k4,fun o=>?_⟩
 have hl:i < ρ.length:=(List.getElem?_eq_some_iff.mp h1).1
 have U:∀ {b:Addr},b≠a→upd H a (.frz o (.dK kvs)) b=H b:=fun n=>aK n
 have le:Le O H (fun b=>O b∧b≠a) (upd H a (.frz o (.dK kvs))):=fun b u n e=>⟨fun z=>n z.1,by rw [U (show b≠a from fun z=>n (by rw [z]; exact k2))]; exact e⟩
 have fr:=r.fresh i _ a h1 k1
 have hw:∀ ys,W.d (.dict ds)≠.loc ys:=fun _ z=>nomatch z
 refine ⟨⟨fun b hb=>⟨r.hc.own b hb,fun z=>k3 (z ▸ hb)⟩,fun b hb=>by rw [U hb.2]; exact r.hc.trk b hb.1,r.hc.nd,r.hc.len,fun j b ys e1 e2=>?_⟩,fun j w e=>?_,fun b hb=>⟨r.sub b hb,fun z=>fr.2 (z ▸ hb)⟩,r.ots,fun b u n e=>?_,fun j ys b e1 e2=>?_,fun j k ys zs v e1 e2 e3 e4=>?_,fun f hf=>(r.frs f hf).trans le,by simp [r.len]⟩
 ·exact (r.hc.tape j b ys e1 e2).mono (fun _ h=>by rw [U (show b≠a from fun z=>k3 (by rw [← z]; exact List.mem_of_getElem? e1))]; exact h) le
 ·by_cases z:i=j
  ·subst z
   rw [List.getElem?_set_self hl] at e
   cases e
   exact ⟨.ref a,k1,.dct (fun z=>z.2 rfl) br (k5.mono le)⟩
  ·rw [List.getElem?_set_ne z] at e
   obtain ⟨x,q1,q2⟩:=r.re j w e
   refine ⟨x,q1,?_⟩
   cases w with
   | d y=>exact Rep.mono le q2
   | tp k=>exact q2
   | loc ys=>
    obtain ⟨b,eb,m1,m2,m3⟩:=q2
    have nb:b≠a:=fun q=>z (r.dist i j _ ys (.ref a) h1 e k1 (by rw [q1,eb,q]))
    exact ⟨b,eb,⟨m1,nb⟩,m2,m3.mono (fun _ q=>by rw [U nb]; exact q) le⟩
 ·rw [U (show b≠a from fun z=>by rw [z,fr.1] at e; cases e)]
  exact r.same b u n e
 ·obtain ⟨n,e⟩:=dw hw e1
  exact r.fresh j ys b e e2
 ·obtain ⟨n1,e1⟩:=dw hw e1
  obtain ⟨n2,e2⟩:=dw hw e2
  exact r.dist j k ys zs v e1 e2 e3 e4
theorem yb {i:Nat} {x:PyData} (h:ρ[i]? = some (some (.loc x))):bH (ρ.set i (some (.d x)))=bH ρ:=by
 apply List.ext_getElem?
 intro j
 unfold bH
 rw [List.getElem?_map,List.getElem?_map]
 by_cases z:i=j
 ·subst z
  rw [List.getElem?_set_self (List.getElem?_eq_some_iff.mp h).1,h]
  rfl
 ·rw [List.getElem?_set_ne z]
theorem RS.frzN (R:Rho):∀ (k:Nat) {O:Addr→Prop} {H:Hp} {ρ:Rho},RS K O₀ H₀ F ts O H σ ρ T→(∀ j ds,k≤j→ρ[j]?≠some (some (.loc (.dict ds))))→bH ρ=R →
  Gh (fun H'=>∃ O' ρ',RS K O₀ H₀ F ts O' H' σ ρ' T∧um ρ'∧bH ρ'=R) H
 | 0,O,H,ρ,r,n,e=>.done ⟨O,ρ,r,fun j ds=>n j ds (Nat.zero_le _),e⟩
 | k + 1,O,H,ρ,r,n,e=>by
  by_cases h:∃ ds,ρ[k]? = some (some (.loc (.dict ds)))
  ·obtain ⟨ds,h⟩:=h
   obtain ⟨a,kvs,e1,f⟩:=r.frzD h
   refine .frz e1 fun o=>RS.frzN R k (f o) (fun j es hj=>?_) (by rw [yb h]; exact e)
   by_cases z:k=j
   ·subst z
    rw [List.getElem?_set_self (List.getElem?_eq_some_iff.mp h).1]
    intro q
    cases q
   ·rw [List.getElem?_set_ne z]
    exact n j es (by omega)
  ·refine RS.frzN R k r (fun j ds hj=>?_) e
   by_cases z:k=j
   ·subst z
    exact fun q=>h ⟨ds,q⟩
   ·exact n j ds (by omega)
theorem RS.frzG (r:RS K O₀ H₀ F ts O H σ ρ T):Gh (fun H'=>SameX ts H₀ H'∧HC K O₀ ts H' T∧RelE K O₀ ts H' σ (bH ρ)) H:=(RS.frzN (bH ρ) ρ.length r (fun j ds hj=>by rw [List.getElem?_eq_none hj]; exact fun z=>nomatch z) rfl).imp fun H' ⟨O',ρ',r',n,e⟩=>⟨r'.same,by rw [← e]; exact r'.frz n⟩
end
def aC:FS:=fun ρ T=>some ((.nx,ρ),T)
def aj (f g:FS):FS:=fun ρ T=>bnd (f ρ T) fun p T1=>match p with
 | (.nx,ρ1)=>g ρ1 T1
 | (fl,ρ1)=>some ((fl,ρ1),T1)
def aD (i:Nat) (f:FE):FS:=fun ρ T=>bnd (f ρ T) fun w T1=>match w with
 | .d x=>some ((.nx,ρ.set i (some (.d x))),T1)
 | .tp k=>some ((.nx,ρ.set i (some (.tp k))),T1)
 | .loc _=>none
def bB (i:Nat) (g:FA):FS:=fun ρ T=>bnd (g ρ T) fun ws T1=>match dq ws with
 | some xs=>if xs.length≤1000 then some ((.nx,ρ.set i (some (.loc (.list xs)))),T1) else none
 | none=>none
def bS (i:Nat) (f:FE):FS:=fun ρ T=>bnd (f ρ T) fun w T1=>match w with
 | .d x=>(match ρ[i]? with
  | some (some (.loc (.list xs)))=>if xs.length < sizeLine then some ((.nx,ρ.set i (some (.loc (.list (xs++[x]))))),T1) else none
  | _=>none)
 | _=>none
def jH (fo fk fe:FE):FS:=fun ρ T=>bnd (fe ρ T) fun w T1=>bnd (fo ρ T1) fun o T2=>bnd (fk ρ T2) fun k T3=>match w,o,k with
 | .d x,.tp n,.d (.int i)=>match T3[n]? with
  | some xs=>if isO xs=true then none else match ixN xs.length i with
   | some j=>some ((.nx,ρ),T3.set n (xs.set j x))
   | none=>none
  | none=>none
 | _,_,_=>none
def fIf (c:FT) (f g:FS):FS:=fun ρ T=>bnd (c ρ T) fun b T1=>if b=true then f ρ T1 else g ρ T1
def aB (f:FE):FS:=fun ρ T=>bnd (f (bH ρ) T) fun w T1=>match w with
 | .d x=>some ((.rt x,ρ),T1)
 | _=>none
def forL (i:Nat) (body:FS):List PyData→FS
 | []=>aC
 | d::r=>fun ρ T=>bnd (body (ρ.set i (some (.d d))) T) fun p T1=>match p with
  | (.nx,ρ1)=>forL i body r ρ1 T1
  | (.ct,ρ1)=>forL i body r ρ1 T1
  | (.bk,ρ1)=>some ((.nx,ρ1),T1)
  | (.rt x,ρ1)=>some ((.rt x,ρ1),T1)
  | (.ro x,ρ1)=>some ((.ro x,ρ1),T1)
def bp (i:Nat) (it:FI) (body:FS):FS:=fun ρ T=>bnd (it ρ T) fun ds T1=>forL i body ds ρ T1
def bA (c:FT) (body:FS):Nat→FS
 | 0=>fun _ _=>none
 | n + 1=>fun ρ T=>bnd (c ρ T) fun b T1=>if b=true then bnd (body ρ T1) fun p T2=>match p with
   | (.nx,ρ1)=>bA c body n ρ1 T2
   | (.ct,ρ1)=>bA c body n ρ1 T2
   | (.bk,ρ1)=>some ((.nx,ρ1),T2)
   | (.rt x,ρ1)=>some ((.rt x,ρ1),T2)
   | (.ro x,ρ1)=>some ((.ro x,ρ1),T2)
  else some ((.nx,ρ),T1)
section
variable {X:Cx} {pos:Pos} {st:Stmt} {rest:List Stmt} {f g:FS} {e:Expr} {fe:FE} {c:FT}
theorem aS:DSs X [] aC:=by
 refine ⟨?_⟩
 refine jZ yU fun D σ H=>?_
 rintro ⟨O₀,H₀,F,ts,O,ρ,T,fl,ρ',T',rs,e,q⟩
 cases e
 exact q O σ H rs
theorem av (h1:DS X st f) (h2:DSs X rest g):DSs X (st::rest) (aj f g):=by
 refine ⟨?_⟩
 refine jZ (qk h1.pe h2.pe) fun D σ H=>?_
 rintro ⟨O₀,H₀,F,ts,O,ρ,T,fl,ρ',T',rs,e,q⟩
 obtain ⟨⟨fl1,ρ1⟩,T1,e1,e⟩:=aG e
 refine ⟨O₀,H₀,F,ts,O,ρ,T,fl1,ρ1,T1,rs,e1,?_⟩
 cases fl1 with
 | nx=>exact fun O' σ' H' rs'=>⟨O₀,H₀,F,ts,O',ρ1,T1,fl,ρ',T',rs',e,q⟩
 | rt x=>cases e; exact q
 | ro x=>cases e; exact q
 | bk=>cases e; exact q
 | ct=>cases e; exact q
theorem az (h1:DS X st f):DSs X [st] f:=⟨yT h1.pe⟩
theorem aU {i:Nat} {x:Str} {pos':Pos} (hN:X.N.Nodup) (he:DE X e fe) (hi:X.N[i]? = some x:=by rfl) (hx:Loc X.env.scope x:=by first | exact Or.inl rfl | exact Or.inr rfl) (hs:swapsWith e (some (.Name x pos')) pos.line X.env=pure false:=by rfl)
  (hf:X.fn x=true∨X.env.scope.names.lookup x=some .local:=by first | exact .inl rfl | exact .inr rfl | assumption):DS X (.Assign [.Name x pos'] e pos) (aD i fe):=by
 refine ⟨?_⟩
 refine bw (dN hN hi hx he.pe hs hf) fun D σ H=>?_
 rintro ⟨O₀,H₀,F,ts,O,ρ,T,fl,ρ',T',rs,e,q⟩
 obtain ⟨w,T1,e1,e⟩:=aG e
 refine ⟨O,ts,ρ,T,w,T1,rs.hc,rs.re,e1,fun v H1 s1 hc1 r1=>?_⟩
 cases w with
 | d x=>cases e; exact q O _ _ ((rs.step s1 hc1).set r1 fun _ z=>nomatch z)
 | tp k=>cases e; exact q O _ _ ((rs.step s1 hc1).set r1 fun _ z=>nomatch z)
 | loc xs=>cases e
theorem mT {i:Nat} {x y:Str} {scope osc:Scope} {N N':List Str} {elt iter:Expr} {ifs:List Expr} {px py spos:Pos} {it:FI} {c:FT} {f:FE} (S:CS osc N x scope N') (hN:X.N.Nodup) (hi:DI X (.Name x px) iter it)
  (he:∀ C s0 H0 ex,DE (b8 X x scope C s0 H0 ex N') elt f) (ht:∀ C s0 H0 ex,DTs (b8 X x scope C s0 H0 ex N') ifs c) (hi':X.N[i]? = some y:=by rfl) (hy:Loc X.env.scope y:=by first | exact Or.inl rfl | exact Or.inr rfl)
  (hf':X.fn y=true∨X.env.scope.names.lookup y=some .local:=by first | exact .inl rfl | exact .inr rfl | assumption) (hc:X.calm=true:=by rfl) (hs:X.env.scope=osc:=by rfl) (hN':X.N=N:=by rfl)
  (hsw:swapsWith (.ListComp elt [⟨.Name x px,iter,ifs,0⟩] scope pos) (some (.Name y py)) spos.line X.env=pure true:=by rfl) (hf:∀ v,foldedSetIterable iter X.env v=pure v:=by intro _; rfl) :
  DS X (.Assign [.Name y py] (.ListComp elt [⟨.Name x px,iter,ifs,0⟩] scope pos) spos) (aD i (bf it c f)):=by
 refine ⟨?_⟩
 subst hs hN'
 refine bw (yV (wi:=kY X.K it) (tt:=liftT X.K c) (te:=lift X.K f) hc S hN hi' hy hf' hi.pe (fun C s0 H0 ex=>(he C s0 H0 ex).pe) (fun C s0 H0 ex=>(ht C s0 H0 ex).pe) hsw hf) fun D σ H=>?_
 rintro ⟨O₀,H₀,F,ts,O,ρ,T,fl,ρ',T',rs,e,q⟩
 obtain ⟨w,T1,e1,e⟩:=aG e
 obtain ⟨ds,T2,e2,e1⟩:=aG e1
 obtain ⟨ys,T3,e3,e1⟩:=aG e1
 cases e1
 cases e
 refine ⟨O,ts,ρ,T,ds,T2,rs.hc,rs.re,e2,fun J H1 s1 hc1 ok hz=>?_⟩
 exact rH hc1 (rs.re.mono rs.hc s1) ok hz e3 fun vs H' s2 hc2 r2 p hp=>q O _ _ ((rs.step (s1.trans (s2.trans (.new hp _))) (hc2.new hp _)).set (hc2.newL hp r2) fun _ z=>nomatch z)
theorem dZ {i:Nat} {x:Str} {pos':Pos} {es:List Expr} {lpos:Pos} {g:FA} (hN:X.N.Nodup) (he:DA X es g) (hi:X.N[i]? = some x:=by rfl) (hx:Loc X.env.scope x:=by first | exact Or.inl rfl | exact Or.inr rfl)
  (hs:swapsWith (.List es lpos) (some (.Name x pos')) pos.line X.env=pure false:=by rfl) (hf:X.fn x=true∨X.env.scope.names.lookup x=some .local:=by first | exact .inl rfl | exact .inr rfl | assumption):DS X (.Assign [.Name x pos'] (.List es lpos) pos) (bB i g):=by
 refine ⟨?_⟩
 refine bw (dN hN hi hx (nv he.pe) hs hf) fun D σ H=>?_
 rintro ⟨O₀,H₀,F,ts,O,ρ,T,fl,ρ',T',rs,e,q⟩
 obtain ⟨ws,T1,e1,e⟩:=aG e
 refine ⟨O,ts,ρ,T,ws,T1,rs.hc,rs.re,e1,fun vs H1 s1 hc1 r1=>?_⟩
 split at e
 ·rename_i xs h1
  split at e
  ·rename_i h2
   cases e
   have rv:=iV r1 h1
   exact ⟨j8 (by rw [rv.length]; exact h2),fun p hp=>q _ _ _ ((rs.step s1 hc1).own hp rv)⟩
  ·cases e
 ·cases e
theorem aN {ce:Expr} {a b:List Stmt} (hc:DT X ce c) (ha:DSs X a f) (hb:DSs X b g):DS X (.If ce a b pos) (fIf c f g):=by
 refine ⟨?_⟩
 refine bw (BQ hc.pe ha.pe hb.pe) fun D σ H=>?_
 rintro ⟨O₀,H₀,F,ts,O,ρ,T,fl,ρ',T',rs,e,q⟩
 obtain ⟨b1,T1,e1,e⟩:=aG e
 refine ⟨O,ts,ρ,T,b1,T1,rs.hc,rs.re,e1,fun H1 s1 hc1=>?_⟩
 cases b1 with
 | true=>exact fX ⟨O₀,H₀,F,ts,O,ρ,T1,fl,ρ',T',rs.step s1 hc1,by simpa using e,q⟩
 | false=>exact fY ⟨O₀,H₀,F,ts,O,ρ,T1,fl,ρ',T',rs.step s1 hc1,by simpa using e,q⟩
theorem aL (he:DE X e fe):DS X (.Return (some e) pos) (aB fe):=by
 refine ⟨?_⟩
 refine bw (BR (je he.pe)) fun D σ H=>?_
 rintro ⟨O₀,H₀,F,ts,O,ρ,T,fl,ρ',T',rs,e,q⟩
 obtain ⟨w,T1,e1,e⟩:=aG e
 refine rs.frzG.imp fun H0 ⟨same,c0,re0⟩=>?_
 refine ⟨O₀,ts,bH ρ,T,w,T1,c0,re0,e1,fun v H1 s1 hc1 r1=>?_⟩
 cases w with
 | d x=>cases e; exact q v H1 (same.trans s1) hc1 r1
 | tp k=>cases e
 | loc xs=>cases e
theorem eR {i:Nat} {x:Str} {p apos:Pos} (he:DE X e fe) (hN:X.N[i]? = some x:=by rfl) (hv:Vis X.env.scope x:=by first | exact Or.inl rfl | exact Or.inr (Or.inl rfl) | exact Or.inr (Or.inr rfl)) (hd:(x == ("__debug__" : Str))=false:=by decide)
  (hcd:(x == ("__classdict__" : Str))=false:=by decide) {cpos:Pos}
  (hbase:attributeBase (.Name x p) "append" X.env (eval (.Name x p) X.env)=eval (.Name x p) X.env:=by rfl)
  (hfew:((backTo cpos (starEach [e] X.env)).all (fun x=>!x.1) && (backToKw cpos (keywordEach [] X.env)).all (fun x=>x.1.isSome)
   && decide (([e]:List Expr).length + ([]:List Keyword).length + (if ([]:List Keyword).isEmpty then 0 else 1) < 30))=true:=by exact g4 rfl)
  (hline:(apos.endLine == cpos.line)=true:=by rfl) (hse:starEach [e] X.env=(false,eval e X.env)::starEach [] X.env:=by exact bq rfl) (hplain:(backTo cpos (starEach [] X.env)).any (·.1)=false:=by exact bD rfl)
  (hs:swapsWith (.Call (.Attribute (.Name x p) "append" apos) [e] [] cpos) none pos.line X.env=pure false:=by rfl) :
  DS X (.Expr (.Call (.Attribute (.Name x p) "append" apos) [e] [] cpos) pos) (bS i fe):=by
 refine ⟨?_⟩
 refine bw (j3 (fR PySem.F.plainAttrs_list PySem.F.slot_list_append PySem.F.type_list_append pM (pv i hN hv hd hcd) (bV he.pe cG hse) hbase hfew hline hse hplain) hs) fun D σ H=>?_
 rintro ⟨O₀,H₀,F,ts,O,ρ,T,fl,ρ',T',rs,e,q⟩
 obtain ⟨w,T1,e1,e⟩:=aG e
 split at e
 ·rename_i x0
  split at e
  ·rename_i xs h1
   split at e
   ·rename_i h2
    cases e
    obtain ⟨v,k1,a,rfl,k2,k3,vs,k4,k5⟩:=rs.re i _ h1
    refine ⟨_,k1,.inl ⟨rfl,vs,SqL.of k4⟩,O,ts,ρ,T,_,_,rs.hc,rs.re,e1,fun u H1 s1 hc1 r1=>?_⟩
    have rs1:=rs.step s1 hc1
    exact ⟨a,vs,u,rfl,rfl,s1 _ _ k3 k4,by rw [k5.length]; exact h2,q O _ _ (rs1.put (us:=[]) h1 k1 ((k5.mono (rs.hc.le s1)).append (.cons r1 .nil)))⟩
   ·cases e
  ·cases e
 ·cases e
theorem sN {o k:Expr} {fo fk:FE} {tpos:Pos} (ho:DE X o fo) (hk:DE X k fk) (he:DE X e fe) (ha:∀ v,assign (.Subscript o k tpos) X.env v=(do
   let ov ← holding [v] (eval o X.env)
   let iv ← holding [v,ov] (eval k X.env)
   standAt tpos
   holding [v,ov,iv] (setItem ov iv v)
   release [v,ov,iv] []):=by intro _; rfl)
  (hs:swapsWithSole [.Subscript o k tpos] e pos.line X.env=pure false:=by rfl) (hw:swappedStores [.Subscript o k tpos] e X.env=pure none:=by rfl)
  (h1:(assignEach [.Subscript o k tpos] X.env).map (·.2)=[assign (.Subscript o k tpos) X.env]:=by rfl):DS X (.Assign [.Subscript o k tpos] e pos) (jH fo fk fe):=by
 refine ⟨?_⟩
 refine bw (se he.pe (AG ho.pe hk.pe set_list ha) hs hw h1) fun D σ H=>?_
 rintro ⟨O₀,H₀,F,ts,O,ρ,T,fl,ρ',T',rs,e,q⟩
 obtain ⟨w,T1,e1,e⟩:=aG e
 obtain ⟨wo,T2,e2,e⟩:=aG e
 obtain ⟨wk,T3,e3,e⟩:=aG e
 refine ⟨O,ts,ρ,T,w,T1,rs.hc,rs.re,e1,fun v H1 s1 hc1 r1=>?_⟩
 have rs1:=rs.step s1 hc1
 refine ⟨O,ts,ρ,T1,wo,T2,hc1,rs1.re,e2,fun vo H2 s2 hc2 r2=>?_⟩
 have rs2:=rs1.step s2 hc2
 refine ⟨O,ts,ρ,T2,wk,T3,hc2,rs2.re,e3,fun vk H3 s3 hc3 r3=>?_⟩
 have rs3:=rs2.step s3 hc3
 split at e
 ·split at e
  ·rename_i xs h1
   split at e
   ·cases e
   ·rename_i hn
    split at e
    ·rename_i j h2
     cases e
     obtain ⟨a,k1,rfl⟩:=r2
     cases (show Rep X.K O H3 vk (.int _) from r3)
     obtain ⟨vs,k2,k3⟩:=(hc3.tape _ a xs k1 h1).lst (by simpa using hn)
     refine ⟨a,vs,_,j,rfl,rfl,k2,by rw [k3.length]; exact h2,q O _ _ (rs3.tape k1 (Reps.set ?_ j k3))⟩
     exact Rep.mono ((hc1.le s2).trans (hc2.le s3)) r1
    ·cases e
  ·cases e
 ·cases e
end
section
variable {K:Frag} {O₀:Addr→Prop} {H₀:Hp} {F:List ((Addr→Prop)×Hp)} {ts:List Addr} {O:Addr→Prop} {H H1:Hp} {σ:L2.St} {ρ:Rho} {T T1:Tp}
theorem RS.less {f:(Addr→Prop)×Hp} (r:RS K O₀ H₀ (f::F) ts O H σ ρ T):RS K O₀ H₀ F ts O H σ ρ T:=⟨r.hc,r.re,r.sub,r.ots,r.same,r.fresh,r.dist,fun f hf=>r.frs f (List.mem_cons_of_mem _ hf),r.len⟩
theorem RS.more (r:RS K O₀ H₀ F ts O H σ ρ T):RS K O₀ H₀ ((O,H)::F) ts O H σ ρ T:=⟨r.hc,r.re,r.sub,r.ots,r.same,r.fresh,r.dist,fun f hf=>by
 rcases List.mem_cons.mp hf with z | z
 ·subst z; exact fun a o n e=>⟨n,e⟩
 ·exact r.frs f z,r.len⟩
def frzAt (i:Nat) (ρ:Rho):Rho:=match ρ[i]? with
 | some (some (.loc x))=>ρ.set i (some (.d x))
 | _=>ρ
theorem RS.frzAt (i:Nat) (r:RS K O₀ H₀ F ts O H σ ρ T):Gh (fun H'=>∃ O',RS K O₀ H₀ F ts O' H' σ (frzAt i ρ) T) H:=by
 unfold D.frzAt
 split
 ·rename_i xs h1
  by_cases hd:∃ ds,xs=.dict ds
  ·obtain ⟨ds,rfl⟩:=hd
   obtain ⟨a,kvs,e1,f⟩:=r.frzD h1
   exact .frz e1 fun o=>.done ⟨_,f o⟩
  refine .done ?_
  obtain ⟨v,k1,a,rfl,k2,k3,k4⟩:=r.re i _ h1
  have hl:i < ρ.length:=(List.getElem?_eq_some_iff.mp h1).1
  have le:Le O H (fun b=>O b∧b≠a) H:=fun b o n e=>⟨fun z=>n z.1,e⟩
  have fr:=r.fresh i xs a h1 k1
  have hw:∀ ys,W.d xs≠.loc ys:=fun _ z=>nomatch z
  refine ⟨fun b=>O b∧b≠a,⟨fun b hb=>⟨r.hc.own b hb,fun z=>k3 (z ▸ hb)⟩,fun b hb=>r.hc.trk b hb.1,r.hc.nd,r.hc.len,fun j b ys e1 e2=>?_⟩,fun j w e=>?_,fun b hb=>⟨r.sub b hb,fun z=>fr.2 (z ▸ hb)⟩,r.ots,r.same,fun j ys b e1 e2=>?_,fun j k ys zs v e1 e2 e3 e4=>?_,fun f hf=>(r.frs f hf).trans le,by simp [r.len]⟩
  ·exact (r.hc.tape j b ys e1 e2).mono (fun _ h=>h) le
  ·by_cases z:i=j
   ·subst z
    rw [List.getElem?_set_self hl] at e
    cases e
    refine ⟨.ref a,k1,?_⟩
    cases xs with
    | list xs=>obtain ⟨vs,k4,k5⟩:=k4; exact .lst (.inl ⟨fun z=>z.2 rfl,.inl k4⟩) (k5.mono le)
    | dict xs=>exact absurd ⟨xs,rfl⟩ hd
    | _=>cases k4
   ·rw [List.getElem?_set_ne z] at e
    obtain ⟨x,q1,q2⟩:=r.re j w e
    refine ⟨x,q1,?_⟩
    cases w with
    | d y=>exact Rep.mono le q2
    | tp k=>exact q2
    | loc ys=>
     obtain ⟨b,eb,m1,m2,m3⟩:=q2
     refine ⟨b,eb,⟨m1,fun q=>z (r.dist i j xs ys (.ref a) h1 e k1 (by rw [q1,eb,q]))⟩,m2,m3.mono (fun _ q=>q) le⟩
  ·obtain ⟨n,e⟩:=dw hw e1
   exact r.fresh j ys b e e2
  ·obtain ⟨n1,e1⟩:=dw hw e1
   obtain ⟨n2,e2⟩:=dw hw e2
   exact r.dist j k ys zs v e1 e2 e3 e4
 ·exact .done ⟨O,r⟩
end
def f6 (i:Nat) (f:FS):FS:=fun ρ T=>f (frzAt i ρ) T
section
variable {X:Cx} {pos:Pos} {st:Stmt} {rest:List Stmt} {f g:FS} {e:Expr} {fe:FE} {c:FT}
theorem rD (i:Nat) (h:DSs X rest f):DSs X rest (f6 i f):=by
 refine ⟨?_⟩
 refine jZ (AE h.pe) fun D σ H=>?_
 rintro ⟨O₀,H₀,F,ts,O,ρ,T,fl,ρ',T',rs,e,q⟩
 exact (rs.frzAt i).imp fun H' ⟨O',rs'⟩=>⟨O₀,H₀,F,ts,O',_,T,fl,ρ',T',rs',e,q⟩
theorem dk {i:Nat} {x:Str} {iter:Expr} {body:List Stmt} {tpos:Pos} {it:FI} (hN:X.N.Nodup) (hi:DI X (.Name x tpos) iter it) (hb:DSs X body f) (hix:X.N[i]? = some x:=by rfl) (hx:Loc X.env.scope x:=by first | exact Or.inl rfl | exact Or.inr rfl)
  (hf:X.fn x=true∨X.env.scope.names.lookup x=some .local:=by first | exact .inl rfl | exact .inr rfl | assumption) (hp:PassesOwn (model X.prog X.w) X.A X.env X.xe:=by exact PassesOwn.never) (hc:X.calm=true:=by rfl)
  (hs:∀ x,foldedSetIterable iter X.env x=pure x:=by intro _; rfl):DS X (.For (.Name x tpos) iter body [] pos) (bp i it f):=by
 refine ⟨?_⟩
 refine bw (nu hp hc hi.pe (eL hN hix hx hf) hb.pe hs) fun D σ H=>?_
 rintro ⟨O₀,H₀,F,ts,O,ρ,T,fl,ρ',T',rs,e,q⟩
 obtain ⟨ds,T1,e1,e⟩:=aG e
 refine ⟨O,ts,ρ,T,ds,T1,rs.hc,rs.re,e1,fun J H1 s1 hc1 ok hz=>?_⟩
 refine ⟨fun k m σ H=>m=ds.length - k∧k≤ds.length∧∃ O' ρk Tk,RS X.K O₀ H₀ ((O,H1)::F) ts O' H σ ρk Tk∧forL i f (ds.drop k) ρk Tk=some ((fl,ρ'),T'),⟨_,rfl,Nat.zero_le _,O,ρ,T1,(rs.step s1 hc1).more,e⟩,?_⟩
 rintro k m σ2 H2 ⟨rfl,hk,O',ρk,Tk,rs2,ek⟩
 obtain ⟨k1,k2,k3⟩:=ok O' H2 (rs2.frs _ List.mem_cons_self)
 by_cases hlt:k < ds.length
 ·refine .inr ⟨k1 k hlt,fun σ3 H3=>∃ O' ρk Tk,RS X.K O₀ H₀ ((O,H1)::F) ts O' H3 σ3 ρk Tk∧forL i f (ds.drop (k + 1)) ρk Tk=some ((fl,ρ'),T'),fun σ3 H3 n=>⟨ds.length - (k + 1),by omega,rfl,hlt,n⟩,fun v H3 y=>?_⟩
  obtain ⟨e2,d,hd,rd⟩:=k3 k v H3 y hlt
  subst e2
  have hdr:ds.drop k=d::ds.drop (k + 1):=by
   rw [List.drop_eq_getElem_cons hlt]
   have:=(List.getElem?_eq_some_iff.mp hd).2
   rw [this]
  rw [hdr] at ek
  obtain ⟨⟨fl1,ρ1⟩,T3,e3,ek⟩:=aG ek
  refine ⟨O₀,H₀,(O,H1)::F,ts,O',_,Tk,fl1,ρ1,T3,rs2.set (i:=i) (w:=.d d) rd (fun _ z=>nomatch z),e3,?_⟩
  cases fl1 with
  | nx=>exact fun O3 σ3 H3 rs3=>⟨O3,ρ1,T3,rs3,ek⟩
  | ct=>exact fun O3 σ3 H3 rs3=>⟨O3,ρ1,T3,rs3,ek⟩
  | bk=>
   cases ek
   exact fun O3 σ3 H3 rs3=>q O3 σ3 H3 rs3.less
  | rt x=>
   cases ek
   exact q
  | ro x=>
   cases ek
   exact q
 ·have e:k=ds.length:=by omega
  subst e
  rw [List.drop_eq_nil_of_le (Nat.le_refl _)] at ek
  cases ek
  exact .inl ⟨k2,q O' σ2 H2 rs2.less⟩
theorem iT {ce:Expr} {body:List Stmt} (n:Nat) (hc:DT X ce c) (hb:DSs X body f) (hp:PassesOwn (model X.prog X.w) X.A X.env X.xe:=by exact PassesOwn.never):DS X (.While ce body [] pos) (bA c f n):=by
 refine ⟨?_⟩
 refine bw (xy hp hc.pe hb.pe) fun D σ H=>?_
 rintro ⟨O₀,H₀,F,ts,O,ρ,T,fl,ρ',T',rs,e,q⟩
 refine ⟨fun m σ H=>∃ O' ρm Tm,RS X.K O₀ H₀ F ts O' H σ ρm Tm∧bA c f m ρm Tm=some ((fl,ρ'),T'),⟨n,O,ρ,T,rs,e⟩,?_⟩
 rintro m σ2 H2 ⟨O',ρm,Tm,rs2,em⟩
 cases m with
 | zero=>cases em
 | succ m=>
  obtain ⟨b,T3,e3,em⟩:=aG em
  refine ⟨O',ts,ρm,Tm,b,T3,rs2.hc,rs2.re,e3,fun H3 s3 hc3=>?_⟩
  have rs3:=rs2.step s3 hc3
  cases b with
  | false=>
   rw [if_neg Bool.false_ne_true] at em
   cases em
   exact fY (q O' σ2 H3 rs3)
  | true=>
   rw [if_pos rfl] at em
   obtain ⟨⟨fl1,ρ1⟩,T4,e4,em⟩:=aG em
   refine fX ⟨fun σ3 H3=>∃ O' ρm Tm,RS X.K O₀ H₀ F ts O' H3 σ3 ρm Tm∧bA c f m ρm Tm=some ((fl,ρ'),T'),fun σ3 H3 n=>⟨m,Nat.lt_succ_self m,n⟩,O₀,H₀,F,ts,O',ρm,T3,fl1,ρ1,T4,rs3,e4,?_⟩
   cases fl1 with
   | nx=>exact fun O3 σ3 H3 rs3=>⟨O3,ρ1,T4,rs3,em⟩
   | ct=>exact fun O3 σ3 H3 rs3=>⟨O3,ρ1,T4,rs3,em⟩
   | bk=>
    cases em
    exact fun O3 σ3 H3 rs3=>q O3 σ3 H3 rs3
   | rt x=>
    cases em
    exact q
   | ro x=>
    cases em
    exact q
end
abbrev FnM:=List W→Tp→Option (PyData×Tp)
def c9:List W→Bool
 | []=>true
 | .loc _::_=>false
 | _::r=>c9 r
def cg (o:Option ((Fl×Rho)×Tp)):Option (PyData×Tp):=bnd o fun p T=>match p with
 | (.rt x,_)=>some (x,T)
 | (.nx,_)=>some (.none,T)
 | _=>none
def aX (N:Nat) (f:FS):FnM:=fun ws T=>if c9 ws=true then cg (f (ws.map some++List.replicate (N - ws.length) none) T) else none
inductive SpMP (K:Frag) (n:Nat) (m:FnM) (vs:List V) (H:Hp) (Q:VK):Prop where
 | mk (O:Addr→Prop) (ts:List Addr) (T:Tp) (ws:List W) (x:PyData) (T':Tp) (hc:HC K O ts H T) (r:eZ K O ts H vs ws) (hl:ws.length=n) (e:m ws T=some (x,T')) (q:∀ v H',SameX ts H H'→HC K O ts H' T'→Rep K O H' v x→Q v H'):SpMP K n m vs H Q
def spM (K:Frag) (n:Nat) (m:FnM):Sp:=fun vs H Q _=>SpMP K n m vs H Q
theorem lL {K:Frag} {O:Addr→Prop} {ts:List Addr} {H:Hp}:∀ {vs:List V} {ws:List W} {i:Nat} {w:W},eZ K O ts H vs ws→ws[i]? = some w→∃ v,vs[i]? = some v∧RepW K O ts H v w
 | _,_,_,_,.nil,e=>by simp at e
 | _,_,0,_,.cons r _,e=>by simp at e; subst e; exact ⟨_,rfl,r⟩
 | _,_,i + 1,w,.cons _ t,e=>by
  obtain ⟨d,h1,h2⟩:=lL (i:=i) (w:=w) t (by simpa using e)
  exact ⟨d,by simpa using h1,h2⟩
theorem jQ:∀ {ws:List W} {xs:PyData},c9 ws=true→W.loc xs∉ws
 | [],_,_,h=>by cases h
 | .loc _::_,_,e,_=>by cases e
 | .d _::r,_,e,h=>by
  rcases List.mem_cons.mp h with z | z
  ·cases z
  ·exact jQ (ws:=r) e z
 | .tp _::r,_,e,h=>by
  rcases List.mem_cons.mp h with z | z
  ·cases z
  ·exact jQ (ws:=r) e z
theorem jN {ws:List W} {n i:Nat} {w:W} (e:(ws.map some++List.replicate n none)[i]? = some (some w)):ws[i]? = some w:=by
 by_cases h:i < ws.length
 ·rw [List.getElem?_append_left (by simpa using h),List.getElem?_map] at e
  cases q:ws[i]? with
  | none=>rw [q] at e; cases e
  | some u=>rw [q] at e; cases e; rfl
 ·rw [List.getElem?_append_right (by simpa using h)] at e
  have:=List.mem_of_getElem? e
  rw [List.mem_replicate] at this
  cases this.2
theorem dfn {P:Program} {w:World} {K:Frag} {mg:Str→Option Value} {base:Heap} {x qual:Str} {st:Stmt} {f:Addr} {fd:FuncData} {N ps:List Str} {k:Nat} {m:FS} (F:Fun K x qual st f fd) (S:FnScope N ps (aM st))
  (hbody:∀ (cdv:Value) (A:Around) (outer:List Env) (s:Shared) (H:Hp) (E:XK),Room k (A.deeper (envOfC qual (aM st) s.heap.objs.size f cdv))→DSs (gb CX0 P w K mg base N qual (aM st) f cdv A outer s H E).nox (c7 st) m) :
  FnOk P w K mg base CX0 (k + 1) f fd ps (spM K ps.length (aX N.length m)):=by
 refine F.ok S (fun vs H Q E h=>?_) (fun cdv A outer s H vs Q E hr h=>⟨_,(hbody cdv A outer s H E hr).pe,?_⟩)
 ·obtain ⟨O,ts,T,ws,x,T',hc,rw',hl,_⟩:=h
  rw [← hl]
  exact Paired.length rw'
 obtain ⟨O,ts,T,ws,x,T',hc,rw',hl,e,q⟩:=h
 unfold aX at e
 split at e
 ·rename_i hn
  obtain ⟨⟨fl,ρ'⟩,T1,e1,e⟩:=aG e
  have hlen:vs.length=ws.length:=Paired.length rw'
  have noL:∀ {i:Nat} {xs:PyData},(ws.map some++List.replicate (N.length - ws.length) none)[i]? = some (some (W.loc xs))→False:=fun {i xs} e=>jQ hn (List.mem_of_getElem? (jN e))
  refine ⟨O,H,[],ts,O,_,T,fl,ρ',T1,⟨hc,fun i u e=>?_,fun _ h=>h,hc.own,.refl _ _,fun i xs a e1 _=>(noL e1).elim,fun i j xs ys v e1 _ _ _=>(noL e1).elim,fun f hf=>absurd hf (by simp),by simp [L2.start,hlen]⟩,e1,?_⟩
  ·obtain ⟨v,h1,h2⟩:=lL rw' (jN e)
   refine ⟨v,?_,h2⟩
   unfold L2.start
   have hi:i < vs.length:=(List.getElem?_eq_some_iff.mp h1).1
   rw [List.getElem?_append_left (by simpa using hi),List.getElem?_map,h1]
   rfl
  ·cases fl with
   | rt y=>cases e; exact fun v H' s1 c1 r1=>q v H' s1 c1 r1
   | nx=>
    cases e
    exact fun O' σ' H' rs=>q _ _ rs.same rs.frzH .non
   | bk=>cases e
   | ct=>cases e
   | ro y=>cases e
 ·cases e
def aw (m:FnM) (g:FA):FE:=fun ρ T=>bnd (g ρ T) fun ws T1=>bnd (m ws T1) fun x T2=>some (.d x,T2)
def dW (g:FA) (n:Nat):Prop:=∀ ρ T ws T',g ρ T=some (ws,T')→ws.length=n
theorem aF:dW ai 0:=fun ρ T ws T' e=>by cases e; rfl
theorem ar {f:FE} {g:FA} {n:Nat} (h:dW g n):dW (ae f g) (n + 1):=fun ρ T ws T' e=>by
 obtain ⟨w1,T1,e1,e⟩:=aG e
 obtain ⟨ws,T2,e2,e⟩:=aG e
 cases e
 rw [List.length_cons,h _ _ _ _ e2]
theorem aJ {X:Cx} {name:Str} {ps:List Str} {k:Nat} {m:FnM} {e:Expr} {es:List Expr} {g:FA} {p pos:Pos} (F:Fn X.prog X.w X.K X.mg X.base name ps k (spM X.K ps.length m)) (hr:Room k X.A) (hg:Gl X name) (ha:DA X (e::es) g) (hl:dW g ps.length) (hdb:(name == ("__debug__" : Str))=false:=by decide)
  (he:starEach (e::es) X.env=(false,eval e X.env)::starEach es X.env:=by exact bq rfl) (hpl:(backTo pos (starEach es X.env)).any (·.1)=false:=by exact bD rfl):DE X (.Call (.Name name p) (e::es) [] pos) (aw m g):=by
 refine ⟨?_⟩
 refine bx (fQ F hr hg ha.pe hdb he hpl) fun σ H Q=>?_
 rintro ⟨O,ts,ρ,T,w,T',hc,re,e,q⟩
 obtain ⟨ws,T1,e1,e⟩:=aG e
 obtain ⟨x,T2,e2,e⟩:=aG e
 cases e
 refine ⟨O,ts,ρ,T,ws,T1,hc,re,e1,fun vs H1 s1 hc1 r1=>?_⟩
 refine ⟨O,ts,T1,ws,x,_,hc1,by rw [List.append_nil]; exact r1,hl _ _ _ _ e1,e2,fun v H2 s2 hc2 r2=>q v H2 (s1.trans s2) hc2 r2⟩
noncomputable def iop (g:Int→Int→Option PyData):PyData→PyData→Option PyData
 | .int i,.int j=>g i j
 | _,_=>none
def e9:PyData→PyData→Option PyData:=iop fun i j=>some (.int (i - j))
def fg:PyData→PyData→Option PyData:=iop fun i j=>if 0 < j then some (.int (i % j)) else none
def Cn:PyData→PyData→Option PyData:=iop fun i j=>if 0 < j∧j < 1073741824 then some (.int (i / j)) else none
def eG:PyData→PyData→Option PyData:=iop fun i j=>if 0≤j∧j≤1000000∧i.natAbs < 2 ^ 64 then some (.int (i ^ j.toNat)) else none
def ltD:PyData→PyData→Option PyData:=iop fun i j=>some (.bool (decide (i < j)))
def leD:PyData→PyData→Option PyData:=iop fun i j=>some (.bool (decide (i≤j)))
def gtD:PyData→PyData→Option PyData:=iop fun i j=>some (.bool (decide (j < i)))
def geD:PyData→PyData→Option PyData:=iop fun i j=>some (.bool (decide (j≤i)))
theorem sF {g:Int→Int→Option PyData} {x y d:PyData} (e:iop g x y=some d):∃ i j,x=.int i∧y=.int j∧g i j=some d:=by
 unfold iop at e
 split at e
 ·exact ⟨_,_,rfl,rfl,e⟩
 ·cases e
theorem nj {K:Frag} {C:Int→Int→Prop} {g:Int→Int→V} {gd:Int→Int→Option PyData} (h:∀ i j d,gd i j=some d→C i j∧∀ O H,Rep K O H (g i j) d):gc K (rI C g) (iop gd):=fun O ts H T v1 v2 x y d Q hc h1 h2 e q=>by
 obtain ⟨i,j,rfl,rfl,e⟩:=sF e
 obtain ⟨c,r⟩:=h i j d e
 exact ⟨i,j,h1.int,h2.int,c,q _ H (.refl _ _) hc (r O H)⟩
theorem iY {K:Frag} {g:Int→Int→V} {gd:Int→Int→Option PyData} (h:∀ i j d,gd i j=some d→∀ O H,Rep K O H (g i j) d):gc K (rI0 g) (iop gd):=fun O ts H T v1 v2 x y d Q hc h1 h2 e q=>by
 obtain ⟨i,j,rfl,rfl,e⟩:=sF e
 exact ⟨i,j,h1.int,h2.int,q _ H (.refl _ _) hc (h i j d e O H)⟩
section
variable {X:Cx}
theorem ix:OpD X (binaryOp .Sub) e9:=⟨_,AM,iY fun i j d e O H=>by cases e; exact .int _⟩
theorem gO:OpD X (binaryOp .Mod) fg:=⟨_,AQ,nj fun i j d e=>by
 split at e
 ·rename_i h; cases e; exact ⟨h,fun _ _=>.int _⟩
 ·cases e⟩
theorem ju:OpD X (binaryOp .Pow) eG:=⟨_,AN,nj fun i j d e=>by
 split at e
 ·rename_i h; cases e; exact ⟨h,fun _ _=>.int _⟩
 ·cases e⟩
theorem dF:OpD X (compareOp .Lt) ltD:=⟨_,BZ,iY fun i j d e O H=>by cases e; exact .bl _⟩
theorem gX:OpD X (compareOp .LtE) leD:=⟨_,B0,iY fun i j d e O H=>by cases e; exact .bl _⟩
theorem ff:OpD X (compareOp .Gt) gtD:=⟨_,B1,iY fun i j d e O H=>by cases e; exact .bl _⟩
theorem CQ:OpD X (compareOp .GtE) geD:=⟨_,B2,iY fun i j d e O H=>by cases e; exact .bl _⟩
def aO:PyData→PyData→Option PyData
 | .int i,.int j=>some (.int (i + j))
 | .str x,.str y=>if x.length + y.length≤sizeLine then some (.str (x++y)) else none
 | .tuple xs,.tuple ys=>if xs.length + ys.length≤sizeLine then some (.tuple (xs++ys)) else none
 | .list xs,.list ys=>if xs.length + ys.length≤sizeLine then some (.list (xs++ys)) else none
 | _,_=>none
def BO (K:Frag):R2:=fun x y H Q=>∃ l b xs zs,x=.ref l∧y=.ref b∧SqL K H l xs∧SqL K H b zs∧xs.length + zs.length≤sizeLine∧∀ p,H p=none→Q (.ref p) (upd H p (.lst (xs++zs)))
theorem rg:OpR X (binaryOp .Add) (BO X.K):=by
 intro pins s σ H x y v u Q I rx ry h
 obtain ⟨l,b,xs,zs,rfl,rfl,hH,hB,hz,q⟩:=h
 cases rx
 cases ry
 obtain ⟨its,r,p1,_⟩:=I.list hH
 obtain ⟨its2,r2,p2,_⟩:=I.list hB
 have hl:=r.length
 have hl2:=r2.length
 obtain ⟨⟨cls,dd,data,sl⟩,ho,hc,n,hd⟩:=id p1.isList
 obtain ⟨⟨cls2,dd2,data2,sl2⟩,ho2,hc2,n2,hd2⟩:=id p2.isList
 simp only at hc hd hc2 hd2
 subst hc hd hc2 hd2
 have ea:its.toArray++its2.toArray=(its++its2).toArray:=by simp
 refine concat_meets ⟨_,ho,rfl⟩ ⟨_,ho2,rfl⟩ noFill_list_add seq_list_add PySem.F.slot_list_add PySem.F.entry_list_add (PySem.F.args_list_add_2 _ _) (list_addW l b its.toArray its2.toArray n n2 dd dd2 sl sl2 (by rw [List.size_toArray,List.size_toArray]; omega)) ⟨ho,ho2,?_⟩
 rw [ea]
 exact ⟨.ref _,_,I.lnew (t':=s.toks) (r.append r2) (by rw [List.length_append]; omega),rfl,q _ I.fresh⟩
theorem bc:OpD X (binaryOp .Add) aO:=by
 refine ⟨_,op_add.or (op_add_str.or (op_catG.or rg)),fun O ts H T v1 v2 x y d Q hc h1 h2 e q=>?_⟩
 unfold aO at e
 split at e
 ·cases e
  exact .inl ⟨_,_,h1.int,h2.int,q _ H (.refl _ _) hc (.int _)⟩
 ·split at e
  ·rename_i hz
   cases e
   exact .inr (.inl ⟨_,_,h1.str,h2.str,hz,q _ H (.refl _ _) hc (.str _)⟩)
  ·cases e
 ·split at e
  ·rename_i xs ys hz
   cases e
   obtain ⟨a,vs,rfl,t1,r1⟩:=h1.tup
   obtain ⟨b,us,rfl,t2,r2⟩:=h2.tup
   refine .inr (.inr (.inl ⟨a,b,vs,us,rfl,rfl,t1.sq,t2.sq,by rw [r1.length,r2.length]; exact hz,fun z=>?_,fun _ z=>?_,fun _ _ p hp=>?_⟩))
   ·subst z
    cases r1
    exact q _ H (.refl _ _) hc (.tup t2 r2)
   ·subst z
    cases r2
    rw [List.append_nil] at q
    exact q _ H (.refl _ _) hc (.tup t1 r1)
   ·exact q _ _ (.new hp _) (hc.new hp _) (hc.newT hp (r1.append r2))
  ·cases e
 ·split at e
  ·rename_i xs ys hz
   cases e
   obtain ⟨a,vs,rfl,t1,r1⟩:=h1.lst
   obtain ⟨b,us,rfl,t2,r2⟩:=h2.lst
   exact .inr (.inr (.inr ⟨a,b,vs,us,rfl,rfl,t1,t2,by rw [r1.length,r2.length]; exact hz,fun p hp=>q _ _ (.new hp _) (hc.new hp _) (hc.newL hp (r1.append r2))⟩))
  ·cases e
 ·cases e
theorem uC:fillsNumberSlot (.type "tuple") "mul" = pure false:=PySem.fillsNumberSlot_seq (id:="tuple.__mul__") (r:=some (.builtin "tuple.__rmul__")) PySem.F.slot_tuple_mul.lookup (by decide +kernel) PySem.F.slot_tuple_rmul.lookup (by decide +kernel)
theorem vb:seqRepeat? (.type "tuple")=pure (some (.builtin "tuple.__mul__")):=by
 unfold seqRepeat?
 rw [PySem.seqSlot_of (T:="tuple") (name:="__mul__") (id:="tuple.__mul__") PySem.F.slot_tuple_mul.lookup (by decide +kernel),PySem.seqSlot_of (T:="tuple") (name:="__rmul__") (id:="tuple.__rmul__") PySem.F.slot_tuple_rmul.lookup (by decide +kernel)]
 rfl
theorem uR (a:Int) (t:Tok) (l:Addr) (items:Array Value) (n:Nat) (dd:Option Addr) (sl:Array (Option Value)) :
  Meets (Builtin.«int.__rmul__» ⟨[.int a t,.ref l],[]⟩) (fun _ R s=>s.heap.get? l=some { cls:=.type "tuple",dict:=dd,data:=.seq items n,slots:=sl }∧R (.ok (.ret Value.notImplemented)) s):=.of_wp fun prog w A R s h=>by obtain ⟨hp,g,d,tk,os⟩:=s; obtain ⟨hl,h⟩:=h; wp_walk; exact ⟨_,rfl,h⟩
theorem vQ (l:Addr) (items:Array Value) (n:Nat) (dd:Option Addr) (sl:Array (Option Value)) (k:Int) (t:Tok) (h1:2≤k) (h2:k≤1000) (h3:items.isEmpty=false) (h4:items.size≤1000) :
  Meets (Builtin.«tuple.__mul__» ⟨[.ref l,.int k t],[]⟩) (fun _ R s=>s.heap.get? l=some { cls:=.type "tuple",dict:=dd,data:=.seq items n,slots:=sl }∧R (.ok (.ret (Value.ref s.heap.objs.size))) { s with heap:=s.heap.push { cls:=Value.type "tuple",data:=Data.seq (List.foldl (fun x1 x2=>x1++x2) #[] (List.replicate k.toNat items)) },toks:=s.toks }):=
 .of_wp fun prog w A R s h=>by
  obtain ⟨hp,g,d,tk,os⟩:=s
  obtain ⟨hl,h⟩:=h
  have hc0:¬ (decide (k < -(2 ^ 63)) || decide (k≥2 ^ 63))=true:=by simp; omega
  have hc1:¬ (items.isEmpty || k == 1)=true:=by rw [h3]; simp; omega
  have hc2:¬ (decide (k≤0) || items.isEmpty)=true:=by rw [h3]; simp; omega
  have hm:items.size * k.toNat≤1000 * 1000:=Nat.mul_le_mul h4 (by omega)
  have hm':(items.size:Int) * k≤1000000:=by
   have e:((items.size * k.toNat:Nat):Int)=(items.size:Int) * k:=by rw [Int.natCast_mul,Int.toNat_of_nonneg (by omega)]
   omega
  have hc3:¬ (items.size:Int) * k > (2 ^ 63 - 1) / 8:=by
   have:(1000000:Int)≤(2 ^ 63 - 1) / 8:=by decide
   omega
  have hc4:¬ Builtin.Tuple.tupleTooMany ((items.size:Int) * k)=true:=by
   unfold Builtin.Tuple.tupleTooMany
   have:sizeLine=16777216:=by decide
   simp
   omega
  have ht:IsTup hp l items:=⟨_,hl,rfl,n,rfl⟩
  wp_walk
  rw [if_neg hc0]
  dsimp only
  refine wpAny_bind (tupleItemsOf_ ht ?_)
  rw [if_neg hc1,if_neg hc2,if_neg hc3,if_neg hc4]
  have fit:sizeOk (.seq (List.foldl (fun x1 x2=>x1++x2) #[] (List.replicate k.toNat items))):=by
   show (List.foldl (fun x1 x2=>x1++x2) #[] (List.replicate k.toNat items)).size≤sizeLine
   have q:=foldl_rep items.toList k.toNat []
   rw [List.nil_append] at q
   have q':List.foldl (fun x1 x2=>x1++x2) #[] (List.replicate k.toNat items)=(List.replicate k.toNat items.toList).flatten.toArray:=by simpa using q
   rw [q',List.size_toArray,len_rep]
   have:sizeLine=16777216:=by decide
   rw [Array.length_toList,Nat.mul_comm]
   omega
  first
  | exact wpAny_bind (m:=Builtin.Tuple.tupleExact _) (wpAny_newObj_type (wpAny_pure ⟨_,rfl,h⟩) fit)
  | exact wpAny_bind (m:=Builtin.Tuple.tupleExact _) (wpAny_newObj_type (wpAny_bind (wpAny_pure (wpAny_pure ⟨_,rfl,h⟩))) fit)
theorem zf:OpR X (binaryOp .Mult) (fun x y H Q=>∃ a k xs,x=.ref a∧y=.int k∧SqT X.K H a xs∧2≤k∧k≤1000∧xs≠[]∧xs.length≤1000∧∀ p,H p=none→Q (.ref p) (upd H p (.tup (List.replicate k.toNat xs).flatten))):=by
 intro pins s σ H x y v u Q I rx ry h
 obtain ⟨a,k,xs,rfl,rfl,hq,h1,h2,h3,h4,q⟩:=h
 cases rx
 obtain ⟨t,rfl⟩:=ry
 obtain ⟨its,r,p1,_⟩:=I.tuple hq
 have hl:=r.length
 have hv:its≠[]:=fun z=>h3 (r.nil_iff.mp z)
 obtain ⟨⟨cls,dd,data,sl⟩,ho,hc,n,hd⟩:=id p1
 simp only at hc hd
 subst hc hd
 have hnew:List.foldl (fun x1 x2=>x1++x2) #[] (List.replicate k.toNat its.toArray)=(List.replicate k.toNat its).flatten.toArray:=by
  have q:=foldl_rep its k.toNat []
  rw [List.nil_append] at q
  exact q
 have he:its.toArray.isEmpty=false:=by
  cases its with
  | nil=>exact absurd rfl hv
  | cons _ _=>simp
 refine wpAny_binaryOp_repeat_ref (T:="tuple") (U:="int") (by decide) ⟨_,ho,rfl⟩ (fun s'=>typeIs_int s' k t) uC F.fills_int_mul F.slot_int_rmul vb F.slot_int_index.lookup
  (call_meets F.slot_int_rmul (typeIs_int s k t) F.entry_int_rmul (F.args_int_rmul_2 _ _) (uR k t a its.toArray n dd sl)
   ⟨ho,rfl,⟨_,ho,rfl⟩,call_meets PySem.F.slot_tuple_mul ⟨_,ho,rfl⟩ PySem.F.entry_tuple_mul (PySem.F.args_tuple_mul_2 _ _) (vQ a its.toArray n dd sl k t h1 h2 he (by rw [List.size_toArray]; omega)) ⟨ho,?_⟩⟩)
 rw [hnew]
 refine ⟨.ref s.heap.objs.size,_,I.laid (t':=s.toks) (o:=.tup (List.replicate k.toNat xs).flatten) (fun b ob q=>Heap.get?_push_of_some _ q) (Nat.le_refl _) ?_,rfl,q _ (I.hok.fresh (Nat.le_refl _))⟩
 refine ⟨?_,_,r.rep k.toNat,IsTup.new _ _⟩
 rw [len_rep]
 have:k.toNat * xs.length≤1000 * 1000:=Nat.mul_le_mul (by omega) h4
 have:sizeLine=16777216:=by decide
 omega
def dG:PyData→PyData→Option PyData
 | .int i,.int j=>if (-(2 ^ 64) < i∧i < 2 ^ 64)∨(-(2 ^ 64) < j∧j < 2 ^ 64) then some (.int (i * j)) else none
 | .str z,.int k=>if 0≤k∧k≤2000∧z.length≤1000 then some (.str (Txt.mul z k)) else none
 | .tuple xs,.int k=>if 2≤k∧k≤1000∧xs.isEmpty=false∧xs.length≤1000 then some (.tuple (List.replicate k.toNat xs).flatten) else none
 | _,_=>none
theorem iy:OpD X (binaryOp .Mult) dG:=by
 refine ⟨_,op_mul.or (op_mulS.or zf),fun O ts H T v1 v2 x y d Q hc h1 h2 e q=>?_⟩
 unfold dG at e
 split at e
 ·split at e
  ·rename_i hz
   cases e
   exact .inl ⟨_,_,h1.int,h2.int,hz,q _ H (.refl _ _) hc (.int _)⟩
  ·cases e
 ·split at e
  ·rename_i hz
   cases e
   exact .inr (.inl ⟨_,_,h1.str,h2.int,hz.1,hz.2.1,hz.2.2,q _ H (.refl _ _) hc (.str _)⟩)
  ·cases e
 ·split at e
  ·rename_i xs k hz
   cases e
   obtain ⟨a,vs,rfl,t1,r1⟩:=h1.tup
   exact .inr (.inr ⟨a,_,vs,rfl,h2.int,t1.sq,hz.1,hz.2.1,fun z=>by subst z; cases r1; exact absurd hz.2.2.1 (by simp),by rw [r1.length]; exact hz.2.2.2,fun p hp=>q _ _ (.new hp _) (hc.new hp _) (hc.newT hp (r1.rep _))⟩)
  ·cases e
 ·cases e
def eqS:PyData→PyData→Option Bool
 | .int i,.int j=>some (decide (i=j))
 | .str x,.str y=>some (decide (x=y))
 | .bool a,.bool b=>some (decide (a=b))
 | .none,.none=>some true
 | .none,.int _=>some false | .int _,.none=>some false | .none,.bool _=>some false | .bool _,.none=>some false | .none,.str _=>some false | .str _,.none=>some false
 | .int _,.str _=>some false | .str _,.int _=>some false | .bool _,.str _=>some false | .str _,.bool _=>some false
 | _,_=>none
theorem sL {K:Frag} {O:Addr→Prop} {H:Hp} {v1 v2:V} {x y:PyData} {b:Bool} (h1:Vw K O H v1 x) (h2:Vw K O H v2 y) (e:eqS x y=some b):oi v1 v2=true∧decide (v1=v2)=b:=by
 unfold eqS at e
 split at e
 all_goals first | (cases e; done) | skip
 ·cases h1.int; cases h2.int; cases e; exact ⟨rfl,by simp⟩
 ·cases h1.str; cases h2.str; cases e; exact ⟨rfl,by simp⟩
 ·cases h1.bl; cases h2.bl; cases e; exact ⟨rfl,by simp⟩
 ·cases h1.non; cases h2.non; cases e; exact ⟨rfl,by simp⟩
 ·cases h1.non; cases h2.int; cases e; exact ⟨rfl,by simp⟩
 ·cases h1.int; cases h2.non; cases e; exact ⟨rfl,by simp⟩
 ·cases h1.non; cases h2.bl; cases e; exact ⟨rfl,by simp⟩
 ·cases h1.bl; cases h2.non; cases e; exact ⟨rfl,by simp⟩
 ·cases h1.non; cases h2.str; cases e; exact ⟨rfl,by simp⟩
 ·cases h1.str; cases h2.non; cases e; exact ⟨rfl,by simp⟩
 ·cases h1.int; cases h2.str; cases e; exact ⟨rfl,by simp⟩
 ·cases h1.str; cases h2.int; cases e; exact ⟨rfl,by simp⟩
 ·cases h1.bl; cases h2.str; cases e; exact ⟨rfl,by simp⟩
 ·cases h1.str; cases h2.bl; cases e; exact ⟨rfl,by simp⟩
def eqD (x y:PyData):Option PyData:=(eqS x y).map .bool
def neD (x y:PyData):Option PyData:=(eqS x y).map fun b=>.bool (!b)
theorem aY:OpD X (compareOp .Eq) eqD:=⟨_,B3,fun O ts H T v1 v2 x y d Q hc h1 h2 e q=>by
 unfold eqD at e
 obtain ⟨b,e1,rfl⟩:=Option.map_eq_some_iff.mp e
 obtain ⟨k1,k2⟩:=sL h1 h2 e1
 exact ⟨k1,by rw [k2]; exact q _ H (.refl _ _) hc (.bl _)⟩⟩
theorem lu:OpD X (compareOp .NotEq) neD:=⟨_,BY,fun O ts H T v1 v2 x y d Q hc h1 h2 e q=>by
 unfold neD at e
 obtain ⟨b,e1,rfl⟩:=Option.map_eq_some_iff.mp e
 obtain ⟨k1,k2⟩:=sL h1 h2 e1
 exact ⟨k1,by rw [k2]; exact q _ H (.refl _ _) hc (.bl _)⟩⟩
def isNone:PyData→Bool
 | .none=>true
 | _=>false
theorem pR {K:Frag} {O:Addr→Prop} {H:Hp} {v:V} {x:PyData} (h:Vw K O H v x):decide (v=.non)=isNone x:=by
 cases h with
 | rep h=>cases h <;> rfl
 | raw _ _=>rfl
 | rawD _ _=>rfl
def isD:PyData→PyData→Option PyData
 | x,.none=>some (.bool (isNone x))
 | _,_=>none
theorem CP:OpD X (compareOp .Is) isD:=⟨_,AR,fun O ts H T v1 v2 x y d Q hc h1 h2 e q=>by
 unfold isD at e
 split at e
 ·cases e
  exact ⟨h2.non,by rw [pR h1]; exact q _ H (.refl _ _) hc (.bl _)⟩
 ·cases e⟩
def gJ:PyData→PyData→Option PyData
 | x,.none=>some (.bool (!isNone x))
 | .bool a,.bool b=>some (.bool (a != b))
 | _,_=>none
theorem zj:OpD X (compareOp .IsNot) gJ:=⟨_,op_notN.or wH,fun O ts H T v1 v2 x y d Q hc h1 h2 e q=>by
 unfold gJ at e
 split at e
 ·cases e
  exact .inl ⟨h2.non,by rw [pR h1]; exact q _ H (.refl _ _) hc (.bl _)⟩
 ·cases e
  exact .inr ⟨_,_,h1.bl,h2.bl,q _ H (.refl _ _) hc (.bl _)⟩
 ·cases e⟩
def cx:PyData→Bool
 | .none=>true | .bool _=>true | .int _=>true | .str _=>true
 | _=>false
def eqF:PyData→PyData→Bool
 | .none,.none=>true
 | .bool a,.bool b=>a == b
 | .bool a,.int b=>(if a then 1 else 0) == b
 | .int a,.bool b=>a == (if b then 1 else 0)
 | .int a,.int b=>a == b
 | .str a,.str b=>a == b
 | _,_=>false
def jG (y x:Str):Bool:=!(Builtin.Str.occurrences y x 0 y.length 1).isEmpty
def inS:PyData→PyData→Option Bool
 | .str x,.str y=>some (jG y x)
 | x,.list ys=>if cx x && ys.all cx then some (ys.any fun y=>eqF y x) else none
 | x,.tuple ys=>if cx x && ys.all cx then some (ys.any fun y=>eqF y x) else none
 | _,_=>none
theorem mL {K:Frag} {O:Addr→Prop} {H:Hp} {v:V} {x:PyData} (h:Rep K O H v x) (e:cx x=true):eC v=true:=by cases h <;> first | rfl | cases e
theorem Bl {K:Frag} {O:Addr→Prop} {H:Hp} {v u:V} {x y:PyData} (h:Rep K O H v x) (g:Rep K O H u y) (ex:cx x=true) (ey:cx y=true):eqV v u=eqF x y:=by cases h <;> cases g <;> first | rfl | cases ex | cases ey
theorem mi {K:Frag} {O:Addr→Prop} {H:Hp}:∀ {vs:List V} {xs:List PyData},Reps K O H vs xs→xs.all cx=true→vs.all eC=true
 | _,_,.nil,_=>rfl
 | _,_,.cons r t,e=>by
  rw [List.all_cons,Bool.and_eq_true] at e
  rw [List.all_cons,mL r e.1,mi t e.2]
  rfl
theorem mZ {K:Frag} {O:Addr→Prop} {H:Hp} {v:V} {x:PyData} (h:Rep K O H v x) (ex:cx x=true):∀ {vs:List V} {xs:List PyData},Reps K O H vs xs→xs.all cx=true→(vs.any fun y=>eqV y v)=xs.any fun y=>eqF y x
 | _,_,.nil,_=>rfl
 | _,_,.cons r t,e=>by
  rw [List.all_cons,Bool.and_eq_true] at e
  rw [List.any_cons,List.any_cons,Bl r h e.1 ex,mZ h ex t e.2]
theorem Vw.flat {K:Frag} {O:Addr→Prop} {H:Hp} {v:V} {x:PyData} (h:Vw K O H v x) (e:cx x=true):Rep K O H v x:=by
 cases h with
 | rep h=>exact h
 | raw _ _=>cases e
 | rawD _ _=>cases e
def inD (x y:PyData):Option PyData:=(inS x y).map .bool
def cH (x y:PyData):Option PyData:=(inS x y).map fun b=>.bool (!b)
theorem ki {K:Frag} (neg:Bool):gc K (fun x y H Q=>(∃ i j,x=.str i∧y=.str j∧Q (.bl (if neg then !(jG j i) else jG j i)) H)∨rIn K neg x y H Q) (fun x y=>(inS x y).map fun b=>.bool (if neg then !b else b)):=fun O ts H T v1 v2 x y d Q hc h1 h2 e q=>by
 obtain ⟨b,e1,rfl⟩:=Option.map_eq_some_iff.mp e
 unfold inS at e1
 split at e1
 ·cases e1
  exact .inl ⟨_,_,h1.str,h2.str,q _ H (.refl _ _) hc (.bl _)⟩
 ·split at e1
  ·rename_i hf
   cases e1
   rw [Bool.and_eq_true] at hf
   obtain ⟨a,vs,rfl,t,r⟩:=h2.lst
   have r1:=h1.flat hf.1
   refine .inr ⟨a,vs,rfl,.inl t,mL r1 hf.1,mi r hf.2,?_⟩
   have z:inV v1 vs=_:=mZ r1 hf.1 r hf.2
   rw [z]
   exact q _ H (.refl _ _) hc (.bl _)
  ·cases e1
 ·split at e1
  ·rename_i hf
   cases e1
   rw [Bool.and_eq_true] at hf
   obtain ⟨a,vs,rfl,t,r⟩:=h2.tup
   have r1:=h1.flat hf.1
   refine .inr ⟨a,vs,rfl,.inr t.sq,mL r1 hf.1,mi r hf.2,?_⟩
   have z:inV v1 vs=_:=mZ r1 hf.1 r hf.2
   rw [z]
   exact q _ H (.refl _ _) hc (.bl _)
  ·cases e1
 ·cases e1
theorem iI:OpD X (compareOp .In) inD:=⟨_,op_in_str.or pL,ki false⟩
theorem j5:OpD X (compareOp .NotIn) cH:=⟨_,op_notin_str.or oN,ki true⟩
def eI:PyData→Option PyData
 | .int i=>some (.int (-i))
 | _=>none
theorem nL {a:Expr} {fa:FE} {pos:Pos} (ha:DE X a fa):DE X (.UnaryOp .USub a pos) (fUn eI fa):=Cr Aj (fun O ts H T v x d Q hc h e q=>by
 unfold eI at e
 split at e
 ·cases e
  exact ⟨_,h.int,q _ H (.refl _ _) hc (.int _)⟩
 ·cases e) ha
def ixD:PyData→PyData→Option PyData
 | .list xs,.int i=>atI xs i
 | .tuple xs,.int i=>atI xs i
 | .str z,.int i=>if z.length≤sizeLine then (atI z.cps.toList i).map fun c=>.str ⟨#[c]⟩ else none
 | _,_=>none
theorem qR {K:Frag} {O:Addr→Prop} {H:Hp} {vs:List V} {xs:List PyData} {i:Int} {d:PyData} (r:Reps K O H vs xs) (e:atI xs i=some d):∃ v,atI vs i=some v∧Rep K O H v d:=by
 unfold atI at e ⊢
 rw [r.length]
 cases h:ixN xs.length i with
 | none=>rw [h] at e; cases e
 | some j=>
  rw [h] at e
  exact r.getD e
theorem aA:IxD X ixD:=⟨_,A6,fun O ts H T v1 v2 x y d Q hc h1 h2 e q=>by
 unfold ixD at e
 split at e
 ·obtain ⟨a,vs,rfl,t,r⟩:=h1.lst
  obtain ⟨v,k1,k2⟩:=qR r e
  exact .inl ⟨a,vs,_,v,rfl,h2.int,t,k1,q _ H (.refl _ _) hc k2⟩
 ·obtain ⟨a,vs,rfl,t,r⟩:=h1.tup
  obtain ⟨v,k1,k2⟩:=qR r e
  exact .inr (.inl ⟨a,vs,_,v,rfl,h2.int,t.sq,k1,q _ H (.refl _ _) hc k2⟩)
 ·split at e
  ·rename_i hz
   obtain ⟨c,k1,rfl⟩:=Option.map_eq_some_iff.mp e
   exact .inr (.inr ⟨_,_,c,h1.str,h2.int,hz,k1,q _ H (.refl _ _) hc (.str _)⟩)
  ·cases e
 ·cases e⟩
end
theorem uo {prog:Program} {w:World} {A:Around} {E:Value→Shared→Prop} {s:Shared} {t sl:Addr} {items:Array Value} {vl vu:Value} {lo hi:Option Int} {Q:Value→Shared→Prop} (ht:IsTup s.heap t items) (hs:s.heap.IsSliceOf sl vl vu .none) (pl:IsPart vl lo) (pu:IsPart vu hi)
  (hw:HT.sIx items.size 0 lo=0∧HT.sIx items.size items.size hi=items.size) (h:Q (.ref t) s):wpAny (model prog w) A (getItem (.ref t) (.ref sl)) Q E s:=by
 obtain ⟨os,hos,hcs,hds⟩:=id hs
 have hTs:s.TypeIs (.ref sl) "slice":=⟨os,hos,hcs⟩
 unfold getItem
 try with_reducible refine wpAny_holding ?_
 first | refine wpAny_bind (wpAny_pure ?_) | skip
 refine wpAny_bind (wpAny_sequenceKey ht.typeIs (by decide) ?_)
 refine wpAny_bind (wpAny_callSpecial?_slot (name:=Str.ofString "__getitem__") ht.typeIs PyProof.Rows.slot_tuple_getitem
  (wpAny_call_entry PyProof.Rows.slot_tuple_getitem ht.typeIs entry_tuple_getitem ?_ (args_tuple_getitem _ _)))
 show wpAny _ _ (Builtin.Tuple.tupleItemsOf (.ref t) >>= _) _ _ s
 refine wpAny_bind (tupleItemsOf_ ht ?_)
 refine wpAny_bind (wpAny_typeOf hTs ?_)
 rw [if_pos (by decide)]
 refine wpAny_bind (HT.oI hs pl pu ?_)
 have hyes:((((HT.sIx items.size 0 lo:Nat):Int) == 0 && (1:Int) == 1 && (HT.sIx items.size items.size hi - HT.sIx items.size 0 lo) == items.size)=true):=by
  rw [hw.1,hw.2]
  simp
 show wpAny _ _ (if (((HT.sIx items.size 0 lo:Nat):Int) == 0 && (1:Int) == 1 && (HT.sIx items.size items.size hi - HT.sIx items.size 0 lo) == items.size)=true then _ else _) _ _ s
 rw [if_pos hyes]
 refine wpAny_bind (m:=Builtin.Tuple.tupleIsExact (.ref t)) (wpAny_bind (wpAny_typeOf ht.typeIs (wpAny_pure ?_)))
 first
 | exact wpAny_bind (wpAny_rule (wpAny_bind (wpAny_pure ⟨_,rfl,wpAny_pure h⟩)))
 | (simp only [beq_self_eq_true,if_true]; exact wpAny_bind (wpAny_rule (wpAny_pure ⟨_,rfl,wpAny_pure h⟩)))
def bN {α:Type} (xs:List α) (lo hi:Option Int):List α:=(xs.drop (HT.sIx xs.length 0 lo)).take (HT.sIx xs.length xs.length hi - HT.sIx xs.length 0 lo)
theorem Reps.cut {K:Frag} {O:Addr→Prop} {H:Hp} {vs:List V} {ds:List PyData} (r:Reps K O H vs ds) (lo hi:Option Int):Reps K O H (fm vs lo hi) (bN ds lo hi):=by
 unfold fm bN
 rw [r.length]
 exact (r.drop _).take _
theorem xi {α:Type} {xs:List α} {lo hi:Option Int} (h:HT.sIx xs.length 0 lo=0∧HT.sIx xs.length xs.length hi=xs.length):bN xs lo hi=xs:=by
 unfold bN
 rw [h.1,h.2]
 simp
section
variable {X:Cx}
theorem sl_tupA:SlR X (fun x lo hi H Q=>∃ a xs,x=.ref a∧SqT X.K H a xs∧((HT.sIx xs.length 0 lo=0∧HT.sIx xs.length xs.length hi=xs.length)→Q (.ref a) H) ∧
  (¬ (HT.sIx xs.length 0 lo=0∧HT.sIx xs.length xs.length hi=xs.length)→∀ p,H p=none→Q (.ref p) (upd H p (.tup (fm xs lo hi))))):=by
 intro pins s σ H x v vl vu lo hi sl Q I rx hs pl pu h
 obtain ⟨a,xs,rfl,hx,q1,q2⟩:=h
 by_cases hw:HT.sIx xs.length 0 lo=0∧HT.sIx xs.length xs.length hi=xs.length
 ·cases rx
  obtain ⟨its,r,ht,hz⟩:=I.tuple hx
  have hlen:its.toArray.size=xs.length:=by rw [List.size_toArray]; exact r.length.symm
  refine ⟨"tuple",_,PyProof.Rows.slot_tuple_getitem.lookup,ht.typeIs,?_⟩
  exact uo ht hs pl pu (by rw [hlen]; exact hw) ⟨.ref a,H,I,rfl,q1 hw⟩
 ·exact Au pins s σ H _ v vl vu lo hi sl Q I rx hs pl pu ⟨a,xs,rfl,hx,hw,q2 hw⟩
def ie (x:PyData) (lo hi:Option Int):Option PyData:=match x with
 | .list xs=>some (.list (bN xs lo hi))
 | .tuple xs=>some (.tuple (bN xs lo hi))
 | .str z=>if z.length≤sizeLine then some (.str (Txt.slice z lo hi)) else none
 | _=>none
abbrev FO:=Rho→Tp→Option (Option Int×Tp)
def cX:FO:=fun _ T=>some (none,T)
def fP (f:FE):FO:=fun ρ T=>bnd (f ρ T) fun w T1=>match w with
 | .d (.int i)=>some (some i,T1)
 | _=>none
inductive LiftOP (K:Frag) (f:FO) (σ:L2.St) (H:Hp) (Q:Option Int→Hp→Prop):Prop where
 | mk (O:Addr→Prop) (ts:List Addr) (ρ:Rho) (T:Tp) (o:Option Int) (T':Tp) (hc:HC K O ts H T) (re:RelE K O ts H σ ρ) (e:f ρ T=some (o,T')) (q:∀ H',SameX ts H H'→HC K O ts H' T'→Q o H'):LiftOP K f σ H Q
def Cf (K:Frag) (f:FO):TO:=fun σ H Q=>LiftOP K f σ H Q
structure DO (X:Cx) (e:Option Expr) (f:FO):Prop where
 pe:PO X e (Cf X.K f)
theorem sf {e:Option Expr} {t t':TO} (h:PO X e t) (i:∀ σ H Q,t' σ H Q→t σ H Q):PO X e t':=fun pins s σ H Q I q=>h pins s σ H Q I (i σ H Q q)
theorem fK:DO X none cX:=by
 refine ⟨?_⟩
 refine sf y8 fun σ H Q=>?_
 rintro ⟨O,ts,ρ,T,o,T',hc,re,e,q⟩
 cases e
 exact q H (.refl _ _) hc
theorem fJ {e:Expr} {f:FE} (h:DE X e f):DO X (some e) (fP f):=by
 refine ⟨?_⟩
 refine sf (yZ h.pe) fun σ H Q=>?_
 rintro ⟨O,ts,ρ,T,o,T',hc,re,e,q⟩
 obtain ⟨w1,T1,e1,e⟩:=aG e
 refine ⟨O,ts,ρ,T,w1,T1,hc,re,e1,fun v1 H1 s1 hc1 r1=>?_⟩
 split at e
 ·cases e
  cases (show Rep X.K O H1 v1 _ from r1)
  exact ⟨_,rfl,q H1 s1 hc1⟩
 ·cases e
def fSl (f:FE) (l u:FO):FE:=fun ρ T=>bnd (f ρ T) fun w T1=>bnd (l ρ T1) fun lo T2=>bnd (u ρ T2) fun hi T3=>op1 (fun x=>ie x lo hi) T3 w
theorem fV {e:Expr} {lo hi:Option Expr} {f:FE} {l u:FO} {pos p2:Pos} (he:DE X e f) (hl:DO X lo l) (hu:DO X hi u):DE X (.Subscript e (.Slice lo hi none p2) pos) (fSl f l u):=by
 refine ⟨?_⟩
 refine bx (xG (sl_list.or (sl_tupA.or Av)) he.pe hl.pe hu.pe) fun σ H Q=>?_
 rintro ⟨O,ts,ρ,T,w,T',hc,re,e,q⟩
 obtain ⟨w1,T1,e1,e⟩:=aG e
 obtain ⟨o1,T2,e2,e⟩:=aG e
 obtain ⟨o2,T3,e3,e⟩:=aG e
 obtain ⟨x,d,h1,h3,rfl,rfl⟩:=kA e
 refine ⟨O,ts,ρ,T,w1,T1,hc,re,e1,fun v1 H1 s1 hc1 r1=>?_⟩
 refine ⟨O,ts,ρ,T1,o1,T2,hc1,re.mono hc s1,e2,fun H2 s2 hc2=>?_⟩
 refine ⟨O,ts,ρ,T2,o2,T',hc2,re.mono hc (s1.trans s2),e3,fun H3 s3 hc3=>?_⟩
 have vw:=hc3.view (r1.mono hc1 (s2.trans s3)) h1
 have q':∀ v H',SameX ts H3 H'→HC X.K O ts H' T'→Rep X.K O H' v d→Q v H':=fun v H' s c r=>q v H' (s1.trans (s2.trans (s3.trans s))) c r
 clear q
 cases x with
 | list xs=>
  cases h3
  obtain ⟨a,vs,rfl,t,r⟩:=vw.lst
  exact .inl ⟨a,vs,rfl,t,fun p hp=>q' _ _ (.new hp _) (hc3.new hp _) (hc3.newL hp (r.cut _ _))⟩
 | tuple xs=>
  cases h3
  obtain ⟨a,vs,rfl,t,r⟩:=vw.tup
  refine .inr (.inl ⟨a,vs,rfl,t.sq,fun hw=>?_,fun hw p hp=>?_⟩)
  ·rw [r.length] at hw
   rw [xi hw] at q'
   exact q' _ H3 (.refl _ _) hc3 vw.tupR
  ·exact q' _ _ (.new hp _) (hc3.new hp _) (hc3.newT hp (r.cut _ _))
 | str z=>
  have h3':(if z.length≤sizeLine then some (PyData.str (Txt.slice z o1 o2)) else none)=some d:=h3
  split at h3'
  ·rename_i hz
   cases h3'
   exact .inr (.inr ⟨z,vw.str,hz,q' _ H3 (.refl _ _) hc3 (.str _)⟩)
  ·cases h3'
 | _=>cases h3
end
inductive Kd where
 | non | bl | int | str | tup | lst | dct
 deriving DecidableEq
def Kd.name:Kd→String
 | .non=>"NoneType" | .bl=>"bool" | .int=>"int" | .str=>"str" | .tup=>"tuple" | .lst=>"list" | .dct=>"dict"
def kd:PyData→Kd
 | .none=>.non | .bool _=>.bl | .int _=>.int | .str _=>.str | .list _=>.lst | .tuple _=>.tup | .dict _=>.dct
def cN (a b:Kd):Bool:=decide (a=b) || (decide (a=.bl) && decide (b=.int))
def CV (t c:String):Option Bool:=if (Value.type t == Value.type c)=true then some true else if PySem.W.kitMeta c=true then (fastBuiltinMro t).map (·.contains (.type c)) else none
theorem gw (a b:Kd):b≠.non→CV a.name b.name=some (cN a b):=by cases a <;> cases b <;> first | (intro h; exact absurd rfl h) | (intro _; decide +kernel)
section
variable {X:Cx}
theorem yq:CallR X (.builtin "isinstance") (fun xs H Q=>∃ (x:V) (c:Kd) (O:Addr→Prop) (d:PyData),xs=[x,.ty c.name]∧Vw X.K O H x d∧c≠.non∧Q (.bl (cN (kd d) c)) H):=by
 intro pins s σ H xs us Q I r h
 obtain ⟨x,c,O,d,rfl,vw,hc,q⟩:=h
 obtain ⟨u,w',rfl,ru,rw'⟩:=vals2 r
 cases (show w'=Value.type c.name from rw')
 have fin:∀ tk,EP X pins σ Q (.bool (cN (kd d) c)) { s with toks:=tk }:=fun tk=>⟨.bl _,H,I.tok _,rfl,q⟩
 cases d with
 | none=>cases vw.non; exact jR I ru .non (show PySem.W.kitOne X.K (.type (Kd.name .non)) (.type c.name)=some _ from gw .non c hc) fin
 | bool b=>cases vw.bl; exact jR I ru (.bl b) (show PySem.W.kitOne X.K (.type (Kd.name .bl)) (.type c.name)=some _ from gw .bl c hc) fin
 | int i=>cases vw.int; exact jR I ru (.int i) (show PySem.W.kitOne X.K (.type (Kd.name .int)) (.type c.name)=some _ from gw .int c hc) fin
 | str z=>cases vw.str; exact jR I ru (.str z) (show PySem.W.kitOne X.K (.type (Kd.name .str)) (.type c.name)=some _ from gw .str c hc) fin
 | list ds=>
  obtain ⟨a,vs,rfl,t,r⟩:=vw.lst
  cases (show u=Value.ref a from ru)
  obtain ⟨its,_,pl,_⟩:=I.list t
  obtain ⟨o,n,e,c1,_⟩:=pl
  exact PySem.W.kia_one PySem.W.kitx_list I.kIn ⟨o,e,c1⟩ (show PySem.W.kitOne X.K (.type (Kd.name .lst)) (.type c.name)=some _ from gw .lst c hc) (fun z=>nomatch z) fin
 | tuple ds=>
  obtain ⟨a,vs,rfl,t,r⟩:=vw.tup
  cases (show u=Value.ref a from ru)
  obtain ⟨its,_,pl,_⟩:=I.tuple t.sq
  obtain ⟨o,e,c1,_⟩:=pl
  exact PySem.W.kia_one PySem.W.kitx_tuple I.kIn ⟨o,e,c1⟩ (show PySem.W.kitOne X.K (.type (Kd.name .tup)) (.type c.name)=some _ from gw .tup c hc) (fun z=>nomatch z) fin
 | dict ds=>
  obtain ⟨a,vs,rfl,t,r⟩:=vw.dct
  cases (show u=Value.ref a from ru)
  obtain ⟨_,_,_,_,o,_,_,e,c1,_⟩:=eF I.hok t
  exact PySem.W.kia_one PySem.W.kitx_dict I.kIn ⟨o,e,c1.1⟩ (show PySem.W.kitOne X.K (.type (Kd.name .dct)) (.type c.name)=some _ from gw .dct c hc) (fun z=>nomatch z) fin
def bG (c:Kd) (x:PyData):Option PyData:=some (.bool (cN (kd x) c))
theorem cJ {e:Expr} {f:FE} {p p' pos:Pos} {T:Str} (c:Kd) (hi:X.mg "isinstance" = none) (he:DE X e f) (hm:X.mg T=none) (hb:bootBuiltins T=some (.type c.name)) (hcn:c≠.non:=by decide) (hg:Gl X "isinstance":=by rfl) (hT:Gl X T:=by rfl) (hn:T≠"__name__":=by decide) (hdb:(T == ("__debug__" : Str))=false:=by decide)
  (hs:starEach [e,.Name T p] X.env=(false,eval e X.env)::starEach [.Name T p] X.env:=by exact bq rfl) (hs2:starEach [.Name T p] X.env=(false,eval (.Name T p) X.env)::starEach [] X.env:=by exact bq rfl)
  (hpl:(backTo pos (starEach [.Name T p] X.env)).any (·.1)=false:=by exact bD rfl):DE X (.Call (.Name "isinstance" p') [e,.Name T p] [] pos) (fUn (bG c) f):=by
 refine ⟨?_⟩
 refine bx (l6 yq hg hi PyProof.Rows.boot_isinstance (bV he.pe (bV (zd (v:=.ty c.name) hT hm hb rfl hn hdb) cG hs2) hs) (by decide) (by decide) hs hpl) fun σ H Q=>?_
 rintro ⟨O,ts,ρ,T,w,T',hc,re,e,q⟩
 obtain ⟨w1,T1,e1,e⟩:=aG e
 obtain ⟨x,d,h1,h3,rfl,rfl⟩:=kA e
 cases h3
 refine ⟨O,ts,ρ,T,w1,T',hc,re,e1,fun v1 H1 s1 hc1 r1=>?_⟩
 exact ⟨v1,c,O,x,rfl,hc1.view r1 h1,hcn,q _ H1 s1 hc1 (.bl _)⟩
def aR:List PyData→Option PyData
 | [.list xs]=>some (.int xs.length)
 | [.tuple xs]=>some (.int xs.length)
 | [.str z]=>if z.length≤sizeLine then some (.int z.length) else none
 | [.dict kvs]=>some (.int kvs.length)
 | _=>none
theorem cM {K:Frag} {O:Addr→Prop} {H:Hp} {vs:List V} {x:PyData} (h:Vws K O H vs [x]):∃ v,vs=[v]∧Vw K O H v x:=by cases h with | cons h t=>cases t; exact ⟨_,rfl,h⟩
theorem qh {K:Frag} {O:Addr→Prop} {H:Hp}:∀ {kvs:List (Key×V)} {ds:List (PyData×PyData)},RepK K O H kvs ds→kvs.length=ds.length
 | _,_,.nil=>rfl
 | _,_,.cons _ t=>congrArg (· + 1) (qh t)
theorem xk:CallR X (.builtin "len") (fun xs H Q=>∃ a kvs,xs=[V.ref a]∧Rd H a (.dK kvs)∧Q (.int kvs.length) H):=by
 intro pins s σ H xs us Q I r h
 obtain ⟨a,kvs,rfl,ha,q⟩:=h
 obtain ⟨u,rfl,ru⟩:=vals1 r
 cases ru
 exact Ct I ha fun t s' I'=>⟨.int kvs.length,H,I',⟨t,rfl⟩,q⟩
theorem bC:dU X (.builtin "len") aR:=⟨_,call_len_seq.or (call_len_str.or xk),fun O ts H T vs xs d Q hc h e q=>by
 unfold aR at e
 split at e
 ·cases e
  obtain ⟨v,rfl,g⟩:=cM h
  obtain ⟨a,vs,rfl,t,r⟩:=g.lst
  exact .inl ⟨a,vs,rfl,.inl t,by rw [r.length]; exact q _ H (.refl _ _) hc (.int _)⟩
 ·cases e
  obtain ⟨v,rfl,g⟩:=cM h
  obtain ⟨a,vs,rfl,t,r⟩:=g.tup
  exact .inl ⟨a,vs,rfl,.inr t.sq,by rw [r.length]; exact q _ H (.refl _ _) hc (.int _)⟩
 ·split at e
  ·rename_i hz
   cases e
   obtain ⟨v,rfl,g⟩:=cM h
   cases g.str
   exact .inr (.inl ⟨_,rfl,hz,q _ H (.refl _ _) hc (.int _)⟩)
  ·cases e
 ·cases e
  obtain ⟨v,rfl,g⟩:=cM h
  obtain ⟨a,kvs,rfl,t,r⟩:=g.dct
  exact .inr (.inr ⟨a,kvs,rfl,t,by rw [qh r]; exact q _ H (.refl _ _) hc (.int _)⟩)
 ·cases e⟩
def lE:List PyData→Option PyData
 | [.int i]=>some (.int (if i < 0 then -i else i))
 | _=>none
theorem Cw:dU X (.builtin "abs") lE:=⟨_,yu,fun O ts H T vs xs d Q hc h e q=>by
 unfold lE at e
 split at e
 ·cases e
  obtain ⟨v,rfl,g⟩:=cM h
  cases g.int
  exact ⟨_,rfl,q _ H (.refl _ _) hc (.int _)⟩
 ·cases e⟩
def Ce:List PyData→Option PyData
 | [.int i,.int j]=>some (.int (if j > i then j else i))
 | _=>none
def Cd:List PyData→Option PyData
 | [.int i,.int j]=>some (.int (if j < i then j else i))
 | _=>none
def eU:List PyData→Option (List Bool)
 | []=>some []
 | .bool b::r=>(eU r).map (b::·)
 | _=>none
def eY:List PyData→Option (List Int)
 | []=>some []
 | .int b::r=>(eY r).map (b::·)
 | _=>none
def cc:List PyData→Option (List Str)
 | []=>some []
 | .str b::r=>(cc r).map (b::·)
 | _=>none
theorem mq {K:Frag} {O:Addr→Prop} {H:Hp}:∀ {vs:List V} {xs:List PyData} {bs:List Bool},Reps K O H vs xs→eU xs=some bs→vs=bs.map V.bl
 | _,_,_,.nil,e=>by cases e; rfl
 | _,x::r,bs,.cons h t,e=>by
  cases x with
  | bool b=>
   obtain ⟨cs,e1,rfl⟩:=Option.map_eq_some_iff.mp (show (eU r).map (b::·)=some bs from e)
   cases h
   rw [mq t e1]
   rfl
  | _=>cases e
theorem md {K:Frag} {O:Addr→Prop} {H:Hp}:∀ {vs:List V} {xs:List PyData} {bs:List Int},Reps K O H vs xs→eY xs=some bs→vs=bs.map V.int
 | _,_,_,.nil,e=>by cases e; rfl
 | _,x::r,bs,.cons h t,e=>by
  cases x with
  | int b=>
   obtain ⟨cs,e1,rfl⟩:=Option.map_eq_some_iff.mp (show (eY r).map (b::·)=some bs from e)
   cases h
   rw [md t e1]
   rfl
  | _=>cases e
theorem iX {K:Frag} {O:Addr→Prop} {H:Hp}:∀ {vs:List V} {xs:List PyData} {bs:List Str},Reps K O H vs xs→cc xs=some bs→vs=bs.map V.str
 | _,_,_,.nil,e=>by cases e; rfl
 | _,x::r,bs,.cons h t,e=>by
  cases x with
  | str b=>
   obtain ⟨cs,e1,rfl⟩:=Option.map_eq_some_iff.mp (show (cc r).map (b::·)=some bs from e)
   cases h
   rw [iX t e1]
   rfl
  | _=>cases e
def lD:List PyData→Option PyData
 | [.list xs]=>(eU xs).map fun bs=>.bool (bs.all id)
 | _=>none
theorem Cv (hc:X.calm=true:=by rfl):dU X (.builtin "all") lD:=⟨_,yt hc,fun O ts H T vs xs d Q hc h e q=>by
 unfold lD at e
 split at e
 ·obtain ⟨bs,e1,rfl⟩:=Option.map_eq_some_iff.mp e
  obtain ⟨v,rfl,g⟩:=cM h
  obtain ⟨a,vs,rfl,t,r⟩:=g.lst
  rw [mq r e1] at t
  exact ⟨a,bs,rfl,t,q _ H (.refl _ _) hc (.bl _)⟩
 ·cases e⟩
def gU:List PyData→Option PyData
 | [.list xs]=>(eY xs).map fun bs=>.int bs.sum
 | _=>none
theorem Cu (hc:X.calm=true:=by rfl):dU X (.builtin "sum") gU:=⟨_,yp hc,fun O ts H T vs xs d Q hc h e q=>by
 unfold gU at e
 split at e
 ·obtain ⟨bs,e1,rfl⟩:=Option.map_eq_some_iff.mp e
  obtain ⟨v,rfl,g⟩:=cM h
  obtain ⟨a,vs,rfl,t,r⟩:=g.lst
  rw [md r e1] at t
  exact ⟨a,bs,rfl,t,q _ H (.refl _ _) hc (.int _)⟩
 ·cases e⟩
def gQ:PyData→PyData→Option PyData
 | .list xs,.int d=>(eY xs).map fun bs=>.int (K1.cB d bs)
 | _,_=>none
theorem z5 {e ed:Expr} {f fd:FE} {p pos kpos:Pos} (hm:X.mg "max" = none) (ha:DE X e f) (hd:DE X ed fd) (hc:X.calm=true:=by rfl) (hg:Gl X "max":=by rfl) (hs:starEach [e] X.env=(false,eval e X.env)::starEach [] X.env:=by exact bq rfl)
  (h1:backTo pos (starEach [e] X.env)=(false,eval e X.env)::backTo pos (starEach [] X.env):=by exact pC rfl)
  (h2:(backTo pos (starEach [e] X.env)).any (·.1)=false:=by exact bD rfl) (h3:(backToKw pos (keywordEach [⟨some "default",ed,kpos⟩] X.env)).all (·.1.isSome)=true:=by rfl)
  (h4:(backToKw pos (keywordEach [⟨some "default",ed,kpos⟩] X.env)).any (·.1.isNone)=false:=by rfl) (h5:(backToKw pos (keywordEach [⟨some "default",ed,kpos⟩] X.env)).filterMap (·.1)=[Str.ofString "default"]:=by rfl) :
  DE X (.Call (.Name "max" p) [e] [⟨some "default",ed,kpos⟩] pos) (af gQ f fd):=by
 refine ⟨?_⟩
 refine bx (y9 hc hg hm ha.pe hd.pe hs h1 h2 h3 h4 h5) fun σ H Q=>?_
 rintro ⟨O,ts,ρ,T,w,T',hc,re,e,q⟩
 obtain ⟨w1,T1,e1,e⟩:=aG e
 obtain ⟨w2,T2,e2,e⟩:=aG e
 obtain ⟨x,y,d,h1,h2,h3,rfl,rfl⟩:=ig e
 refine ⟨O,ts,ρ,T,w1,T1,hc,re,e1,fun v1 H1 s1 hc1 r1=>⟨v1,rfl,?_⟩⟩
 refine ⟨O,ts,ρ,T1,w2,T',hc1,re.mono hc s1,e2,fun v2 H2 s2 hc2 r2=>?_⟩
 have k1:=hc2.view (r1.mono hc1 s2) h1
 have k2:=hc2.view r2 h2
 unfold gQ at h3
 split at h3
 ·obtain ⟨bs,e4,rfl⟩:=Option.map_eq_some_iff.mp h3
  obtain ⟨a,vs,rfl,t,r⟩:=k1.lst
  rw [md r e4] at t
  exact ⟨a,bs,_,rfl,k2.int,t,q _ H2 (s1.trans s2) hc2 (.int _)⟩
 ·cases h3
def gW:List PyData→Option PyData
 | [.int i]=>if i.natAbs.log2 < 1920 then some (.str (toString i)) else none
 | _=>none
theorem og:dU X (.type "str") gW:=⟨_,vt,fun O ts H T vs xs d Q hc h e q=>by
 unfold gW at e
 split at e
 ·split at e
  ·rename_i hz
   cases e
   obtain ⟨v,rfl,g⟩:=cM h
   cases g.int
   exact ⟨_,rfl,hz,q _ H (.refl _ _) hc (.str _)⟩
  ·cases e
 ·cases e⟩
def b4:List PyData→Option PyData
 | [.list xs]=>some (.tuple xs)
 | [.tuple xs]=>some (.tuple xs)
 | _=>none
theorem gE:dU X (.type "tuple") b4:=⟨_,u5,fun O ts H T vs xs d Q hc h e q=>by
 unfold b4 at e
 split at e
 ·cases e
  obtain ⟨v,rfl,g⟩:=cM h
  obtain ⟨a,vs,rfl,t,r⟩:=g.lst
  exact ⟨a,vs,rfl,.inl ⟨t,fun p hp=>q _ _ (.new hp _) (hc.new hp _) (hc.newT hp r)⟩⟩
 ·cases e
  obtain ⟨v,rfl,g⟩:=cM h
  obtain ⟨a,vs,e1,t,r⟩:=g.tup
  subst e1
  exact ⟨a,vs,rfl,.inr ⟨t.sq,q _ H (.refl _ _) hc (.tup t r)⟩⟩
 ·cases e⟩
def eW:List PyData→Option PyData
 | [.list xs]=>some (.list xs)
 | [.tuple xs]=>some (.list xs)
 | _=>none
theorem sR:dU X (.type "list") eW:=⟨_,oO,fun O ts H T vs xs d Q hc h e q=>by
 unfold eW at e
 split at e
 ·cases e
  obtain ⟨v,rfl,g⟩:=cM h
  obtain ⟨a,vs,rfl,t,r⟩:=g.lst
  exact ⟨a,vs,rfl,.inl t,fun p hp=>q _ _ (.new hp _) (hc.new hp _) (hc.newL hp r)⟩
 ·cases e
  obtain ⟨v,rfl,g⟩:=cM h
  obtain ⟨a,vs,rfl,t,r⟩:=g.tup
  exact ⟨a,vs,rfl,.inr t.sq,fun p hp=>q _ _ (.new hp _) (hc.new hp _) (hc.newL hp r)⟩
 ·cases e⟩
theorem mt_joinG:MtR X "str.join" (fun x vs H Q=>∃ (z:Str) (l:Addr) (ys:List Str),x=.str z∧vs=[.ref l]∧SqL X.K H l (ys.map V.str)∧(ys.map (·.length)).sum + ys.length * z.length≤16777216∧Q (.str (Str.join z ys)) H):=by
 intro pins s σ H x vs v us Q I rx rv h
 obtain ⟨z,l,ys,rfl,rfl,hq,hz,q⟩:=h
 obtain ⟨t,rfl⟩:=rx
 obtain ⟨u,rfl,ru⟩:=vals1 rv
 cases ru
 obtain ⟨its,rw',pl,_⟩:=I.list hq
 refine join_list (ys:=ys) pl.isList (by simpa using oV rw') hz fun t' k=>⟨.str _,H,I.tok _,⟨t',?_⟩,q⟩
 show Value.str (Builtin.Str.glued z ys) t'=_
 rw [StrLaws.glued_eq_join]
def iB:PyData→PyData→Option PyData
 | .str z,.list xs=>match cc xs with
  | some ys=>if (ys.map (·.length)).sum + ys.length * z.length≤16777216 then some (.str (Str.join z ys)) else none
  | none=>none
 | _,_=>none
theorem z6 {o e:Expr} {fo fe:FE} {apos cpos:Pos} (ho:DE X o fo) (he:DE X e fe)
  (hbase:attributeBase o "join" X.env (eval o X.env)=eval o X.env:=by rfl)
  (hfew:((backTo cpos (starEach [e] X.env)).all (fun x=>!x.1) && (backToKw cpos (keywordEach [] X.env)).all (fun x=>x.1.isSome)
   && decide (([e]:List Expr).length + ([]:List Keyword).length + (if ([]:List Keyword).isEmpty then 0 else 1) < 30))=true:=by exact g4 rfl)
  (hline:(apos.endLine == cpos.line)=true:=by rfl) (hse:starEach [e] X.env=(false,eval e X.env)::starEach [] X.env:=by exact bq rfl) (hplain:(backTo cpos (starEach [] X.env)).any (·.1)=false:=by exact bD rfl) :
  DE X (.Call (.Attribute o "join" apos) [e] [] cpos) (af iB fo fe):=by
 refine ⟨?_⟩
 refine bx (fR PySem.F.plainAttrs_str PySem.F.slot_str_join PySem.F.type_str_join mt_joinG ho.pe (bV he.pe cG hse) hbase hfew hline hse hplain) fun σ H Q=>?_
 rintro ⟨O,ts,ρ,T,w,T',hc,re,e,q⟩
 obtain ⟨w1,T1,e1,e⟩:=aG e
 obtain ⟨w2,T2,e2,e⟩:=aG e
 obtain ⟨x,y,d,h1,h2,h3,rfl,rfl⟩:=ig e
 unfold iB at h3
 split at h3
 ·rename_i z xs
  split at h3
  ·rename_i ys hy
   split at h3
   ·rename_i hz
    cases h3
    refine ⟨O,ts,ρ,T,w1,T1,hc,re,e1,fun v1 H1 s1 hc1 r1=>?_⟩
    have ev:v1=.str z:=by
     cases w1 with
     | d x=>cases h1; cases (show Rep X.K O H1 v1 _ from r1); rfl
     | tp k=>exact (by
       have h1':(T'[k]?).bind iH=some (PyData.str z):=h1
       cases hk:T'[k]? with
       | none=>rw [hk] at h1'; cases h1'
       | some xs=>
        rw [hk] at h1'
        have e2:(if isO xs=true then none else some (PyData.list xs))=some (PyData.str z):=h1'
        split at e2 <;> cases e2)
     | loc zs=>cases zs <;> cases h1
    subst ev
    refine ⟨rfl,O,ts,ρ,T1,w2,T',hc1,re.mono hc s1,e2,fun v2 H2 s2 hc2 r2=>?_⟩
    obtain ⟨a,vs,rfl,t,r⟩:=(hc2.view r2 h2).lst
    rw [iX r hy] at t
    exact ⟨z,a,ys,rfl,rfl,t,hz,q _ H2 (s1.trans s2) hc2 (.str _)⟩
   ·cases h3
  ·cases h3
 ·cases h3
end
mutual
def jv:PyData→Bool
 | .list _=>false
 | .tuple ds=>kB ds
 | .dict kvs=>kE kvs
 | .none | .bool _ | .int _ | .str _=>true
def kB:List PyData→Bool
 | []=>true
 | d::r=>jv d && kB r
def kE:List (PyData×PyData)→Bool
 | []=>true
 | (_,v)::r=>jv v && kE r
end
section
variable {X:Cx} {pins:List (Addr×Obj)} {σ:L2.St} {H:Hp} {s:Shared} {O:Addr→Prop}
theorem wY {h:Heap} {k:Key} {v:Value} (e:dR k v=true):Reads h v (cV k) []:=by
 rcases dv e with ⟨i,t,rfl,rfl⟩ | ⟨x,t,rfl,rfl⟩
 ·exact .int i t
 ·exact .str x t
mutual
theorem Rep.reads (I:Inv X pins σ H s):∀ {v:V} {d:PyData} {u:Value},Rep X.K O H v d→RelV v u→∃ as,Reads s.heap u d as∧(jv d=true→sysModules∉as)
 | _,_,_,.non,r=>by cases r; exact ⟨_,.none,fun _=>by simp⟩
 | _,_,_,.bl b,r=>by cases r; exact ⟨_,.bool b,fun _=>by simp⟩
 | _,_,_,.int i,r=>by obtain ⟨t,rfl⟩:=r; exact ⟨_,.int i t,fun _=>by simp⟩
 | _,_,_,.str x,r=>by obtain ⟨t,rfl⟩:=r; exact ⟨_,.str x t,fun _=>by simp⟩
 | _,_,_,.tup (a:=a) (vs:=vs) h rs,r=>by
  cases r
  obtain ⟨its,rv,⟨o,e,c,n,dd⟩,_⟩:=I.tuple h.sq
  obtain ⟨as,q,f⟩:=Reps.reads I rs rv
  exact ⟨as,.tuple e c dd (by simpa using q),f⟩
 | _,_,_,.lst (a:=a) (vs:=vs) h rs,r=>by
  cases r
  obtain ⟨its,rv,pl,_⟩:=I.list h.sq
  obtain ⟨o,n,e,c,_,dd⟩:=pl
  obtain ⟨as,q,f⟩:=Reps.reads I rs rv
  exact ⟨_,.list e c dd (by simpa using q),fun z=>by cases z⟩
 | _,_,_,.dct (a:=a) (kvs:=kvs) (ds:=ds) _ h rk,r=>by
  cases r
  obtain ⟨z,y,vs,kv,o,es,ep,e,ed,dd,_,ek,_⟩:=(show ObjOk X.prog X.w H s.heap a (.dK kvs) from (I.hok a _ h).2)
  obtain ⟨bs,q1,q2,f⟩:=RepK.reads I rk kv ek
  refine ⟨_,.dict (kvs:=ds) (as:=[]) (bs:=bs) e ed.1 dd q1 q2,fun zz hm=>?_⟩
  rcases List.mem_cons.mp (by simpa using hm:sysModules∈a::bs) with q | q
  ·rw [q] at y
   simp at y
  ·exact f zz q
theorem Reps.reads (I:Inv X pins σ H s):∀ {vs:List V} {ds:List PyData} {us:List Value},Reps X.K O H vs ds→Vals vs us→∃ as,ReadsAll s.heap us ds as∧(kB ds=true→sysModules∉as)
 | _,_,_,.nil,r=>by cases r; exact ⟨_,.nil,fun _=>by simp⟩
 | _,_,_,.cons (d:=d) (ds:=ds) q t,r=>by
  cases r with
  | cons r1 r2=>
   obtain ⟨as,h1,f1⟩:=Rep.reads I q r1
   obtain ⟨bs,h2,f2⟩:=Reps.reads I t r2
   refine ⟨as++bs,.cons h1 h2,fun z=>?_⟩
   have z':(jv d && kB ds)=true:=z
   rw [Bool.and_eq_true] at z'
   intro hm
   rcases List.mem_append.mp hm with hm | hm
   ·exact f1 z'.1 hm
   ·exact f2 z'.2 hm
theorem RepK.reads (I:Inv X pins σ H s):∀ {kvs:List (Key×V)} {ds:List (PyData×PyData)} {vs:List (Key×Value)} {es:List DictEntry},RepK X.K O H kvs ds→KV kvs vs→Pairs (bt X.prog X.w) es vs →
  ∃ bs,ReadsAll s.heap (es.map (·.key)) (ds.map (·.1)) []∧ReadsAll s.heap (es.map (·.val)) (ds.map (·.2)) bs∧(kE ds=true→sysModules∉bs)
 | _,_,_,_,.nil,r,ek=>by
  cases r
  cases ek
  exact ⟨[],.nil,.nil,fun _=>by simp⟩
 | _,_,_,_,.cons (k:=k) (d:=d) (ds:=ds) q t,r,ek=>by
  cases r with
  | cons r1 r2=>
   cases ek with
   | cons e1 e1' e2=>
    obtain ⟨as,h1,f1⟩:=Rep.reads I q r1.2
    obtain ⟨bs,h2,h3,f2⟩:=RepK.reads I t r2 e2
    rw [← e1'] at h1
    have k1:=wY (h:=s.heap) (show dR _ _=true from e1)
    rw [← r1.1] at k1
    refine ⟨as++bs,.cons (as:=[]) (bs:=[]) k1 h2,.cons h1 h3,fun z=>?_⟩
    have z':(jv d && kE ds)=true:=z
    rw [Bool.and_eq_true] at z'
    intro hm
    rcases List.mem_append.mp hm with hm | hm
    ·exact f1 z'.1 hm
    ·exact f2 z'.2 hm
end
end
section
variable {X:Cx}
end
structure Df (K:Frag) (name:Str) (st:Stmt):Prop where
 ex:∃ (f:Addr) (oc:Value) (od an:Option Addr) (sl:Array (Option Value)) (kV dc pm cd ct:Value),PySem.W.nsIn K mainGlobals name=some (some (.ref f)) ∧
  K.lookup f=some ⟨oc,od,.func (PySem.W.fnOf name name (d4 st) (c7 st) (aM st) .none kV dc pm an cd ct),sl⟩∧PySem.W.codeIn K cd name=true∧PySem.W.keepIn K (.ref f)=true
theorem Cq {K:Frag} {name:Str} {st:Stmt} {f:Addr} {oc:Value} {od an:Option Addr} {sl:Array (Option Value)} {kV dc pm cd ct:Value} (a:PySem.W.nsIn K mainGlobals name=some (some (.ref f)))
  (l:K.lookup f=some ⟨oc,od,.func (PySem.W.fnOf name name (d4 st) (c7 st) (aM st) .none kV dc pm an cd ct),sl⟩) (c:PySem.W.codeIn K cd name=true) (k:PySem.W.keepIn K (.ref f)=true):Df K name st:=⟨f,oc,od,an,sl,kV,dc,pm,cd,ct,a,l,c,k⟩
theorem Df.fn {P:Program} {w:World} {K:Frag} {mg:Str→Option Value} {base h:Heap} {name:Str} {st:Stmt} {ps:List Str} {k:Nat} {sp:Sp} (d:Df K name st) (X:K.In h) (G:h.Ns mainGlobals mg)
  (hb:∀ (kV doc pm:Value) (an:Option Addr) (cdv ct:Value) (us:List Value),us.length=ps.length→bindArgs (PySem.W.fnOf name name (d4 st) (c7 st) (aM st) .none kV doc pm an cdv ct) ⟨us,[]⟩=pure (ps.zip us))
  (ok:∀ f fd,Fun K name name st f fd→FnOk P w K mg base CX0 k f fd ps sp):Fn P w K mg base name ps k sp:=by
 obtain ⟨f,oc,od,an,sl,kV,dc,pm,cd,ct,a,l,c,kp⟩:=d.ex
 have F:=sH (st:=st) l c kp
 exact ⟨f,_,ok f _ F,F.binds hb,kp,PySem.W.mg_of X G a⟩
theorem gz {P:Program} {w:World} {K:Frag} {mg:Str→Option Value} {base:Heap} {k n:Nat} {f:Addr} {fd:FuncData} {ps:List Str}:FnOk P w K mg base CX0 k f fd ps (spM K n fun _ _=>none):=by
 have no:∀ vs H Q E,¬ spM K n (fun _ _=>none) vs H Q E:=fun vs H Q E h=>by
  obtain ⟨O,ts,T,ws,x,T',_,_,_,e,_⟩:=h
  cases e
 exact ⟨fun vs H Q E h=>absurd h (no vs H Q E),fun A outer s H args us vs Q E _ _ _ _ h=>absurd h (no vs H Q E)⟩
def kO (K:Frag):Sp:=fun vs H Q _=>∃ (a:Addr) (ns:List Int),vs=[.ref a]∧SqL K H a (ns.map V.int)∧ns.length≤63∧∀ H',Q (.bl true) H'
def ko (ns:List Int):PyData:=.list (ns.map .int)
theorem pH {K:Frag} {O:Addr→Prop} {H:Hp}:∀ ns:List Int,Reps K O H (ns.map V.int) (ns.map PyData.int)
 | []=>.nil
 | _::r=>.cons (.int _) (pH r)
section
variable {α β:Type} {ρ:Rho} {T:Tp} {f g:FE} {c c':FT} {s s':FS} {a:FA} {w w':W} {x y:PyData}
@[simp] theorem dO {b:α} {k:α→Tp→Option β}:bnd (some (b,T)) k=k b T:=rfl
@[simp] theorem EY {k:α→Tp→Option β}:bnd none k=none:=rfl
@[simp] theorem EZ {p:Prop} [Decidable p] {u v:Option (α×Tp)} {k:α→Tp→Option β}:bnd (if p then u else v) k=if p then bnd u k else bnd v k:=by split <;> rfl
@[simp] theorem eE {N:Nat} {ws:List W}:aX N s ws T=if c9 ws=true then cg (s (ws.map some++List.replicate (N - ws.length) none) T) else none:=rfl
@[simp] theorem dh:c9 []=true:=rfl
@[simp] theorem dg {r:List W}:c9 (.d x::r)=c9 r:=rfl
@[simp] theorem pT {i:Nat} {r:List W}:c9 (.tp i::r)=c9 r:=rfl
@[simp] theorem EU {r:Rho}:cg (some ((.rt x,r),T))=some (x,T):=rfl
@[simp] theorem EW {r:Rho}:cg (some ((.nx,r),T))=some (.none,T):=rfl
@[simp] theorem EX {p:Prop} [Decidable p] {u v:Option ((Fl×Rho)×Tp)}:cg (if p then u else v)=if p then cg u else cg v:=by split <;> rfl
def iG (s':FS) (p:Fl×Rho) (T:Tp):Option ((Fl×Rho)×Tp):=match p with
 | (.nx,ρ1)=>s' ρ1 T
 | (fl,ρ1)=>some ((fl,ρ1),T)
@[simp] theorem il:aj s s' ρ T=bnd (s ρ T) (iG s'):=rfl
@[simp] theorem Ej {ρ1:Rho}:iG s' (.nx,ρ1) T=s' ρ1 T:=rfl
@[simp] theorem Ei {ρ1:Rho}:iG s' (.rt x,ρ1) T=some ((.rt x,ρ1),T):=rfl
@[simp] theorem Em {ρ1:Rho}:iG s' (.bk,ρ1) T=some ((.bk,ρ1),T):=rfl
@[simp] theorem El {ρ1:Rho}:iG s' (.ct,ρ1) T=some ((.ct,ρ1),T):=rfl
@[simp] theorem EA:aC ρ T=some ((.nx,ρ),T):=rfl
def ifK (s s':FS) (ρ:Rho) (b:Bool) (T1:Tp):Option ((Fl×Rho)×Tp):=if b=true then s ρ T1 else s' ρ T1
@[simp] theorem tE:fIf c s s' ρ T=bnd (c ρ T) (ifK s s' ρ):=rfl
@[simp] theorem Bh {b:Bool}:ifK s s' ρ b T=if b=true then s ρ T else s' ρ T:=rfl
def tT (ρ:Rho):W→Tp→Option ((Fl×Rho)×Tp):=fun w T1=>match w with
 | .d x=>some ((.rt x,ρ),T1)
 | _=>none
@[simp] theorem Bd:aB f ρ T=bnd (f (bH ρ) T) (tT ρ):=rfl
@[simp] theorem Er:tT ρ (.d x) T=some ((.rt x,ρ),T):=rfl
@[simp] theorem ES:bH []=[]:=rfl
@[simp] theorem EO {r:Rho}:bH (none::r)=none::bH r:=rfl
@[simp] theorem ER {r:Rho}:bH (some (.d x)::r)=some (.d x)::bH r:=rfl
@[simp] theorem EN {i:Nat} {r:Rho}:bH (some (.tp i)::r)=some (.tp i)::bH r:=rfl
@[simp] theorem EQ {x:PyData} {r:Rho}:bH (some (.loc x)::r)=some (.d x)::bH r:=rfl
def oh (i:Nat) (ρ:Rho):W→Tp→Option ((Fl×Rho)×Tp):=fun w T1=>match w with
 | .d x=>some ((.nx,ρ.set i (some (.d x))),T1)
 | .tp k=>some ((.nx,ρ.set i (some (.tp k))),T1)
 | .loc _=>none
@[simp] theorem jm {i:Nat}:aD i f ρ T=bnd (f ρ T) (oh i ρ):=rfl
@[simp] theorem mR {i:Nat}:oh i ρ (.d x) T=some ((.nx,ρ.set i (some (.d x))),T):=rfl
@[simp] theorem Ee {i k:Nat}:oh i ρ (.tp k) T=some ((.nx,ρ.set i (some (.tp k))),T):=rfl
def sZ (i:Nat) (ρ:Rho) (T:Tp):Option (List PyData)→Option ((Fl×Rho)×Tp)
 | some xs=>if xs.length≤1000 then some ((.nx,ρ.set i (some (.loc (.list xs)))),T) else none
 | none=>none
@[simp] theorem Ef {i:Nat}:bB i a ρ T=bnd (a ρ T) fun ws T1=>sZ i ρ T1 (dq ws):=rfl
@[simp] theorem DJ {i:Nat} {xs:List PyData}:sZ i ρ T (some xs)=if xs.length≤1000 then some ((.nx,ρ.set i (some (.loc (.list xs)))),T) else none:=rfl
def uj (i:Nat) (ρ:Rho) (x:PyData) (T:Tp) (o:Option (Option W)):Option ((Fl×Rho)×Tp):=match o with
 | some (some (.loc (.list xs)))=>if xs.length < sizeLine then some ((.nx,ρ.set i (some (.loc (.list (xs++[x]))))),T) else none
 | _=>none
def ui (i:Nat) (ρ:Rho):W→Tp→Option ((Fl×Rho)×Tp):=fun w T1=>match w with
 | .d x=>(match ρ[i]? with
  | some (some (.loc (.list xs)))=>if xs.length < sizeLine then some ((.nx,ρ.set i (some (.loc (.list (xs++[x]))))),T1) else none
  | _=>none)
 | _=>none
@[simp] theorem F4 {i:Nat}:bS i f ρ T=bnd (f ρ T) (ui i ρ):=rfl
@[simp] theorem E1 {i:Nat}:ui i ρ (.d x) T=uj i ρ x T ρ[i]?:=rfl
@[simp] theorem E2 {i:Nat} {xs:List PyData}:uj i ρ x T (some (some (.loc (.list xs))))=if xs.length < sizeLine then some ((.nx,ρ.set i (some (.loc (.list (xs++[x]))))),T) else none:=rfl
@[simp] theorem F8 {l u:FO}:fSl f l u ρ T=bnd (f ρ T) fun w T1=>bnd (l ρ T1) fun lo T2=>bnd (u ρ T2) fun hi T3=>op1 (fun x=>ie x lo hi) T3 w:=rfl
@[simp] theorem Fq:cX ρ T=some (none,T):=rfl
def pK:W→Tp→Option (Option Int×Tp):=fun w T1=>match w with
 | .d (.int i)=>some (some i,T1)
 | _=>none
@[simp] theorem Gg:fP f ρ T=bnd (f ρ T) pK:=rfl
@[simp] theorem F9 {i:Int}:pK (.d (.int i)) T=some (some i,T):=rfl
@[simp] theorem Fd {z:Str} {lo hi:Option Int}:ie (.str z) lo hi=if z.length≤sizeLine then some (.str (Txt.slice z lo hi)) else none:=rfl
@[simp] theorem Fc {xs:List PyData} {lo hi:Option Int}:ie (.tuple xs) lo hi=some (.tuple (bN xs lo hi)):=rfl
@[simp] theorem Fe {xs:List PyData} {lo hi:Option Int}:ie (.list xs) lo hi=some (.list (bN xs lo hi)):=rfl
@[simp] theorem i7 {o:W} {r:Rho}:aa 0 (some o::r) T=some (o,T):=rfl
@[simp] theorem dz {i:Nat} {o:Option W} {r:Rho}:aa (i + 1) (o::r) T=aa i r T:=rfl
@[simp] theorem i6 {o:Option W} {r:Rho}:aa 1 (o::r) T=aa 0 r T:=dz
@[simp] theorem i5 {o:Option W} {r:Rho}:aa 2 (o::r) T=aa 1 r T:=dz
@[simp] theorem i4 {o:Option W} {r:Rho}:aa 3 (o::r) T=aa 2 r T:=dz
@[simp] theorem kc {o:Option W} {r:Rho}:aa 4 (o::r) T=aa 3 r T:=dz
@[simp] theorem ka {o:Option W} {r:Rho}:aa 5 (o::r) T=aa 4 r T:=dz
@[simp] theorem mO {o:Option W} {r:Rho}:aa 6 (o::r) T=aa 5 r T:=dz
@[simp] theorem zM {o:Option W} {r:Rho}:aa 7 (o::r) T=aa 6 r T:=dz
@[simp] theorem D9 {o:Option W} {r:Rho}:aa 8 (o::r) T=aa 7 r T:=dz
@[simp] theorem D8 {o:Option W} {r:Rho}:aa 9 (o::r) T=aa 8 r T:=dz
@[simp] theorem oy:fC x ρ T=some (.d x,T):=rfl
@[simp] theorem D7:view T (.d x)=some x:=rfl
@[simp] theorem Dz {i:Nat}:view T (.tp i)=(T[i]?).bind iH:=rfl
@[simp] theorem En {xs:List PyData}:iH xs=if isO xs=true then none else some (.list xs):=rfl
@[simp] theorem D6 {xs r:List PyData}:isO (.list xs::r)=false:=rfl
@[simp] theorem DB {xs:List PyData}:view T (.loc (.list xs))=some (.list xs):=rfl
@[simp] theorem De {xs:List (PyData×PyData)}:view T (.loc (.dict xs))=some (.dict xs):=rfl
noncomputable def mkD (T:Tp) (o:Option PyData):Option (W×Tp):=match o with
 | some d=>some (.d d,T)
 | none=>none
@[simp] theorem jp:mkD T (some x)=some (.d x,T):=rfl
@[simp] theorem EC:mkD T none=none:=rfl
@[simp] theorem ED {p:Prop} [Decidable p] {u v:Option PyData}:mkD T (if p then u else v)=if p then mkD T u else mkD T v:=by split <;> rfl
def ug (o:PyData→PyData→Option PyData) (g:FE) (ρ:Rho) (w1:W) (T1:Tp):Option (W×Tp):=bnd (g ρ T1) fun w2 T2=>op2 o T2 w1 w2
@[simp] theorem jr {o:PyData→PyData→Option PyData}:af o f g ρ T=bnd (f ρ T) (ug o g ρ):=rfl
@[simp] theorem i9 {o:PyData→PyData→Option PyData}:ug o g ρ w T=bnd (g ρ T) fun w2 T2=>op2 o T2 w w2:=rfl
@[simp] theorem jn {o:PyData→PyData→Option PyData}:op2 o T (.d x) (.d y)=mkD T (o x y):=rfl
@[simp] theorem Eu {o:PyData→PyData→Option PyData} {zs xs:List PyData} {r:Tp}:op2 o ((.list zs::xs)::r) (.tp 0) (.d y)=mkD ((.list zs::xs)::r) (o (.list (.list zs::xs)) y):=rfl
@[simp] theorem F7 {o:PyData→Option PyData}:fUn o f ρ T=bnd (f ρ T) fun w1 T1=>op1 o T1 w1:=rfl
@[simp] theorem Fp {o:PyData→Option PyData}:op1 o T (.d x)=mkD T (o x):=rfl
@[simp] theorem F3 {b:Bool}:asB (.d (.bool b))=some b:=rfl
def tN:W→Tp→Option (Bool×Tp):=fun w T1=>match asB w with
 | some b=>some (b,T1)
 | none=>none
@[simp] theorem Bb:au f ρ T=bnd (f ρ T) tN:=rfl
@[simp] theorem zN {b:Bool}:tN (.d (.bool b)) T=some (b,T):=rfl
@[simp] theorem E8:a8 f ρ T=bnd (f ρ T) fun w T1=>ll T1 w:=rfl
def tO (T:Tp) (o:Option Bool):Option (Bool×Tp):=match o with
 | some b=>some (b,T)
 | none=>none
@[simp] theorem Ec:ll T (.d x)=tO T (lj x):=rfl
@[simp] theorem Ea {b:Bool}:tO T (some b)=some (b,T):=rfl
@[simp] theorem Eb {b:Bool}:lj (.bool b)=some b:=rfl
def tI (c':FT) (ρ:Rho) (b:Bool) (T1:Tp):Option (Bool×Tp):=if b=true then c' ρ T1 else some (false,T1)
@[simp] theorem E4:cy c c' ρ T=bnd (c ρ T) (tI c' ρ):=rfl
@[simp] theorem D5 {b:Bool}:tI c' ρ b T=if b=true then c' ρ T else some (false,T):=rfl
def tY (c':FT) (ρ:Rho) (b:Bool) (T1:Tp):Option (Bool×Tp):=if b=true then some (true,T1) else c' ρ T1
@[simp] theorem Fj:cW c c' ρ T=bnd (c ρ T) (tY c' ρ):=rfl
@[simp] theorem Et {b:Bool}:tY c' ρ b T=if b=true then some (true,T) else c' ρ T:=rfl
@[simp] theorem Ey:cj c ρ T=bnd (c ρ T) fun b T1=>some (!b,T1):=rfl
@[simp] theorem DG:bo ρ T=some (true,T):=rfl
def uk (g:FE) (ρ:Rho) (w:W) (T:Tp):Option (W×Tp):=match asB w with
 | some b=>if b=true then g ρ T else some (.d (.bool false),T)
 | none=>none
@[simp] theorem E3:Co f g ρ T=bnd (f ρ T) (uk g ρ):=rfl
@[simp] theorem E5 {b:Bool}:uk g ρ (.d (.bool b)) T=if b=true then g ρ T else some (.d (.bool false),T):=rfl
def orK (g:FE) (ρ:Rho) (w:W) (T:Tp):Option (W×Tp):=match asB w with
 | some b=>if b=true then some (.d (.bool true),T) else g ρ T
 | none=>none
@[simp] theorem Fi:C1 f g ρ T=bnd (f ρ T) (orK g ρ):=rfl
@[simp] theorem Fk {b:Bool}:orK g ρ (.d (.bool b)) T=if b=true then some (.d (.bool true),T) else g ρ T:=rfl
def t6 (w:W) (T:Tp):Option (W×Tp):=match asB w with
 | some b=>some (.d (.bool (!b)),T)
 | none=>none
@[simp] theorem Ew:n9 f ρ T=bnd (f ρ T) t6:=rfl
@[simp] theorem Ez {b:Bool}:t6 (.d (.bool b)) T=some (.d (.bool (!b)),T):=rfl
def ub (f g:FE) (ρ:Rho) (b:Bool) (T1:Tp):Option (W×Tp):=if b=true then f ρ T1 else g ρ T1
@[simp] theorem FR:bY c f g ρ T=bnd (c ρ T) (ub f g ρ):=rfl
@[simp] theorem EM {b:Bool}:ub f g ρ b T=if b=true then f ρ T else g ρ T:=rfl
def chK (o':PyData→PyData→Option PyData) (h:FE) (ρ:Rho) (w2 w:W) (T:Tp):Option (W×Tp):=match asB w with
 | some b=>if b=true then bnd (h ρ T) fun w3 T4=>op2 o' T4 w2 w3 else some (.d (.bool false),T)
 | none=>none
@[simp] theorem D3 {o o':PyData→PyData→Option PyData} {h:FE}:jl o o' f g h ρ T=bnd (f ρ T) fun w1 T1=>bnd (g ρ T1) fun w2 T2=>bnd (op2 o T2 w1 w2) (chK o' h ρ w2):=rfl
@[simp] theorem F1 {o':PyData→PyData→Option PyData} {h:FE} {b:Bool}:chK o' h ρ w (.d (.bool b)) T=if b=true then bnd (h ρ T) fun w3 T4=>op2 o' T4 w w3 else some (.d (.bool false),T):=rfl
@[simp] theorem jo:ai ρ T=some ([],T):=rfl
def tG (a:FA) (ρ:Rho) (w:W) (T1:Tp):Option (List W×Tp):=bnd (a ρ T1) fun ws T2=>some (w::ws,T2)
@[simp] theorem i8:ae f a ρ T=bnd (f ρ T) (tG a ρ):=rfl
@[simp] theorem iS:tG a ρ w T=bnd (a ρ T) fun ws T2=>some (w::ws,T2):=rfl
@[simp] theorem Dd:views T []=some []:=rfl
def jB (x:PyData) (o:Option (List PyData)):Option (List PyData):=match o with
 | some xs=>some (x::xs)
 | none=>none
@[simp] theorem D1 {xs:List PyData}:jB x (some xs)=some (x::xs):=rfl
@[simp] theorem Dy {r:List W}:views T (.d x::r)=jB x (views T r):=rfl
@[simp] theorem Da {xs:List PyData} {r:List W}:views T (.loc (.list xs)::r)=jB (.list xs) (views T r):=rfl
@[simp] theorem Dw:dq []=some []:=rfl
@[simp] theorem DZ {r:List W}:dq (.d x::r)=jB x (dq r):=rfl
def sqK (mk:List PyData→PyData) (T:Tp):Option (List PyData)→Option (W×Tp)
 | some xs=>if xs.length≤1000 then some (.d (mk xs),T) else none
 | none=>none
@[simp] theorem Ek {mk:List PyData→PyData}:ay mk a ρ T=bnd (a ρ T) fun ws T1=>sqK mk T1 (dq ws):=rfl
@[simp] theorem Fb {mk:List PyData→PyData} {xs:List PyData}:sqK mk T (some xs)=if xs.length≤1000 then some (.d (mk xs),T) else none:=rfl
def cbK (o:List PyData→Option PyData) (T:Tp) (v:Option (List PyData)):Option (W×Tp):=match v with
 | some xs=>(match o xs with
  | some d=>some (.d d,T)
  | none=>none)
 | none=>none
@[simp] theorem Gf {o:List PyData→Option PyData}:fCB o a ρ T=bnd (a ρ T) fun ws T1=>cbK o T1 (views T1 ws):=rfl
@[simp] theorem F2 {o:List PyData→Option PyData} {xs:List PyData}:cbK o T (some xs)=mkD T (o xs):=rfl
@[simp] theorem rB {m:FnM}:aw m a ρ T=bnd (a ρ T) fun ws T1=>bnd (m ws T1) fun x T2=>some (.d x,T2):=rfl
@[simp] theorem zR {it:FI}:bf it c f ρ T=bnd (it ρ T) fun ds T1=>bnd (a6 c f ρ ds T1) fun ys T2=>some (.d (.list ys),T2):=rfl
def itK (T:Tp) (o:Option (List PyData)):Option (List PyData×Tp):=match o with
 | some xs=>some (xs,T)
 | none=>none
def itW:W→Tp→Option (List PyData×Tp):=fun w T1=>match w with
 | .d x=>(match gI x with
  | some xs=>some (xs,T1)
  | none=>none)
 | _=>none
@[simp] theorem zQ:aW f ρ T=bnd (f ρ T) itW:=rfl
@[simp] theorem Bf:itW (.d x) T=itK T (gI x):=rfl
@[simp] theorem Bg {xs:List PyData}:itK T (some xs)=some (xs,T):=rfl
@[simp] theorem xc {xs:List PyData}:gI (.list xs)=some xs:=rfl
@[simp] theorem Dv {ds:List (PyData×PyData)}:gI (.dict ds)=some (ds.map (·.1)):=rfl
@[simp] theorem Dt {xs:List PyData}:gI (.tuple xs)=some xs:=rfl
@[simp] theorem Du {z:Str}:gI (.str z)=if z.length≤sizeLine then some (signs z) else none:=rfl
def tS:W→Tp→Option (List PyData×Tp):=fun w T1=>match w with
 | .d (.int j)=>if dm j=true then some (bL 0 j.toNat,T1) else none
 | _=>none
@[simp] theorem Ep:bR f ρ T=bnd (f ρ T) tS:=rfl
@[simp] theorem Eo {j:Int}:tS (.d (.int j)) T=if dm j=true then some (bL 0 j.toNat,T) else none:=rfl
@[simp] theorem jq {i:Nat} {it:FI}:bp i it s ρ T=bnd (it ρ T) fun ds T1=>forL i s ds ρ T1:=rfl
@[simp] theorem E9 {i j:Int}:e9 (.int i) (.int j)=some (.int (i - j)):=rfl
@[simp] theorem Fw {i j:Int}:fg (.int i) (.int j)=if 0 < j then some (.int (i % j)) else none:=rfl
@[simp] theorem ET {i j:Int}:Cn (.int i) (.int j)=if 0 < j∧j < 1073741824 then some (.int (i / j)) else none:=rfl
@[simp] theorem Fg {i j:Int}:eG (.int i) (.int j)=if 0≤j∧j≤1000000∧i.natAbs < 2 ^ 64 then some (.int (i ^ j.toNat)) else none:=rfl
@[simp] theorem Ga {i j:Int}:ltD (.int i) (.int j)=some (.bool (decide (i < j))):=rfl
@[simp] theorem Gb {i j:Int}:leD (.int i) (.int j)=some (.bool (decide (i≤j))):=rfl
@[simp] theorem Gd {i j:Int}:gtD (.int i) (.int j)=some (.bool (decide (j < i))):=rfl
@[simp] theorem Ge {i j:Int}:geD (.int i) (.int j)=some (.bool (decide (j≤i))):=rfl
@[simp] theorem mS {i j:Int}:aO (.int i) (.int j)=some (.int (i + j)):=rfl
@[simp] theorem zS {u v:Str}:aO (.str u) (.str v)=if u.length + v.length≤sizeLine then some (.str (u++v)) else none:=rfl
@[simp] theorem E6 {u v:List PyData}:aO (.tuple u) (.tuple v)=if u.length + v.length≤sizeLine then some (.tuple (u++v)) else none:=rfl
@[simp] theorem E7 {u v:List PyData}:aO (.list u) (.list v)=if u.length + v.length≤sizeLine then some (.list (u++v)) else none:=rfl
@[simp] theorem EB {i j:Int}:dG (.int i) (.int j)=if (-(2 ^ 64) < i∧i < 2 ^ 64)∨(-(2 ^ 64) < j∧j < 2 ^ 64) then some (.int (i * j)) else none:=rfl
@[simp] theorem zO {z:Str} {k:Int}:dG (.str z) (.int k)=if 0≤k∧k≤2000∧z.length≤1000 then some (.str (Txt.mul z k)) else none:=rfl
@[simp] theorem Bj {i j:Int}:eqD (.int i) (.int j)=some (.bool (decide (i=j))):=rfl
@[simp] theorem FZ {i j:Str}:eqD (.str i) (.str j)=some (.bool (decide (i=j))):=rfl
@[simp] theorem F0 {i j:Bool}:eqD (.bool i) (.bool j)=some (.bool (decide (i=j))):=rfl
@[simp] theorem Fu {i j:Int}:neD (.int i) (.int j)=some (.bool (!decide (i=j))):=rfl
@[simp] theorem Ft {i j:Str}:neD (.str i) (.str j)=some (.bool (!decide (i=j))):=rfl
@[simp] theorem Fv {i j:Bool}:neD (.bool i) (.bool j)=some (.bool (!decide (i=j))):=rfl
@[simp] theorem Gc:isD x .none=some (.bool (isNone x)):=by cases x <;> rfl
@[simp] theorem DY {i j:Bool}:gJ (.bool i) (.bool j)=some (.bool (i != j)):=rfl
@[simp] theorem Fs {i:Int}:eI (.int i)=some (.int (-i)):=rfl
@[simp] theorem FN {k:Kd}:bG k x=some (.bool (cN (kd x) k)):=rfl
@[simp] theorem FM {xs:List PyData} {i:Int}:ixD (.list xs) (.int i)=atI xs i:=rfl
@[simp] theorem FK {xs:List PyData} {i:Int}:ixD (.tuple xs) (.int i)=atI xs i:=rfl
@[simp] theorem Be {z:Str} {i:Int}:ixD (.str z) (.int i)=if z.length≤sizeLine then (atI z.cps.toList i).map (fun c=>.str ⟨#[c]⟩) else none:=rfl
@[simp] theorem EH {xs:List PyData}:aR [.list xs]=some (.int xs.length):=rfl
@[simp] theorem EF {xs:List PyData}:aR [.tuple xs]=some (.int xs.length):=rfl
@[simp] theorem EG {z:Str}:aR [.str z]=if z.length≤sizeLine then some (.int z.length) else none:=rfl
@[simp] theorem F6 {i:Int}:lE [.int i]=some (.int (if i < 0 then -i else i)):=rfl
@[simp] theorem Fy {i j:Int}:Ce [.int i,.int j]=some (.int (if j > i then j else i)):=rfl
@[simp] theorem Fx {i j:Int}:Cd [.int i,.int j]=some (.int (if j < i then j else i)):=rfl
@[simp] theorem Dh {xs:List PyData}:b4 [.list xs]=some (.tuple xs):=rfl
@[simp] theorem Dg {xs:List PyData}:b4 [.tuple xs]=some (.tuple xs):=rfl
@[simp] theorem DU {xs:List PyData}:eW [.list xs]=some (.list xs):=rfl
@[simp] theorem DR {xs:List PyData}:eW [.tuple xs]=some (.list xs):=rfl
@[simp] theorem FG {i:Int}:kd (.int i)=.int:=rfl
@[simp] theorem FJ {i:Bool}:kd (.bool i)=.bl:=rfl
@[simp] theorem FC {i:Str}:kd (.str i)=.str:=rfl
@[simp] theorem FB {i:List PyData}:kd (.tuple i)=.tup:=rfl
@[simp] theorem FF {i:List PyData}:kd (.list i)=.lst:=rfl
@[simp] theorem FH {i:List (PyData×PyData)}:kd (.dict i)=.dct:=rfl
@[simp] theorem FD:kd .none=.non:=rfl
end
theorem at0 {α:Type} {a b c:α}:atI [a,b,c] 0=some a:=rfl
theorem at1 {α:Type} {a b c:α}:atI [a,b,c] 1=some b:=rfl
theorem at2 {α:Type} {a b c:α}:atI [a,b,c] 2=some c:=rfl
theorem ix1:ixN 3 1=some 1:=rfl
theorem ix2:ixN 3 2=some 2:=rfl
theorem eK {e:FE} {ρ:Rho} {T:Tp} {g:PyData→PyData}:∀ {ds:List PyData},(∀ d∈ds,e (some (.d d)::ρ) T=some (.d (g d),T))→a6 bo e ρ ds T=some (ds.map g,T)
 | [],_=>rfl
 | d::r,h=>by
  have ih:=eK (ds:=r) fun x hx=>h x (List.mem_cons_of_mem _ hx)
  have h0:=h d List.mem_cons_self
  unfold a6
  simp [h0,ih]
theorem iM {c:FT} {ρ:Rho} {T:Tp} {p:PyData→Bool}:∀ {ds:List PyData},(∀ d∈ds,c (some (.d d)::ρ) T=some (p d,T))→a6 c (aa 0) ρ ds T=some (ds.filter p,T)
 | [],_=>rfl
 | d::r,h=>by
  have ih:=iM (ds:=r) fun x hx=>h x (List.mem_cons_of_mem _ hx)
  have h0:=h d List.mem_cons_self
  unfold a6
  cases hp:p d with
  | false=>simp [h0,hp,ih]
  | true=>simp [h0,hp,ih]
theorem lJ {α:Type} (p:α→Bool):∀ l:List α,eU (l.map fun d=>.bool (p d))=some (l.map p)
 | []=>rfl
 | d::r=>by
  show (eU (r.map fun d=>.bool (p d))).map (p d::·)=_
  rw [lJ p r]
  rfl
theorem lO {α:Type} (p:α→Int):∀ l:List α,eY (l.map fun d=>.int (p d))=some (l.map p)
 | []=>rfl
 | d::r=>by
  show (eY (r.map fun d=>.int (p d))).map (p d::·)=_
  rw [lO p r]
  rfl
theorem jM {α:Type} (p:α→Str):∀ l:List α,cc (l.map fun d=>.str (p d))=some (l.map p)
 | []=>rfl
 | d::r=>by
  show (cc (r.map fun d=>.str (p d))).map (p d::·)=_
  rw [jM p r]
  rfl
@[simp] theorem F5 {α:Type} (p:α→Bool) (l:List α):lD [.list (l.map fun d=>.bool (p d))]=some (.bool (l.all p)):=by
 show (eU _).map (fun bs=>PyData.bool (bs.all id))=_
 rw [lJ,Option.map_some,List.all_map]
 rfl
@[simp] theorem Bc {α:Type} (p:α→Int) (l:List α):gU [.list (l.map fun d=>.int (p d))]=some (.int (l.map p).sum):=by
 show (eY _).map (fun bs=>PyData.int bs.sum)=_
 rw [lO,Option.map_some]
@[simp] theorem zP {α:Type} (p:α→Int) (l:List α) (k:Int):gQ (.list (l.map fun d=>.int (p d))) (.int k)=some (.int (K1.cB k (l.map p))):=by
 show (eY _).map (fun bs=>PyData.int (K1.cB k bs))=_
 rw [lO,Option.map_some]
def nc (y:Str):PyData→Bool
 | .str z=>jG y z
 | _=>false
@[simp] theorem FQ {x y:Str}:inD (.str x) (.str y)=some (.bool (jG y x)):=rfl
theorem wy {x:Str} {d:PyData} (h:d∈D.signs x):∃ c,c∈x.cps.toList∧d=.str ⟨#[c]⟩:=by
 obtain ⟨c,hc,rfl⟩:=List.mem_map.mp h
 exact ⟨c,hc,rfl⟩
section
variable {X:Cx}
def yF:PyData→PyData→Option PyData
 | .str z,.str y=>some (.bool (Txt.startswith z y))
 | _,_=>none
theorem xl:CallR X (.type "int") (fun xs H Q=>∃ x n,xs=[.str x]∧PySem.intText? x=some n∧x.length≤640∧Q (.int n) H):=by
 intro pins s σ H xs us Q I r h
 obtain ⟨x,n,rfl,hn,hl,q⟩:=h
 obtain ⟨u,rfl,ru⟩:=vals1 r
 obtain ⟨t,rfl⟩:=ru
 exact PySem.W.KIN.call_text hn hl ⟨.int n,H,I.tok _,⟨_,rfl⟩,q⟩
def intD:List PyData→Option PyData
 | [.int i]=>some (.int i)
 | [.bool b]=>some (.int (if b then 1 else 0))
 | [.str x]=>if x.length≤640 then (PySem.intText? x).map .int else none
 | _=>none
theorem lc:dU X (.type "int") intD:=⟨_,call_int1.or xl,fun O ts H T vs xs d Q hc h e q=>by
 unfold intD at e
 split at e
 ·cases e
  obtain ⟨v,rfl,g⟩:=cM h
  cases g.int
  exact .inl (.inl ⟨_,rfl,q _ H (.refl _ _) hc (.int _)⟩)
 ·cases e
  obtain ⟨v,rfl,g⟩:=cM h
  cases g.bl
  exact .inl (.inr ⟨_,rfl,q _ H (.refl _ _) hc (.int _)⟩)
 ·split at e
  ·rename_i hz
   obtain ⟨n,e1,rfl⟩:=Option.map_eq_some_iff.mp e
   obtain ⟨v,rfl,g⟩:=cM h
   cases g.str
   exact .inr ⟨_,n,rfl,e1,hz,q _ H (.refl _ _) hc (.int _)⟩
  ·cases e
 ·cases e⟩
end
@[simp] theorem Di {z y:Str}:yF (.str z) (.str y)=some (.bool (Txt.startswith z y)):=rfl
@[simp] theorem EJ {x:Str}:intD [.str x]=if x.length≤640 then (PySem.intText? x).map .int else none:=rfl
@[simp] theorem EK {i:Int}:intD [.int i]=some (.int i):=rfl
@[simp] theorem EL {b:Bool}:intD [.bool b]=some (.int (if b then 1 else 0)):=rfl
def eqG (x y:PyData):Option PyData:=if SeqAt.shaped x=true∧SeqAt.shaped y=true then some (.bool (PyData.eqv x y)) else none
def neG (x y:PyData):Option PyData:=if SeqAt.shaped x=true∧SeqAt.shaped y=true then some (.bool (!PyData.eqv x y)) else none
section
variable {X:Cx}
theorem Vw.reads {pins:List (Addr×Obj)} {σ:L2.St} {H:Hp} {s:Shared} {O:Addr→Prop} {v:V} {d:PyData} {u:Value} (I:Inv X pins σ H s) (h:Vw X.K O H v d) (r:RelV v u):∃ as,Reads s.heap u d as:=by
 cases h with
 | rep h=>obtain ⟨as,rd,_⟩:=h.reads I r; exact ⟨as,rd⟩
 | raw h hs=>
  cases r
  obtain ⟨its,rv,pl,_⟩:=I.list (SqL.of h)
  obtain ⟨o,n,e,c,_,dd⟩:=pl
  obtain ⟨as,rd,_⟩:=hs.reads I rv
  exact ⟨_,.list e c dd (by simpa using rd)⟩
 | rawD h rk=>
  cases r
  obtain ⟨z,y,vs,kv,o,es,ep,e,ed,dd,_,ek,_⟩:=(show ObjOk X.prog X.w H s.heap _ (.dK _) from I.hok _ _ h)
  obtain ⟨bs,q1,q2,f⟩:=RepK.reads I rk kv ek
  exact ⟨_,.dict (as:=[]) (bs:=bs) e ed.1 dd q1 q2⟩
theorem AU {k:Nat} (hr:Room k X.A):OpR X (compareOp .Eq) (fun x y H Q=>∃ O d1 d2,Vw X.K O H x d1∧Vw X.K O H y d2∧SeqAt.shaped d1=true∧SeqAt.shaped d2=true∧Q (.bl (PyData.eqv d1 d2)) H):=by
 intro pins s σ H x y v u Q I rx ry h
 obtain ⟨O,d1,d2,h1,h2,s1,s2,q⟩:=h
 obtain ⟨as,r1⟩:=h1.reads I rx
 obtain ⟨bs,r2⟩:=h2.reads I ry
 exact SeqAt.compareEq_shaped r1 r2 s1 s2 (by have:=hr.un; omega) ⟨.bl _,H,I,rfl,q⟩
theorem AO {k:Nat} (hr:Room k X.A):OpR X (compareOp .NotEq) (fun x y H Q=>∃ O d1 d2,Vw X.K O H x d1∧Vw X.K O H y d2∧SeqAt.shaped d1=true∧SeqAt.shaped d2=true∧Q (.bl (!PyData.eqv d1 d2)) H):=by
 intro pins s σ H x y v u Q I rx ry h
 obtain ⟨O,d1,d2,h1,h2,s1,s2,q⟩:=h
 obtain ⟨as,r1⟩:=h1.reads I rx
 obtain ⟨bs,r2⟩:=h2.reads I ry
 exact SeqAt.compareNe_shaped r1 r2 s1 s2 (by have:=hr.un; omega) ⟨.bl _,H,I,rfl,q⟩
theorem nX {k:Nat} (hr:Room k X.A):OpD X (compareOp .Eq) eqG:=⟨_,AU hr,fun O ts H T v1 v2 x y d Q hc h1 h2 e q=>by
 unfold eqG at e
 split at e
 ·rename_i h
  cases e
  exact ⟨O,x,y,h1,h2,h.1,h.2,q _ H (.refl _ _) hc (.bl _)⟩
 ·cases e⟩
theorem kW {k:Nat} (hr:Room k X.A):OpD X (compareOp .NotEq) neG:=⟨_,AO hr,fun O ts H T v1 v2 x y d Q hc h1 h2 e q=>by
 unfold neG at e
 split at e
 ·rename_i h
  cases e
  exact ⟨O,x,y,h1,h2,h.1,h.2,q _ H (.refl _ _) hc (.bl _)⟩
 ·cases e⟩
open Classical in
def jJ (h:Heap) (x:PyData) (v:Value):Bool:=if e:∃ p:PyData×List Addr,Reads h v p.1 p.2 then PyData.eqv e.choose.1 x else false
theorem rC {h:Heap} {x d:PyData} {v:Value} {as:List Addr} (r:Reads h v d as):jJ h x v=PyData.eqv d x:=by
 have e:∃ p:PyData×List Addr,Reads h v p.1 p.2:=⟨(d,as),r⟩
 unfold jJ
 rw [dif_pos e]
 have:=(PySem.Reads.unique e.choose_spec d as r).1
 rw [this]
theorem qr {h:Heap} {x:PyData}:∀ {vs:List Value} {ds:List PyData} {as:List Addr},ReadsAll h vs ds as→vs.any (jJ h x)=ds.any fun d=>PyData.eqv d x
 | _,_,_,.nil=>rfl
 | _,_,_,.cons r rs=>by rw [List.any_cons,List.any_cons,rC r,qr rs]
theorem readsAll_mem {h:Heap}:∀ {vs:List Value} {ds:List PyData} {as:List Addr} {v:Value},ReadsAll h vs ds as→v∈vs→∃ d bs,d∈ds∧Reads h v d bs
 | _,_,_,_,.cons r rs,hm=>by
  rcases List.mem_cons.mp hm with z | z
  ·subst z; exact ⟨_,_,List.mem_cons_self,r⟩
  ·obtain ⟨d,bs,h1,h2⟩:=readsAll_mem rs z
   exact ⟨d,bs,List.mem_cons_of_mem _ h1,h2⟩
def inG:PyData→PyData→Option PyData
 | x,.tuple ys=>if SeqAt.shaped x=true∧ys.all SeqAt.shaped=true then some (.bool (ys.any fun y=>PyData.eqv y x)) else none
 | _,_=>none
theorem AS {k:Nat} (hr:Room k X.A):OpR X (compareOp .In) (fun x y H Q=>∃ O d1 a vs ds,Vw X.K O H x d1∧y=.ref a∧SqT X.K H a vs∧Reps X.K O H vs ds∧SeqAt.shaped d1=true∧ds.all SeqAt.shaped=true∧Q (.bl (ds.any fun y=>PyData.eqv y d1)) H):=by
 intro pins s σ H x y v u Q I rx ry h
 obtain ⟨O,d1,a,vs,ds,h1,rfl,h2,h3,s1,s2,q⟩:=h
 cases ry
 obtain ⟨as,r1⟩:=h1.reads I rx
 obtain ⟨its,rv,p1,_⟩:=I.tuple h2
 obtain ⟨bs,r2,_⟩:=h3.reads I rv
 refine SeqAt.in_tupleAt (jJ s.heap d1) p1 (fun y hy=>?_) ?_
 ·obtain ⟨d,cs,hd,rd⟩:=readsAll_mem r2 (by simpa using hy)
  rw [rC rd]
  have sd:=List.all_eq_true.mp s2 d hd
  refine SeqAt.eqAt_reads d d1 _ s y v _ _ rd r1 (SeqAt.canLay_of_shaped sd) (SeqAt.canLay_of_shaped s1) (SeqAt.room_of_shaped sd ?_)
  have:=hr.un
  show X.A.in1.units + 64 < cLine
  have e:X.A.in1.units≤X.A.units + 1:=by simp [Around.in1]
  omega
 ·have e:its.toArray.any (jJ s.heap d1)=ds.any fun y=>PyData.eqv y d1:=by
   rw [← qr r2]
   simp
  rw [e]
  exact ⟨.bl _,H,I,rfl,q⟩
theorem B4 {k:Nat} (hr:Room k X.A):OpD X (compareOp .In) inG:=⟨_,AS hr,fun O ts H T v1 v2 x y d Q hc h1 h2 e q=>by
 unfold inG at e
 split at e
 ·split at e
  ·rename_i h
   cases e
   obtain ⟨a,vs,rfl,t,r⟩:=h2.tup
   exact ⟨O,x,a,vs,_,h1,rfl,t.sq,r,h.1,h.2,q _ H (.refl _ _) hc (.bl _)⟩
  ·cases e
 ·cases e⟩
end
theorem wR (l:Addr) (items:Array Value) (n:Nat) (b:Addr) (items2:Array Value) (n2:Nat) (dd:Option Addr) (sl:Array (Option Value)) (hc0:¬(!items.isEmpty && Builtin.List.listTooLong (items.size + items2.size))=true) (hc1:items.size≤sizeLine) (hs2:items.size + items2.size≤sizeLine + 1) :
  Meets (Builtin.«list.extend» ⟨[.ref l,.ref b],[]⟩) (fun _ R s=>s.heap.get? l=some { cls:=.type "list",dict:=none,data:=.seq items n,slots:=#[] }∧s.heap.get? b=some { cls:=.type "list",dict:=dd,data:=.seq items2 n2,slots:=sl }∧R (.ok (.ret Value.none)) { s with heap:=s.heap.update l (Obj.mapSeq fun x=>x++items2),toks:=s.toks }):=
 .of_wp fun prog w A R s h=>by
  obtain ⟨hp,g,d,tk,os⟩:=s
  obtain ⟨hl,hb,h⟩:=h
  have f1:=AutoSeq1.idx_int
  have f2:=AutoSeq1.sub_tuple_tuple
  have f3:=AutoSeq1.sub_list_list
  have f4:=AutoSeq1.sub_tuple_list
  have f5:=AutoSeq1.sub_list_tuple
  have hz':(items++items2).size≤sizeLine + 1:=by rw [Array.size_append]; exact hs2
  wp_walk using (wpAny_updateSeq hl rfl (hz:=hc1) (_hz':=hz')),wpAny_loadPart' hl,wpAny_loadPart' hb
  exact ⟨_,rfl,h⟩
section
variable {X:Cx}
theorem A2:MtM X "list.extend" (fun x vs H Q=>∃ l b xs zs,x=.ref l∧vs=[.ref b]∧H l=some (.lst xs)∧SqL X.K H b zs∧xs.length + zs.length≤sizeLine∧Q .non (upd H l (.lst (xs++zs)))):=by
 intro pins s σ H x vs v us Q I rx rv h
 obtain ⟨l,b,xs,zs,rfl,rfl,hH,hB,hz,q⟩:=h
 cases rx
 obtain ⟨u,rfl,ru⟩:=rv.one
 cases ru
 obtain ⟨z,its,n,r,hl,e⟩:=I.lstM hH
 obtain ⟨its2,r2,pl,_⟩:=I.list hB
 obtain ⟨⟨cls2,dd2,data2,sl2⟩,n2,e2,c2,_,d2⟩:=pl
 simp only at c2 d2
 subst c2 d2
 have hl2:=r2.length
 have hsz:its.toArray.size + its2.toArray.size≤sizeLine:=by rw [List.size_toArray,List.size_toArray]; omega
 have hlong:¬ (!its.toArray.isEmpty && Builtin.List.listTooLong (its.toArray.size + its2.toArray.size))=true:=by
  rw [xS hsz,Bool.and_false]
  exact Bool.false_ne_true
 refine call_meets F.slot_list_extend ⟨_,e,rfl⟩ F.entry_list_extend (F.args_list_extend_2 _ _)
  (wR l its.toArray n b its2.toArray n2 dd2 sl2 hlong (by rw [List.size_toArray]; omega) (by omega)) ⟨e,e2,?_⟩
 refine ⟨.non,_,I.lset (its':=its++its2) hH e (by simp) (r.append r2) ?_,rfl,q⟩
 rw [List.length_append]
 omega
variable {pos:Pos} {e:Expr} {fe:FE}
def lA (i:Nat) (f:FE):FS:=fun ρ T=>bnd (f ρ T) fun w T1=>match w,ρ[i]? with
 | .d (.list ys),some (some (.loc (.list xs)))=>if xs.length + ys.length≤sizeLine then some ((.nx,ρ.set i (some (.loc (.list (xs++ys))))),T1) else none
 | _,_=>none
theorem Bo {i:Nat} {x:Str} {p apos:Pos} (he:DE X e fe) (hN:X.N[i]? = some x:=by rfl) (hv:Vis X.env.scope x:=by first | exact Or.inl rfl | exact Or.inr (Or.inl rfl) | exact Or.inr (Or.inr rfl)) (hd:(x == ("__debug__" : Str))=false:=by decide)
  (hcd:(x == ("__classdict__" : Str))=false:=by decide) {cpos:Pos}
  (hbase:attributeBase (.Name x p) "extend" X.env (eval (.Name x p) X.env)=eval (.Name x p) X.env:=by rfl)
  (hfew:((backTo cpos (starEach [e] X.env)).all (fun x=>!x.1) && (backToKw cpos (keywordEach [] X.env)).all (fun x=>x.1.isSome)
   && decide (([e]:List Expr).length + ([]:List Keyword).length + (if ([]:List Keyword).isEmpty then 0 else 1) < 30))=true:=by exact g4 rfl)
  (hline:(apos.endLine == cpos.line)=true:=by rfl) (hse:starEach [e] X.env=(false,eval e X.env)::starEach [] X.env:=by exact bq rfl) (hplain:(backTo cpos (starEach [] X.env)).any (·.1)=false:=by exact bD rfl)
  (hs:swapsWith (.Call (.Attribute (.Name x p) "extend" apos) [e] [] cpos) none pos.line X.env=pure false:=by rfl) :
  DS X (.Expr (.Call (.Attribute (.Name x p) "extend" apos) [e] [] cpos) pos) (lA i fe):=by
 refine ⟨?_⟩
 refine bw (j3 (fR PySem.F.plainAttrs_list PySem.F.slot_list_extend PySem.F.type_list_extend A2 (pv i hN hv hd hcd) (bV he.pe cG hse) hbase hfew hline hse hplain) hs) fun D σ H=>?_
 rintro ⟨O₀,H₀,F,ts,O,ρ,T,fl,ρ',T',rs,e,q⟩
 obtain ⟨w,T1,e1,e⟩:=aG e
 split at e
 ·rename_i ys xs h1
  split at e
  ·rename_i h2
   cases e
   obtain ⟨v,k1,a,rfl,k2,k3,vs,k4,k5⟩:=rs.re i _ h1
   refine ⟨_,k1,.inl ⟨rfl,vs,SqL.of k4⟩,O,ts,ρ,T,_,_,rs.hc,rs.re,e1,fun u H1 s1 hc1 r1=>?_⟩
   have rs1:=rs.step s1 hc1
   have r1':Rep X.K O H1 u (.list ys):=r1
   cases r1' with
   | lst t r=>
    rename_i b us
    exact ⟨a,b,vs,us,rfl,rfl,s1 _ _ k3 k4,t.sq,by rw [k5.length,r.length]; exact h2,q O _ _ (rs1.put (us:=[]) h1 k1 ((k5.mono (rs.hc.le s1)).append r))⟩
  ·cases e
 ·cases e
end
section
variable {X:Cx} {pos:Pos} {e:Expr} {f:FE} {x:Str} {p:Pos} {B:List (Str×Int)}
end
end D
namespace L2
open PySem PySem.Spec PyProof.Rows
open K1 (di cB)
section
variable {prog:Program} {w:World} {A:Around} {R:Result→Shared→Prop} {it S:Addr} {fp wr:List Addr} {P:Nat→Value→Prop} {St:Nat→Heap→Prop} {ns:List Int} {kw:List (Str×Value)}
end
section
variable {X:Cx}
end
end L2
namespace D
open PySem PySem.Spec PyProof.Rows L2
section
variable {X:Cx} {pos:Pos} {e:Expr} {f:FE} {x:Str} {p:Pos}
variable {B:List (Str×Int)}
theorem pF {K:Frag} {O:Addr→Prop} {H:Hp}:∀ ss:List Str,Reps K O H (ss.map V.str) (ss.map PyData.str)
 | []=>.nil
 | x::r=>.cons (.str x) (pF r)
end
mutual
def bF:PyData→Bool
 | .tuple ds=>eA ds
 | .list _=>false
 | .dict _=>false
 | _=>true
def eA:List PyData→Bool
 | []=>true
 | d::r=>bF d && eA r
end
section
variable {K:Frag} {O:Addr→Prop} {H:Hp}
theorem TupAt.own (hm:∀ b,O b→Mut (H b)) {a:Addr} {vs:List V} (t:TupAt K (fun _=>False) H a vs):TupAt K O H a vs:=by
 rcases t with ⟨_,t⟩ | t
 ·refine .inl ⟨fun z=>?_,t⟩
  rcases hm a z with ⟨us,e⟩ | ⟨us,e⟩ | ⟨C,dx,us,e⟩ <;> rcases t with t | ⟨o,t⟩ <;> (rw [e] at t; cases t)
 ·exact .inr t
mutual
theorem Rep.own (hm:∀ b,O b→Mut (H b)):∀ {v:V} {d:PyData},Rep K (fun _=>False) H v d→bF d=true→Rep K O H v d
 | _,_,.non,_=>.non
 | _,_,.bl b,_=>.bl b
 | _,_,.int i,_=>.int i
 | _,_,.str x,_=>.str x
 | _,_,.tup t r,h=>.tup (t.own hm) (Reps.own hm r (by simpa [bF] using h))
 | _,_,.lst t r,h=>by simp [bF] at h
 | _,_,.dct n t r,h=>by simp [bF] at h
theorem Reps.own (hm:∀ b,O b→Mut (H b)):∀ {vs:List V} {ds:List PyData},Reps K (fun _=>False) H vs ds→eA ds=true→Reps K O H vs ds
 | _,_,.nil,_=>.nil
 | _,_,.cons (d:=d) (ds:=ds) r t,h=>by
  have h':(bF d && eA ds)=true:=by simpa [eA] using h
  rw [Bool.and_eq_true] at h'
  exact .cons (Rep.own hm r h'.1) (Reps.own hm t h'.2)
end
end
def jD:List W→Bool
 | []=>true
 | .tp _::_=>false
 | .loc (.dict _)::_=>false
 | _::r=>jD r
theorem ot {K:Frag} {O:Addr→Prop} {ts:List Addr} {H:Hp}:∀ {vs:List V} {ws:List W},eZ K O ts H vs ws→jD ws=true→eZ K (fun _=>False) [] H vs (ws.map iK)
 | _,[],.nil,_=>.nil
 | _,.d x::r,.cons h t,e=>.cons (show Rep K (fun _=>False) H _ x from Rep.mono (fun a o n e=>⟨fun z=>z,e⟩) h) (ot t e)
 | _,.tp _::_,.cons _ _,e=>by cases e
 | _,.loc x::r,.cons h t,e=>by
  have le:Le O H (fun _=>False) H:=fun a o n e=>⟨fun z=>z,e⟩
  obtain ⟨a,rfl,_,_,h3⟩:=h
  cases x with
  | list xs=>obtain ⟨vs,h1,h2⟩:=h3; exact .cons (.lst (.inl ⟨fun z=>z,.inl h1⟩) (h2.mono le)) (ot t e)
  | dict xs=>cases e
  | _=>cases h3
def eO (m:FnM) (g:FA):FE:=fun ρ T=>bnd (g ρ T) fun ws T1=>if jD ws=true then (match m (ws.map iK) [] with
 | some (x,_)=>if bF x=true then some (.d x,T1) else none
 | none=>none) else none
theorem ml {X:Cx} {name:Str} {ps:List Str} {k:Nat} {m:FnM} {e:Expr} {es:List Expr} {g:FA} {p pos:Pos} (F:Fn X.prog X.w X.K X.mg X.base name ps k (spM X.K ps.length m)) (hr:Room k X.A) (hg:Gl X name) (ha:DA X (e::es) g) (hl:dW g ps.length) (hdb:(name == ("__debug__" : Str))=false:=by decide)
  (he:starEach (e::es) X.env=(false,eval e X.env)::starEach es X.env:=by exact bq rfl) (hpl:(backTo pos (starEach es X.env)).any (·.1)=false:=by exact bD rfl):DE X (.Call (.Name name p) (e::es) [] pos) (eO m g):=by
 refine ⟨?_⟩
 refine bx (fQ F hr hg ha.pe hdb he hpl) fun σ H Q=>?_
 rintro ⟨O,ts,ρ,T,w,T',hc,re,e,q⟩
 obtain ⟨ws,T1,e1,e⟩:=aG e
 split at e
 ·rename_i hn
  split at e
  ·rename_i x T2 e2
   split at e
   ·rename_i hx
    cases e
    refine ⟨O,ts,ρ,T,ws,_,hc,re,e1,fun vs H1 s1 hc1 r1=>?_⟩
    refine ⟨fun _=>False,[],[],ws.map iK,x,T2,⟨fun b hb=>(by cases hb),fun b hb=>hb.elim,List.nodup_nil,rfl,fun i a xs e1 _=>by simp at e1⟩,by rw [List.append_nil]; exact ot r1 hn,by rw [List.length_map]; exact hl _ _ _ _ e1,e2,fun v H2 s2 hc2 r2=>?_⟩
    have s2':SameX ts H1 H2:=fun b o _ q=>s2 b o (by simp) q
    have hm:∀ b,O b→Mut (H2 b):=fun b hb=>by
     exact (hc1.trk b hb).to fun u z=>s2 b _ (by simp) z
    have hc2':=hc1.step s2' fun b hb=>by
     obtain ⟨u,z⟩:=(hc1.trk b (hc1.own b hb)).ex
     rw [z]; exact s2 b _ (by simp) z
    exact q v H2 (s1.trans s2') hc2' (Rep.own hm r2 hx)
   ·cases e
  ·cases e
 ·cases e
def aZ (ds:List (PyData×PyData)) (s:Str):Option PyData:=match ds with
 | []=>none
 | (.str k,d)::r=>if k=s then some d else aZ r s
 | _::r=>aZ r s
theorem gu {K:Frag} {O:Addr→Prop} {H:Hp} {s:Str}:∀ {kvs:List (Key×V)} {ds:List (PyData×PyData)},RepK K O H kvs ds→(aZ ds s=none∧bu kvs (Sum.inr s:Key)=none)∨∃ v d,aZ ds s=some d∧bu kvs (Sum.inr s:Key)=some v∧Rep K O H v d
 | _,_,.nil=>.inl ⟨rfl,rfl⟩
 | _,_,.cons (k:=.inl i) (v:=v) (d:=d) (kvs:=kvs) (ds:=ds) r t=>by
  have e:bu (((Sum.inl i:Key),v)::kvs) (Sum.inr s:Key)=bu kvs (Sum.inr s:Key):=by simp [bu,List.find?_cons]
  rw [e]
  show (aZ ds s=none∧_)∨∃ v d,aZ ds s=some d∧_
  exact gu (s:=s) t
 | _,_,.cons (k:=.inr k) (v:=v) (d:=d) (kvs:=kvs) (ds:=ds) r t=>by
  by_cases hk:k=s
  ·subst hk
   exact .inr ⟨v,d,by show (if k=k then some d else aZ ds k)=some d; rw [if_pos rfl],by simp [bu,List.find?_cons],r⟩
  ·have e:bu (((Sum.inr k:Key),v)::kvs) (Sum.inr s:Key)=bu kvs (Sum.inr s:Key):=by simp [bu,List.find?_cons,hk]
   have e2:aZ ((cV (Sum.inr k:Key),d)::ds) s=aZ ds s:=by show (if k=s then some d else aZ ds s)=_; rw [if_neg hk]
   rw [e,e2]
   exact gu (s:=s) t
theorem DGet.rd {H:Hp} {a:Addr} {kvs:List (Key×V)} {k:Key} (e:Rd H a (.dK kvs)):DGet H a (kV k) (bu kvs k):=.inl ⟨kvs,k,e,rfl,rfl⟩
section
variable {X:Cx} {pos:Pos} {k:Nat}
theorem kZ {k:Nat} {A:Around} (hr:Room k A):A.units + 1 < cLine:=by have:=hr.un; omega
end
section
variable {K:Frag} {O₀:Addr→Prop} {H₀:Hp} {F:List ((Addr→Prop)×Hp)} {ts:List Addr} {O:Addr→Prop} {H H1:Hp} {σ:L2.St} {ρ:Rho} {T T1:Tp}
end
section
variable {X:Cx} {pos:Pos}
def d6 (ds:List (PyData×PyData)) (s:Str) (x:PyData):List (PyData×PyData):=match ds with
 | []=>[]
 | (.str k,d)::r=>if k=s then (.str k,x)::d6 r s x else (.str k,d)::d6 r s x
 | p::r=>p::d6 r s x
theorem lM {K:Frag} {O:Addr→Prop} {H:Hp} {s:Str} {v:V} {x:PyData} (rx:Rep K O H v x):∀ {kvs:List (Key×V)} {ds:List (PyData×PyData)},RepK K O H kvs ds→RepK K O H (kvs.map fun kv=>if kv.1=(Sum.inr s:Key) then (kv.1,v) else kv) (d6 ds s x)
 | _,_,.nil=>.nil
 | _,_,.cons (k:=.inl i) r t=>by
  rw [List.map_cons]
  rw [if_neg (by intro z; cases z)]
  exact .cons (k:=.inl i) r (lM rx t)
 | _,_,.cons (k:=.inr k) (v:=u) (d:=d) (kvs:=kvs) (ds:=ds) r t=>by
  rw [List.map_cons]
  have ih:=lM (s:=s) rx t
  show RepK K O H _ (if k=s then (.str k,x)::d6 ds s x else (.str k,d)::d6 ds s x)
  by_cases hk:k=s
  ·rw [if_pos hk,if_pos (by rw [hk])]
   exact .cons (k:=.inr k) rx ih
  ·rw [if_neg hk,if_neg (fun z=>hk (Sum.inr.inj z))]
   exact .cons (k:=.inr k) r ih
theorem qj {K:Frag} {O:Addr→Prop} {H:Hp}:∀ {kvs:List (Key×V)} {ds:List (PyData×PyData)},RepK K O H kvs ds→kvs.length=ds.length
 | _,_,.nil=>rfl
 | _,_,.cons _ t=>congrArg (· + 1) (qj t)
theorem wa {kvs:List (Key×V)} {k:Key} (h:(bu kvs k).isSome=true):(kvs.any fun kv=>decide (kv.1=k))=true:=by
 unfold bu at h
 rw [Option.isSome_map] at h
 rw [List.any_eq_true]
 obtain ⟨p,hp⟩:=Option.isSome_iff_exists.mp h
 exact ⟨p,List.mem_of_find?_eq_some hp,by have:=List.find?_some hp; simpa using this⟩
end
section
variable {X:Cx} {pos:Pos} {e:Expr} {f:FE} {x:Str} {p:Pos} {B:List (Str×Str)}
def cO (i j:Nat) (f:FE):FS:=fun ρ T=>bnd (f ρ T) fun w T1=>match w with
 | .d (.tuple [x,y])=>some ((.nx,(ρ.set i (some (.d x))).set j (some (.d y))),T1)
 | _=>none
theorem sM {i j:Nat} {y:Str} {k:Nat} {px py tp:Pos} (hN:X.N.Nodup) (he:DE X e f) (hi:X.N[i]? = some x:=by rfl) (hj:X.N[j]? = some y:=by rfl) (hx:Loc X.env.scope x:=by first | exact Or.inl rfl | exact Or.inr rfl) (hy:Loc X.env.scope y:=by first | exact Or.inl rfl | exact Or.inr rfl)
  (hf:X.fn x=true∨X.env.scope.names.lookup x=some .local:=by first | exact .inl rfl | exact .inr rfl | assumption) (hf':X.fn y=true∨X.env.scope.names.lookup y=some .local:=by first | exact .inl rfl | exact .inr rfl | assumption) (hc:X.calm=true:=by rfl)
  (hs:swapsWithSole [.Tuple [.Name x px,.Name y py] k tp] e pos.line X.env=pure false:=by rfl) (hw:swappedStores [.Tuple [.Name x px,.Name y py] k tp] e X.env=pure none:=by rfl)
  (h1:(assignEach [.Tuple [.Name x px,.Name y py] k tp] X.env).map (·.2)=[assign (.Tuple [.Name x px,.Name y py] k tp) X.env]:=by rfl):DS X (.Assign [.Tuple [.Name x px,.Name y py] k tp] e pos) (cO i j f):=by
 refine ⟨?_⟩
 refine bw (se he.pe (ku hc (fH (eL hN hi hx hf) (fH (eL hN hj hy hf') j4))) hs hw h1) fun D σ H=>?_
 rintro ⟨O₀,H₀,F,ts,O,ρ,T,fl,ρ',T',rs,e,q⟩
 obtain ⟨w,T1,e1,e⟩:=aG e
 refine ⟨O,ts,ρ,T,w,T1,rs.hc,rs.re,e1,fun v H1 s1 hc1 r1=>?_⟩
 split at e
 ·rename_i a b
  cases e
  have rs1:=rs.step s1 hc1
  have r1':Rep X.K O H1 v (.tuple [a,b]):=r1
  cases r1' with
  | tup t r=>
   cases r with
   | cons ra r=>
    cases r with
    | cons rb r=>
     cases r
     exact ⟨_,_,rfl,t.sq,rfl,_,_,rfl,_,_,rfl,rfl,q O _ _ ((rs1.set (w:=.d a) ra fun _ z=>nomatch z).set (w:=.d b) rb fun _ z=>nomatch z)⟩
 ·cases e
end
section
variable {K:Frag} {O:Addr→Prop} {ts:List Addr} {H H':Hp} {T:Tp} {n:Nat} {a C:Addr} {ps:List PyData}
end
section
variable {X:Cx} {C:Addr} {o e:Expr} {f m:Str} {pos pos' apos:Pos} {fo fe:FE}
structure Mth (P:Program) (w:World) (K:Frag) (mg:Str→Option Value) (base:Heap) (C:Addr) (m:Str) (ps:List Str) (k:Nat) (sp:Sp):Prop where
 ex:∃ f fd,FnOk P w K mg base CX0 k f fd ps sp∧Binds K fd ps []∧Meth K C m f
variable {ps:List Str} {k:Nat} {mm:FnM} {g:FA} {es:List Expr} {pl:Sem Bool}
end
def nZ (T:Tp):Option (Tp×List PyData):=match T.getLast? with
 | some xs=>some (T.dropLast,xs)
 | none=>none
theorem x8 {T T1:Tp} {ys:List PyData} (h:nZ T=some (T1,ys)):T=T1++[ys]:=by
 unfold nZ at h
 split at h
 ·rename_i xs e
  cases h
  obtain ⟨zs,hl⟩:=List.getLast?_eq_some_iff.mp e
  rw [hl]
  simp
 ·cases h
section
variable {X:Cx} {C f:Addr} {e:Expr} {fe:FE} {fr:FS} {rest:List Stmt} {cn x:Str} {p pos pos' cpos:Pos} {ps:List Str} {k i:Nat} {m:FnM} {fd:FuncData}
end
end D
namespace L2
open PySem PySem.Spec PyProof.Rows
section
variable {X:Cx}
end
end L2
namespace D
open PySem PySem.Spec PyProof.Rows L2
section
variable {X:Cx} {pos:Pos}
def kQ (i:Nat) (ρ:Rho) (x y:Option PyData) (T:Tp):Option ((Fl×Rho)×Tp):=match x,y with
 | some (.list xs),some (.list ys)=>if xs.length + ys.length≤sizeLine then some ((.nx,ρ.set i (some (.loc (.list (xs++ys))))),T) else none
 | _,_=>none
def k7 (i:Nat) (fa fb:FE):FS:=fun ρ T=>bnd (fa ρ T) fun w1 T1=>bnd (fb ρ T1) fun w2 T2=>kQ i ρ (view T2 w1) (view T2 w2) T2
theorem zU {i:Nat} {x:Str} {a b:Expr} {fa fb:FE} {pos' bpos:Pos} (hN:X.N.Nodup) (ha:DE X a fa) (hb:DE X b fb) (hi:X.N[i]? = some x:=by rfl) (hx:Loc X.env.scope x:=by first | exact Or.inl rfl | exact Or.inr rfl) (hs:swapsWith (.BinOp a .Add b bpos) (some (.Name x pos')) pos.line X.env=pure false:=by rfl)
  (hf:X.fn x=true∨X.env.scope.names.lookup x=some .local:=by first | exact .inl rfl | exact .inr rfl | assumption):DS X (.Assign [.Name x pos'] (.BinOp a .Add b bpos) pos) (k7 i fa fb):=by
 refine ⟨?_⟩
 refine bw (dN hN hi hx (tj rg ha.pe hb.pe) hs hf) fun D σ H=>?_
 rintro ⟨O₀,H₀,F,ts,O,ρ,T,fl,ρ',T',rs,e,q⟩
 obtain ⟨w1,T1,e1,e⟩:=aG e
 obtain ⟨w2,T2,e2,e⟩:=aG e
 refine ⟨O,ts,ρ,T,w1,T1,rs.hc,rs.re,e1,fun v1 H1 s1 hc1 r1=>?_⟩
 have rs1:=rs.step s1 hc1
 refine ⟨O,ts,ρ,T1,w2,T2,hc1,rs1.re,e2,fun v2 H2 s2 hc2 r2=>?_⟩
 have rs2:=rs1.step s2 hc2
 unfold kQ at e
 split at e
 ·rename_i xs ys h1 h2
  split at e
  ·rename_i hz
   cases e
   obtain ⟨a1,vs,rfl,t1,q1⟩:=(hc2.view (r1.mono hc1 s2) h1).lst
   obtain ⟨b1,us,rfl,t2,q2⟩:=(hc2.view r2 h2).lst
   exact ⟨a1,b1,vs,us,rfl,rfl,t1,t2,by rw [q1.length,q2.length]; exact hz,fun p hp=>q _ _ _ (rs2.own hp (q1.append q2))⟩
  ·cases e
 ·cases e
structure Ini (P:Program) (w:World) (K:Frag) (mg:Str→Option Value) (base:Heap) (C:Addr) (ps:List Str) (k:Nat) (sp:Sp):Prop where
 ex:∃ f fd,FnOk P w K mg base CX0 k f fd ps sp∧L2.Binds K fd ps []∧Mk K C f
structure DfM (K:Frag) (C:Addr) (name qual:Str) (st:Stmt):Prop where
 ex:∃ (f:Addr) (oc:Value) (od an:Option Addr) (sl:Array (Option Value)) (kV dc pm cd ct:Value),PySem.W.findIn K (.ref C) name=some (some (.ref f)) ∧
  K.lookup f=some ⟨oc,od,.func (PySem.W.fnOf name qual (d4 st) (c7 st) (aM st) .none kV dc pm an cd ct),sl⟩∧PySem.W.codeIn K cd qual=true∧PySem.W.keepIn K (.ref f)=true∧PySem.W.isFn K (.ref f)=true
theorem Bq {K:Frag} {C:Addr} {name qual:Str} {st:Stmt} {f:Addr} {oc:Value} {od an:Option Addr} {sl:Array (Option Value)} {kV dc pm cd ct:Value} (a:PySem.W.findIn K (.ref C) name=some (some (.ref f)))
  (l:K.lookup f=some ⟨oc,od,.func (PySem.W.fnOf name qual (d4 st) (c7 st) (aM st) .none kV dc pm an cd ct),sl⟩) (c:PySem.W.codeIn K cd qual=true) (k:PySem.W.keepIn K (.ref f)=true) (n:PySem.W.isFn K (.ref f)=true):DfM K C name qual st:=⟨f,oc,od,an,sl,kV,dc,pm,cd,ct,a,l,c,k,n⟩
theorem pw {P:Program} {w:World}:∀ {kvs:List (Key×V)} {vs:List (Key×Value)} {us:List Value},KV kvs vs→us.length=vs.length→(∀ (j:Nat) (v:Value),us[j]? = some v→∃ k x,vs[j]? = some (k,x)∧(bt P w).is k v=true)→Vals (kvs.map fun p=>kV p.1) us
 | [],[],[],_,_,_=>.nil
 | _::_,[],_,r,_,_=>by cases r
 | [],_::_,_,r,_,_=>by cases r
 | _,[],_::_,_,h,_=>by simp at h
 | _,_::_,[],_,h,_=>by simp at h
 | (k,v)::kvs,(k',x)::vs,u::us,r,h,f=>by
  cases r with
  | cons r1 r2=>
   refine .cons ?_ (pw (P:=P) (w:=w) r2 (by simpa using h) fun j v e=>?_)
   ·obtain ⟨k2,x2,e2,e3⟩:=f 0 u rfl
    cases e2
    have:k=k':=r1.1
    subst this
    exact ou e3
   ·obtain ⟨k2,x2,e2,e3⟩:=f (j + 1) v (by simpa using e)
    exact ⟨k2,x2,by simpa using e2,e3⟩
def iA (ds:List (PyData×PyData)):List PyData:=ds.map (·.1)
theorem pG {K:Frag} {O:Addr→Prop} {H:Hp} {O':Addr→Prop} {H':Hp}:∀ {kvs:List (Key×V)} {ds:List (PyData×PyData)},RepK K O H kvs ds→Reps K O' H' (kvs.map fun p=>kV p.1) (iA ds)
 | _,_,.nil=>.nil
 | _,_,.cons (k:=k) _ t=>.cons (mD k) (pG t)
end
theorem su:∀ a b:List Nat,ltCps a b=false→ltCps b a=false→a=b
 | [],[],_,_=>rfl
 | [],_::_,h,_=>by simp [ltCps] at h
 | _::_,[],_,h=>by simp [ltCps] at h
 | x::r,y::t,h,g=>by
  simp [ltCps] at h g
  have:x=y:=by omega
  subst this
  rw [su r t (by simpa using h) (by simpa using g)]
theorem rh:∀ a b:List Nat,ltCps a b=true→ltCps b a=false
 | [],[],h=>by simp [ltCps] at h
 | [],_::_,_=>rfl
 | _::_,[],h=>by simp [ltCps] at h
 | x::r,y::t,h=>by
  simp [ltCps] at h ⊢
  rcases h with h | h
  ·omega
  ·refine ⟨by omega,fun e=>?_⟩
   exact rh r t h.2
theorem pO:∀ a b c:List Nat,ltCps b a=false→ltCps c b=false→ltCps c a=false
 | a,[],c,h,g=>by
  cases a with
  | nil=>exact g
  | cons x r=>simp [ltCps] at h
 | [],b,c,h,g=>by cases c <;> rfl
 | x::r,y::t,[],h,g=>by simp [ltCps] at g
 | x::r,y::t,z::u,h,g=>by
  simp [ltCps] at h g ⊢
  refine ⟨by omega,fun e=>?_⟩
  subst e
  by_cases q:z=y
  ·subst q
   exact pO r t u (h.2 rfl) (g.2 rfl)
  ·exfalso
   omega
def leS (a b:Str):Bool:=!ltCps b.cps.toList a.cps.toList
theorem zx (a b:Str):leS a b=true∨leS b a=true:=by
 unfold leS
 cases h:ltCps b.cps.toList a.cps.toList with
 | false=>exact .inl rfl
 | true=>
  refine .inr ?_
  cases g:ltCps a.cps.toList b.cps.toList with
  | false=>rfl
  | true=>
   exfalso
   have:=rh _ _ h
   rw [g] at this
   cases this
theorem xY {a b:Str} (h:leS a b=true) (g:leS b a=true):a=b:=by
 unfold leS at h g
 have:=su a.cps.toList b.cps.toList (by simpa using g) (by simpa using h)
 cases a; cases b
 simp at this
 rw [this]
theorem pP {a b c:Str} (h:leS a b=true) (g:leS b c=true):leS a c=true:=by
 unfold leS at *
 have:=pO a.cps.toList b.cps.toList c.cps.toList (by simpa using h) (by simpa using g)
 rw [this]; rfl
def gY (x:Str):List Str→List Str
 | []=>[x]
 | y::r=>if leS x y=true then x::y::r else y::gY x r
def bK:List Str→List Str
 | []=>[]
 | x::r=>gY x (bK r)
theorem lP (x:Str):∀ l:List Str,(gY x l).Perm (x::l)
 | []=>.refl _
 | y::r=>by
  unfold gY
  split
  ·exact .refl _
  ·exact ((lP x r).cons y).trans (.swap _ _ _)
theorem hU:∀ l:List Str,(bK l).Perm l
 | []=>.refl _
 | x::r=>(lP x _).trans ((hU r).cons x)
theorem oQ (x:Str):∀ l:List Str,l.Pairwise (fun a b=>leS a b=true)→(gY x l).Pairwise (fun a b=>leS a b=true)
 | [],_=>by simp [gY]
 | y::r,h=>by
  obtain ⟨h1,h2⟩:=List.pairwise_cons.mp h
  unfold gY
  split
  ·rename_i hx
   refine List.pairwise_cons.mpr ⟨fun z hz=>?_,h⟩
   rcases List.mem_cons.mp hz with e | e
   ·rw [e]; exact hx
   ·exact pP hx (h1 z e)
  ·rename_i hx
   refine List.pairwise_cons.mpr ⟨fun z hz=>?_,oQ x r h2⟩
   rcases List.mem_cons.mp ((lP x r).mem_iff.mp hz) with e | e
   ·rw [e]; exact (zx x y).resolve_left hx
   ·exact h1 z e
theorem oM:∀ l:List Str,(bK l).Pairwise (fun a b=>leS a b=true)
 | []=>.nil
 | x::r=>oQ x _ (oM r)
theorem oP:∀ {a b:List Str},a.Perm b→a.Pairwise (fun a b=>leS a b=true)→b.Pairwise (fun a b=>leS a b=true)→a=b
 | [],b,p,_,_=>(List.nil_perm.mp p).symm
 | x::r,[],p,_,_=>absurd (List.perm_nil.mp p) (by simp)
 | x::r,y::t,p,h,g=>by
  obtain ⟨h1,h2⟩:=List.pairwise_cons.mp h
  obtain ⟨g1,g2⟩:=List.pairwise_cons.mp g
  have e:x=y:=by
   rcases List.mem_cons.mp (p.mem_iff.mp List.mem_cons_self) with e | e
   ·exact e
   ·rcases List.mem_cons.mp (p.mem_iff.mpr List.mem_cons_self) with e' | e'
    ·exact e'.symm
    ·exact xY (h1 y e') (g1 x e)
  subst e
  rw [oP (List.perm_cons _ |>.mp p) h2 g2]
theorem pE:∀ (x:Str) (l:List Str),risingS x l=true→(x::l).Pairwise (fun a b=>leS a b=true)
 | x,[],_=>by simp
 | x,y::r,h=>by
  have h':leS x y=true∧risingS y r=true:=by
   unfold leS
   simpa [risingS] using h
  have ih:=pE y r h'.2
  refine List.pairwise_cons.mpr ⟨fun z hz=>?_,ih⟩
  rcases List.mem_cons.mp hz with e | e
  ·rw [e]; exact h'.1
  ·exact pP h'.1 ((List.pairwise_cons.mp ih).1 z e)
theorem vR {l:List Str} (h:sortedS l=true):l.Pairwise (fun a b=>leS a b=true):=by
 cases l with
 | nil=>exact .nil
 | cons x r=>exact pE x r h
theorem qf:∀ {ss:List Str} {us:List Value},Vals (ss.map V.str) us→StrsAre us ss
 | [],_,h=>by cases h; exact .nil
 | x::r,_,h=>by
  cases h with
  | cons h1 h2=>
   obtain ⟨t,rfl⟩:=h1
   exact .cons x t (qf h2)
theorem oU:∀ {us:List Value} {ss:List Str},StrsAre us ss→Vals (ss.map V.str) us
 | _,_,.nil=>.nil
 | _,_,.cons y t r=>.cons ⟨t,rfl⟩ (oU r)
section
variable {X:Cx} {pos:Pos}
def kP (o:Option (List Str)):Option PyData:=match o with
 | some ss=>if ss.length < 64 then some (.list ((bK ss).map .str)) else none
 | none=>none
end
theorem xb {prog:Program} {w:World} {A:Around} {E:Value→Shared→Prop} {s:Shared} {Q:Int→Shared→Prop} (h:Q (PySem.reduceHash 4238894112) { s with toks:=s.toks + 1 }):wpAny (model prog w) A (pyHash .none) Q E s:=by
 show wpAny (model prog w) A (pyHashByItsType .none) Q E s
 refine PySem.W.pyHash_slot (T:="NoneType") (by first | rfl | trivial | exact ⟨_,rfl⟩ | simp [Shared.TypeIs]) PySem.F.slot_NoneType_hash PySem.F.entry_NoneType_hash (PySem.F.args_NoneType_hash_1 _) rfl (.inl rfl) ?_
 unfold PySem.Builtin.«NoneType.__hash__»
 refine wpAny_bind ?_
 unfold slotArgs
 simp only []
 rw [if_neg (by decide),if_neg (by decide)]
 refine wpAny_pure ?_
 unfold retInt
 refine wpAny_bind ?_
 first
  | exact wpAny_mkInt (wpAny_pure ⟨_,_,rfl,h⟩)
  | exact wpAny_mkInt (wpAny_ret ⟨_,_,rfl,h⟩)
def t5:Option Key→Value→Bool
 | none,.none=>true
 | none,_=>false
 | some k,v=>dR k v
def okH (w:World):Option Key→Int
 | none=>PySem.reduceHash 4238894112
 | some k=>ua w k
theorem dI {k:Option Key} {v:Value} (h:t5 k v=true):(k=none∧v=.none)∨(∃ i t,k=some (.inl i)∧v=.int i t)∨∃ x t,k=some (.inr x)∧v=.str x t:=by
 cases k with
 | none=>cases v <;> first | exact .inl ⟨rfl,rfl⟩ | cases h
 | some k=>
  rcases dv (show dR k v=true from h) with ⟨i,t,rfl,rfl⟩ | ⟨x,t,rfl,rfl⟩
  ·exact .inr (.inl ⟨i,t,rfl,rfl⟩)
  ·exact .inr (.inr ⟨x,t,rfl,rfl⟩)
theorem qz (k:Key):decide ((none:Option Key)=some k)=false:=decide_eq_false (fun q=>nomatch q)
theorem pU (k:Key):decide (some k=(none:Option Key))=false:=decide_eq_false (fun q=>nomatch q)
theorem jX (a b:Key):decide (some a=some b)=decide (a=b):=by
 by_cases h:a=b
 ·subst h; simp
 ·rw [decide_eq_false h,decide_eq_false (fun q=>h (Option.some.inj q))]
def mH (prog:Program) (w:World):PySem.KeyKind prog w (Option Key) where
 is:=t5
 hash:=okH w
 inj:=fun v a b ha hb=>by
  rcases dI ha with ⟨rfl,rfl⟩ | ⟨i,t,rfl,rfl⟩ | ⟨x,t,rfl,rfl⟩
  ·rcases dI hb with ⟨rfl,_⟩ | ⟨j,u,rfl,e⟩ | ⟨y,u,rfl,e⟩
   ·rfl
   ·exact nomatch e
   ·exact nomatch e
  ·rcases dI hb with ⟨rfl,e⟩ | ⟨j,u,rfl,e⟩ | ⟨y,u,rfl,e⟩
   ·exact nomatch e
   ·injection e with e1 _; rw [e1]
   ·exact nomatch e
  ·rcases dI hb with ⟨rfl,e⟩ | ⟨j,u,rfl,e⟩ | ⟨y,u,rfl,e⟩
   ·exact nomatch e
   ·exact nomatch e
   ·injection e with e1 _; rw [e1]
 byValue:=fun k v h=>by
  rcases dI h with ⟨rfl,rfl⟩ | ⟨i,t,rfl,rfl⟩ | ⟨x,t,rfl,rfl⟩ <;> rfl
 pyHash:=fun hv h=>by
  rcases dI hv with ⟨rfl,rfl⟩ | ⟨i,t,rfl,rfl⟩ | ⟨x,t,rfl,rfl⟩
  ·exact xb h
  ·exact wpAny_pyHash_int h
  ·exact wpAny_pyHash_str h
 eqBool:=fun hu hv h=>by
  rcases dI hu with ⟨rfl,rfl⟩ | ⟨i,t,rfl,rfl⟩ | ⟨x,t,rfl,rfl⟩
  ·rcases dI hv with ⟨rfl,rfl⟩ | ⟨j,u,rfl,rfl⟩ | ⟨y,u,rfl,rfl⟩
   ·rw [show decide ((none:Option Key)=none)=true by simp] at h; exact SeqAt.EqAt.same .none _ _ _ _ h
   ·rw [qz] at h; exact SeqAt.EqAt.none_int j u _ _ _ _ h
   ·rw [qz] at h; exact SeqAt.EqAt.none_str y u _ _ _ _ h
  ·rcases dI hv with ⟨rfl,rfl⟩ | ⟨j,u,rfl,rfl⟩ | ⟨y,u,rfl,rfl⟩
   ·rw [pU] at h; exact SeqAt.EqAt.int_none i t _ _ _ _ h
   ·rw [jX,sD] at h; exact wpAny_eqBool_int h
   ·rw [jX,sC] at h; exact SeqAt.EqAt.int_str i t y u _ _ _ _ h
  ·rcases dI hv with ⟨rfl,rfl⟩ | ⟨j,u,rfl,rfl⟩ | ⟨y,u,rfl,rfl⟩
   ·rw [pU] at h; exact SeqAt.EqAt.str_none x t _ _ _ _ h
   ·rw [jX,sA] at h; exact SeqAt.EqAt.str_int x t j u _ _ _ _ h
   ·rw [jX,sy] at h; exact wpAny_eqBool_str h
 «strs»:=fun k x t v h=>by
  rcases dI h with ⟨rfl,e⟩ | ⟨i,u,rfl,e⟩ | ⟨y,u,rfl,e⟩
  ·exact nomatch e
  ·exact nomatch e
  ·injection e with e1 _
   subst e1
   cases v <;> rfl
theorem pJ {P:Program} {w:World}:∀ {es:List DictEntry} {vs:List (Key×Value)},Pairs (bt P w) es vs→Pairs (mH P w) es (vs.map fun p=>(some p.1,p.2))
 | _,_,.nil=>.nil
 | _,_,.cons h1 h2 t=>.cons h1 h2 (pJ t)
theorem yl {P:Program} {w:World} {h:Heap} {a:Addr} {vs:List (Key×Value)} (d:h.DictOf (bt P w) a vs):h.DictOf (mH P w) a (vs.map fun p=>(some p.1,p.2)):=by
 obtain ⟨o,es,ep,e1,e2,e3,e4,e5,e6⟩:=d
 refine ⟨o,es,ep,e1,e2,e3,fun e he=>?_,pJ e5,?_⟩
 ·obtain ⟨k,k1,k2⟩:=e4 e he
  exact ⟨some k,k1,k2⟩
 ·rw [List.map_map]
  show (vs.map fun p=>some p.1).Nodup
  have:(vs.map fun p=>some p.1)=(vs.map (·.1)).map some:=by rw [List.map_map]; rfl
  rw [this]
  exact List.pairwise_map.mpr (List.Pairwise.imp (fun h q=>h (Option.some.inj q)) e6)
theorem qc:∀ (vs:List (Key×Value)),valueAt (vs.map fun p=>((some p.1:Option Key),p.2)) none=none
 | []=>rfl
 | p::r=>by
  have:=qc r
  unfold valueAt at this ⊢
  rw [List.map_cons,List.find?_cons]
  simpa using this
section
variable {X:Cx}
theorem vT:OpR X (compareOp .In) (fun x y H Q=>∃ a kvs,x=.non∧y=.ref a∧Rd H a (.dK kvs)∧Q (.bl false) H):=by
 intro pins s σ H x y v u Q I rx ry h
 obtain ⟨a,kvs,rfl,rfl,e,q⟩:=h
 cases (show v=Value.none from rx)
 cases (show u=Value.ref a from ry)
 obtain ⟨z,hd,vs,rel,dd⟩:=eF I.hok e
 refine wpAny_in_of (knd:=mH X.prog X.w) (k:=none) rfl hd (yl dd).mapOf ?_
 rw [qc]
 exact ⟨.bl false,H,I.tok _,rfl,q⟩
theorem AV {k:Nat} (hr:Room k X.A):OpR X (compareOp .In) (fun x y H Q=>∃ a kvs s,x=.str s∧y=.ref a∧Rd H a (.dK kvs)∧Q (.bl (bu kvs (Sum.inr s:Key)).isSome) H):=by
 intro pins s σ H x y v u Q I rx ry h
 obtain ⟨a,kvs,z,rfl,rfl,e,q⟩:=h
 cases (show u=Value.ref a from ry)
 exact C2 (kZ hr) I (DGet.rd (k:=Sum.inr z) e) (show RelV (kV (Sum.inr z)) v from rx) fun s' I'=>⟨.bl _,H,I',rfl,q⟩
theorem wI {k:Nat} (hr:Room k X.A):OpR X (compareOp .NotIn) (fun x y H Q=>∃ a kvs s,x=.str s∧y=.ref a∧Rd H a (.dK kvs)∧Q (.bl (!(bu kvs (Sum.inr s:Key)).isSome)) H):=by
 intro pins s σ H x y v u Q I rx ry h
 obtain ⟨a,kvs,z,rfl,rfl,e,q⟩:=h
 cases (show u=Value.ref a from ry)
 exact z8 (kZ hr) I (DGet.rd (k:=Sum.inr z) e) (show RelV (kV (Sum.inr z)) v from rx) fun s' I'=>⟨.bl _,H,I',rfl,q⟩
theorem A7 {k:Nat} (hr:Room k X.A):IxR X (fun x y H Q=>∃ a kvs s v,x=.ref a∧y=.str s∧Rd H a (.dK kvs)∧bu kvs (Sum.inr s:Key)=some v∧Q v H):=by
 intro value slice pins s σ H x y v u Q I rx ry h hs
 obtain ⟨a,kvs,z,v0,rfl,rfl,e,l,q⟩:=h
 cases (show v=Value.ref a from rx)
 have g:DGet H a (kV (Sum.inr z)) (some v0):=by rw [← l]; exact DGet.rd e
 unfold subscriptTail
 refine wpAny_bind ?_
 rw [getitemInPython_of_ne (oR I g).not_modules]
 refine wpAny_bind (wpAny_specialOf (oR I g) PySem.F.slot_dict_getitem.lookup ?_)
 have fin:wpAny (model X.prog X.w) X.A (subscripted slice false (Value.ref a) u) (fun r s₃=>wpAny (model X.prog X.w) X.A (letTemporaryGo value (Value.ref a) r >>= fun _=>pure r) (EP X pins σ Q) X.xe s₃) X.xe s:=by
  rw [hs]
  exact wpAny_operating (xh (kZ hr) I g (show RelV (kV (Sum.inr z)) u from ry) fun w' s' I' rw'=>wpAny_bind (wpAny_letTemporaryGo (wpAny_pure ⟨v0,H,I',rw',q⟩)))
 first
  | exact wpAny_pure (wpAny_bind fin)
  | exact wpAny_bind (wpAny_pure (wpAny_bind fin))
  | exact wpAny_bind fin
def inK (s:PyData) (ds:List (PyData×PyData)):Option Bool:=match s with
 | .str s=>some (aZ ds s).isSome
 | .none=>some false
 | _=>none
def inB (x y:PyData):Option Bool:=match y with
 | .dict ds=>inK x ds
 | y=>inS x y
def inA (x y:PyData):Option PyData:=(inB x y).map .bool
def fL (x y:PyData):Option PyData:=match x,y with
 | .str s,.dict ds=>some (.bool (!(aZ ds s).isSome))
 | _,.dict _=>none
 | x,y=>(inS x y).map fun b=>.bool (!b)
theorem gP {k:Nat} (hr:Room k X.A):OpD X (compareOp .In) inA:=⟨_,(op_in_str.or pL).or ((AV hr).or vT),fun O ts H T v1 v2 x y d Q hc h1 h2 e q=>by
 unfold inA at e
 by_cases hd:∃ ds,y=.dict ds
 ·obtain ⟨ds,rfl⟩:=hd
  obtain ⟨a,kvs,rfl,t,r⟩:=h2.dct
  obtain ⟨b,hb,rfl⟩:=Option.map_eq_some_iff.mp e
  have hb':inK x ds=some b:=hb
  unfold inK at hb'
  split at hb'
  ·rename_i s
   cases hb'
   cases h1.str
   refine .inr (.inl ⟨a,kvs,s,rfl,rfl,t,?_⟩)
   have e:(bu kvs (Sum.inr s:Key)).isSome=(aZ ds s).isSome:=by
    rcases gu (s:=s) r with ⟨z1,z2⟩ | ⟨v,d,z1,z2,_⟩ <;> rw [z1,z2] <;> rfl
   rw [e]
   exact q _ H (.refl _ _) hc (.bl _)
  ·cases hb'
   cases h1.non
   exact .inr (.inr ⟨a,kvs,rfl,rfl,t,q _ H (.refl _ _) hc (.bl _)⟩)
  ·cases hb'
 ·have e':(inS x y).map .bool=some d:=by
   cases y with
   | dict ds=>exact absurd ⟨ds,rfl⟩ hd
   | _=>exact e
  exact .inl (ki false O ts H T v1 v2 x y d Q hc h1 h2 e' q)⟩
theorem l8 {k:Nat} (hr:Room k X.A):OpD X (compareOp .NotIn) fL:=⟨_,(op_notin_str.or oN).or (wI hr),fun O ts H T v1 v2 x y d Q hc h1 h2 e q=>by
 by_cases hd:∃ ds,y=.dict ds
 ·obtain ⟨ds,rfl⟩:=hd
  obtain ⟨a,kvs,rfl,t,r⟩:=h2.dct
  cases x with
  | str s=>
   cases e
   cases h1.str
   refine .inr ⟨a,kvs,s,rfl,rfl,t,?_⟩
   have e:(bu kvs (Sum.inr s:Key)).isSome=(aZ ds s).isSome:=by
    rcases gu (s:=s) r with ⟨z1,z2⟩ | ⟨v,d,z1,z2,_⟩ <;> rw [z1,z2] <;> rfl
   rw [e]
   exact q _ H (.refl _ _) hc (.bl _)
  | _=>cases e
 ·have e':((inS x y).map fun b=>.bool (!b))=some d:=by
   cases y with
   | dict ds=>exact absurd ⟨ds,rfl⟩ hd
   | _=>cases x <;> exact e
  exact .inl (ki true O ts H T v1 v2 x y d Q hc h1 h2 e' q)⟩
def ixA (x y:PyData):Option PyData:=match x,y with
 | .dict ds,.str s=>aZ ds s
 | .dict _,_=>none
 | x,y=>ixD x y
theorem dC {k:Nat} (hr:Room k X.A):IxD X ixA:=by
 obtain ⟨r0,h0,s0⟩:=aA (X:=X)
 refine ⟨_,h0.or (A7 hr),fun O ts H T v1 v2 x y d Q hc h1 h2 e q=>?_⟩
 by_cases hd:∃ ds,x=.dict ds
 ·obtain ⟨ds,rfl⟩:=hd
  obtain ⟨a,kvs,rfl,t,r⟩:=h1.dct
  cases y with
  | str s=>
   have e':aZ ds s=some d:=e
   cases h2.str
   rcases gu (s:=s) r with ⟨z1,z2⟩ | ⟨v,d',z1,z2,rv⟩
   ·rw [z1] at e'; cases e'
   ·rw [z1] at e'
    cases e'
    exact .inr ⟨a,kvs,s,v,rfl,rfl,t,z2,q _ H (.refl _ _) hc rv⟩
  | _=>cases e
 ·refine .inl (s0 O ts H T v1 v2 x y d Q hc h1 h2 ?_ q)
  cases x with
  | dict ds=>exact absurd ⟨ds,rfl⟩ hd
  | _=>exact e
end
section
variable {X:Cx} {pins:List (Addr×Obj)} {σ:L2.St} {H H2:Hp} {s s2:Shared}
theorem x9 (I:Inv X pins σ H s) {a:Addr} {kvs:List (Key×V)} {o:Obj} (e:H a=some (.dK kvs)) (I2:Inv X pins σ H2 s2) (e2:H2 a=some (.frz o (.dK kvs))):Inv X pins σ (upd H2 a (.dK kvs)) s2:=by
 have U:∀ {b:Addr} {u:HO},H2 b=some u→(∀ o ks,u≠.frz o ks)→upd H2 a (.dK kvs) b=some u:=fun {b u} q n=>by
  rw [aK (fun z=>by subst z; rw [e2] at q; cases q; exact n _ _ rfl)]
  exact q
 have N:∀ {b:Addr},H2 b=none→upd H2 a (.dK kvs) b=none:=fun {b} q=>by
  rw [aK (fun z=>by subst z; rw [e2] at q; cases q)]
  exact q
 have hok:HOk X.prog X.w (upd H2 a (.dK kvs)) s2.heap:=fun b u q=>by
  by_cases hb:b=a
  ·subst hb
   rw [br] at q
   cases q
   exact ObjOk.stay (I2.hok b _ e2).2 (fun _ _ _ q=>q) (fun c q=>U q (fun _ _ z=>nomatch z)) fun c xs q=>U q (fun _ _ z=>nomatch z)
  ·rw [aK hb] at q
   exact (I2.hok b u q).stay (fun _ _ _ q=>q) (fun c q=>U q (fun _ _ z=>nomatch z)) fun c xs q=>U q (fun _ _ z=>nomatch z)
 refine ⟨I2.ok,I2.os,I2.bare,⟨I2.base.keep,I2.base.slot,fun b ob q n hx=>N (I2.base.free b ob q n hx),I2.base.there,fun b xs q=>U (I2.base.tups b xs q) (fun _ _ z=>nomatch z),fun b ob u q=>?_,fun b ps q=>?_⟩,I2.loc,I2.cell,N I2.free,fun x c q=>N (I2.freeC x c q),fun p hp=>?_,hok,I2.len⟩
 ·have h1:=I.base.frzs b ob u q
  rw [aK (fun z=>by subst z; rw [e] at h1; cases h1)]
  exact I2.base.frzs b ob u q
 ·obtain ⟨more,h1⟩:=I2.base.tbls b ps q
  exact ⟨more,U h1 (fun _ _ z=>nomatch z)⟩
 ·obtain ⟨k1,k2,k3⟩:=I2.pin p hp
  exact ⟨k1,N k2,k3⟩
end
inductive Ln (P:Hp→VK→Prop):Hp→VK→Prop where
 | done {H:Hp} {Q:VK}:P H Q→Ln P H Q
 | frz {H:Hp} {Q:VK} {a:Addr} {kvs:List (Key×V)}:H a=some (.dK kvs)→(∀ o,Ln P (upd H a (.frz o (.dK kvs))) (fun v H2=>H2 a=some (.frz o (.dK kvs))∧Q v (upd H2 a (.dK kvs))))→Ln P H Q
theorem BU {X:Cx} {e:Expr} {t:TE} (h:PE X e t):PE X e (fun σ H Q=>Ln (t σ) H Q):=fun pins s σ H Q I q=>by
 have key:∀ {H:Hp} {Q:VK},Ln (t σ) H Q→Inv X pins σ H s→wpAny (model X.prog X.w) X.A (eval e X.env) (EP X pins σ Q) X.xe s:=by
  intro H Q q
  induction q with
  | done q=>exact fun I=>h pins s σ _ _ I q
  | frz ea _ ih=>
   intro I
   obtain ⟨o,I'⟩:=rp I ea
   refine thn (ih o I') fun u s' ⟨v,H2,I2,r,e2,q2⟩=>?_
   exact ⟨v,_,x9 I ea I2 e2,r,q2⟩
 exact key q I
section
variable {K:Frag}
theorem TupAt.keep {H H':Hp} (h:∀ b o,H b=some o→(∀ ks,o≠.dK ks)→(∀ ob ks,o≠.frz ob (.dK ks))→H' b=some o) {a:Addr} {vs:List V} (t:TupAt K (fun _=>False) H a vs):TupAt K (fun _=>False) H' a vs:=by
 rcases t with ⟨n,t | ⟨o,t⟩⟩ | t
 ·exact .inl ⟨n,.inl (h _ _ t (fun _ z=>nomatch z) (fun _ _ z=>nomatch z))⟩
 ·exact .inl ⟨n,.inr ⟨o,h _ _ t (fun _ z=>nomatch z) (fun _ _ z=>nomatch z)⟩⟩
 ·exact .inr t
mutual
theorem Rep.keep {H H':Hp} (h:∀ b o,H b=some o→(∀ ks,o≠.dK ks)→(∀ ob ks,o≠.frz ob (.dK ks))→H' b=some o):∀ {v:V} {d:PyData},Rep K (fun _=>False) H v d→bF d=true→Rep K (fun _=>False) H' v d
 | _,_,.non,_=>.non
 | _,_,.bl b,_=>.bl b
 | _,_,.int i,_=>.int i
 | _,_,.str x,_=>.str x
 | _,_,.tup t r,e=>.tup (t.keep h) (Reps.keep h r (by simpa [bF] using e))
 | _,_,.lst t r,e=>by simp [bF] at e
 | _,_,.dct n t r,e=>by simp [bF] at e
theorem Reps.keep {H H':Hp} (h:∀ b o,H b=some o→(∀ ks,o≠.dK ks)→(∀ ob ks,o≠.frz ob (.dK ks))→H' b=some o):∀ {vs:List V} {ds:List PyData},Reps K (fun _=>False) H vs ds→eA ds=true→Reps K (fun _=>False) H' vs ds
 | _,_,.nil,_=>.nil
 | _,_,.cons (d:=d) (ds:=ds) r t,e=>by
  have e':(bF d && eA ds)=true:=by simpa [eA] using e
  rw [Bool.and_eq_true] at e'
  exact .cons (Rep.keep h r e'.1) (Reps.keep h t e'.2)
end
end
def iz:W→Option W
 | .d x=>some (.d x)
 | .loc x=>some (.d x)
 | .tp _=>none
def eX (ρ:Rho):Rho:=ρ.map fun o=>o.bind iz
def Fz (O:Addr→Prop) (H0 H:Hp):Prop:=∀ b,H b=H0 b∨∃ kvs o,O b∧H0 b=some (.dK kvs)∧H b=some (.frz o (.dK kvs))
section
variable {K:Frag} {O:Addr→Prop} {ts:List Addr} {H0 H:Hp} {T:Tp} {σ:L2.St} {ρ:Rho}
theorem xX (re:RelE K O ts H0 σ ρ) (fz:Fz O H0 H) (all:∀ (j:Nat) (a:Addr) (ds:List (PyData×PyData)),ρ[j]? = some (some (.loc (.dict ds)))→σ[j]? = some (some (.ref a))→∃ o kvs,H a=some (.frz o (.dK kvs))):RelE K (fun _=>False) [] H σ (eX ρ):=by
 have le:Le O H0 (fun _=>False) H:=fun b o n e=>⟨fun z=>z,by
  rcases fz b with q | ⟨_,_,q,_,_⟩
  ·rw [q]; exact e
  ·exact absurd q n⟩
 intro i w e
 unfold eX at e
 rw [List.getElem?_map] at e
 cases hu:ρ[i]? with
 | none=>rw [hu] at e; cases e
 | some u=>
  cases u with
  | none=>rw [hu] at e; cases e
  | some u=>
   rw [hu] at e
   have e':iz u=some w:=Option.some.inj e
   obtain ⟨v,h1,h2⟩:=re i u hu
   cases u with
   | d x=>cases e'; exact ⟨v,h1,Rep.mono le h2⟩
   | tp k=>cases e'
   | loc x=>
    cases e'
    obtain ⟨a,rfl,k1,k2,k3⟩:=h2
    refine ⟨_,h1,?_⟩
    cases x with
    | list xs=>
     obtain ⟨vs,k3,k4⟩:=k3
     refine .lst (.inl ⟨fun z=>z,.inl ?_⟩) (k4.mono le)
     rcases fz a with q | ⟨_,_,_,q,_⟩
     ·rw [q]; exact k3
     ·rw [k3] at q; cases q
    | dict ds=>
     obtain ⟨kvs,k3,k4⟩:=k3
     obtain ⟨o,kvs',h3⟩:=all i a ds hu h1
     rcases fz a with q | ⟨kvs2,o2,_,q,q2⟩
     ·rw [q,k3] at h3; cases h3
     ·rw [k3] at q
      cases q
      exact .dct (fun z=>z) q2 (k4.mono le)
    | _=>cases k3
theorem j7 {P:Hp→VK→Prop} {x:PyData} (hx:bF x=true) (re:RelE K O ts H0 σ ρ) (fin:∀ H Q,RelE K (fun _=>False) [] H σ (eX ρ)→(∀ v H2,SameX [] H H2→Rep K (fun _=>False) H2 v x→Q v H2)→P H Q):∀ (k:Nat) {H:Hp} {Q:VK},Fz O H0 H →
  (∀ (j:Nat) (a:Addr) (ds:List (PyData×PyData)),k≤j→ρ[j]? = some (some (.loc (.dict ds)))→σ[j]? = some (some (.ref a))→∃ o kvs,H a=some (.frz o (.dK kvs)))→(∀ v H2,SameX [] H H2→Rep K (fun _=>False) H2 v x→Q v H2)→Ln P H Q
 | 0,H,Q,fz,all,q=>.done (fin H Q (xX re fz fun j a ds=>all j a ds (Nat.zero_le _)) q)
 | k + 1,H,Q,fz,all,q=>by
  by_cases h:∃ ds,ρ[k]? = some (some (.loc (.dict ds)))
  ·obtain ⟨ds,h⟩:=h
   obtain ⟨v,h1,a,rfl,k1,k2,kvs,k3,k4⟩:=re k _ h
   rcases fz a with z | ⟨kvs2,o2,_,z,z2⟩
   ·rw [k3] at z
    refine .frz z fun o=>j7 hx re fin k (fun b=>?_) (fun j b es hj e1 e2=>?_) (fun v H2 s2 r=>?_)
    ·by_cases hb:b=a
     ·subst hb; exact .inr ⟨kvs,o,k1,k3,br⟩
     ·rw [aK hb]; exact fz b
    ·by_cases hb:b=a
     ·subst hb; exact ⟨o,kvs,br⟩
     ·rw [aK hb]
      by_cases hk:k=j
      ·subst hk; rw [h1] at e2; cases e2; exact absurd rfl hb
      ·exact all j b es (by omega) e1 e2
    ·have ha:H2 a=some (.frz o (.dK kvs)):=s2 a _ (by simp) br
     refine ⟨ha,q v _ (fun b ob _ e=>?_) (Rep.keep (fun b ob e n1 n2=>?_) r hx)⟩
     ·by_cases hb:b=a
      ·subst hb; rw [z] at e; cases e; exact br
      ·rw [aK hb]
       exact s2 b ob (by simp) (by rw [aK hb]; exact e)
     ·have hb:b≠a:=fun z=>by subst z; rw [ha] at e; cases e; exact n2 _ _ rfl
      rw [aK hb]
      exact e
   ·refine j7 hx re fin k fz (fun j b es hj e1 e2=>?_) q
    by_cases hk:k=j
    ·subst hk; rw [h1] at e2; cases e2; exact ⟨o2,kvs2,z2⟩
    ·exact all j b es (by omega) e1 e2
  ·refine j7 hx re fin k fz (fun j b es hj e1 e2=>?_) q
   by_cases hk:k=j
   ·subst hk; exact absurd ⟨es,e1⟩ h
   ·exact all j b es (by omega) e1 e2
end
def gR (T:Tp) (o:Option (W×Tp)):Option (W×Tp):=match o with
 | some (.d x,_)=>if bF x=true then some (.d x,T) else none
 | _=>none
def dD (f:FE):FE:=fun ρ T=>gR T (f (eX ρ) [])
theorem mV {X:Cx} {e:Expr} {f:FE} (he:DE X e f):DE X e (dD f):=by
 refine ⟨bx (BU he.pe) fun σ H Q=>?_⟩
 rintro ⟨O,ts,ρ,T,w,T',hc,re,e,q⟩
 unfold dD gR at e
 split at e
 ·rename_i x T1 h1
  split at e
  ·rename_i hx
   cases e
   refine j7 hx re (fun H1 Q1 re1 q1=>⟨fun _=>False,[],eX ρ,[],.d x,T1,⟨fun b hb=>(by cases hb),fun b hb=>hb.elim,List.nodup_nil,rfl,fun i a xs e1 _=>by simp at e1⟩,re1,h1,fun v H2 s2 _ r2=>q1 v H2 s2 r2⟩) ρ.length (fun b=>.inl rfl) (fun j a ds hj e1 _=>?_) (fun v H2 s2 r2=>?_)
   ·rw [List.getElem?_eq_none hj] at e1; cases e1
   ·have s2':SameX ts H H2:=fun b o _ q=>s2 b o (by simp) q
    have hm:∀ b,O b→Mut (H2 b):=fun b hb=>(hc.trk b hb).to fun u z=>s2 b _ (by simp) z
    have hc2:=hc.step s2' fun b hb=>by
     obtain ⟨u,z⟩:=(hc.trk b (hc.own b hb)).ex
     rw [z]; exact s2 b _ (by simp) z
    exact q v H2 s2' hc2 (Rep.own hm r2 hx)
  ·cases e
 ·cases e
section
variable {X:Cx} {pos:Pos} {e:Expr} {fe:FE}
def cK (i:Nat):FS:=fun ρ T=>some ((.nx,ρ.set i (some (.loc (.dict [])))),T)
theorem gB {i:Nat} {x:Str} {pos' dpos:Pos} (hN:X.N.Nodup) (hi:X.N[i]? = some x:=by rfl) (hx:Loc X.env.scope x:=by first | exact Or.inl rfl | exact Or.inr rfl)
  (hs:swapsWith (.Dict [] [] dpos) (some (.Name x pos')) pos.line X.env=pure false:=by rfl) (hf:X.fn x=true∨X.env.scope.names.lookup x=some .local:=by first | exact .inl rfl | exact .inr rfl | assumption):DS X (.Assign [.Name x pos'] (.Dict [] [] dpos) pos) (cK i):=by
 refine ⟨?_⟩
 refine bw (dN hN hi hx xI hs hf) fun D σ H=>?_
 rintro ⟨O₀,H₀,F,ts,O,ρ,T,fl,ρ',T',rs,e,q⟩
 cases e
 intro p hp
 exact q _ _ _ (rs.ownO hp (.inr (.inl ⟨_,rfl⟩)) fun le=>⟨[],br,.nil⟩)
theorem v9:CallR X (.type "dict") (fun xs H Q=>∃ a kvs,xs=[V.ref a]∧Rd H a (.dK kvs)∧∀ p,H p=none→Q (.ref p) (upd H p (.dK kvs))):=by
 intro pins s σ H xs us Q I r h
 obtain ⟨a,kvs,rfl,ha,q⟩:=h
 obtain ⟨u,rfl,ru⟩:=vals1 r
 cases ru
 exact yn I ha fun p s' hp I'=>⟨.ref p,_,I',rfl,q p hp⟩
def oA (o:Option PyData):Option (List (PyData×PyData)):=match o with
 | some (.dict ds)=>some ds
 | _=>none
def rX (i:Nat) (ρ:Rho) (o:Option (List (PyData×PyData))) (T:Tp):Option ((Fl×Rho)×Tp):=match o with
 | some ds=>some ((.nx,ρ.set i (some (.loc (.dict ds)))),T)
 | none=>none
def fM (i:Nat) (f:FE):FS:=fun ρ T=>bnd (f ρ T) fun w T1=>rX i ρ (oA (view T1 w)) T1
theorem z7 {o:Option PyData} {ds:List (PyData×PyData)} (h:oA o=some ds):o=some (.dict ds):=by
 unfold oA at h
 split at h
 ·cases h; rfl
 ·cases h
theorem qw {i:Nat} {x:Str} {p pos' cpos:Pos} (hm:X.mg "dict" = none) (hN:X.N.Nodup) (he:DE X e fe) (hi:X.N[i]? = some x:=by rfl) (hx:Loc X.env.scope x:=by first | exact Or.inl rfl | exact Or.inr rfl) (hg:Gl X "dict":=by rfl)
  (hse:starEach [e] X.env=(false,eval e X.env)::starEach [] X.env:=by exact bq rfl) (hpl:(backTo cpos (starEach [] X.env)).any (·.1)=false:=by exact bD rfl)
  (hs:swapsWith (.Call (.Name "dict" p) [e] [] cpos) (some (.Name x pos')) pos.line X.env=pure false:=by rfl) (hf:X.fn x=true∨X.env.scope.names.lookup x=some .local:=by first | exact .inl rfl | exact .inr rfl | assumption) :
  DS X (.Assign [.Name x pos'] (.Call (.Name "dict" p) [e] [] cpos) pos) (fM i fe):=by
 refine ⟨?_⟩
 refine bw (dN hN hi hx (jP v9 hg hm boot_dict (bV he.pe cG hse) (by decide) (by decide) hse hpl) hs hf) fun D σ H=>?_
 rintro ⟨O₀,H₀,F,ts,O,ρ,T,fl,ρ',T',rs,e,q⟩
 obtain ⟨w,T1,e1,e⟩:=aG e
 unfold rX at e
 split at e
 ·rename_i ds hd
  cases e
  have hv:=z7 hd
  refine ⟨O,ts,ρ,T,w,_,rs.hc,rs.re,e1,fun v H1 s1 hc1 r1=>?_⟩
  obtain ⟨a,kvs,rfl,t,r⟩:=(hc1.view r1 hv).dct
  exact ⟨a,kvs,rfl,t,fun p hp=>q _ _ _ ((rs.step s1 hc1).ownO (xs:=.dict ds) hp (.inr (.inl ⟨_,rfl⟩)) fun le=>⟨kvs,br,r.mono le⟩)⟩
 ·cases e
def putN (ds:List (PyData×PyData)) (s:Str) (x:PyData):List (PyData×PyData):=if (aZ ds s).isSome=true then d6 ds s x else ds++[(.str s,x)]
theorem RepK.app {K:Frag} {O:Addr→Prop} {H:Hp} {s:Str} {v:V} {x:PyData} (rx:Rep K O H v x):∀ {kvs:List (Key×V)} {ds:List (PyData×PyData)},RepK K O H kvs ds→RepK K O H (kvs++[(Sum.inr s,v)]) (ds++[(.str s,x)])
 | _,_,.nil=>.cons (k:=Sum.inr s) rx .nil
 | _,_,.cons r t=>.cons r (RepK.app rx t)
theorem yP {K:Frag} {O:Addr→Prop} {H:Hp} {s:Str} {v:V} {x:PyData} (rx:Rep K O H v x) {kvs:List (Key×V)} {ds:List (PyData×PyData)} (r:RepK K O H kvs ds):RepK K O H (putK kvs (Sum.inr s) v) (putN ds s x):=by
 unfold putN
 rcases gu (s:=s) r with ⟨z1,z2⟩ | ⟨v',d',z1,z2,_⟩
 ·rw [z1,if_neg (by simp),xu v z2]
  exact r.app rx
 ·rw [z1,if_pos (show (some d').isSome=true by rfl)]
  have hany:(kvs.any fun kv=>decide (kv.1=(Sum.inr s:Key)))=true:=wa (by rw [z2]; rfl)
  unfold putK
  rw [if_pos hany]
  exact lM rx r
def kS (i:Nat) (ρ:Rho) (ds:List (PyData×PyData)) (w k:W) (T:Tp):Option ((Fl×Rho)×Tp):=match w,k with
 | .d x,.d (.str s)=>if ds.length≤1000 then some ((.nx,ρ.set i (some (.loc (.dict (putN ds s x))))),T) else none
 | _,_=>none
def kR (i:Nat) (fk:FE) (ρ:Rho) (w:W) (T:Tp) (o:Option (Option W)):Option ((Fl×Rho)×Tp):=match o with
 | some (some (.loc (.dict ds)))=>bnd (fk ρ T) (kS i ρ ds w)
 | _=>none
def bM (i:Nat) (fk fv:FE):FS:=fun ρ T=>bnd (fv ρ T) fun w T1=>kR i fk ρ w T1 ρ[i]?
theorem d3 {i:Nat} {x:Str} {kx:Expr} {fk fv:FE} {p pos':Pos} {k:Nat} (hr:Room k X.A) (hk:DE X kx fk) (he:DE X e fv) (hN:X.N[i]? = some x:=by rfl) (hv:Vis X.env.scope x:=by first | exact Or.inl rfl | exact Or.inr (Or.inl rfl) | exact Or.inr (Or.inr rfl)) (hd:(x == ("__debug__" : Str))=false:=by decide)
  (hcd:(x == ("__classdict__" : Str))=false:=by decide) (hs:swapsWith e (some (.Subscript (.Name x p) kx pos')) pos.line X.env=pure false:=by rfl):DS X (.Assign [.Subscript (.Name x p) kx pos'] e pos) (bM i fk fv):=by
 refine ⟨?_⟩
 refine bw (yW (kZ hr) (pv i hN hv hd hcd) hk.pe he.pe hs) fun D σ H=>?_
 rintro ⟨O₀,H₀,F,ts,O,ρ,T,fl,ρ',T',rs,e,q⟩
 obtain ⟨w,T1,e1,e⟩:=aG e
 refine ⟨O,ts,ρ,T,w,T1,rs.hc,rs.re,e1,fun v H1 s1 hc1 r1=>?_⟩
 have rs1:=rs.step s1 hc1
 unfold kR at e
 split at e
 ·rename_i ds c3
  obtain ⟨wk,T3,e3,e⟩:=aG e
  unfold kS at e
  split at e
  ·rename_i xv s _
   split at e
   ·rename_i c2
    cases e
    obtain ⟨u,k1,a,rfl,k2,k3,kvs,k4,k5⟩:=rs1.re i _ c3
    refine ⟨_,k1,O,ts,ρ,T1,_,_,rs1.hc,rs1.re,e3,fun y H3 s3 hc3 r3=>?_⟩
    have rs3:=rs1.step s3 hc3
    cases (show Rep X.K O H3 y (.str s) from r3)
    have k4':H3 a=some (.dK kvs):=s3 _ _ k3 k4
    have k5':RepK X.K O H3 kvs ds:=k5.mono (hc1.le s3)
    have hlen:kvs.length < sizeLine:=by
     rw [qj k5']
     exact Nat.lt_of_le_of_lt c2 (by decide)
    have rx:Rep X.K O H3 v xv:=RepW.mono (w:=.d xv) r1 hc1 s3
    refine ⟨a,_,rfl,DPut.k (k:=(Sum.inr s:Key)) k4' hlen,?_⟩
    exact q O σ _ (rs3.putO c3 k1 (.inr (.inl ⟨_,rfl⟩)) fun le=>⟨_,br,yP (Rep.mono le rx) (k5'.mono le)⟩)
   ·cases e
  ·cases e
 ·cases e
end
def dS (n:Nat):W→Option W
 | .tp k=>if k < n then some (.tp k) else none
 | w=>some w
def iE (n:Nat) (ρ:Rho):Rho:=ρ.map fun o=>o.bind (dS n)
def iZ (n:Nat) (o:Option ((Fl×Rho)×Tp)):Option ((Fl×Rho)×Tp):=match o with
 | some ((fl,ρ'),T3)=>(match nZ T3 with
  | some (T4,_)=>if T4.length=n then some ((fl,iE n ρ'),T4) else none
  | none=>none)
 | none=>none
section
variable {K:Frag} {O₀:Addr→Prop} {H₀:Hp} {F:List ((Addr→Prop)×Hp)} {ts:List Addr} {O:Addr→Prop} {H:Hp} {σ:L2.St} {ρ:Rho} {T:Tp}
theorem RS.openR {i:Nat} {p:Addr} {vs:List V} {xs:List PyData} (r:RS K O₀ H₀ F ts O H σ ρ T) (hp:H p=none) (rv:Reps K O H vs xs) :
  RS K (fun b=>O₀ b∨b=p) H₀ F (ts++[p]) (fun b=>O b∨b=p) (upd H p (.lst vs)) (σ.set i (some (.ref p))) (ρ.set i (some (.tp T.length))) (T++[xs]):=by
 have nO:=r.hc.fresh hp
 have nt:p∉ts:=fun z=>nO (r.hc.own _ z)
 have le:Le O H (fun b=>O b∨b=p) (upd H p (.lst vs)):=fun a o n e=>by
  have z1:a≠p:=c6 e hp
  exact ⟨fun q=>q.elim n z1,by rw [aK z1]; exact e⟩
 have hw:∀ ys,W.tp T.length≠.loc ys:=fun _ z=>nomatch z
 refine ⟨⟨fun b hb=>?_,fun b hb=>?_,?_,by simp [r.hc.len],fun j b zs q1 q2=>?_⟩,fun j w e=>?_,fun b hb=>hb.elim (fun z=>.inl (r.sub b z)) .inr,fun b hb=>?_,fun b o n e=>?_,fun j xs a e1 e2=>?_,fun j k xs ys v e1 e2 e3 e4=>?_,fun f hf=>(r.frs f hf).trans le,by simp [r.len]⟩
 ·rcases List.mem_append.mp hb with z | z
  ·exact .inl (r.hc.own b z)
  ·exact .inr (List.mem_singleton.mp z)
 ·by_cases z:b=p
  ·rw [z,br]; exact .inl ⟨_,rfl⟩
  ·rw [aK z]; exact r.hc.trk b (hb.resolve_right z)
 ·rw [List.nodup_append]
  exact ⟨r.hc.nd,by simp,fun b hb c hc z=>nt (by rw [← List.mem_singleton.mp hc,← z]; exact hb)⟩
 ·by_cases hj:j < ts.length
  ·rw [List.getElem?_append_left hj] at q1
   rw [List.getElem?_append_left (by rw [← r.hc.len]; exact hj)] at q2
   exact (r.hc.tape j b zs q1 q2).mono (fun o h1=>by rw [aK (c6 h1 hp)]; exact h1) le
  ·have hj2:j=ts.length:=by
    have:=(List.getElem?_eq_some_iff.mp q1).1
    simp at this
    omega
   subst hj2
   have e1:b=p:=by simpa using q1.symm
   have e2:zs=xs:=by rw [r.hc.len] at q2; simpa using q2.symm
   subst e1 e2
   exact .inl ⟨rv.notO,vs,br,rv.mono le⟩
 ·by_cases z:i=j
  ·subst z
   have hl:i < ρ.length:=by
    have:=(List.getElem?_eq_some_iff.mp e).1
    simpa using this
   rw [List.getElem?_set_self hl] at e
   cases e
   exact ⟨.ref p,by rw [List.getElem?_set_self (by rw [r.len]; exact hl)],p,by rw [← r.hc.len]; simp,rfl⟩
  ·rw [List.getElem?_set_ne z] at e
   obtain ⟨x,h1,h2⟩:=r.re j w e
   refine ⟨x,by rw [List.getElem?_set_ne z]; exact h1,?_⟩
   cases w with
   | d y=>exact Rep.mono le h2
   | tp k=>
    obtain ⟨a,k1,k2⟩:=h2
    exact ⟨a,by rw [List.getElem?_append_left (List.getElem?_eq_some_iff.mp k1).1]; exact k1,k2⟩
   | loc ys=>
    obtain ⟨a,e1,m1,m2,m3⟩:=h2
    have na:a≠p:=fun z=>nO (z ▸ m1)
    refine ⟨a,e1,.inl m1,fun z=>?_,m3.mono (fun o' q=>by rw [aK na]; exact q) le⟩
    rcases List.mem_append.mp z with z | z
    ·exact m2 z
    ·exact na (List.mem_singleton.mp z)
 ·rcases List.mem_append.mp hb with z | z
  ·exact .inl (r.ots b z)
  ·exact .inr (List.mem_singleton.mp z)
 ·have nb:b∉ts:=fun z=>n (List.mem_append_left _ z)
  have e1:=r.same b o nb e
  rw [aK (c6 e1 hp)]
  exact e1
 ·obtain ⟨n,e⟩:=dw hw e1
  rw [List.getElem?_set_ne (Ne.symm n)] at e2
  obtain ⟨f1,f2⟩:=r.fresh j xs a e e2
  refine ⟨f1,fun z=>z.elim f2 fun z=>?_⟩
  obtain ⟨v,h1,a',ea,m1,_⟩:=r.re j _ e
  rw [e2] at h1
  cases h1
  cases ea
  exact nO (z ▸ m1)
 ·obtain ⟨n1,e1⟩:=dw hw e1
  obtain ⟨n2,e2⟩:=dw hw e2
  rw [List.getElem?_set_ne (Ne.symm n1)] at e3
  rw [List.getElem?_set_ne (Ne.symm n2)] at e4
  exact r.dist j k xs ys v e1 e2 e3 e4
theorem RS.closeR {p:Addr} {row:List PyData} (ots:∀ b∈ts,O₀ b) (nt:p∉ts) (h0:H₀ p=none) (n0:¬ O₀ p) (r:RS K (fun b=>O₀ b∨b=p) H₀ F (ts++[p]) O H σ ρ (T++[row])):RS K O₀ H₀ F ts O H σ (iE T.length ρ) T:=by
 have lenT:ts.length=T.length:=by have:=r.hc.len; simp at this; exact this
 have at_:∀ {j:Nat} {w:W},(iE T.length ρ)[j]? = some (some w)→ρ[j]? = some (some w)∧∀ k,w=.tp k→k < T.length:=fun {j w} e=>by
  unfold iE at e
  rw [List.getElem?_map] at e
  cases hu:ρ[j]? with
  | none=>rw [hu] at e; cases e
  | some u=>
   cases u with
   | none=>rw [hu] at e; cases e
   | some u=>
    rw [hu] at e
    have e':dS T.length u=some w:=Option.some.inj e
    cases u with
    | d x=>cases e'; exact ⟨rfl,fun k z=>nomatch z⟩
    | loc x=>cases e'; exact ⟨rfl,fun k z=>nomatch z⟩
    | tp k=>
     have e2:(if k < T.length then some (W.tp k) else none)=some w:=e'
     split at e2
     ·rename_i hk
      cases e2
      exact ⟨rfl,fun k' z=>by cases z; exact hk⟩
     ·cases e2
 refine ⟨⟨fun b hb=>r.hc.own b (List.mem_append_left _ hb),r.hc.trk,(List.nodup_append.mp r.hc.nd).1,lenT,fun j b zs q1 q2=>?_⟩,fun j w e=>?_,fun b hb=>r.sub b (.inl hb),ots,fun b o n e=>?_,fun j xs a e1 e2=>?_,fun j k xs ys v e1 e2 e3 e4=>?_,r.frs,by simp [iE,r.len]⟩
 ·have hj:j < ts.length:=(List.getElem?_eq_some_iff.mp q1).1
  exact r.hc.tape j b zs (by rw [List.getElem?_append_left hj]; exact q1) (by rw [List.getElem?_append_left (by rw [← lenT]; exact hj)]; exact q2)
 ·obtain ⟨e1,hk⟩:=at_ e
  obtain ⟨v,h1,h2⟩:=r.re j w e1
  refine ⟨v,h1,?_⟩
  cases w with
  | d x=>exact h2
  | tp k=>
   obtain ⟨a,k1,k2⟩:=h2
   have:=hk k rfl
   exact ⟨a,by rw [List.getElem?_append_left (by rw [lenT]; exact this)] at k1; exact k1,k2⟩
  | loc x=>
   obtain ⟨a,k1,k2,k3,k4⟩:=h2
   exact ⟨a,k1,k2,fun z=>k3 (List.mem_append_left _ z),k4⟩
 ·refine r.same b o (fun z=>?_) e
  rcases List.mem_append.mp z with z | z
  ·exact n z
  ·rw [List.mem_singleton.mp z,h0] at e; cases e
 ·obtain ⟨f1,f2⟩:=r.fresh j xs a (at_ e1).1 e2
  exact ⟨f1,fun z=>f2 (.inl z)⟩
 ·exact r.dist j k xs ys v (at_ e1).1 (at_ e2).1 e3 e4
end
section
variable {X:Cx} {pos:Pos} {rest:List Stmt} {fr:FS}
theorem ze {i:Nat} {p:Addr} {vs:List V} {xs:List PyData} {D:Ends} {O₀:Addr→Prop} {H₀:Hp} {F:List ((Addr→Prop)×Hp)} {ts:List Addr} {O:Addr→Prop} {H:Hp} {σ:L2.St} {ρ:Rho} {T:Tp} {fl:Fl} {ρ':Rho} {T':Tp}
  (rs:RS X.K O₀ H₀ F ts O H σ ρ T) (hp:H p=none) (rv:Reps X.K O H vs xs) (e:iZ T.length (fr (ρ.set i (some (.tp T.length))) (T++[xs]))=some ((fl,ρ'),T')) (q:tJ X.K O₀ H₀ F ts D ρ' T' fl):nY X.K fr D (σ.set i (some (.ref p))) (upd H p (.lst vs)):=by
 have nO:=rs.hc.fresh hp
 have nt:p∉ts:=fun z=>nO (rs.hc.own _ z)
 have h0:H₀ p=none:=by
  cases e:H₀ p with
  | none=>rfl
  | some o=>rw [rs.same p o nt e] at hp; cases hp
 have n0:¬ O₀ p:=fun z=>nO (rs.sub p z)
 have rs1:=rs.openR (i:=i) hp rv
 generalize hE:fr (ρ.set i (some (.tp T.length))) (T++[xs])=E at e
 unfold iZ at e
 split at e
 ·rename_i fl1 ρ1 T3
  split at e
  ·rename_i T4 row hT
   split at e
   ·rename_i hlen
    have eT:=x8 hT
    subst eT
    cases e
    have lb:∀ {G:Hp},Le (fun b=>O₀ b∨b=p) G O₀ G:=fun a o n e=>⟨fun z=>n (.inl z),e⟩
    have lenB:∀ {G:Hp} {B:Addr→Prop},HC X.K B (ts++[p]) G (T'++[row])→ts.length=T'.length:=fun h=>by have:=h.len; simp at this; exact this
    have sameB:∀ {G:Hp},SameX (ts++[p]) H₀ G→SameX ts H₀ G:=fun s b o n e=>s b o (fun z=>by
     rcases List.mem_append.mp z with z | z
     ·exact n z
     ·rw [List.mem_singleton.mp z,h0] at e; cases e) e
    refine ⟨_,H₀,F,ts++[p],_,_,_,fl,ρ1,T'++[row],rs1,hE,?_⟩
    have lenE:T.length=T'.length:=hlen.symm
    cases fl with
    | nx=>exact fun O' σ' H' r=>q O' σ' H' (by rw [lenE]; exact RS.closeR rs.ots nt h0 n0 r)
    | bk=>exact fun O' σ' H' r=>q O' σ' H' (by rw [lenE]; exact RS.closeR rs.ots nt h0 n0 r)
    | ct=>exact fun O' σ' H' r=>q O' σ' H' (by rw [lenE]; exact RS.closeR rs.ots nt h0 n0 r)
    | rt y=>
     intro v H' s1 c1 r1
     refine q v H' (sameB s1) ⟨rs.ots,fun b hb=>c1.trk b (.inl hb),rs.hc.nd,lenB c1,fun j b zs q1 q2=>?_⟩ (Rep.mono lb r1)
     have hj:j < ts.length:=(List.getElem?_eq_some_iff.mp q1).1
     exact (c1.tape j b zs (by rw [List.getElem?_append_left hj]; exact q1) (by rw [List.getElem?_append_left (by rw [← lenB c1]; exact hj)]; exact q2)).mono (fun _ h=>h) lb
    | ro y=>
     intro A v H' s1 hA c1 o1
     have lb2:Le (fun b=>(O₀ b∨b=p)∨A b) H' (fun b=>O₀ b∨A b) H':=fun b o n e=>⟨fun z=>n (z.elim (fun z=>.inl (.inl z)) .inr),e⟩
     refine q A v H' (sameB s1) (fun b hb=>⟨(hA b hb).1,fun z=>(hA b hb).2 (.inl z)⟩) ⟨fun b hb=>.inl (rs.ots b hb),fun b hb=>c1.trk b (hb.elim (fun z=>.inl (.inl z)) .inr),rs.hc.nd,lenB c1,fun j b zs q1 q2=>?_⟩ (OwnV.mono lb2 o1)
     have hj:j < ts.length:=(List.getElem?_eq_some_iff.mp q1).1
     exact (c1.tape j b zs (by rw [List.getElem?_append_left hj]; exact q1) (by rw [List.getElem?_append_left (by rw [← lenB c1]; exact hj)]; exact q2)).mono (fun _ h=>h) lb2
   ·cases e
  ·cases e
 ·cases e
end
theorem xf:entryFor table "dict_itemiterator.__iter__" = some PySem.Builtin.«dict_keyiterator.__iter__»:=by kernel_rfl
theorem vV (v:Value):Meets (PySem.Builtin.«dict_keyiterator.__iter__» { pos:=[v] }) (fun _ R s=>R (.ok (.ret v)) s):=by
 intro prog w A R s h
 unfold PySem.Builtin.«dict_keyiterator.__iter__»
 refine wpAny_bind ?_
 unfold slotArgs
 simp only []
 rw [if_neg (by simp),if_neg (by simp)]
 exact wpAny_pure (wpAny_pure h)
def Iti (a:Addr) (o:Obj) (kvs:List (Key×V)):It:=⟨fun i H=>H a=some (.frz o (.dK kvs))∧i < kvs.length,fun i H x H'=>∃ p k v,H p=none∧kvs[i]? = some (k,v)∧x=.ref p∧H'=upd H p (.tup [kV k,v]),fun i H=>H a=some (.frz o (.dK kvs))∧i=kvs.length⟩
theorem A4 {kvs:List (Key×V)} {vs:List (Key×Value)}:∀ {i:Nat},KV kvs vs→i < kvs.length→∃ k v u,kvs[i]? = some (k,v)∧vs[i]? = some (k,u)∧RelV v u:=by
 intro i r h
 induction r generalizing i with
 | nil=>simp at h
 | cons r1 r2 ih=>
  cases i with
  | zero=>
   rename_i p q _ _
   refine ⟨p.1,p.2,q.2,rfl,?_,r1.2⟩
   rw [r1.1]
   rfl
  | succ i=>
   obtain ⟨k,v,u,h1,h2,h3⟩:=ih (i:=i) (by simpa using h)
   exact ⟨k,v,u,by simpa using h1,by simpa using h2,h3⟩
theorem vP {P:Program} {w:World} {K:Frag} {elts:List Expr} {x1:Nat} {tpos:Pos} (a it:Addr) (o:Obj) (kvs:List (Key×V)) :
  Turn P w K (.Tuple elts x1 tpos) (Iti a o kvs) [it] it (fun i h=>∃ ok ov,IsItemIter h it a i kvs.length (f9 o) ok ov) where
 mem:=by simp
 obj:=fun i h st b hb=>by
  have e:b=it:=by simpa using hb
  subst e
  obtain ⟨ok,ov,st⟩:=st
  exact ⟨_,st,fun v z=>by
   have z':Data.fields _=Data.cell v:=z
   cases z'⟩
 keep:=fun i h h' ⟨ok,ov,st⟩ k=>⟨ok,ov,k it (by simp) _ st⟩
 item:=by
  intro X hP hw hK hc i pins s σ H E I hf st hg
  subst hP hw hK
  obtain ⟨ok,ov,st⟩:=st
  obtain ⟨hg1,hg2⟩:=hg
  obtain ⟨z,y,vs,kv,dd⟩:=gr I.hok hg1
  obtain ⟨f0,f1,f2,f3,f4,f5⟩:=hf it (by simp)
  have hl:=kv.length
  obtain ⟨k,v0,u0,q1,q2,q3⟩:=A4 kv hg2
  rw [hl] at st
  refine wpAny_pyNext_items_item (knd:=bt X.prog X.w) st dd q2 fun key h' hk st' hT hsz hkeep=>?_
  refine ⟨.ref s.heap.objs.size,rfl,wpAny_letOwnedTupleGo_items st' fun h'' st'' hsb=>?_⟩
  have hit:it < s.heap.objs.size:=Heap.lt_size st
  have hne:s.heap.objs.size≠it:=Nat.ne_of_gt hit
  have hn:H s.heap.objs.size=none:=I.hok.fresh (Nat.le_refl _)
  have T1:IsTup (s.heap.push { cls:=.type "tuple",data:=.seq #[key,u0] }) s.heap.objs.size #[key,u0]:=IsTup.new ..
  have I1:Inv X pins σ (upd H s.heap.objs.size (.tup [kV k,v0])) { s with heap:=s.heap.push { cls:=.type "tuple",data:=.seq #[key,u0] } }:=
   I.laid (t':=s.toks) (o:=.tup [kV k,v0]) (fun b ob e=>Heap.get?_push_of_some _ e) (Nat.le_refl _) ⟨by show 2≤sizeLine; decide,[key,u0],.cons (ou hk) (.cons q3 .nil),T1⟩
  have K:∀ b ob,b≠it→(s.heap.push { cls:=.type "tuple",data:=.seq #[key,u0] }).get? b=some ob→h''.get? b=some ob:=fun b ob hb e=>by
   by_cases hbs:b=s.heap.objs.size
   ·subst hbs
    rw [Heap.get?_push_size _ (by rfl)] at e
    cases e
    exact (hsb.2 _ hb).trans hT
   ·have e0:s.heap.get? b=some ob:=by
     rw [← Heap.get?_push_ne _ _ _ hbs]
     exact e
    exact (hsb.2 b hb).trans (hkeep b ob hb e0)
  have I2:Inv X pins σ (upd H s.heap.objs.size (.tup [kV k,v0])) { s with heap:=h'' }:=Inv.turned (s:={ s with heap:=s.heap.push { cls:=.type "tuple",data:=.seq #[key,u0] } }) (t':=s.toks) (h':=h'') (it:=it) I1 K (by rw [aK (Ne.symm hne)]; exact f0) f1 f3 f4 f5
  refine ⟨.ref s.heap.objs.size,_,I2,rfl,⟨s.heap.objs.size,k,v0,hn,q1,rfl,rfl⟩,⟨_,_,by rw [hl]; exact st''⟩,fun b hb=>?_⟩
  have e:b=it:=by simpa using hb
  subst e
  rw [aK (Ne.symm hne)]
  exact f0
 done:=by
  intro X hP hw hK hc i pins s σ H E I hf st hg
  subst hP hw hK
  obtain ⟨ok,ov,st⟩:=st
  obtain ⟨hg1,hg2⟩:=hg
  obtain ⟨z,y,vs,kv,dd⟩:=gr I.hok hg1
  obtain ⟨f0,f1,f2,f3,f4,f5⟩:=hf it (by simp)
  have hl:=kv.length
  rw [hl] at st
  exact wpAny_pyNext_items_end (knd:=bt X.prog X.w) (I.ok.hd hc) st dd (by rw [List.getElem?_eq_none_iff]; omega) fun h' eb=>⟨rfl,I.turned (t':=s.toks) (fun b ob hb e=>eb b ob hb e) f0 f1 f3 f4 f5⟩
 self:=fun A i s Q E ⟨ok,ov,st⟩ h=>by
  have ty:s.TypeIs (.ref it) "dict_itemiterator":=⟨_,st,rfl⟩
  refine wpAny_pyIter_slot ty PySem.F.slot_dict_itemiterator_iter ?_
  exact call_meets PySem.F.slot_dict_itemiterator_iter ty xf (PySem.F.args_dict_itemiterator_iter_1 _) (vV _) ⟨"dict_itemiterator",_,ty,PySem.F.slot_dict_itemiterator_next.lookup,h⟩
section
variable {X:Cx} {pos:Pos}
def A9 (tl:TE):TI:=fun σ H R=>tl σ H fun x H1=>∃ a o kvs,x=.ref a∧H1 a=some (.frz o (.dK kvs))∧(kvs.length≤sizeLine→R (Iti a o kvs) H1)
theorem xD {ob:Expr} {tl:TE} {elts:List Expr} {x1:Nat} {tpos apos cpos:Pos} (ho:PE X ob tl) (hbase:attributeBase ob "items" X.env (eval ob X.env)=eval ob X.env:=by rfl) (hline:(apos.endLine == cpos.line)=true:=by rfl) :
  PI X (.Tuple elts x1 tpos) (.Call (.Attribute ob "items" apos) [] [] cpos) (A9 tl):=by
 intro pins s σ H R I h
 refine wpAny_Call_method0_late hbase hline (thn (ho pins s σ H _ I h) fun v s1 ⟨x,H1,I1,r1,a,o,kvs,ex,ha,q⟩=>?_)
 subst ex
 cases (show v=Value.ref a from r1)
 obtain ⟨z,y,vs,kv,dd⟩:=gr I1.hok ha
 have dOf:=dd.dictOf
 obtain ⟨od,_,_,eo,ex,_⟩:=id dOf
 refine ⟨"dict","dict.items",PySem.F.plainAttrs_dict,PySem.F.slot_dict_items,PySem.F.type_dict_items,⟨od,eo,ex.1⟩,fun b e2=>by cases e2; exact ⟨od,eo,ex.2.1⟩,Calls.callWith_builtin rfl (PySem.evalArgs_none ?_)⟩
 refine call_meetsIn PySem.F.slot_dict_items ⟨od,eo,ex.1⟩ PySem.F.entry_dict_items (PySem.F.args_dict_items_1 _) (meets_dict_items (bt X.prog X.w) a y) ⟨⟨vs,dOf⟩,?_⟩
 have I2:Inv X pins σ H1 { s1 with heap:=s1.heap.push { cls:=.type "dict_items",data:=.fields #[.ref a] } }:=I1.kept (t':=s1.toks) fun b ob e=>Heap.get?_push_of_some _ e
 obtain ⟨z2,y2,vs2,kv2,dd2⟩:=gr I2.hok ha
 refine wpAny_pyIter_items (knd:=bt X.prog X.w) (kvs:=vs2) (ep:=f9 o) ⟨_,Heap.get?_push_size _ (by rfl),rfl,rfl⟩ dd2 ?_
 have fk:∀ b∈[(s1.heap.push { cls:=.type "dict_items",data:=.fields #[.ref a] }).objs.size],cu X pins H1 b:=fun b hb=>by
  have e:b=(s1.heap.push { cls:=.type "dict_items",data:=.fields #[.ref a] }).objs.size:=List.mem_singleton.mp hb
  subst e
  exact I2.fpOk (Nat.le_refl _) (I2.hok.fresh (Nat.le_refl _))
 exact ⟨_,[_],_,_,H1,rfl,I2.kept (t':=s1.toks) fun b ob e=>Heap.get?_push_of_some _ e,vP a _ o kvs,⟨.none,.none,by rw [kv2.length]; exact Heap.get?_push_size _ (by rfl)⟩,fk,q z⟩
def fj (i j:Nat) (body:FS):List (PyData×PyData)→FS
 | []=>aC
 | d::r=>fun ρ T=>bnd (body ((ρ.set i (some (.d d.1))).set j (some (.d d.2))) T) fun p T1=>match p with
  | (.nx,ρ1)=>fj i j body r ρ1 T1
  | (.ct,ρ1)=>fj i j body r ρ1 T1
  | (.bk,ρ1)=>some ((.nx,ρ1),T1)
  | (.rt x,ρ1)=>some ((.rt x,ρ1),T1)
  | (.ro x,ρ1)=>some ((.ro x,ρ1),T1)
def tD (i j:Nat) (body:FS) (ρ:Rho) (w:W) (T:Tp):Option ((Fl×Rho)×Tp):=match w with
 | .d (.dict ds)=>fj i j body ds ρ T
 | _=>none
def k9 (i j:Nat) (f:FE) (body:FS):FS:=fun ρ T=>bnd (f ρ T) (tD i j body ρ)
theorem qS {K:Frag} {O:Addr→Prop} {H:Hp}:∀ {kvs:List (Key×V)} {ds:List (PyData×PyData)} {i:Nat} {k:Key} {v:V},RepK K O H kvs ds→kvs[i]? = some (k,v)→∃ d,ds[i]? = some (cV k,d)∧Rep K O H v d
 | _,_,_,_,_,.nil,e=>by simp at e
 | _,_,0,_,_,.cons r _,e=>by simp at e; obtain ⟨rfl,rfl⟩:=e; exact ⟨_,rfl,r⟩
 | _,_,i + 1,k,v,.cons _ t,e=>by
  obtain ⟨d,h1,h2⟩:=qS (i:=i) t (by simpa using e)
  exact ⟨d,by simpa using h1,h2⟩
theorem zY {i j:Nat} {x y:Str} {ob:Expr} {f:FE} {g:FS} {body:List Stmt} {k:Nat} {px py tpos apos cpos:Pos} (hN:X.N.Nodup) (ho:DE X ob f) (hb:DSs X body g) (hi:X.N[i]? = some x:=by rfl) (hj:X.N[j]? = some y:=by rfl) (hx:Loc X.env.scope x:=by first | exact Or.inl rfl | exact Or.inr rfl) (hy:Loc X.env.scope y:=by first | exact Or.inl rfl | exact Or.inr rfl)
  (hf:X.fn x=true∨X.env.scope.names.lookup x=some .local:=by first | exact .inl rfl | exact .inr rfl | assumption) (hf':X.fn y=true∨X.env.scope.names.lookup y=some .local:=by first | exact .inl rfl | exact .inr rfl | assumption) (hp:PassesOwn (model X.prog X.w) X.A X.env X.xe:=by exact PassesOwn.never) (hc:X.calm=true:=by rfl)
  (hbase:attributeBase ob "items" X.env (eval ob X.env)=eval ob X.env:=by rfl) (hline:(apos.endLine == cpos.line)=true:=by rfl) (hs:∀ v,foldedSetIterable (.Call (.Attribute ob "items" apos) [] [] cpos) X.env v=pure v:=by intro _; rfl) :
  DS X (.For (.Tuple [.Name x px,.Name y py] k tpos) (.Call (.Attribute ob "items" apos) [] [] cpos) body [] pos) (k9 i j f g):=by
 refine ⟨?_⟩
 refine bw (nu hp hc (xD ho.pe hbase hline) (ku hc (fH (eL hN hi hx hf) (fH (eL hN hj hy hf') j4))) hb.pe hs) fun D σ H=>?_
 rintro ⟨O₀,H₀,F,ts,O,ρ,T,fl,ρ',T',rs,e,q⟩
 obtain ⟨w,T1,e1,e⟩:=aG e
 unfold tD at e
 split at e
 ·rename_i ds
  refine ⟨O,ts,ρ,T,_,T1,rs.hc,rs.re,e1,fun v H1 s1 hc1 r1=>?_⟩
  have r1':Rep X.K O H1 v (.dict ds):=r1
  cases r1' with
  | @dct a o kvs _ nO ha rk=>
   refine ⟨a,o,kvs,rfl,ha,fun hz=>?_⟩
   have hlen:=jO rk
   refine ⟨fun n m σ H=>m=ds.length - n∧n≤ds.length∧∃ O' ρk Tk,RS X.K O₀ H₀ ((O,H1)::F) ts O' H σ ρk Tk∧fj i j g (ds.drop n) ρk Tk=some ((fl,ρ'),T'),⟨_,rfl,Nat.zero_le _,O,ρ,T1,(rs.step s1 hc1).more,e⟩,?_⟩
   rintro n m σ2 H2 ⟨rfl,hk,O',ρk,Tk,rs2,ek⟩
   have le:=rs2.frs _ List.mem_cons_self
   have ha2:=le a _ nO ha
   by_cases hlt:n < ds.length
   ·refine .inr ⟨⟨ha2.2,by omega⟩,fun σ3 H3=>∃ O' ρk Tk,RS X.K O₀ H₀ ((O,H1)::F) ts O' H3 σ3 ρk Tk∧fj i j g (ds.drop (n + 1)) ρk Tk=some ((fl,ρ'),T'),fun σ3 H3 nn=>⟨ds.length - (n + 1),by omega,rfl,hlt,nn⟩,fun v H3 yy=>?_⟩
    obtain ⟨p,k',v',hpn,hkv,rfl,rfl⟩:=yy
    obtain ⟨d,hd,rd⟩:=qS rk hkv
    have hdr:ds.drop n=(cV k',d)::ds.drop (n + 1):=by
     rw [List.drop_eq_getElem_cons hlt]
     have:=(List.getElem?_eq_some_iff.mp hd).2
     rw [this]
    rw [hdr] at ek
    obtain ⟨⟨fl1,ρ1⟩,T3,e3,ek⟩:=aG ek
    have rs3:=rs2.step (.new hpn (.tup [kV k',v'])) (rs2.hc.new hpn _)
    have rd3:Rep X.K O' (upd H2 p (.tup [kV k',v'])) v' d:=Rep.mono (le.trans (rs2.hc.leNew hpn _)) rd
    refine ⟨p,_,rfl,SqT.of br,rfl,_,_,rfl,_,_,rfl,rfl,O₀,H₀,(O,H1)::F,ts,O',_,Tk,fl1,ρ1,T3,(rs3.set (i:=i) (w:=.d (cV k')) (mD k') (fun _ z=>nomatch z)).set (i:=j) (w:=.d d) rd3 (fun _ z=>nomatch z),e3,?_⟩
    cases fl1 with
    | nx=>exact fun O3 σ3 H3 rs3=>⟨O3,ρ1,T3,rs3,ek⟩
    | ct=>exact fun O3 σ3 H3 rs3=>⟨O3,ρ1,T3,rs3,ek⟩
    | bk=>
     cases ek
     exact fun O3 σ3 H3 rs3=>q O3 σ3 H3 rs3.less
    | rt x=>
     cases ek
     exact q
    | ro x=>
     cases ek
     exact q
   ·have e:n=ds.length:=by omega
    subst e
    rw [List.drop_eq_nil_of_le (Nat.le_refl _)] at ek
    cases ek
    exact .inl ⟨⟨ha2.2,hlen.symm⟩,q O' σ2 H2 rs2.less⟩
 ·cases e
end
section
variable {X:Cx}
end
theorem yc {P:Program} {w:World} {K:Frag} {mg:Str→Option Value} {base:Heap} {CX:CXT} {k:Nat} {f:Addr} {fd:FuncData} {ps:List Str} {sp sp':Sp} (F:FnOk P w K mg base CX k f fd ps sp) (i:∀ vs H Q E,sp' vs H Q E→sp vs H Q E):FnOk P w K mg base CX k f fd ps sp':=⟨fun vs H Q E h=>F.1 vs H Q E (i _ _ _ _ h),fun A outer s H args us vs Q E a b c d h=>F.2 A outer s H args us vs Q E a b c d (i _ _ _ _ h)⟩
theorem wU {K:Frag} {m:FnM} (hm:∀ ns:List Int,ns.length≤63→∃ T',m [.d (ko ns)] []=some (.bool true,T')):∀ vs H Q E,kO K vs H Q E→spM K 1 m vs H Q E:=by
 intro vs H Q E h
 obtain ⟨a,ns,rfl,hS,hl,q⟩:=h
 obtain ⟨T',e⟩:=hm ns hl
 have ra:LstAt K (fun _=>False) H a (ns.map V.int):=by
  rcases hS with h | h
  ·exact .inl ⟨fun z=>z,h⟩
  ·exact .inr (.inr h)
 refine ⟨fun _=>False,[],[],[.d (ko ns)],.bool true,T',⟨fun b hb=>(by cases hb),fun b hb=>hb.elim,List.nodup_nil,rfl,fun i a xs e1 _=>by simp at e1⟩,.cons (show Rep K (fun _=>False) H (.ref a) (ko ns) from .lst ra (pH ns)) .nil,rfl,e,fun v H' _ _ r=>?_⟩
 cases r
 exact q H'
def CL:PyData→PyData→Option PyData:=iop fun i j=>if 0≤j then some (.int (i / 2 ^ j.toNat)) else none
@[simp] theorem Ed {i j:Int}:CL (.int i) (.int j)=if 0≤j then some (.int (i / 2 ^ j.toNat)) else none:=rfl
section
variable {X:Cx}
theorem xV:MtR X "str.join" (fun x vs H Q=>∃ (z:Str) (l:Addr) (ys:List Str),x=.str z∧vs=[.ref l]∧SqT X.K H l (ys.map V.str)∧(ys.map (·.length)).sum + ys.length * z.length≤16777216∧Q (.str (Str.join z ys)) H):=by
 intro pins s σ H x vs v us Q I rx rv h
 obtain ⟨z,l,ys,rfl,rfl,hq,hz,q⟩:=h
 obtain ⟨t,rfl⟩:=rx
 obtain ⟨u,rfl,ru⟩:=vals1 rv
 cases ru
 obtain ⟨its,rw',pl,_⟩:=I.tuple hq
 refine join_tuple (ys:=ys) pl (by simpa using oV rw') hz fun t' k=>⟨.str _,H,I.tok _,⟨t',?_⟩,q⟩
 show Value.str (Builtin.Str.glued z ys) t'=_
 rw [StrLaws.glued_eq_join]
theorem tL {K:Frag} {O:Addr→Prop} {ts:List Addr} {H:Hp} {T:Tp} {v:V} {w:W} {z:Str} (r:RepW K O ts H v w) (h:view T w=some (.str z)):v=.str z:=by
 cases w with
 | d x=>cases h; cases (show Rep K O H v _ from r); rfl
 | tp k=>
  have h1':(T[k]?).bind iH=some (PyData.str z):=h
  cases hk:T[k]? with
  | none=>rw [hk] at h1'; cases h1'
  | some xs=>
   rw [hk] at h1'
   have e2:(if isO xs=true then none else some (PyData.list xs))=some (PyData.str z):=h1'
   split at e2 <;> cases e2
 | loc zs=>cases zs <;> cases h
def jw:PyData→PyData→Option PyData
 | .str z,.list xs=>match cc xs with
  | some ys=>if (ys.map (·.length)).sum + ys.length * z.length≤16777216 then some (.str (Str.join z ys)) else none
  | none=>none
 | .str z,.tuple xs=>match cc xs with
  | some ys=>if (ys.map (·.length)).sum + ys.length * z.length≤16777216 then some (.str (Str.join z ys)) else none
  | none=>none
 | _,_=>none
theorem qB {o e:Expr} {fo fe:FE} {apos cpos:Pos} (ho:DE X o fo) (he:DE X e fe)
  (hbase:attributeBase o "join" X.env (eval o X.env)=eval o X.env:=by rfl)
  (hfew:((backTo cpos (starEach [e] X.env)).all (fun x=>!x.1) && (backToKw cpos (keywordEach [] X.env)).all (fun x=>x.1.isSome)
   && decide (([e]:List Expr).length + ([]:List Keyword).length + (if ([]:List Keyword).isEmpty then 0 else 1) < 30))=true:=by exact g4 rfl)
  (hline:(apos.endLine == cpos.line)=true:=by rfl) (hse:starEach [e] X.env=(false,eval e X.env)::starEach [] X.env:=by exact bq rfl) (hplain:(backTo cpos (starEach [] X.env)).any (·.1)=false:=by exact bD rfl) :
  DE X (.Call (.Attribute o "join" apos) [e] [] cpos) (af jw fo fe):=by
 refine ⟨?_⟩
 refine bx (fR PySem.F.plainAttrs_str PySem.F.slot_str_join PySem.F.type_str_join (mt_joinG.or xV) ho.pe (bV he.pe cG hse) hbase hfew hline hse hplain) fun σ H Q=>?_
 rintro ⟨O,ts,ρ,T,w,T',hc,re,e,q⟩
 obtain ⟨w1,T1,e1,e⟩:=aG e
 obtain ⟨w2,T2,e2,e⟩:=aG e
 obtain ⟨x,y,d,h1,h2,h3,rfl,rfl⟩:=ig e
 unfold jw at h3
 refine ⟨O,ts,ρ,T,w1,T1,hc,re,e1,fun v1 H1 s1 hc1 r1=>?_⟩
 split at h3
 ·rename_i z xs
  split at h3
  ·rename_i ys hy
   split at h3
   ·rename_i hz
    cases h3
    have ev:=tL r1 h1
    subst ev
    refine ⟨rfl,O,ts,ρ,T1,w2,T',hc1,re.mono hc s1,e2,fun v2 H2 s2 hc2 r2=>?_⟩
    obtain ⟨a,vs,rfl,t,r⟩:=(hc2.view r2 h2).lst
    rw [iX r hy] at t
    exact .inl ⟨z,a,ys,rfl,rfl,t,hz,q _ H2 (s1.trans s2) hc2 (.str _)⟩
   ·cases h3
  ·cases h3
 ·rename_i z xs
  split at h3
  ·rename_i ys hy
   split at h3
   ·rename_i hz
    cases h3
    have ev:=tL r1 h1
    subst ev
    refine ⟨rfl,O,ts,ρ,T1,w2,T',hc1,re.mono hc s1,e2,fun v2 H2 s2 hc2 r2=>?_⟩
    obtain ⟨a,vs,rfl,t,r⟩:=(hc2.view r2 h2).tup
    have t:=t.sq
    rw [iX r hy] at t
    exact .inr ⟨z,a,ys,rfl,rfl,t,hz,q _ H2 (s1.trans s2) hc2 (.str _)⟩
   ·cases h3
  ·cases h3
 ·cases h3
end
end D
namespace L2
open PySem PySem.Spec PyProof.Rows
structure CSn (osc:Scope) (N:List Str) (xs:List Str) (scope:Scope) (N':List Str):Prop where
 kind:scope.kind=.function
 nocell:∀ y∈scope.names,y.2≠.cell
 names:∀ y∈scope.names,y.2=.local→scope.names.lookup y.1=some .local
 hx:∀ x∈xs,scope.names.lookup x=some .local
 only:∀ y∈scope.names,y.2=.local→y.1∈xs∨y.1 = ".0"
 free:∀ y∈scope.names,y.2=.free→osc.names.lookup y.1=some .cell∨osc.names.lookup y.1=some .free
 nd:(xs++N').Nodup
 n0:(".0" : Str)∉N'
 len:N'.length=N.length
 rel:∀ p∈N'.zip N,p.1=p.2∨∀ q∈scope.names,q.1≠p.1
theorem CSn.at {osc:Scope} {N N':List Str} {xs:List Str} {scope:Scope} (S:CSn osc N xs scope N') {j:Nat} {y:Str} (h:N'[j]? = some y):N[j]? = some y∨∀ q∈scope.names,q.1≠y:=by
 have hl:j < N'.length:=(List.getElem?_eq_some_iff.mp h).1
 have hl2:j < N.length:=by rw [← S.len]; exact hl
 have m:(N'.zip N)[j]? = some (y,N[j]):=by
  rw [List.getElem?_zip_eq_some]
  exact ⟨h,List.getElem?_eq_getElem hl2⟩
 rcases S.rel _ (List.mem_of_getElem? m) with z | z
 ·left
  rw [List.getElem?_eq_getElem hl2]
  exact congrArg some z.symm
 ·exact .inr z
abbrev cQ (X:Cx) (xs:List Str) (scope:Scope) (C:Addr) (s0:Shared) (H0:Hp) (ex:List Addr) (N':List Str):Cx where
 prog:=X.prog
 w:=X.w
 K:=X.K
 mg:=X.mg
 base:=X.base
 A:=X.A
 N:=xs++N'
 s₀:=s0
 H₀:=H0
 env:=compEnvC scope (bv X.env scope.names []) C X.env
 outer:=X.stack
 stack:=X.stack
 ex:=ex
 fn:=fun _=>false
 calm:=X.calm
 pn:=[]
 xe:=fun _ _=>False
section
variable {X:Cx} {pins:List (Addr×Obj)} {σ:St} {H:Hp} {s:Shared} {xs:List Str} {scope:Scope} {N':List Str}
theorem pS (I:Inv X pins σ H s) (S:CSn X.env.scope X.N xs scope N'):∀ y∈scope.names,y.2=.free→∃ c,X.env.cells.lookup y.1=some c:=fun y hy e=>
 I.ok.has y.1 (S.free y hy e)
theorem pj (I:Inv X pins σ H s) (S:CSn X.env.scope X.N xs scope N') {y:Str} {c:Addr} (e:(bv X.env scope.names []).lookup y=some c):X.env.cells.lookup y=some c:=lG scope.names [] y c (fun _ _ z=>by simp at z) (pS I S) e
theorem pY (I:Inv X pins σ H s) (S:CSn X.env.scope X.N xs scope N') {y:Str} (e:(y,NameKind.free)∈scope.names):∃ c,(bv X.env scope.names []).lookup y=some c∧X.env.cells.lookup y=some c:=by
 obtain ⟨c,hc⟩:=Option.isSome_iff_exists.mp (lI (env:=X.env) scope.names [] y e)
 exact ⟨c,hc,pj I S hc⟩
theorem vJ {fp:List Addr} {h':Heap} {m:Str→Option Value} {tk:Nat} {oD oC:Obj} (I:Inv X pins σ H s) (S:CSn X.env.scope X.N xs scope N') (hf:∀ b∈fp,cu X pins H b) (ho:∀ b∈fp,∃ o,s.heap.get? b=some o)
  (hns:h'.Ns (s.heap.push oD).objs.size m) (hsb:Heap.SameBut (s.heap.push oD).objs.size ((s.heap.push oD).push oC) h') :
  Inv (cQ X xs scope (s.heap.push oD).objs.size { s with heap:=s.heap.push oD } H (s.heap.objs.size::fp) N') [] (List.replicate xs.length none++σ) H { s with heap:=h',toks:=tk }:=by
 have I3:Inv X pins σ H { s with heap:=s.heap.push oD,toks:=s.toks }:=I.kept fun b o e=>Heap.get?_push_of_some _ e
 have hC:(s.heap.push oD).objs.size=s.heap.objs.size + 1:=Heap.size_push ..
 have up3:∀ b o,(s.heap.push oD).get? b=some o→h'.get? b=some o:=fun b o e=>
  (hsb.2 b (Nat.ne_of_lt (Heap.lt_size e))).trans (Heap.get?_push_of_some _ e)
 have up:∀ b o,s.heap.get? b=some o→h'.get? b=some o:=fun b o e=>up3 b o (Heap.get?_push_of_some _ e)
 have cl:=fun {y c} e=>pj (y:=y) (c:=c) I S e
 have clt:∀ y c,X.env.cells.lookup y=some c→c < s.heap.objs.size:=fun y c e=>let ⟨v,q⟩:=I.cell y c e; q.lt
 have inner:∀ {y:Str} {k':NameKind},(relabel scope X.env).names.lookup y=some k'→(k'=.cell∨k'=.free)→(y,NameKind.free)∈scope.names:=fun {y k'} e hk=>by
  obtain ⟨k,mem,r⟩:=hG e
  rcases r with r | ⟨r,_⟩
  ·rcases hk with z | z
   ·exact absurd (r.symm.trans z) (S.nocell _ mem)
   ·rw [← r.symm.trans z]; exact mem
  ·rw [← r]; exact mem
 have ok:(cQ X xs scope (s.heap.push oD).objs.size { s with heap:=s.heap.push oD } H (s.heap.objs.size::fp) N').Ok:=by
  refine ⟨I.ok.mod,S.kind,I.ok.glob,I.ok.blt,Nat.le_refl _,fun y z c e1 e2=>I.ok.inj y z c (cl e1) (cl e2),fun y hk=>?_,fun y c e=>(nomatch e),I.ok.hd,I.ok.frames,.inl rfl,fun b hb=>?_,fun b o e=>?_,
   Nat.le_trans (Nat.le_trans I.ok.bsz I.sz) (by show s.heap.objs.size≤(s.heap.push oD).objs.size; omega),fun b o e hb=>?_,fun b hb z=>?_,I3.stack,I.stkFree⟩
  ·have mem:(y,NameKind.free)∈scope.names:=by
    rcases hk with z | z
    ·exact inner z (.inl rfl)
    ·exact inner z (.inr rfl)
   obtain ⟨c,hc,_⟩:=pY I S mem
   exact ⟨c,hc⟩
  ·rcases List.mem_cons.mp hb with e | e
   ·subst e
    exact ⟨by show s.heap.objs.size≠(s.heap.push oD).objs.size; omega,fun y c e=>Nat.ne_of_lt (clt y c (cl e))⟩
   ·obtain ⟨o,q⟩:=ho b e
    have q2:=Heap.lt_size q
    exact ⟨by show b≠(s.heap.push oD).objs.size; rw [hC]; exact Nat.ne_of_lt (Nat.lt_succ_of_lt q2),fun y c e'=>(hf b e).2.2.2.2.1 y c (cl e')⟩
  ·exact ⟨Heap.get?_push_of_some _ (I.bs b o e).1,(I.bs b o e).2⟩
  ·rcases List.mem_cons.mp hb with z | z
   ·have q2:=Heap.lt_size (I.bs b o e).1
    rw [z] at q2
    exact Nat.lt_irrefl _ q2
   ·rcases (hf b z).2.2.2.1 with q | q
    ·exact I.ok.noex b o e q
    ·have q2:=Heap.lt_size (I.ok.bs b o e).1
     exact Nat.lt_irrefl _ (Nat.lt_of_lt_of_le q2 q)
  ·have z':=I.stkSub b z
   rcases List.mem_cons.mp hb with e | e
   ·subst e
    rcases List.mem_cons.mp z' with q | q
    ·have q2:=I.lt
     rw [← q] at q2
     exact Nat.lt_irrefl _ q2
    ·exact I.nofs (Nat.le_refl _) q
   ·rcases List.mem_cons.mp z' with q | q
    ·exact (hf b e).2.1 q
    ·exact (hf b e).2.2.1 q
 obtain ⟨mo,hno,hlo⟩:=I.loc
 refine ⟨ok,rfl,I.bare,Un.kept up3,⟨m,hns,fun i y v e1 e2 e3=>?_⟩,fun y c e=>?_,I.hok.fresh (by show s.heap.objs.size≤(s.heap.push oD).objs.size; omega),fun y c e=>I.freeC y c (cl e),fun p hp=>absurd hp (by simp),I.hok.kept up,?_⟩
 ·by_cases hi:i < xs.length
  ·rw [List.getElem?_append_left (by simpa using hi)] at e2
   have:=List.mem_of_getElem? e2
   rw [List.mem_replicate] at this
   cases this.2
  ·obtain ⟨j,rfl⟩:∃ j,i=xs.length + j:=⟨i - xs.length,by omega⟩
   have e1n:N'[j]? = some y:=by
    have e1':(xs++N')[xs.length + j]? = some y:=e1
    rw [List.getElem?_append_right (by omega)] at e1'
    simpa using e1'
   have vis:∃ k,(y,k)∈scope.names:=by
    rcases (show Vis (relabel scope X.env) y from e3) with z | z | z <;> exact let ⟨k,mem,_⟩:=hG z; ⟨k,mem⟩
   have e1':X.N[j]? = some y:=by
    rcases S.at e1n with z | z
    ·exact z
    ·obtain ⟨k,mem⟩:=vis
     exact absurd rfl (z _ mem)
   have e2':σ[j]? = some (some v):=by
    rw [List.getElem?_append_right (by simp)] at e2
    simpa using e2
   have yx:y∉xs:=fun z=>(List.nodup_append.mp S.nd).2.2 y z y (List.mem_of_getElem? e1n) rfl
   have kin:((relabel scope X.env).names.lookup y=some .cell∨(relabel scope X.env).names.lookup y=some .free):=by
    rcases (show Vis (relabel scope X.env) y from e3) with z | z | z
    ·obtain ⟨k,mem,r⟩:=hG z
     rcases r with r | ⟨_,r⟩
     ·rcases S.only _ mem r.symm with z2 | z2
      ·exact absurd z2 yx
      ·exact absurd (List.mem_of_getElem? e1n) (by rw [show y=(".0" : Str) from z2]; exact S.n0)
     ·cases r
    ·exact .inl z
    ·exact .inr z
   have mem:(y,NameKind.free)∈scope.names:=by
    rcases kin with z | z
    ·exact inner z (.inl rfl)
    ·exact inner z (.inr rfl)
   have vo:Vis X.env.scope y:=by
    rcases S.free _ mem rfl with z | z
    ·exact .inr (.inl z)
    ·exact .inr (.inr z)
   obtain ⟨u,ru,lk⟩:=hlo j y v e1' e2' vo
   refine ⟨u,ru,.inr ⟨kin,?_⟩⟩
   obtain ⟨c,hc,hc'⟩:=pY I S mem
   refine ⟨c,hc,?_⟩
   rcases lk with ⟨z,_⟩ | ⟨_,c2,z2,q⟩
   ·exfalso
    have z':X.env.scope.names.lookup y=some .local:=z
    rcases S.free _ mem rfl with r | r <;> (rw [z'] at r; cases r)
   ·rw [hc'] at z2
    cases z2
    obtain ⟨o,q1,q2⟩:=q
    exact ⟨o,up _ _ q1,q2⟩
 ·obtain ⟨v,o,q1,q2⟩:=I.cell y c (cl e)
  exact ⟨v,o,up _ _ q1,q2⟩
 ·have:=I.len
  show (List.replicate xs.length none++σ).length=(xs++N').length
  simp [this,S.len]
theorem vI {fp:List Addr} {σ':St} {pins':List (Addr×Obj)} {H1:Hp} {s1:Shared} {h':Heap} {C:Addr} {oD:Obj} {ys:List V} (I:Inv X pins σ H s) (hf:∀ b∈fp,cu X pins H b)
  (hCd:C=(s.heap.push oD).objs.size) (J:Inv (cQ X xs scope C { s with heap:=s.heap.push oD } H (s.heap.objs.size::fp) N') pins' σ' H1 s1) (hsb:Heap.SameBut C s1.heap h') (hD0:H1 s.heap.objs.size=none)
  (new:∃ its n,Vals ys its∧s1.heap.get? s.heap.objs.size=some { cls:=.type "list",data:=.seq its.toArray n }) (hz:ys.length≤sizeLine) :
  Inv X pins σ (upd H1 s.heap.objs.size (.lst ys)) { s1 with heap:=h' }:=by
 have hC:C=s.heap.objs.size + 1:=by rw [hCd]; exact Heap.size_push ..
 have nD:∀ b o,s.heap.get? b=some o→b≠s.heap.objs.size:=fun b o e=>Nat.ne_of_lt (Heap.lt_size e)
 have nC:∀ b o,s.heap.get? b=some o→b≠C:=fun b o e=>by rw [hC]; exact Nat.ne_of_lt (Nat.lt_succ_of_lt (Heap.lt_size e))
 have up:∀ b o,s.heap.get? b=some o→(s.heap.push oD).get? b=some o:=fun b o e=>Heap.get?_push_of_some _ e
 have nx:∀ b,b∉fp→b≠s.heap.objs.size→b∉s.heap.objs.size::fp:=fun b h1 h2 z=>(List.mem_cons.mp z).elim h2 h1
 have hDC:s.heap.objs.size≠C:=by rw [hC]; exact Nat.ne_of_lt (Nat.lt_succ_self _)
 have tr:∀ b u,H1 b=some u→b≠s.heap.objs.size:=fun b u e z=>by rw [z,hD0] at e; cases e
 have trC:∀ b u,H1 b=some u→b≠C:=fun b u e z=>by
  have:=J.free
  rw [z] at e
  have q:H1 C=none:=J.free
  rw [q] at e; cases e
 obtain ⟨its,n,rv,eD⟩:=new
 have B:Un (frs X.stack) (s.heap.objs.size::fp) H H1 (s.heap.push oD) s1.heap:=J.base
 refine I.call' (s':={ s1 with heap:=h' }) (ch:=fp) J.os ⟨fun b o e q h1 h2=>?_,fun b o e q h1 h2=>?_,fun b o e q h2=>?_,fun b o e h2=>?_,fun b xs e=>?_,fun b o u e=>?_,fun b ps e=>?_⟩ (fun b u e=>?_) J.bare fun b hb=>?_
 ·exact (hsb.2 b (nC b o e)).trans (B.keep b o (up b o e) q h1 (nx b h2 (nD b o e)))
 ·obtain ⟨sl,z⟩:=B.slot b o (up b o e) q h1 (nx b h2 (nD b o e))
  exact ⟨sl,(hsb.2 b (nC b o e)).trans z⟩
 ·rw [aK (nD b o e)]
  exact B.free b o (up b o e) q (nx b h2 (nD b o e))
 ·obtain ⟨o',z⟩:=B.there b o (up b o e) (nx b h2 (nD b o e))
  exact ⟨o',(hsb.2 b (nC b o e)).trans z⟩
 ·have z:=B.tups b xs e
  rw [aK (tr b _ z)]; exact z
 ·have z:=B.frzs b o u e
  rw [aK (tr b _ z)]; exact z
 ·obtain ⟨more,z⟩:=B.tbls b ps e
  exact ⟨more,by rw [aK (tr b _ z)]; exact z⟩
 ·by_cases hb:b=s.heap.objs.size
  ·subst hb
   rw [br] at e
   cases e
   exact ⟨hz,its,n,rv,(hsb.2 _ hDC).trans eD⟩
  ·rw [aK hb] at e
   refine (J.hok b u e).stay (fun c v hc q=>(hsb.2 c ?_).trans q) (fun c q=>by rw [aK (tr c _ q)]; exact q) fun c xs q=>by rw [aK (tr c _ q)]; exact q
   rcases hc with z | z
   ·rw [z]; exact trC b u e
   ·exact trC c _ z
 ·obtain ⟨_,f1,_,f3,f4,f5⟩:=hf b hb
  exact ⟨f3,f1,f4,f5⟩
end
theorem vK {prog:Program} {w:World} {A:Around} {R:Result→Shared→Prop} {s:Shared} {elt tg iter:Expr} {ifs:List Expr} {scope:Scope} {pos:Pos} {it acc:Value} {env:Env} (I:Nat→Shared→Prop)
  (turn:∀ n s,I n s→wpAny (model prog w) A (pyNext it) (fun r s1=>match r with
   | none=>R (.ok .next) s1
   | some v=>wpAny (model prog w) A (letOwnedTupleGo tg it v) (fun _ s2=>wpAny (model prog w) A (assign tg env v) (fun _ s2=>
     wpAny (model prog w) A (forIn ifs true fun c r=>if r=true then do
      let ok ← isTrue c env (eval c env)
      pure (ForInStep.yield ok) else pure (ForInStep.yield r)) (fun ok s3=>
      if ok=true then wpAny (model prog w) A (eval elt env) (fun x s4=>wpAny (model prog w) A (call (.builtin "list.append") [acc,x]) (fun _ s5=>∃ m,m < n∧I m s5)
       (notedBy (model prog w) A env fun e s'=>R (.error e) s') s4) (notedBy (model prog w) A env fun e s'=>R (.error e) s') s3
      else ∃ m,m < n∧I m s3) (notedBy (model prog w) A env fun e s'=>R (.error e) s') s2) (notedBy (model prog w) A env fun e s'=>R (.error e) s') s2) (notedBy (model prog w) A env fun e s'=>R (.error e) s') s1) (notedBy (model prog w) A env fun e s'=>R (.error e) s') s)
  (n:Nat) (h:I n s):codeAny (model prog w) A (.compLoop (.ListComp elt [⟨tg,iter,ifs,0⟩] scope pos) 0 it acc env) R s:=by
 refine codeAny_loop rfl I (fun n s hI=>wpAny_noted ?_) n h
 rw [compTurn_list]
 refine wpAny_bind (wpAny_standAt (wpAny_bind (thn (turn n s hI) fun r s1 h1=>?_)))
 cases r with
 | none=>exact wpAny_pure h1
 | some v=>
  refine wpAny_bind (thn h1 fun _ s2 h2=>wpAny_bind (thn h2 fun _ s3 h3=>wpAny_bind (thn h3 fun ok s4 h4=>?_)))
  cases ok with
  | false=>exact wpAny_pure ⟨rfl,h4⟩
  | true=>exact wpAny_bind (wpAny_bind (thn h4 fun x s5 h5=>wpAny_bind (thn h5 fun _ s6 h6=>wpAny_pure (wpAny_pure ⟨rfl,h6⟩))))
def nN (n:Nat) (g:TG) (σ:St) (J:It) (tt:TT) (te:TE) (W:Nat→Nat→List V→Hp→Prop) (D:List V→Hp→Prop):Prop:=∀ i m ys H,W i m ys H →
 (J.stop i H∧ys.length≤sizeLine∧D ys H)∨(J.go i H∧ys.length < sizeLine∧∃ N:List V→Hp→Prop,(∀ ys' H',N ys' H'→∃ m',m' < m∧W (i + 1) m' ys' H')∧∀ v H',J.yld i H v H'→∀ σx:St,σx.length=n→g v (σx++σ) H' fun σ1 H1=>(∃ σy:St,σy.length=n∧σ1=σy++σ)∧tt σ1 H1 fun b H2=>
  if b=true then te σ1 H2 fun y H3=>N (ys++[y]) H3 else N ys H2)
section
variable {X:Cx} {pins:List (Addr×Obj)} {σ:St} {H:Hp} {s:Shared} {xs:List Str} {scope:Scope} {N':List Str}
theorem v6 {fp:List Addr} {it C:Addr} {tn:Nat→Heap→Prop} {J:It} {oD:Obj} {elt iter:Expr} {ifs:List Expr} {pos:Pos} {tg:Expr} {g:TG} {te:TE} {tt:TT} {W:Nat→Nat→List V→Hp→Prop} {Dn:List V→Hp→Prop}
  {R:Result→Shared→Prop} {σ':St} {s4:Shared} {m0:Nat} (hcalm:X.calm=true) (S:CSn X.env.scope X.N xs scope N') (hf:∀ b∈fp,cu X pins H b) (ho:∀ b∈fp,∃ o,s.heap.get? b=some o) (hCd:C=(s.heap.push oD).objs.size)
  (T:Turn X.prog X.w X.K tg J fp it tn) (I4:Inv (cQ X xs scope C { s with heap:=s.heap.push oD } H (s.heap.objs.size::fp) N') [] (List.replicate xs.length none++σ) H s4) (st4:tn 0 s4.heap) (hD4:s4.heap.get? s.heap.objs.size=some { cls:=.type "list",data:=.seq #[] 0 })
  (hDn:H s.heap.objs.size=none) (hgg:PG (cQ X xs scope C { s with heap:=s.heap.push oD } H (s.heap.objs.size::fp) N') tg g) (hte:PE (cQ X xs scope C { s with heap:=s.heap.push oD } H (s.heap.objs.size::fp) N') elt te) (htt:PTs (cQ X xs scope C { s with heap:=s.heap.push oD } H (s.heap.objs.size::fp) N') ifs tt)
  (w0:W 0 m0 [] H) (turn:nN xs.length g σ J tt te W Dn)
  (hR:∀ s1 H1 σ1 ys its n,Inv (cQ X xs scope C { s with heap:=s.heap.push oD } H (s.heap.objs.size::fp) N') [] σ1 H1 s1→H1 s.heap.objs.size=none→Vals ys its→s1.heap.get? s.heap.objs.size=some { cls:=.type "list",data:=.seq its.toArray n }→ys.length≤sizeLine→Dn ys H1→R (.ok .next) s1) :
  codeAny (model X.prog X.w) X.A (.compLoop (.ListComp elt [⟨tg,iter,ifs,0⟩] scope pos) 0 (.ref it) (.ref s.heap.objs.size) (compEnvC scope (bv X.env scope.names []) C X.env)) R s4:=by
 have hC:C=s.heap.objs.size + 1:=by rw [hCd]; exact Heap.size_push ..
 generalize hX:cQ X xs scope C { s with heap:=s.heap.push oD } H (s.heap.objs.size::fp) N'=X' at *
 have xP:X'.prog=X.prog:=by rw [← hX]
 have xW:X'.w=X.w:=by rw [← hX]
 have xK:X'.K=X.K:=by rw [← hX]
 have xA:X'.A=X.A:=by rw [← hX]
 have xE:X'.env=compEnvC scope (bv X.env scope.names []) C X.env:=by rw [← hX]
 have xC:X'.calm=true:=by rw [← hX]; exact hcalm
 have xex:X'.ex=s.heap.objs.size::fp:=by rw [← hX]
 have xpn:X'.pn=[]:=by rw [← hX]
 have xxe:X'.xe=fun _ _=>False:=by rw [← hX]
 have xL:X'.env.locals=C:=by rw [xE]; rfl
 have lt:∀ b∈fp,b < s.heap.objs.size:=fun b hb=>let ⟨_,e⟩:=ho b hb; Heap.lt_size e
 have fpk:∀ {pl:List (Addr×Obj)} {H':Hp},(∀ p∈pl,p.1=s.heap.objs.size)→(∀ b∈fp,H' b=none)→∀ b∈fp,cu X' pl H' b:=fun {pl H'} hp hn b hb=>by
  have okk:=I4.ok
  have hm:b∈X'.ex:=by rw [xex]; exact List.mem_cons_of_mem _ hb
  refine ⟨hn b hb,(okk.exf b hm).1,okk.exfs b hm,.inl hm,(okk.exf b hm).2,fun p hpl z=>?_⟩
  rw [xpn] at hpl
  have q1:=hp p (by simpa using hpl)
  have q2:=lt b hb
  rw [← z,q1] at q2
  exact Nat.lt_irrefl _ q2
 have dok:∀ {pl:List (Addr×Obj)} {H':Hp},(∀ p∈pl,p.1∈fp)→H' s.heap.objs.size=none→cu X' pl H' s.heap.objs.size:=fun {pl H'} hp hn=>by
  have okk:=I4.ok
  have hm:s.heap.objs.size∈X'.ex:=by rw [xex]; exact List.mem_cons_self
  refine ⟨hn,(okk.exf _ hm).1,okk.exfs _ hm,.inl hm,(okk.exf _ hm).2,fun p hpl z=>?_⟩
  rw [xpn] at hpl
  have q2:=lt p.1 (hp p (by simpa using hpl))
  rw [z] at q2
  exact Nat.lt_irrefl _ q2
 refine vK (I:=fun m s'=>∃ i σx H' ys its n,σx.length=xs.length∧Inv X' [] (σx++σ) H' s'∧tn i s'.heap∧(∀ b∈fp,H' b=none)∧H' s.heap.objs.size=none∧Vals ys its∧s'.heap.get? s.heap.objs.size=some { cls:=.type "list",data:=.seq its.toArray n }∧W i m ys H') ?_ m0
  ⟨0,List.replicate xs.length none,H,[],[],0,by simp,I4,st4,fun b hb=>(hf b hb).1,hDn,.nil,hD4,w0⟩
 rintro m s5 ⟨i,σx,H5,ys,its,n,hσx,I5,st5,fr5,d5,rv,e5,w5⟩
 have I5d:Inv X' ([]++dB [s.heap.objs.size] s5.heap) (σx++σ) H5 s5:=I5.pinned (fun b hb=>by
   have e:b=s.heap.objs.size:=by simpa using hb
   rw [e]; exact dok (fun p hp=>absurd hp (by simp)) d5) fun b hb=>by
   have e:b=s.heap.objs.size:=by simpa using hb
   rw [e]; exact ⟨_,e5,fun v z=>by cases z⟩
 have pD:([]++dB [s.heap.objs.size] s5.heap:List (Addr×Obj))=[(s.heap.objs.size,{ cls:=.type "list",data:=.seq its.toArray n })]:=by
  simp [dB,e5]
 rw [pD] at I5d
 have p1:∀ p∈[(s.heap.objs.size,({ cls:=.type "list",data:=.seq its.toArray n }:Obj))],p.1=s.heap.objs.size:=fun p hp=>by
  have e:p=(s.heap.objs.size,{ cls:=.type "list",data:=.seq its.toArray n }):=by simpa using hp
  rw [e]
 have hsz:its.length=ys.length:=rv.length.symm
 rcases turn i m ys H5 w5 with ⟨stop,hz,dn⟩ | ⟨go,hz,N,hN,step⟩
 ·have q:=T.done X' xP xW xK xC i _ s5 (σx++σ) H5 (notedBy (model X.prog X.w) X.A (compEnvC scope (bv X.env scope.names []) C X.env) fun e s'=>R (.error e) s') I5d (fpk p1 fr5) st5 stop
  rw [xA] at q
  refine wpAny_mono q (fun r s6 z=>?_) fun _ _ z=>z
  obtain ⟨rfl,I6⟩:=z
  refine hR s6 H5 (σx++σ) ys its n ?_ d5 rv (I6.pin _ (List.mem_append_right _ (List.mem_singleton.mpr rfl))).1 hz dn
  exact I6.pins_of fun p hp=>absurd hp (by simp)
 ·have q:=T.item X' xP xW xK xC i _ s5 (σx++σ) H5 (notedBy (model X.prog X.w) X.A (compEnvC scope (bv X.env scope.names []) C X.env) fun e s'=>R (.error e) s') I5d (fpk p1 fr5) st5 go
  rw [xA] at q
  refine wpAny_mono q (fun r s6 z=>?_) fun _ _ z=>z
  obtain ⟨u,rfl,z⟩:=z
  dsimp only
  refine wpAny_mono z (fun _ s7 z=>?_) fun _ _ z=>z
  obtain ⟨v,H7,I7,rv7,y7,st7,fr7⟩:=z
  have I7p:=I7.pinned (fpk p1 fr7) (T.obj _ _ st7)
  rw [← xE]
  have a7:=hgg _ s7 _ H7 v u _ I7p rv7 (step v H7 y7 σx hσx)
  rw [xP,xW,xA] at a7
  refine wpAny_mono a7 (fun _ s8 z=>?_) fun _ _ z=>by rw [xxe] at z; exact z.elim
  obtain ⟨σ1,H8,I8,⟨σy,hσy,rfl⟩,q8⟩:=z
  have t8:=htt _ s8 (σy++σ) H8 _ (notedBy (model X.prog X.w) X.A X'.env fun e s'=>R (.error e) s') I8 q8
  rw [xP,xW,xA] at t8
  refine wpAny_mono t8 (fun ok s9 z=>?_) fun _ _ z=>z
  obtain ⟨H9,I9,q9⟩:=z
  have back:∀ {s':Shared} {H':Hp} {σ2:St},Inv X' ([(s.heap.objs.size,({ cls:=.type "list",data:=.seq its.toArray n }:Obj))]++dB fp s7.heap) σ2 H' s' →
    tn (i + 1) s'.heap∧(∀ b∈fp,H' b=none)∧H' s.heap.objs.size=none∧s'.heap.get? s.heap.objs.size=some { cls:=.type "list",data:=.seq its.toArray n }∧Inv X' [] σ2 H' s':=fun {s' H' σ2} I'=>by
   refine ⟨T.keep _ _ _ st7 fun b hb o e=>(I'.pin (b,o) (List.mem_append_right _ (List.mem_append_right _ (hV hb e)))).1,fun b hb=>?_,?_,?_,I'.pins_of fun p hp=>absurd hp (by simp)⟩
   ·obtain ⟨o,e,_⟩:=T.obj _ _ st7 b hb
    exact (I'.pin (b,o) (List.mem_append_right _ (List.mem_append_right _ (hV hb e)))).2.1
   ·exact (I'.pin (s.heap.objs.size,_) (List.mem_append_right _ (List.mem_append_left _ (List.mem_singleton.mpr rfl)))).2.1
   ·exact (I'.pin (s.heap.objs.size,_) (List.mem_append_right _ (List.mem_append_left _ (List.mem_singleton.mpr rfl)))).1
  cases ok with
  | false=>
   simp only [Bool.false_eq_true,if_false] at q9 ⊢
   obtain ⟨m',hm,w9⟩:=hN _ _ q9
   obtain ⟨a1,a2,a3,a4,a5⟩:=back I9
   exact ⟨m',hm,i + 1,σy,H9,ys,its,n,hσy,a5,a1,a2,a3,rv,a4,w9⟩
  | true=>
   simp only [if_true] at q9 ⊢
   have t9:=hte _ s9 (σy++σ) H9 _ I9 q9
   rw [xP,xW,xA,xxe] at t9
   refine wpAny_mono t9 (fun u2 s10 z=>?_) fun _ _ z=>z.elim
   obtain ⟨y,H10,I10,r10,q10⟩:=z
   obtain ⟨m',hm,w10⟩:=hN _ _ q10
   obtain ⟨a1,a2,a3,a4,a5⟩:=back I10
   refine wpAny_list_append_plain ⟨n,a4⟩ (fun h' pl sb=>?_) (by rw [List.size_toArray]; omega)
   obtain ⟨n',e'⟩:=pl
   have D0:=dok (pl:=[]) (fun p hp=>absurd hp (by simp)) a3
   refine ⟨m',hm,i + 1,σy,H10,ys++[y],its++[u2],n',hσy,a5.turned (t':=s10.toks) (fun b o hb e=>(sb.2 b hb).trans e) D0.1 D0.2.1 D0.2.2.2.1 D0.2.2.2.2.1 D0.2.2.2.2.2,?_,a2,a3,rv.append (.cons r10 .nil),by simpa using e',w10⟩
   exact T.keep _ _ _ a1 fun b hb o e=>(sb.2 b (Nat.ne_of_lt (lt b hb))).trans e
end
section
variable {X:Cx} {xs:List Str} {scope:Scope} {N':List Str} {tg elt iter:Expr} {ifs:List Expr} {pos:Pos} {wi:TI} {g:TG} {te:TE} {tt:TT}
def Ap (n:Nat) (g:TG) (wi:TI) (tt:TT) (te:TE):TE:=fun σ H Q=>wi σ H fun J H1=>∃ W:Nat→Nat→List V→Hp→Prop,(∃ m,W 0 m [] H1)∧nN n g σ J tt te W fun ys H=>∀ p,H p=none→Q (.ref p) (upd H p (.lst ys))
theorem xJ (hc:X.calm=true) (S:CSn X.env.scope X.N xs scope N') (hi:PI X tg iter wi) (hg:∀ C s0 H0 ex,PG (cQ X xs scope C s0 H0 ex N') tg g) (he:∀ C s0 H0 ex,PE (cQ X xs scope C s0 H0 ex N') elt te)
  (ht:∀ C s0 H0 ex,PTs (cQ X xs scope C s0 H0 ex N') ifs tt) (hs:∀ v,foldedSetIterable iter X.env v=pure v:=by intro _; rfl):PE X (.ListComp elt [⟨tg,iter,ifs,0⟩] scope pos) (Ap xs.length g wi tt te):=by
 intro pins s σ H Q I h
 rw [eval_ListComp]
 refine wpAny_comprehension_free (use:=none) rfl hs (lH (pS I S)) S.kind S.names (thn (hi pins s σ H _ I h) fun v s1 h1=>thn h1 fun itv s2 h2=>?_)
 obtain ⟨it,fp,tn,J,H2,rfl,I2,T,st2,f2,W,⟨m0,w0⟩,turn⟩:=h2
 have ho:∀ b∈fp,∃ o,s2.heap.get? b=some o:=fun b hb=>let ⟨o,e,_⟩:=T.obj _ _ st2 b hb; ⟨o,e⟩
 refine wpAny_newObj_type (wpAny_newFunctionEnv S.nocell (by intro y hy; simp at hy) (fun h' hns hsb=>?_) S.kind)
 have I4:=vJ (xs:=xs) (scope:=scope) (tk:=s2.toks + ([]:List (Str×Value)).length) I2 S f2 ho hns hsb
 have up3:∀ b o,(s2.heap.push { cls:=.type "list",dict:=none,data:=.seq ([]:List Value).toArray }).get? b=some o→h'.get? b=some o:=fun b o e=>
  (hsb.2 b (Nat.ne_of_lt (Heap.lt_size e))).trans (Heap.get?_push_of_some _ e)
 have st4:tn 0 h':=T.keep _ _ _ st2 fun b _ o e=>up3 b o (Heap.get?_push_of_some _ e)
 have loop:=v6 (elt:=elt) (iter:=iter) (ifs:=ifs) (pos:=pos) (R:=compPost (model X.prog X.w) X.A X.xe none (EP X pins σ Q) (.ref s2.heap.objs.size) (s2.heap.push { cls:=.type "list",dict:=none,data:=.seq ([]:List Value).toArray }).objs.size) (σ':=σ)
  hc S f2 ho rfl T I4 st4 (up3 _ _ (Heap.get?_push_size _ rfl)) (I2.hok.fresh (Nat.le_refl _)) (hg _ _ _ _) (he _ _ _ _) (ht _ _ _ _) w0 turn fun s5 H5 σ5 ys its n J5 d5 rv e5 hz dn=>by
   obtain ⟨m,hn,_⟩:=J5.loc
   exact ⟨m,hn,fun h'' sb=>⟨.ref s2.heap.objs.size,_,vI I2 f2 rfl J5 sb d5 ⟨its,n,rv,e5⟩ hz,rfl,dn _ d5⟩⟩
 exact codeAny_compStart_list loop (T.self X.A 0 _ _ _ st4 loop)
end
end L2
namespace D
open PySem PySem.Spec PyProof.Rows L2
def dQ (c:FT) (e:FE) (ρ:Rho):List PyData→Tp→Option (List PyData×Tp)
 | [],T=>some ([],T)
 | .tuple [a,b]::r,T=>bnd (c (some (.d a)::some (.d b)::ρ) T) fun k T1=>if k=true then bnd (e (some (.d a)::some (.d b)::ρ) T1) fun w T2=>match w with
   | .d y=>bnd (dQ c e ρ r T2) fun ys T3=>some (y::ys,T3)
   | _=>none
  else dQ c e ρ r T1
 | _,_=>none
def nH (it:FI) (c:FT) (e:FE):FE:=fun ρ T=>bnd (it ρ T) fun ds T1=>bnd (dQ c e ρ ds T1) fun ys T2=>some (.d (.list ys),T2)
theorem yo {K:Frag} {O:Addr→Prop} {ts:List Addr} {H1:Hp} {σ:L2.St} {ρ:Rho} {J:It} {c:FT} {e:FE} {g:TG} {ds ys:List PyData} {T1 T2:Tp} {Dn:List V→Hp→Prop} (hc:HC K O ts H1 T1) (re:RelE K O ts H1 σ ρ) (ok:ItOk K O H1 J ds) (hz:ds.length≤sizeLine)
  (hg:∀ (a:Addr) (v u o1 o2:V) (p q:Option V) (H:Hp) (Q:L2.St→Hp→Prop),SqT K H a [v,u]→Q (some v::some u::σ) H→g (.ref a) (p::q::σ) H Q)
  (ee:dQ c e ρ ds T1=some (ys,T2)) (q:∀ vs H',SameX ts H1 H'→HC K O ts H' T2→Reps K O H' vs ys→Dn vs H') :
  ∃ W:Nat→Nat→List V→Hp→Prop,(∃ m,W 0 m [] H1)∧nN 2 g σ J (liftT K c) (lift K e) W Dn:=by
 refine ⟨fun i m vs H'=>m=ds.length - i∧i≤ds.length∧vs.length≤i∧∃ T dn rs,SameX ts H1 H'∧HC K O ts H' T∧Reps K O H' vs dn∧dQ c e ρ (ds.drop i) T=some (rs,T2)∧ys=dn++rs,⟨_,rfl,Nat.zero_le _,Nat.le_refl _,T1,[],ys,.refl _ _,hc,.nil,ee,rfl⟩,?_⟩
 rintro i m vs H' ⟨rfl,hi,hv,T,dn,rs,s1,hc1,rv,ec,ey⟩
 obtain ⟨k1,k2,k3⟩:=ok O H' (hc.le s1)
 by_cases hlt:i < ds.length
 ·refine .inr ⟨k1 i hlt,by omega,fun vs' H2=>i + 1≤ds.length∧vs'.length≤i + 1∧∃ T dn rs,SameX ts H1 H2∧HC K O ts H2 T∧Reps K O H2 vs' dn∧dQ c e ρ (ds.drop (i + 1)) T=some (rs,T2)∧ys=dn++rs,fun vs' H2 n=>⟨ds.length - (i + 1),by omega,rfl,n⟩,fun v H2 y σx hσ=>?_⟩
  obtain ⟨e2,d,hd,rd⟩:=k3 i v H2 y hlt
  subst e2
  have hdr:ds.drop i=d::ds.drop (i + 1):=by
   rw [List.drop_eq_getElem_cons hlt,(List.getElem?_eq_some_iff.mp hd).2]
  rw [hdr] at ec
  generalize ds.drop (i + 1)=rest at ec
  have hab:∃ a b,d=.tuple [a,b]:=by
   unfold dQ at ec
   split at ec
   ·rename_i h; cases h
   ·rename_i h; injection h with h1 h2; exact ⟨_,_,h1⟩
   ·cases ec
  obtain ⟨a,b,rfl⟩:=hab
  ·cases rd with
   | @tup ad us _ tu ru=>
   cases ru with
   | cons ra ru=>
   cases ru with
   | cons rb ru=>
   cases ru
   obtain ⟨p1,p2,rfl⟩:∃ p1 p2,σx=[p1,p2]:=by
    match σx,hσ with
    | [p1,p2],_=>exact ⟨p1,p2,rfl⟩
   refine hg ad _ _ .non .non p1 p2 H2 _ tu.sq ⟨⟨[_,_],rfl,rfl⟩,?_⟩
   obtain ⟨k,T3,e3,ec⟩:=aG ec
   have re2:RelE K O ts H2 (_::_::σ) (some (.d a)::some (.d b)::ρ):=((re.mono hc s1).cons rb).cons ra
   refine ⟨O,ts,some (.d a)::some (.d b)::ρ,T,k,T3,hc1,re2,e3,fun H3 s3 hc3=>?_⟩
   cases k with
   | false=>
    rw [if_neg Bool.false_ne_true] at ec
    exact fY ⟨hlt,by omega,T3,dn,rs,s1.trans s3,hc3,rv.mono (hc1.le s3),ec,ey⟩
   | true=>
    rw [if_pos rfl] at ec
    obtain ⟨w,T4,e4,ec⟩:=aG ec
    refine fX ⟨O,ts,some (.d a)::some (.d b)::ρ,T3,w,T4,hc3,re2.mono hc1 s3,e4,fun u H4 s4 hc4 r4=>?_⟩
    split at ec
    ·rename_i y
     obtain ⟨zs,T5,e5,ec⟩:=aG ec
     cases ec
     exact ⟨hlt,by simp; omega,T4,dn++[y],zs,s1.trans (s3.trans s4),hc4,(rv.mono (hc1.le (s3.trans s4))).append (.cons r4 .nil),e5,by rw [ey]; simp⟩
    ·cases ec
 ·have e:i=ds.length:=by omega
  subst e
  rw [List.drop_eq_nil_of_le (Nat.le_refl _)] at ec
  cases ec
  rw [List.append_nil] at ey
  subst ey
  exact .inl ⟨k2,by omega,q vs H' s1 hc1 rv⟩
theorem ym {X:Cx} {x y:Str} {scope osc:Scope} {N N':List Str} {elt iter:Expr} {ifs:List Expr} {k:Nat} {px py tp pos:Pos} {it:FI} {c:FT} {f:FE} (S:CSn osc N [x,y] scope N') (hi:DI X (.Tuple [.Name x px,.Name y py] k tp) iter it)
  (he:∀ C s0 H0 ex,DE (cQ X [x,y] scope C s0 H0 ex N') elt f) (ht:∀ C s0 H0 ex,DTs (cQ X [x,y] scope C s0 H0 ex N') ifs c) (hc:X.calm=true:=by rfl) (hs:X.env.scope=osc:=by rfl) (hN:X.N=N:=by rfl)
  (hf:∀ v,foldedSetIterable iter X.env v=pure v:=by intro _; rfl):DE X (.ListComp elt [⟨.Tuple [.Name x px,.Name y py] k tp,iter,ifs,0⟩] scope pos) (nH it c f):=by
 refine ⟨?_⟩
 subst hs hN
 have lx:∀ C,(compEnvC scope (bv X.env scope.names []) C X.env).scope.names.lookup x=some .local:=fun C=>lookup_relabel_local (S.hx x (by simp))
 have ly:∀ C,(compEnvC scope (bv X.env scope.names []) C X.env).scope.names.lookup y=some .local:=fun C=>lookup_relabel_local (S.hx y (by simp))
 refine bx (xJ (xs:=[x,y]) (g:=ue X.K 2 (n5 (k6 0) (n5 (k6 1) uf))) (wi:=kY X.K it) (tt:=liftT X.K c) (te:=lift X.K f) hc S hi.pe (fun C s0 H0 ex=>ku (X:=cQ X [x,y] scope C s0 H0 ex N') (n:=2) hc (fH (eL S.nd (i:=0) rfl (.inl (lx C)) (.inr (lx C))) (fH (eL S.nd (i:=1) rfl (.inl (ly C)) (.inr (ly C))) j4))) (fun C s0 H0 ex=>(he C s0 H0 ex).pe) (fun C s0 H0 ex=>(ht C s0 H0 ex).pe) hf) fun σ H Q=>?_
 rintro ⟨O,ts,ρ,T,w,T',hc,re,e,q⟩
 obtain ⟨ds,T1,e1,e⟩:=aG e
 obtain ⟨ys,T2,e2,e⟩:=aG e
 cases e
 refine ⟨O,ts,ρ,T,ds,T1,hc,re,e1,fun J H1 s1 hc1 ok hz=>?_⟩
 exact yo hc1 (re.mono hc s1) ok hz (fun a v u _ _ p q H Q t z=>⟨a,_,rfl,t,rfl,_,_,rfl,_,_,rfl,rfl,z⟩) e2 fun vs H' s2 hc2 r2 p hp=>q _ _ (s1.trans (s2.trans (.new hp _))) (hc2.new hp _) (hc2.newL hp r2)
section
variable {X:Cx} {pos:Pos}
def fZ (i j:Nat) (body:FS):List PyData→FS
 | []=>aC
 | .tuple [a,b]::r=>fun ρ T=>bnd (body ((ρ.set i (some (.d a))).set j (some (.d b))) T) fun p T1=>match p with
  | (.nx,ρ1)=>fZ i j body r ρ1 T1
  | (.ct,ρ1)=>fZ i j body r ρ1 T1
  | (.bk,ρ1)=>some ((.nx,ρ1),T1)
  | (.rt x,ρ1)=>some ((.rt x,ρ1),T1)
  | (.ro x,ρ1)=>some ((.ro x,ρ1),T1)
 | _=>fun _ _=>none
def k8 (i j:Nat) (it:FI) (body:FS):FS:=fun ρ T=>bnd (it ρ T) fun ds T1=>fZ i j body ds ρ T1
theorem zX {i j:Nat} {x y:Str} {iter:Expr} {f:FS} {body:List Stmt} {n:Nat} {px py tpos:Pos} {it:FI} (hN:X.N.Nodup) (hi:DI X (.Tuple [.Name x px,.Name y py] n tpos) iter it) (hb:DSs X body f) (hix:X.N[i]? = some x:=by rfl) (hjx:X.N[j]? = some y:=by rfl) (hx:Loc X.env.scope x:=by first | exact Or.inl rfl | exact Or.inr rfl) (hy:Loc X.env.scope y:=by first | exact Or.inl rfl | exact Or.inr rfl)
  (hf:X.fn x=true∨X.env.scope.names.lookup x=some .local:=by first | exact .inl rfl | exact .inr rfl | assumption) (hf':X.fn y=true∨X.env.scope.names.lookup y=some .local:=by first | exact .inl rfl | exact .inr rfl | assumption) (hp:PassesOwn (model X.prog X.w) X.A X.env X.xe:=by exact PassesOwn.never) (hc:X.calm=true:=by rfl)
  (hs:∀ x,foldedSetIterable iter X.env x=pure x:=by intro _; rfl):DS X (.For (.Tuple [.Name x px,.Name y py] n tpos) iter body [] pos) (k8 i j it f):=by
 refine ⟨?_⟩
 refine bw (nu hp hc hi.pe (ku hc (fH (eL hN hix hx hf) (fH (eL hN hjx hy hf') j4))) hb.pe hs) fun D σ H=>?_
 rintro ⟨O₀,H₀,F,ts,O,ρ,T,fl,ρ',T',rs,e,q⟩
 obtain ⟨ds,T1,e1,e⟩:=aG e
 refine ⟨O,ts,ρ,T,ds,T1,rs.hc,rs.re,e1,fun J H1 s1 hc1 ok hz=>?_⟩
 refine ⟨fun k m σ H=>m=ds.length - k∧k≤ds.length∧∃ O' ρk Tk,RS X.K O₀ H₀ ((O,H1)::F) ts O' H σ ρk Tk∧fZ i j f (ds.drop k) ρk Tk=some ((fl,ρ'),T'),⟨_,rfl,Nat.zero_le _,O,ρ,T1,(rs.step s1 hc1).more,e⟩,?_⟩
 rintro k m σ2 H2 ⟨rfl,hk,O',ρk,Tk,rs2,ek⟩
 obtain ⟨k1,k2,k3⟩:=ok O' H2 (rs2.frs _ List.mem_cons_self)
 by_cases hlt:k < ds.length
 ·refine .inr ⟨k1 k hlt,fun σ3 H3=>∃ O' ρk Tk,RS X.K O₀ H₀ ((O,H1)::F) ts O' H3 σ3 ρk Tk∧fZ i j f (ds.drop (k + 1)) ρk Tk=some ((fl,ρ'),T'),fun σ3 H3 n=>⟨ds.length - (k + 1),by omega,rfl,hlt,n⟩,fun v H3 y=>?_⟩
  obtain ⟨e2,d,hd,rd⟩:=k3 k v H3 y hlt
  subst e2
  have hdr:ds.drop k=d::ds.drop (k + 1):=by rw [List.drop_eq_getElem_cons hlt,(List.getElem?_eq_some_iff.mp hd).2]
  rw [hdr] at ek
  generalize ds.drop (k + 1)=rest at ek ⊢
  have hab:∃ a b,d=.tuple [a,b]:=by
   match d,ek with
   | .tuple [a,b],_=>exact ⟨a,b,rfl⟩
   | .tuple [],ek=>cases ek
   | .tuple [_],ek=>cases ek
   | .tuple (_::_::_::_),ek=>cases ek
   | .none,ek=>cases ek
   | .bool _,ek=>cases ek
   | .int _,ek=>cases ek
   | .str _,ek=>cases ek
   | .list _,ek=>cases ek
   | .dict _,ek=>cases ek
  obtain ⟨a,b,rfl⟩:=hab
  cases rd with
  | tup t r=>
  cases r with
  | cons ra r=>
  cases r with
  | cons rb r=>
  cases r
  obtain ⟨⟨fl1,ρ1⟩,T3,e3,ek⟩:=aG ek
  refine ⟨_,_,rfl,t.sq,rfl,_,_,rfl,_,_,rfl,rfl,O₀,H₀,(O,H1)::F,ts,O',_,Tk,fl1,ρ1,T3,(rs2.set (i:=i) (w:=.d a) ra (fun _ z=>nomatch z)).set (i:=j) (w:=.d b) rb (fun _ z=>nomatch z),e3,?_⟩
  cases fl1 with
  | nx=>exact fun O3 σ3 H3 rs3=>⟨O3,ρ1,T3,rs3,ek⟩
  | ct=>exact fun O3 σ3 H3 rs3=>⟨O3,ρ1,T3,rs3,ek⟩
  | bk=>
   cases ek
   exact fun O3 σ3 H3 rs3=>q O3 σ3 H3 rs3.less
  | rt x=>
   cases ek
   exact q
  | ro x=>
   cases ek
   exact q
 ·have e:k=ds.length:=by omega
  subst e
  rw [List.drop_eq_nil_of_le (Nat.le_refl _)] at ek
  cases ek
  exact .inl ⟨k2,q O' σ2 H2 rs2.less⟩
end
section
variable {X:Cx}
theorem wM:MtM X "list.insert" (fun x vs H Q=>∃ (l:Addr) (xs:List V) (i:Int) (k:Nat) (y:V),x=.ref l∧vs=[.int i,y]∧H l=some (.lst xs)∧i.toNat=k∧0≤i∧k≤xs.length∧xs.length≤1000∧Q .non (upd H l (.lst (xs.take k++y::xs.drop k)))):=by
 intro pins s σ H x vs v us Q I rx rv h
 obtain ⟨l,xs,i,k,y,rfl,rfl,hH,hki,hi0,hk,hz,q⟩:=h
 cases rx
 obtain ⟨u,w,rfl,ru,rw'⟩:=vals2 rv
 obtain ⟨t,rfl⟩:=ru
 obtain ⟨z,its,n,r,hl,e⟩:=I.lstM hH
 have hsl:(1001:Nat)≤sizeLine:=by decide
 have hfit:Builtin.List.listFitsIndex i=true:=fitsIndex_both (by omega) (by omega)
 have hfit':¬ (!Builtin.List.listFitsIndex i)=true:=by rw [hfit]; exact Bool.false_ne_true
 have hsz:its.toArray.size≤sizeLine:=by
  rw [List.size_toArray]
  exact Nat.le_trans (by omega) hsl
 clear hfit
 refine call_meets F.slot_list_insert ⟨_,e,rfl⟩ F.entry_list_insert (F.args_list_insert_3 _ _ _) (AutoSeq1.list_insert_list_int_val_1 l its.toArray n i t w hfit' hsz) ⟨e,?_⟩
 refine ⟨.non,_,I.lset (its':=its.take k++w::its.drop k) hH e ?_ ((r.take k).append (.cons rw' (r.drop k))) ?_,rfl,q⟩
 ·have hk':min k its.length=k:=by omega
  have h0:¬ (i < 0):=by omega
  simp only [h0,if_false,hki,List.size_toArray,hk']
  apply Array.ext'
  simp
  exact List.take_of_length_le (by simp)
 ·refine Nat.le_trans ?_ hsl
  simp only [List.length_append,List.length_take,List.length_cons,List.length_drop]
  omega
variable {pos:Pos} {e e':Expr} {fe fk:FE}
def jF (i:Nat) (ρ:Rho) (w1 w2:W) (T:Tp) (o:Option (Option W)):Option ((Fl×Rho)×Tp):=match w1,w2,o with
 | .d (.int k),.d x,some (some (.loc (.list xs)))=>if 0≤k∧k≤xs.length∧xs.length≤1000 then some ((.nx,ρ.set i (some (.loc (.list (xs.take k.toNat++x::xs.drop k.toNat))))),T) else none
 | _,_,_=>none
theorem zG {i:Nat} {ρ ρ':Rho} {w1 w2:W} {T T':Tp} {fl:Fl} {o:Option (Option W)} (h:jF i ρ w1 w2 T o=some ((fl,ρ'),T')):∃ k x xs,w1=.d (.int k)∧w2=.d x∧o=some (some (.loc (.list xs)))∧(0≤k∧k≤xs.length∧xs.length≤1000)∧((fl,ρ'),T')=((Fl.nx,ρ.set i (some (W.loc (.list (xs.take k.toNat++x::xs.drop k.toNat))))),T):=by
 unfold jF at h
 split at h
 ·split at h
  ·rename_i h2
   exact ⟨_,_,_,rfl,rfl,rfl,h2,(Option.some.inj h).symm⟩
  ·cases h
 ·cases h
def jI (i:Nat) (f g:FE):FS:=fun ρ T=>bnd (f ρ T) fun w1 T1=>bnd (g ρ T1) fun w2 T2=>jF i ρ w1 w2 T2 ρ[i]?
theorem C0 {e f:Expr} {env:Env} {cpos:Pos} (h:noStar e=true) (h2:noStar f=true):((backTo cpos (starEach [e,f] env)).all (fun x=>!x.1) && (backToKw cpos (keywordEach [] env)).all (fun x=>x.1.isSome)
   && decide (([e,f]:List Expr).length + ([]:List Keyword).length + (if ([]:List Keyword).isEmpty then 0 else 1) < 30))=true:=by
 rw [pC h,lZ h2]
 rfl
theorem Bn {i:Nat} {x:Str} {p apos:Pos} (hk:DE X e fk) (he:DE X e' fe) (hN:X.N[i]? = some x:=by rfl) (hv:Vis X.env.scope x:=by first | exact Or.inl rfl | exact Or.inr (Or.inl rfl) | exact Or.inr (Or.inr rfl)) (hd:(x == ("__debug__" : Str))=false:=by decide)
  (hcd:(x == ("__classdict__" : Str))=false:=by decide) {cpos:Pos}
  (hbase:attributeBase (.Name x p) "insert" X.env (eval (.Name x p) X.env)=eval (.Name x p) X.env:=by rfl)
  (hfew:((backTo cpos (starEach [e,e'] X.env)).all (fun x=>!x.1) && (backToKw cpos (keywordEach [] X.env)).all (fun x=>x.1.isSome)
   && decide (([e,e']:List Expr).length + ([]:List Keyword).length + (if ([]:List Keyword).isEmpty then 0 else 1) < 30))=true:=by exact C0 rfl rfl)
  (hline:(apos.endLine == cpos.line)=true:=by rfl) (hse:starEach [e,e'] X.env=(false,eval e X.env)::starEach [e'] X.env:=by exact bq rfl) (hse2:starEach [e'] X.env=(false,eval e' X.env)::starEach [] X.env:=by exact bq rfl) (hplain:(backTo cpos (starEach [e'] X.env)).any (·.1)=false:=by exact bD rfl)
  (hs:swapsWith (.Call (.Attribute (.Name x p) "insert" apos) [e,e'] [] cpos) none pos.line X.env=pure false:=by rfl) :
  DS X (.Expr (.Call (.Attribute (.Name x p) "insert" apos) [e,e'] [] cpos) pos) (jI i fk fe):=by
 refine ⟨?_⟩
 refine bw (j3 (fR PySem.F.plainAttrs_list PySem.F.slot_list_insert PySem.F.type_list_insert wM (pv i hN hv hd hcd) (bV hk.pe (bV he.pe cG hse2) hse) hbase hfew hline hse hplain) hs) fun D σ H=>?_
 rintro ⟨O₀,H₀,F,ts,O,ρ,T,fl,ρ',T',rs,e,q⟩
 obtain ⟨w1,T1,e1,e⟩:=aG e
 obtain ⟨w2,T2,e2,e⟩:=aG e
 obtain ⟨k,x0,xs,rfl,rfl,h1,h2,e3⟩:=zG e
 cases e3
 obtain ⟨v,k1,a,rfl,k2,k3,vs,k4,k5⟩:=rs.re i _ h1
 refine ⟨_,k1,.inl ⟨rfl,vs,SqL.of k4⟩,O,ts,ρ,T,_,_,rs.hc,rs.re,e1,fun u H1 s1 hc1 r1=>?_⟩
 have rs1:=rs.step s1 hc1
 refine ⟨O,ts,ρ,T1,_,_,hc1,rs1.re,e2,fun u2 H2 s2 hc2 r2=>?_⟩
 have rs2:=rs1.step s2 hc2
 cases (show Rep X.K O H1 u (.int k) from r1)
 have l5:=k5.length
 have k5':Reps X.K O H2 vs xs:=(k5.mono (rs.hc.le s1)).mono (hc1.le s2)
 exact ⟨a,vs,k,k.toNat,u2,rfl,rfl,s2 _ _ k3 (s1 _ _ k3 k4),rfl,h2.1,by omega,by omega,q O _ _ (rs2.put (us:=[]) h1 k1 ((k5'.take _).append (.cons r2 (k5'.drop _))))⟩
end
section
variable {K:Frag} {O₀:Addr→Prop} {H₀:Hp} {F:List ((Addr→Prop)×Hp)} {ts:List Addr} {O A:Addr→Prop} {H H1:Hp} {σ:L2.St} {ρ:Rho} {T T1:Tp}
theorem RS.widen (r:RS K O₀ H₀ F ts O H σ ρ T) (s:SameX ts H H1) (hA:∀ b,A b→H b=none∧¬ O b) (c:HC K (fun b=>O b∨A b) ts H1 T1):RS K O₀ H₀ F ts (fun b=>O b∨A b) H1 σ ρ T1:=by
 have le:Le O H (fun b=>O b∨A b) H1:=fun a o n e=>⟨fun z=>z.elim n fun z=>(by rw [(hA a z).1] at e; cases e),s a o (fun z=>n (r.hc.own a z)) e⟩
 refine ⟨c,fun i w e=>?_,fun b hb=>.inl (r.sub b hb),r.ots,r.same.trans s,r.fresh,r.dist,fun f hf=>(r.frs f hf).trans le,r.len⟩
 obtain ⟨v,h1,h2⟩:=r.re i w e
 refine ⟨v,h1,?_⟩
 cases w with
 | d x=>exact Rep.mono le h2
 | tp k=>exact h2
 | loc ys=>
  obtain ⟨a,ea,m1,m2,m3⟩:=h2
  exact ⟨a,ea,.inl m1,m2,m3.mono (fun o q=>s _ _ m2 q) le⟩
theorem RS.hold {i:Nat} {a:Addr} {xs:PyData} (r:RS K O₀ H₀ F ts O H σ ρ T) (ha:O a) (nt:a∉ts) (hf:H₀ a=none∧¬ O₀ a) (nh:∀ (j:Nat) (ys:PyData),ρ[j]? = some (some (W.loc ys))→σ[j]? = some (some (V.ref a))→False) (rv:OwnAt K O H a xs) :
  RS K O₀ H₀ F ts O H (σ.set i (some (.ref a))) (ρ.set i (some (.loc xs))) T:=by
 refine ⟨r.hc,fun j w e=>?_,r.sub,r.ots,r.same,fun j ys b e1 e2=>?_,fun j k ys zs v e1 e2 e3 e4=>?_,r.frs,by simp [r.len]⟩
 ·by_cases z:i=j
  ·subst z
   have hl:i < ρ.length:=by
    have:=(List.getElem?_eq_some_iff.mp e).1
    simpa using this
   rw [List.getElem?_set_self hl] at e
   cases e
   exact ⟨.ref a,by rw [List.getElem?_set_self (by rw [r.len]; exact hl)],a,rfl,ha,nt,rv⟩
  ·rw [List.getElem?_set_ne z] at e
   obtain ⟨x,h1,h2⟩:=r.re j w e
   exact ⟨x,by rw [List.getElem?_set_ne z]; exact h1,h2⟩
 ·by_cases z:i=j
  ·subst z
   have hl:i < ρ.length:=by
    have:=(List.getElem?_eq_some_iff.mp e1).1
    simpa using this
   rw [List.getElem?_set_self (by rw [r.len]; exact hl)] at e2
   cases e2
   exact hf
  ·rw [List.getElem?_set_ne z] at e1 e2
   exact r.fresh j ys b e1 e2
 ·by_cases z:i=j
  ·by_cases z':i=k
   ·rw [← z,← z']
   ·exfalso
    subst z
    have hl:i < ρ.length:=by
     have:=(List.getElem?_eq_some_iff.mp e1).1
     simpa using this
    rw [List.getElem?_set_self (by rw [r.len]; exact hl)] at e3
    cases e3
    rw [List.getElem?_set_ne z'] at e2 e4
    exact nh k zs e2 e4
  ·by_cases z':i=k
   ·exfalso
    subst z'
    have hl:i < ρ.length:=by
     have:=(List.getElem?_eq_some_iff.mp e2).1
     simpa using this
    rw [List.getElem?_set_self (by rw [r.len]; exact hl)] at e4
    cases e4
    rw [List.getElem?_set_ne z] at e1 e3
    exact nh j ys e1 e3
   ·rw [List.getElem?_set_ne z] at e1 e3
    rw [List.getElem?_set_ne z'] at e2 e4
    exact r.dist j k ys zs v e1 e2 e3 e4
theorem RS.keep (r:RS K O₀ H₀ F ts O H σ ρ T) (hA:∀ b,A b→O b):HC K (fun b=>O₀ b∨A b) ts H T∧Le O H (fun b=>O₀ b∨A b) H:=by
 have le:Le O H (fun b=>O₀ b∨A b) H:=fun a o n e=>⟨fun z=>n (z.elim (r.sub a) (hA a)),e⟩
 exact ⟨⟨fun b hb=>.inl (r.ots b hb),fun b hb=>r.hc.trk b (hb.elim (r.sub b) (hA b)),r.hc.nd,r.hc.len,fun i a xs e1 e2=>(r.hc.tape i a xs e1 e2).mono (fun _ h=>h) le⟩,le⟩
end
section
variable {X:Cx} {pos:Pos}
end
def gK (o:Option ((Fl×Rho)×Tp)):Option (PyData×Tp):=bnd o fun p T=>match p with
 | (.ro x,_)=>some (x,T)
 | _=>none
def fS (N:Nat) (f:FS):FnM:=fun ws T=>if c9 ws=true then gK (f (ws.map some++List.replicate (N - ws.length) none) T) else none
inductive SpOP (K:Frag) (n:Nat) (m:FnM) (vs:List V) (H:Hp) (Q:VK):Prop where
 | mk (O:Addr→Prop) (ts:List Addr) (T:Tp) (ws:List W) (x:PyData) (T':Tp) (hc:HC K O ts H T) (r:eZ K O ts H vs ws) (hl:ws.length=n) (e:m ws T=some (x,T'))
  (q:∀ (A:Addr→Prop) v H',SameX ts H H'→(∀ b,A b→H b=none∧¬ O b)→HC K (fun b=>O b∨A b) ts H' T'→OwnV K (fun b=>O b∨A b) A H' v x→Q v H'):SpOP K n m vs H Q
def spO (K:Frag) (n:Nat) (m:FnM):Sp:=fun vs H Q _=>SpOP K n m vs H Q
theorem oz {P:Program} {w:World} {K:Frag} {mg:Str→Option Value} {base:Heap} {x qual:Str} {st:Stmt} {f:Addr} {fd:FuncData} {N ps:List Str} {k:Nat} {m:FS} (F:Fun K x qual st f fd) (S:FnScope N ps (aM st))
  (hbody:∀ (cdv:Value) (A:Around) (outer:List Env) (s:Shared) (H:Hp) (E:XK),Room k (A.deeper (envOfC qual (aM st) s.heap.objs.size f cdv))→DSs (gb CX0 P w K mg base N qual (aM st) f cdv A outer s H E).nox (c7 st) m) :
  FnOk P w K mg base CX0 (k + 1) f fd ps (spO K ps.length (fS N.length m)):=by
 refine F.ok S (fun vs H Q E h=>?_) (fun cdv A outer s H vs Q E hr h=>⟨_,(hbody cdv A outer s H E hr).pe,?_⟩)
 ·obtain ⟨O,ts,T,ws,x,T',hc,rw',hl,_⟩:=h
  rw [← hl]
  exact Paired.length rw'
 obtain ⟨O,ts,T,ws,x,T',hc,rw',hl,e,q⟩:=h
 unfold fS at e
 split at e
 ·rename_i hn
  obtain ⟨⟨fl,ρ'⟩,T1,e1,e⟩:=aG e
  have hlen:vs.length=ws.length:=Paired.length rw'
  have noL:∀ {i:Nat} {xs:PyData},(ws.map some++List.replicate (N.length - ws.length) none)[i]? = some (some (W.loc xs))→False:=fun {i xs} e=>jQ hn (List.mem_of_getElem? (jN e))
  refine ⟨O,H,[],ts,O,_,T,fl,ρ',T1,⟨hc,fun i u e=>?_,fun _ h=>h,hc.own,.refl _ _,fun i xs a e1 _=>(noL e1).elim,fun i j xs ys v e1 _ _ _=>(noL e1).elim,fun f hf=>absurd hf (by simp),by simp [L2.start,hlen]⟩,e1,?_⟩
  ·obtain ⟨v,h1,h2⟩:=lL rw' (jN e)
   refine ⟨v,?_,h2⟩
   unfold L2.start
   have hi:i < vs.length:=(List.getElem?_eq_some_iff.mp h1).1
   rw [List.getElem?_append_left (by simpa using hi),List.getElem?_map,h1]
   rfl
  ·cases fl with
   | ro y=>cases e; exact q
   | _=>cases e
 ·cases e
section
variable {X:Cx} {pos:Pos}
end
section
variable {X:Cx}
abbrev FP:=Rho→Tp→Option (List (Str×PyData)×Tp)
def aq (l:List (Str×PyData)):List (PyData×PyData):=l.map fun p=>(.str p.1,p.2)
def cq (p:Str×V):Key×V:=(Sum.inr p.1,p.2)
structure DP (X:Cx) (pos:Pos) (keys:List (Option Expr)) (values:List Expr) (g:FP):Prop where
 ex:∃ trs,PPs X pos keys values trs∧∀ (σ:L2.St) (H:Hp) (Q:List (V×V)→Hp→Prop) (O:Addr→Prop) (ts:List Addr) (ρ:Rho) (T:Tp) (l:List (Str×PyData)) (T':Tp),HC X.K O ts H T→RelE X.K O ts H σ ρ→g ρ T=some (l,T') →
  (∀ (kvs:List (Str×V)) (H':Hp),SameX ts H H'→HC X.K O ts H' T'→kvs.map (·.1)=l.map (·.1)→RepK X.K O H' (kvs.map cq) (aq l)→Q (kvs.map fun p=>(V.str p.1,p.2)) H')→m8 trs σ H Q
theorem pN:∀ (l acc:List (Str×V)),(acc.map (·.1)++l.map (·.1)).Nodup→d7 (acc.map cq) (l.map cq)=(acc++l).map cq
 | [],acc,_=>by simp [d7]
 | p::l,acc,h=>by
  have h1:putK (acc.map cq) (Sum.inr p.1:Key) p.2=(acc++[p]).map cq:=by
   unfold putK
   rw [if_neg]
   ·rw [List.map_append]
    rfl
   ·intro hc
    obtain ⟨kv,m,e⟩:=List.any_eq_true.mp hc
    obtain ⟨q,m2,rfl⟩:=List.mem_map.mp m
    have e':q.1=p.1:=Sum.inr.inj (of_decide_eq_true e)
    have:=(List.nodup_append.mp h).2.2 q.1 (List.mem_map.mpr ⟨q,m2,rfl⟩) p.1 (by simp)
    exact this e'
  have:=pN l (acc++[p]) (by simpa using h)
  have e:d7 (acc.map cq) ((p::l).map cq)=d7 (putK (acc.map cq) (Sum.inr p.1:Key) p.2) (l.map cq):=rfl
  rw [e,h1,this]
  simp
end
section
variable {X:Cx} {pos:Pos}
end
def kz (i:Nat) (fr:FS) (ρ:Rho) (x:PyData) (T:Tp):Option ((Fl×Rho)×Tp):=match x with
 | .list xs=>iZ T.length (fr (ρ.set i (some (.tp T.length))) (T++[xs]))
 | _=>none
def fN (i:Nat) (m:FnM) (g:FA) (fr:FS):FS:=fun ρ T=>bnd (g ρ T) fun ws T1=>bnd (m ws T1) (kz i fr ρ)
theorem wF {i:Nat} {fr:FS} {ρ:Rho} {x:PyData} {T:Tp} {r:(Fl×Rho)×Tp} (h:kz i fr ρ x T=some r):∃ xs,x=.list xs∧iZ T.length (fr (ρ.set i (some (.tp T.length))) (T++[xs]))=some r:=by
 cases x with
 | list xs=>exact ⟨xs,rfl,h⟩
 | _=>cases h
section
variable {X:Cx} {pos:Pos} {rest:List Stmt} {fr:FS}
theorem lR {i:Nat} {name x:Str} {ps:List Str} {kk:Nat} {m:FnM} {e:Expr} {es:List Expr} {g:FA} {p cpos pos':Pos} (F:Fn X.prog X.w X.K X.mg X.base name ps kk (spO X.K ps.length m)) (hr:Room kk X.A) (hg:Gl X name) (hN:X.N.Nodup) (ha:DA X (e::es) g) (hl:dW g ps.length) (hrest:DSs X rest fr) (hdb:(name == ("__debug__" : Str))=false:=by decide)
  (he:starEach (e::es) X.env=(false,eval e X.env)::starEach es X.env:=by exact bq rfl) (hpl:(backTo cpos (starEach es X.env)).any (·.1)=false:=by exact bD rfl) (hi:X.N[i]? = some x:=by rfl) (hx:Loc X.env.scope x:=by first | exact Or.inl rfl | exact Or.inr rfl)
  (hs:swapsWith (.Call (.Name name p) (e::es) [] cpos) (some (.Name x pos')) pos.line X.env=pure false:=by rfl) (hf:X.fn x=true∨X.env.scope.names.lookup x=some .local:=by first | exact .inl rfl | exact .inr rfl | assumption) :
  DSs X (.Assign [.Name x pos'] (.Call (.Name name p) (e::es) [] cpos) pos::rest) (fN i m g fr):=by
 refine ⟨?_⟩
 refine jZ (qk (dN hN hi hx (fQ F hr hg ha.pe hdb he hpl) hs hf) hrest.pe) fun D σ H=>?_
 rintro ⟨O₀,H₀,F,ts,O,ρ,T,fl,ρ',T',rs,e,q⟩
 obtain ⟨ws,T1,e1,e⟩:=aG e
 obtain ⟨x0,T2,e2,e⟩:=aG e
 obtain ⟨xs,rfl,e⟩:=wF e
 refine ⟨O,ts,ρ,T,ws,T1,rs.hc,rs.re,e1,fun vs H1 s1 hc1 r1=>?_⟩
 have rs1:=rs.step s1 hc1
 refine ⟨O,ts,T1,ws,_,_,hc1,by rw [List.append_nil]; exact r1,hl _ _ _ _ e1,e2,fun A v H2 s2 hA hc2 ov=>?_⟩
 obtain ⟨a,rfl,hAA,us,k1,k2⟩:=ov
 have hAa:=hA a ((hAA a).mpr rfl)
 have nta:a∉ts:=fun z=>hAa.2 (hc1.own a z)
 let H3:Hp:=fun b=>if b=a then none else H2 b
 have h3:∀ {b:Addr},b≠a→H3 b=H2 b:=fun n=>if_neg n
 have ha3:H3 a=none:=if_pos rfl
 have eH:upd H3 a (.lst us)=H2:=funext fun b=>by
  by_cases z:b=a
  ·subst z; rw [br]; exact k1.symm
  ·rw [aK z]; exact h3 z
 have le:Le (fun b=>O b∨A b) H2 O H3:=fun b o n z=>⟨fun y=>n (.inl y),by rw [h3 (show b≠a from fun y=>n (.inr ((hAA b).mpr y)))]; exact z⟩
 have s3:SameX ts H1 H3:=fun b o n z=>by
  have nb:b≠a:=fun y=>by rw [y,hAa.1] at z; cases z
  rw [h3 nb]
  exact s2 b o n z
 have c3:HC X.K O ts H3 T2:=⟨hc1.own,fun b hb=>by
   have nb:b≠a:=fun y=>hAa.2 (y ▸ hb)
   rw [h3 nb]
   exact hc2.trk b (.inl hb),hc2.nd,hc2.len,fun j b ys q1 q2=>(hc2.tape j b ys q1 q2).mono (fun o h=>by rw [h3 (show b≠a from fun y=>nta (by rw [← y]; exact List.mem_of_getElem? q1))]; exact h) le⟩
 have:=ze (X:=X) (rs1.step s3 c3) ha3 (k2.mono le) e q
 rw [eH] at this
 exact this
end
def kq (ρ:Rho) (o:Option (List PyData)) (T:Tp):Option ((Fl×Rho)×Tp):=match o with
 | some xs=>if xs.length≤1000 then some ((.ro (.list xs),ρ),T) else none
 | none=>none
def kH (g:FA):FS:=fun ρ T=>bnd (g ρ T) fun ws T1=>kq ρ (dq ws) T1
section
variable {X:Cx} {pos:Pos}
theorem qx {es:List Expr} {g:FA} {lpos:Pos} (ha:DA X es g):DS X (.Return (some (.List es lpos)) pos) (kH g):=by
 refine ⟨?_⟩
 refine bw (je (nv ha.pe)) fun D σ H=>?_
 rintro ⟨O₀,H₀,F,ts,O,ρ,T,fl,ρ',T',rs,e,q⟩
 obtain ⟨ws,T1,e1,e⟩:=aG e
 refine ⟨O,ts,ρ,T,ws,T1,rs.hc,rs.re,e1,fun vs H1 s1 hc1 r1=>?_⟩
 have rs1:=rs.step s1 hc1
 unfold kq at e
 split at e
 ·rename_i xs h1
  split at e
  ·rename_i h2
   cases e
   have rv:=iV r1 h1
   refine ⟨j8 (by rw [rv.length]; exact h2),fun p hp=>?_⟩
   have nO:=rs1.hc.fresh hp
   have nt:p∉ts:=fun z=>nO (rs1.hc.own p z)
   have h0:H₀ p=none:=by
    cases z:H₀ p with
    | none=>rfl
    | some o=>rw [rs1.same p o nt z] at hp; cases hp
   have le:Le O H1 (fun b=>O₀ b∨b=p) (upd H1 p (.lst vs)):=fun b o n z=>by
    have nb:b≠p:=c6 z hp
    exact ⟨fun y=>y.elim (fun y=>n (rs1.sub b y)) nb,by rw [aK nb]; exact z⟩
   refine q (fun b=>b=p) (.ref p) _ (rs1.same.trans (.new hp _)) (fun b hb=>by rw [hb]; exact ⟨h0,fun z=>nO (rs1.sub p z)⟩) ⟨fun b hb=>.inl (rs1.ots b hb),fun b hb=>?_,rs1.hc.nd,rs1.hc.len,fun j b ys q1 q2=>?_⟩ ⟨p,rfl,fun c=>Iff.rfl,vs,br,rv.mono le⟩
   ·by_cases z:b=p
    ·subst z; rw [br]; exact .inl ⟨_,rfl⟩
    ·rw [aK z]; exact rs1.hc.trk b (rs1.sub b (hb.resolve_right z))
   ·exact (rs1.hc.tape j b ys q1 q2).mono (fun o h=>by rw [aK (c6 h hp)]; exact h) le
  ·cases e
 ·cases e
end
theorem vn:typeLookup (.type "list") "keys" = pure none:=am_miss_of_fast (by decide +kernel)
theorem uH:typeLookup (.type "list") "__getattr__" = pure none:=am_miss_of_fast (by decide +kernel)
theorem vq {a:Addr} {u:Tok} {prog:Program} {w:World} {A:Around} {E:Value→Shared→Prop} {Q:Fin→Shared→Prop} {s:Shared} {its:Array Value} {n:Nat} {sl:Array (Option Value)} (ho:s.heap.get? a=some { cls:=.type "list",dict:=none,data:=.seq its n,slots:=sl }) (hh:A.handled=none)
  (h:∀ h' tk e,Heap.NewAttrErr s.heap h' e (.ref a) "keys"→E (.ref e) { s with heap:=h',toks:=tk }) :
  wpAny (model prog w) A (Builtin.«object.__getattribute__» ⟨[.ref a,.str "keys" u],[]⟩) Q E s:=by
 obtain ⟨hp,g,d,tk,os⟩:=s
 have hT:(⟨hp,g,d,tk,os⟩:Shared).TypeIs (.ref a) "list":=⟨_,ho,rfl⟩
 have f4:=vn
 unfold Builtin.«object.__getattribute__»
 repeat (any_goals (first | assumption | wp_step))
 exact wpAny_raiseAttrError hh h (attrMsg_fits (by decide +kernel) (by decide +kernel))
theorem uS {a:Addr} {prog:Program} {w:World} {A:Around} {E:Value→Shared→Prop} {Q:Option Value→Shared→Prop} {s:Shared} {its:Array Value} {n:Nat} {sl:Array (Option Value)} (ho:s.heap.get? a=some { cls:=.type "list",dict:=none,data:=.seq its n,slots:=sl }) (hh:A.handled=none)
  (h:∀ h' tk,(∀ b o,s.heap.get? b=some o→h'.get? b=some o)→Q none { s with heap:=h',toks:=tk }) :
  wpAny (model prog w) A (getAttr? (.ref a) "keys") Q E s:=by
 obtain ⟨hp,g,d,tk,os⟩:=s
 have hT:(⟨hp,g,d,tk,os⟩:Shared).TypeIs (.ref a) "list":=⟨_,ho,rfl⟩
 have f1:=sub_AttributeError
 have f3:=F.slot_list_getattribute.lookup
 have f4:=F.slot_list_getattribute.bind (.ref a)
 have f5:=uH
 unfold getAttr? getAttrBy?
 repeat (any_goals (first | assumption | wp_step))
 refine codeAny_call_builtin F.slot_list_getattribute.plain F.entry_list_ga (F.slot_list_getattribute.check _ _ _ _ _ _ _ _ (show (⟨hp,g,d,tk + 1,os⟩:Shared).TypeIs (.ref a) "list" from ⟨_,ho,rfl⟩) (F.args_list_getattribute_2 _ _) (vq (s:=⟨hp,g,d,tk + 1,os⟩) ho hh fun h' tk' e hx=>?_))
 obtain ⟨t',u',he⟩:=hx.there
 show wpAny _ _ (getattributeRaised _ _ _ _ _ _ _) _ _ _
 unfold getattributeRaised
 repeat (any_goals (first | assumption | wp_step))
 exact h _ _ hx.keeps
theorem oJ:entryFor table "dict.update.loop" = some Builtin.«dict.update.loop»:=entryFor_of_tree (by kernel_rfl)
section
set_option maxRecDepth 100000
variable {prog:Program} {w:World} {K:Type} [DecidableEq K] {knd:KeyKind prog w K} {A:Around} {E:Value→Shared→Prop} {s:Shared}
theorem qd {d it l:Addr} {its:Array Value} {R:Result→Shared→Prop} (hh:A.handled=none) (kvs:List (K×Value)) (hd:d≠it) (hz:kvs.length≤sizeLine) {h0:Heap}
  (hlen:its.size=kvs.length) (hls:∀ h',(∀ b o,b≠d→b≠it→h0.get? b=some o→h'.get? b=some o)→h'.IsList l its∧∀ (i:Nat) (kv:K×Value),kvs[i]? = some kv→∃ T key,(its[i]?:Option Value)=some (Value.ref T)∧IsTup h' T #[key,kv.2]∧knd.is kv.1 key=true)
  (hR:∀ h' tk,h'.DictOf knd d (merged [] kvs)→(∀ b o,b≠d→b≠it→h0.get? b=some o→h'.get? b=some o)→R (.ok (.ret .none)) { s with heap:=h',toks:=tk }) :
  ∀ (n i:Nat) (j:Int) (tok:Tok) (h':Heap) (tk:Nat),i + n=kvs.length→(∀ b o,b≠d→b≠it→h0.get? b=some o→h'.get? b=some o)→h'.IsListIter it l i→h'.DictOf knd d (merged [] (kvs.take i)) →
   codeAny (model prog w) A (.builtin "dict.update.loop" ⟨[.ref d,.ref it,.int j tok,.none],[]⟩) R { s with heap:=h',toks:=tk }
 | 0,i,j,tok,h',tk,hi,hk,hit,hdd=>by
  refine codeAny_builtin oJ ?_
  obtain ⟨hl,hT⟩:=hls h' hk
  unfold Builtin.«dict.update.loop»
  dsimp only
  refine wpAny_bind (wpAny_pyNext_list_end (s:={ s with heap:=h',toks:=tk }) hh hit hl (by rw [Array.getElem?_eq_none]; omega) fun h'' eb=>?_)
  dsimp only
  refine wpAny_bind ?_
  unfold Builtin.Dict.addKeywords
  refine wpAny_pure (wpAny_pure ?_)
  have e:kvs.take i=kvs:=List.take_of_length_le (by omega)
  rw [e] at hdd
  obtain ⟨o,es,ep,ho,r⟩:=hdd
  exact hR h'' tk ⟨o,es,ep,eb _ _ hd ho,r⟩ fun b ob b1 b2 q=>eb b ob b2 (hk b ob b1 b2 q)
 | n + 1,i,j,tok,h',tk,hi,hk,hit,hdd=>by
  refine codeAny_builtin oJ ?_
  obtain ⟨hl,hT⟩:=hls h' hk
  have hlt:i < kvs.length:=by omega
  obtain ⟨T,key,e1,_,e3⟩:=hT i kvs[i] (List.getElem?_eq_getElem hlt)
  unfold Builtin.«dict.update.loop»
  dsimp only
  refine wpAny_bind (wpAny_pyNext_list_item (s:={ s with heap:=h',toks:=tk }) hit hl e1 fun h2 hit2 sb=>?_)
  have hk2:∀ b o,b≠d→b≠it→h0.get? b=some o→h2.get? b=some o:=fun b ob b1 b2 q=>(sb.2 b b2).trans (hk b ob b1 b2 q)
  obtain ⟨hl2,hT2⟩:=hls h2 hk2
  obtain ⟨T',key',e1',e2,e3⟩:=hT2 i kvs[i] (List.getElem?_eq_getElem hlt)
  rw [e1] at e1'
  cases e1'
  dsimp only
  refine wpAny_bind (wpAny_holding ?_)
  refine wpAny_bind (wpAny_tryCatch (wpAny_bind (wpAny_typeOf e2.typeIs ?_)))
  rw [if_pos (by decide)]
  obtain ⟨oT,hoT,cT,nT,dT⟩:=id e2
  refine wpAny_bind (m:=seqItems? (.ref T)) (wpAny_bind (wpAny_load (s:={ s with heap:=h2,toks:=tk }) hoT ?_))
  rw [dT]
  refine wpAny_pure (wpAny_pure ?_)
  dsimp only [Option.getD]
  have hmz:(merged [] (kvs.take i)).length≤sizeLine:=by
   have:=merged_length_le ([]:List (K×Value)) (kvs.take i)
   simp at this
   omega
  refine wpAny_holding (wpAny_dictSet_pairs (s:={ s with heap:=h2,toks:=tk }) e3 (hdd.sameBut sb hd) (fun h3 hd3 sb3=>?_) hmz)
  refine wpAny_pure ⟨Code.quiet_builtin _ (by decide +kernel),?_⟩
  rw [← merged_take_succ [] kvs i kvs[i] (List.getElem?_eq_getElem hlt)] at hd3
  exact qd hh kvs hd hz hlen hls hR n (i + 1) _ _ h3 _ (by omega) (fun b ob b1 b2 q=>(sb3.2 b b1).trans (hk2 b ob b1 b2 q)) (hit2.extBut sb3.extBut (Ne.symm hd)) hd3
theorem uJ {l:Addr} {its:Array Value} {n:Nat} {sl:Array (Option Value)} {Q:Value→Shared→Prop} (hh:A.handled=none) (kvs:List (K×Value)) (hz:kvs.length≤sizeLine) (hlen:its.size=kvs.length)
  (ho:s.heap.get? l=some { cls:=.type "list",dict:=none,data:=.seq its n,slots:=sl }) (hT:∀ (i:Nat) (kv:K×Value),kvs[i]? = some kv→∃ T key,(its[i]?:Option Value)=some (Value.ref T)∧IsTup s.heap T #[key,kv.2]∧knd.is kv.1 key=true)
  (h:∀ h' tk,h'.DictOf knd s.heap.objs.size (merged [] kvs)→(∀ b o,s.heap.get? b=some o→h'.get? b=some o)→Q (.ref s.heap.objs.size) { s with heap:=h',toks:=tk }) :
  wpAny (model prog w) A (call (.type "dict") [.ref l]) Q E s:=by
 refine callType_codes (Q₁:=fun obj s₁=>obj=.ref s.heap.objs.size∧s₁ = { s with heap:=s.heap.push { cls:=.type "dict",data:=.dict #[] } }) F.kt_called_dict (F.kt_typeCall_dict_1 _) F.entry_dict_init (kt_code_dict_new _ ⟨rfl,rfl⟩) ?_
 rintro obj s₁ ⟨rfl,rfl⟩
 have hnew:(s.heap.push { cls:=.type "dict",data:=.dict #[] }).DictOf knd s.heap.objs.size []:=Heap.DictOf.new s.heap
 have up:∀ b o,s.heap.get? b=some o→(s.heap.push { cls:=.type "dict",data:=.dict #[] }).get? b=some o:=fun b o e=>Heap.get?_push_of_some _ e
 refine ⟨hnew.typeIs,F.args_dict_init_2 _ _,?_⟩
 unfold Builtin.«dict.__init__»
 refine wpAny_bind ?_
 unfold Builtin.Dict.selfAndRest
 refine wpAny_bind (wpAny_notOrdered_dict hnew.typeIs ?_)
 show wpAny _ _ (pure (s.heap.objs.size,[Value.ref l])) _ _ _
 refine wpAny_pure ?_
 show wpAny _ _ (Builtin.Dict.updateFrom "dict.__init__" s.heap.objs.size (.ref l) [] .none) _ _ _
 unfold Builtin.Dict.updateFrom
 refine wpAny_bind (wpAny_typeOf (T:="list") ⟨_,up _ _ ho,rfl⟩ ?_)
 rw [if_pos (by decide)]
 refine wpAny_bind (uS (up _ _ ho) hh fun h1 tk1 k1=>?_)
 simp only [Option.isNone_none,if_true]
 refine wpAny_bind (wpAny_rule ?_)
 have ho1:h1.get? l=some _:=k1 _ _ (up _ _ ho)
 refine wpAny_bind (wpAny_pyIter_list (s:={ s with heap:=h1,toks:=tk1 }) (items:=its) ⟨_,ho1,rfl,n,rfl⟩ ?_)
 refine wpAny_pure ⟨Code.quiet_builtin _ (by decide +kernel),?_⟩
 have hne:s.heap.objs.size≠h1.objs.size:=by
  obtain ⟨o,es,ep,q,_⟩:=hnew
  exact Nat.ne_of_lt (Heap.lt_size (k1 _ _ q))
 refine qd (s:=s) (h0:=h1) (l:=l) (its:=its) (by simpa [Around.in1] using hh) kvs hne hz hlen (fun h' hk'=>⟨⟨_,hk' l _ ?_ ?_ ho1,rfl,n,rfl⟩,fun i kv e=>?_⟩) (fun h' tk hd hk'=>⟨rfl,h h' tk hd fun b o e=>hk' b o (Nat.ne_of_lt (Heap.lt_size e)) (Nat.ne_of_lt (Heap.lt_size (k1 _ _ (up _ _ e)))) (k1 b o (up b o e))⟩) kvs.length 0 _ _ _ _ (by omega) (fun b o _ _ e=>Heap.get?_push_of_some _ e) ?_ ?_
 ·exact Nat.ne_of_lt (Heap.lt_size ho)
 ·exact Nat.ne_of_lt (Heap.lt_size ho1)
 ·obtain ⟨T,key,e1,⟨oT,e2,r⟩,e3⟩:=hT i kv e
  exact ⟨T,key,e1,⟨oT,hk' T _ (Nat.ne_of_lt (Heap.lt_size e2)) (Nat.ne_of_lt (Heap.lt_size (k1 _ _ (up _ _ e2)))) (k1 _ _ (up _ _ e2)),r⟩,e3⟩
 ·exact ⟨_,Heap.get?_push_size _ rfl,rfl,rfl⟩
 ·obtain ⟨o,es,ep,q,r⟩:=hnew
  exact ⟨o,es,ep,Heap.get?_push_of_some _ (k1 _ _ q),r⟩
end
def oG (K:Frag) (H:Hp) (v:V) (p:Str×V):Prop:=∃ t,v=.ref t∧SqT K H t [.str p.1,p.2]
section
variable {X:Cx}
theorem oZ {pins:List (Addr×Obj)} {σ:L2.St} {H:Hp} {s:Shared} (I:Inv X pins σ H s):∀ {vs:List V} {kvs:List (Str×V)} {its:List Value},Paired (oG X.K H) vs kvs→Vals vs its →
  ∃ rs:List (Key×Value),KV (kvs.map cq) rs∧rs.length=its.length∧∀ (i:Nat) (kv:Key×Value),rs[i]? = some kv→∃ T key,its[i]? = some (Value.ref T)∧IsTup s.heap T #[key,kv.2]∧(bt X.prog X.w).is kv.1 key=true
 | _,_,_,.nil,.nil=>⟨[],.nil,rfl,fun i kv e=>by simp at e⟩
 | _,p::_,u::_,.cons h t,.cons r q=>by
  obtain ⟨rs,k1,k2,k3⟩:=oZ I t q
  obtain ⟨a,rfl,hs⟩:=h
  obtain ⟨its,rv,tp,_⟩:=I.tuple hs
  obtain ⟨u1,u2,rfl,r1,r2⟩:=vals2 rv
  cases (show u=Value.ref a from r)
  refine ⟨(Sum.inr p.1,u2)::rs,.cons ⟨rfl,r2⟩ k1,by simp [k2],fun i kv e=>?_⟩
  cases i with
  | zero=>
   simp at e
   subst e
   exact ⟨a,u1,rfl,tp,gS (k:=Sum.inr p.1) r1⟩
  | succ i=>
   simp at e
   obtain ⟨T,key,e1,e2,e3⟩:=k3 i kv e
   exact ⟨T,key,by simpa using e1,e2,e3⟩
theorem v8 (hcm:X.calm=true):CallR X (.type "dict") (fun xs H Q=>∃ (a:Addr) (vs:List V) (kvs:List (Str×V)),xs=[V.ref a]∧SqL X.K H a vs∧Paired (oG X.K H) vs kvs∧kvs.length≤sizeLine∧∀ p,H p=none→Q (.ref p) (upd H p (.dK (d7 [] (kvs.map cq))))):=by
 intro pins s σ H xs us Q I r h
 obtain ⟨a,vs,kvs,rfl,hs,hp,hz,q⟩:=h
 obtain ⟨u,rfl,ru⟩:=vals1 r
 cases ru
 obtain ⟨its,rv,pl,_⟩:=I.list hs
 obtain ⟨⟨cls,dd,data,sl⟩,n,e,c,d1,d2⟩:=pl
 simp only at c d1 d2
 subst c d1 d2
 obtain ⟨rs,k1,k2,k3⟩:=oZ I hp rv
 have hl:(kvs.map cq).length=rs.length:=k1.length
 rw [List.length_map] at hl
 refine uJ (knd:=bt X.prog X.w) (I.ok.hd hcm) rs (by omega) (by simp [k2]) e (fun i kv ei=>by
  obtain ⟨T,key,e1,e2,e3⟩:=k3 i kv ei
  exact ⟨T,key,by simpa using e1,e2,e3⟩) fun h' tk dd' keep=>?_
 have hn:H s.heap.objs.size=none:=I.hok.fresh (Nat.le_refl _)
 have h1:=oK (kvs.map cq) []
 rw [List.length_nil,List.length_map] at h1
 refine ⟨.ref s.heap.objs.size,_,I.laid (t':=tk) (o:=.dK (d7 [] (kvs.map cq))) keep (Nat.le_refl _) (kK (by omega) (beq_eq_false_iff_ne.mpr (Ne.symm (Nat.ne_of_lt I.big))) (k1.merge .nil) dd'),rfl,q _ hn⟩
def pairD:PyData→Option (Str×PyData)
 | .tuple [.str k,x]=>some (k,x)
 | _=>none
def gG:List PyData→Option (List (Str×PyData))
 | []=>some []
 | d::r=>match pairD d with
  | some p=>(match gG r with
   | some ps=>some (p::ps)
   | none=>none)
  | none=>none
theorem xO {d:PyData} {p:Str×PyData} (h:pairD d=some p):d=.tuple [.str p.1,p.2]:=by
 unfold pairD at h
 split at h
 ·cases h; rfl
 ·cases h
theorem qo {K:Frag} {O:Addr→Prop} {H:Hp}:∀ {vs:List V} {ds:List PyData} {ps:List (Str×PyData)},Reps K O H vs ds→gG ds=some ps→∃ kvs:List (Str×V),Paired (oG K H) vs kvs∧kvs.map (·.1)=ps.map (·.1)∧RepK K O H (kvs.map cq) (aq ps)
 | _,_,_,.nil,e=>by cases e; exact ⟨[],.nil,rfl,.nil⟩
 | _,_,ps,.cons (d:=d) r t,e=>by
  unfold gG at e
  split at e
  ·rename_i p hp
   split at e
   ·rename_i q hq
    cases e
    obtain ⟨kvs,h1,h2,h3⟩:=qo t hq
    rw [xO hp] at r
    cases r with
    | @tup a _ _ tt rr=>
     cases rr with
     | cons ra rr=>
      cases rr with
      | @cons v _ _ _ rb rr=>
       cases rr
       cases ra
       exact ⟨(p.1,v)::kvs,.cons ⟨a,rfl,tt.sq⟩ h1,by simp [h2],.cons (k:=Sum.inr p.1) rb h3⟩
   ·cases e
  ·cases e
def ol (l:List (Str×PyData)):Bool:=decide ((l.map (·.1)).Nodup) && decide (l.length≤1000)
end
section
set_option maxRecDepth 100000
variable {prog:Program} {w:World} {A:Around} {E:Value→Shared→Prop} {s:Shared}
theorem vL {T:String} {r d:Addr} {n:Nat} {P:Nat→Value→Prop} {OK:Heap→Prop} {Q:List Value→Shared→Prop} (K:PySem.W.KdlSrc prog w T r d n P OK) (hh:A.handled=none) (hok:OK s.heap) (hn:n≤sizeLine)
  (hQ:∀ h' tk acc,(∀ b o,s.heap.get? b=some o→h'.get? b=some o)→s.heap.objs.size < h'.objs.size→ItemsOf P acc n→Q acc.toList { s with heap:=h',toks:=tk }):wpAny (model prog w) A (collect (.ref r)) Q E s:=by
 have lt:=K.there _ hok
 have hS:(s.heap.push { cls:=.type "list",data:=.seq #[] }).get? s.heap.objs.size=some { cls:=.type "list",data:=.seq #[] }:=Heap.get?_push_size _ rfl
 unfold collect
 refine wpAny_bind (wpAny_runValue (codeAny_builtin PySem.F.entry_proto_collect ?_))
 rw [Around.under_plainId PySem.F.plain_proto_collect _]
 show wpAny _ A.in1 (newList [] >>= fun l=>again (.builtin "list.__iadd__" ⟨[l,.ref r],[]⟩)) _ _ s
 refine wpAny_bind (wpAny_newObj_type (wpAny_pure ⟨plainId_quiet PySem.F.plain_list_iadd _,codeAny_builtin PySem.F.entry_list_iadd ?_⟩))
 rw [Around.under_plainId PySem.F.plain_list_iadd _]
 show wpAny _ A.in1 (Builtin.List.listExtendWith (.ref s.heap.objs.size) (.ref r) (.ref s.heap.objs.size)) _ _ _
 refine PySem.W.kdl_extend (R:=fun r s'=>match r with
  | .ok (.ret v)=>wpAny (model prog w) A (match v with
   | .ref a=>(do match (← load a).data with
    | .seq xs _=>pure xs.toList
    | _=>unsupported "internal:collect")
   | _=>unsupported "internal:collect") Q E s'
  | .ok _=>False
  | .error e=>E e s') (A:=A) (s:={ s with heap:=s.heap.push { cls:=.type "list",data:=.seq #[] } }) K hh (K.keep _ _ hok fun b _ o e=>Heap.get?_push_of_some _ e) s.heap.objs.size (Nat.ne_of_gt lt.1) (Nat.ne_of_gt lt.2) (.ref s.heap.objs.size) 0 hS (fun h' tk acc c k1 k2 k3=>?_) hn
 refine wpAny_bind (wpAny_load k2 (wpAny_pure ?_))
 exact hQ h' tk acc (fun b o e=>k1 b o (Nat.ne_of_lt (Heap.lt_size e)) (Heap.get?_push_of_some _ e)) (Heap.lt_size k2) k3
end
section
set_option maxRecDepth 100000
variable {X:Cx}
end
section
variable {X:Cx}
end
section
set_option maxRecDepth 100000
variable {X:Cx}
theorem v7 (hcm:X.calm=true):CallR X (.builtin "sorted") (fun xs H Q=>∃ a kvs ss,xs=[V.ref a]∧Rd H a (.dK kvs)∧kvs.map (fun p=>kV p.1)=ss.map V.str∧ss.length < 64∧∀ l,H l=none→Q (.ref l) (upd H l (.lst ((bK ss).map V.str)))):=by
 intro pins s σ H xs us Q I r h
 obtain ⟨a,kvs,ss,rfl,ha,hk,h64,q⟩:=h
 obtain ⟨u,rfl,ru⟩:=vals1 r
 cases ru
 obtain ⟨z,y,vs,kv,dd⟩:=eF I.hok ha
 obtain ⟨ep,dd⟩:=dd.dictAt
 have hl:=kv.length
 have hlen:kvs.length=ss.length:=by have:=congrArg List.length hk; simpa using this
 refine Calls.call_function_entry kind_sorted plain_sorted entry_sorted (args_sorted1 _) ?_
 unfold Builtin.«sorted»
 refine wpAny_bind (m:=checkCount "sorted" 1 1 _) (wpAny_pure ?_)
 refine wpAny_bind (vL (PySem.W.kdl_dict (prog:=X.prog) (w:=X.w) (knd:=bt X.prog X.w) (kvs:=vs) (ep:=ep) y) (I.ok.hd hcm) dd (by omega) fun h' tk acc k1 k2 k3=>?_)
 have hv:Vals (kvs.map fun p=>kV p.1) acc.toList:=pw (P:=X.prog) (w:=X.w) kv (by rw [Array.length_toList]; exact k3.1) fun j v e=>k3.2 j v (by simpa using e)
 rw [hk] at hv
 have hS:=qf hv
 have hal:acc.toList.length=ss.length:=by have:=hv.length; simpa using this.symm
 refine wpAny_bind (wpAny_newList ?_)
 have hoL:(h'.push (seqObj "list" acc.toList.toArray 0)).get? h'.objs.size=some (seqObj "list" acc.toList.toArray 0):=Heap.get?_push_size _ rfl
 refine wpAny_bind (wpAny_holding (wpAny_call_entry slot_list_sort ⟨_,hoL,rfl⟩ entry_list_sort (list_sort_treeK strKind_oneLt hoL hS.keysOf (fun v1 v2 rest e=>keyKind_strs (by rw [← e]; exact hS)) (by omega) fun st' a1 a2=>⟨_,rfl,?_⟩) (args_list_sort _)))
 refine wpAny_pure ⟨_,rfl,?_⟩
 obtain ⟨ss',b1,b2,b3⟩:=sorted_out_str hS a1 a2
 have e:ss'=bK ss:=oP (b2.trans (hU ss).symm) (vR b3) (oM ss)
 subst e
 obtain ⟨e2,he⟩:=sortedHeap_at (out:=(arrOf st').map (·.2)) hoL
 have keep:∀ b o,s.heap.get? b=some o→(sortedHeap (h'.push (seqObj "list" acc.toList.toArray 0)) h'.objs.size acc.toList ((arrOf st').map (·.2))).get? b=some o:=fun b o q=>by
  have q':=k1 b o q
  have lt:=Heap.lt_size q'
  rw [sortedHeap_old (Nat.ne_of_lt lt) (by rw [size_push']; exact Nat.lt_succ_of_lt lt)]
  exact Heap.get?_push_of_some _ q'
 have hn:H h'.objs.size=none:=I.hok.fresh (Nat.le_of_lt k2)
 have hlen2:(bK ss).length=ss.length:=(hU ss).length_eq
 exact ⟨.ref h'.objs.size,_,I.laid (t':=tk) (o:=.lst ((bK ss).map V.str)) keep (Nat.le_of_lt k2) ⟨by simp; exact Nat.le_of_lt (Nat.lt_of_lt_of_le (by omega:(bK ss).length < 64) (by decide)),((arrOf st').map (·.2)).toList,e2,oU b1,by simpa [seqObj,-Array.toList_map] using he⟩,rfl,q _ hn⟩
def dJ:PyData→Option PyData
 | .dict ds=>kP (cc (iA ds))
 | _=>none
theorem wu {x y:PyData} (h:dJ x=some y):∃ ds ss,x=.dict ds∧cc (iA ds)=some ss∧ss.length < 64∧y=.list ((bK ss).map .str):=by
 cases x with
 | dict ds=>
  have h':kP (cc (iA ds))=some y:=h
  unfold kP at h'
  split at h'
  ·rename_i ss hs
   split at h'
   ·rename_i hl
    cases h'
    exact ⟨ds,ss,rfl,hs,hl,rfl⟩
   ·cases h'
  ·cases h'
 | _=>cases h
theorem qA {e:Expr} {fe:FE} {p pos:Pos} (hm:X.mg "sorted" = none) (ha:DE X e fe) (hc:X.calm=true:=by rfl) (hg:Gl X "sorted":=by rfl) (hs:starEach [e] X.env=(false,eval e X.env)::starEach [] X.env:=by exact bq rfl)
  (hpl:(backTo pos (starEach [] X.env)).any (·.1)=false:=by exact bD rfl):DE X (.Call (.Name "sorted" p) [e] [] pos) (fUn dJ fe):=by
 refine ⟨?_⟩
 refine bx (l6 (v7 hc) hg hm boot_sorted (bV ha.pe cG hs) (by decide) (by decide) hs hpl) fun σ H Q=>?_
 rintro ⟨O,ts,ρ,T,w,T',hc,re,e,q⟩
 obtain ⟨w1,T1,e1,e⟩:=aG e
 obtain ⟨x,d,hv,hd,rfl,rfl⟩:=kA e
 obtain ⟨ds,ss,rfl,hs',hl,rfl⟩:=wu hd
 refine ⟨O,ts,ρ,T,w1,T',hc,re,e1,fun v1 H1 s1 hc1 r1=>?_⟩
 obtain ⟨a,kvs,rfl,t,r⟩:=(hc1.view r1 hv).dct
 have rk:=pG (O':=O) (H':=H1) r
 refine ⟨a,kvs,ss,rfl,t,iX rk hs',hl,fun l hl'=>?_⟩
 exact q _ _ (s1.trans (.new hl' _)) (hc1.new hl' _) (hc1.newL hl' (pF _))
end
end D
namespace XE
open PySem PySem.Spec PyProof.Rows L2
abbrev vE:List Value:=[.type "ValueError",.type "Exception",.type "BaseException",.type "object"]
def XCl (K:Frag) (C:Addr) (tl:List Value):Prop:=∃ nm q N bs sn sub ab col dd k0 k1 k2 k3 k5,K.lookup C=some (excClassObj nm q C N bs tl true sn sub ab col dd k0 k1 k2 k3 k5 "ValueError.__new__")∧PySem.W.nsOkIn K N=true
section
variable {prog:Program} {w:World} {A:Around} {E:Value→Shared→Prop} {h:Heap} {g:Array GenState} {d:Drawn} {t:Nat} {os:OsState} {K:Frag} {C R fI:Addr}
end
end XE
namespace XE
open PySem PySem.Spec PyProof.Rows L2
def XAt (e C:Addr) (od:Option Addr):Heap→Prop:=fun h=>∃ t,h.get? e=some { cls:=.ref C,dict:=od,data:=.fields #[.ref t,.none,.none,.none,.bool false,.none] }
section
variable {X:Cx} {C R:Addr}
end
section
open Builtin Builtin.ObjectAttr
variable {prog:Program} {w:World} {A:Around} {E:Value→Shared→Prop} {h:Heap} {g:Array GenState} {d:Drawn} {t:Nat} {os:OsState} {K:Frag} {C R e:Addr} {name:Str} {v:Value} {vs:Array Value}
end
end XE
namespace XE
open PySem PySem.Spec PyProof.Rows L2
section
variable {X:Cx} {C R:Addr}
end
end XE
namespace XE
open PySem PySem.Spec PyProof.Rows L2
def spI (C:Addr) (f:Str):Sp:=fun vs H Q _=>∃ a x,vs=[.ref a,.str x]∧H a=some (.ext (XAt a C none))∧(reprText x).length + 1000≤sizeLine ∧
 ∀ dx,H dx=none→dx≠a→Q .non (upd (upd H dx (.xd [(f,.str x)])) a (.ext (XAt a C (some dx))))
structure XIni (P:Program) (w:World) (K:Frag) (mg:Str→Option Value) (base:Heap) (C R:Addr) (f:Str) (k:Nat):Prop where
 ex:∃ fI fd ps,FnOk P w K mg base CX0 k fI fd ps (spI C f)∧Binds K fd ps []∧PySem.W.findIn K (.ref C) "__init__" = some (some (.ref fI))∧PySem.W.isFn K (.ref fI)=true
 c:XCl K C (.ref R::vE)
 r:XCl K R vE
 ri:PySem.W.ownIn K "__init__" (.ref R)=some none
 kp:PySem.W.keepIn K (.ref C)=true
section
variable {X:Cx} {C R:Addr} {f:Str} {k:Nat}
end
end XE
namespace XE
open PySem PySem.Spec PyProof.Rows L2
structure Kp (xs fs:List Addr) (h h':Heap):Prop where
 keep:∀ b o,h.get? b=some o→b∉xs→b∉fs→h'.get? b=some o
 slot:∀ b o,h.get? b=some o→b∉xs→b∈fs→∃ sl,h'.get? b=some { o with slots:=sl }
 there:∀ b o,h.get? b=some o→∃ o',h'.get? b=some o'
section
variable {M:Model} {A:Around} {E:Value→Shared→Prop} {s:Shared} {base:Heap} {env:Env} {outer:List Env} {L e C dx T:Addr}
end
end XE
namespace XE
open PySem PySem.Spec PyProof.Rows L2
section
variable {P:Program} {w:World} {K:Frag} {mg:Str→Option Value} {base:Heap} {N:List Str} {qual:Str} {scope:Scope} {f C R:Addr} {cdv:Value} {A:Around} {outer:List Env} {s0:Shared} {H0:Hp} {E:XK}
end
end XE
namespace XE
open PySem PySem.Spec PyProof.Rows L2
section
variable {X:Cx} {pins:List (Addr×Obj)} {σ:L2.St} {H:Hp} {s:Shared}
end
end XE
namespace XE
open PySem PySem.Spec PyProof.Rows L2
section
variable {X:Cx} {C R fa:Addr} {k:Nat} {fd:FuncData} {ps:List Str} {sp:Sp}
end
end XE
namespace XE
open PySem PySem.Spec PyProof.Rows L2
section
variable {prog:Program} {w:World} {A:Around} {E:Value→Shared→Prop} {h:Heap} {g:Array GenState} {d:Drawn} {t:Nat} {os:OsState} {K:Frag} {C R x:Addr} {ox:Obj} {od:Option Obj} {name:Str}
structure XIs (K:Frag) (C:Addr):Prop where
 bm:PySem.W.mroIn K C (.type "BaseException")=some true
 gt:PySem.W.findIn K (.ref C) "__getattr__" = some none
 ga:PySem.W.findIn K (.ref C) "__getattribute__" = some (some (.builtin "BaseException.__getattribute__"))
 hc:(PySem.W.clsIn K C).isSome=true
 ca:PySem.W.findIn K (.ref C) "__class__" = some (some (.builtin "object.__class__"))
 hn:PySem.W.specialIn K (.builtin "object.__class__") "__get__" = some (some (.builtin "getset_descriptor.__get__"))
 tk:PySem.W.takesIn K (.builtin "object.__class__")=some true
 hm:PySem.W.mroIn K C (.type "object")=some true
end
end XE
namespace XE
open PySem PySem.Spec PyProof.Rows L2
section
variable {X:Cx} {C e dx:Addr} {oe:Obj}
structure Cau (X:Cx) (C e dx:Addr) (oe:Obj):Prop where
 pin:(e,oe)∈X.pn
 cls:oe.cls=.ref C
 dict:oe.dict=some dx
 data:∃ vs,oe.data=.fields vs
 is:XIs X.K C
 hd:PySem.W.hasDictIn X.K C=true
end
end XE
namespace XE
open PySem PySem.Spec PyProof.Rows L2 D
structure XB (K:Frag) (C R:Addr) (f:Str) (Ds:List Addr):Prop where
 c:XCl K C (.ref R::vE)
 r:XCl K R vE
 ri:PySem.W.ownIn K "__init__" (.ref R)=some none
 kp:PySem.W.keepIn K (.ref C)=true
 is:XIs K C
 hd:PySem.W.hasDictIn K C=true
 nn:PySem.W.findIn K (.ref C) f=some none
 sa:PySem.W.findIn K (.ref C) "__setattr__" = some (some (.builtin "object.__setattr__"))
 rd:PySem.W.readsIn K R (.type "type")=true
 fc:PySem.W.findCls K (.ref R) (.type "type") "__init__" = some (.val (.builtin "ValueError.__init__"))
 kC:PySem.W.kitOne K (.ref C) (.ref C)=some true
 kV:PySem.W.kitOne K (.ref C) (.type "ValueError")=some true
 kD:PySem.W.kitAny K (.ref C) (Ds.map Value.ref)=some false
end XE
namespace XE
open PySem PySem.Spec PyProof.Rows L2
section
variable {X:Cx} {C R:Addr}
end
end XE
namespace XE
open PySem PySem.Spec PyProof.Rows L2 D
def spG (P:V→Prop) (C:Addr) (f:Str):Sp:=fun vs H Q _=>∃ a v,vs=[.ref a,v]∧H a=some (.ext (XAt a C none))∧P v ∧
 ∀ dx,H dx=none→dx≠a→Q .non (upd (upd H dx (.xd [(f,v)])) a (.ext (XAt a C (some dx))))
structure XIniG (A:V→Prop) (P:Program) (w:World) (K:Frag) (mg:Str→Option Value) (base:Heap) (C R:Addr) (f:Str) (k:Nat):Prop where
 ex:∃ fI fd ps,FnOk P w K mg base CX0 k fI fd ps (spG A C f)∧Binds K fd ps []∧PySem.W.findIn K (.ref C) "__init__" = some (some (.ref fI))∧PySem.W.isFn K (.ref fI)=true
 c:XCl K C (.ref R::vE)
 r:XCl K R vE
 ri:PySem.W.ownIn K "__init__" (.ref R)=some none
 kp:PySem.W.keepIn K (.ref C)=true
section
variable {X:Cx} {C R:Addr} {f:Str} {k:Nat}
end
end XE
namespace XE
open PySem PySem.Spec PyProof.Rows L2 D
end XE
namespace D
open PySem PySem.Spec PyProof.Rows L2
def nM (n:Nat) (o:Option (PyData×Tp)):Option (W×Tp):=match o with
 | some (y,T)=>if T.length=n + 1 then some (.d y,T.take n) else none
 | none=>none
def jf (mf:FnM) (xs:List PyData) (ws:List W) (T:Tp):Option (W×Tp):=if c9 ws=true then nM T.length (mf (.tp T.length::ws) (T++[xs])) else none
def sm (mf:FnM) (g:FA) (ρ:Rho) (x:PyData) (T:Tp):Option (W×Tp):=match x with
 | .list xs=>bnd (g ρ T) (jf mf xs)
 | _=>none
def bQ (mf mh:FnM) (g1 g2:FA):FE:=fun ρ T=>bnd (g1 ρ T) fun ws T1=>bnd (mh ws T1) (sm mf g2 ρ)
theorem wG {mf:FnM} {g:FA} {ρ:Rho} {x:PyData} {T T':Tp} {w:W} (h:sm mf g ρ x T=some (w,T')):∃ xs ws T3 y T5,x=.list xs∧g ρ T=some (ws,T3)∧c9 ws=true∧mf (.tp T3.length::ws) (T3++[xs])=some (y,T5)∧T5.length=T3.length + 1∧w=.d y∧T'=T5.take T3.length:=by
 cases x with
 | list xs=>
  obtain ⟨ws,T3,e1,e⟩:=aG (show bnd (g ρ T) (jf mf xs)=_ from h)
  unfold jf at e
  split at e
  ·rename_i hn
   unfold nM at e
   split at e
   ·rename_i y T5 e2
    split at e
    ·rename_i hl
     cases e
     exact ⟨xs,ws,T3,y,T5,rfl,e1,hn,e2,hl,rfl,rfl⟩
    ·cases e
   ·cases e
  ·cases e
 | _=>cases h
section
variable {X:Cx}
theorem iU {fname hname:Str} {ps qs:List Str} {kf kh:Nat} {mf mh:FnM} {a:Expr} {as es:List Expr} {g1 g2:FA} {p p2 c2 cpos:Pos} (Ff:Fn X.prog X.w X.K X.mg X.base fname ps kf (spM X.K ps.length mf)) (Fh:Fn X.prog X.w X.K X.mg X.base hname qs kh (spO X.K qs.length mh)) (hrf:Room kf X.A) (hrh:Room kh X.A) (hgf:Gl X fname) (hgh:Gl X hname)
  (ha:DA X (a::as) g1) (hl1:dW g1 qs.length) (he:DA X es g2) (hl2:dW (ae (fC .none) g2) ps.length) (hdf:(fname == ("__debug__" : Str))=false:=by decide) (hdh:(hname == ("__debug__" : Str))=false:=by decide)
  (hsh:starEach (a::as) X.env=(false,eval a X.env)::starEach as X.env:=by exact bq rfl) (hplh:(backTo c2 (starEach as X.env)).any (·.1)=false:=by exact bD rfl)
  (hsf:starEach (.Call (.Name hname p2) (a::as) [] c2::es) X.env=(false,eval (.Call (.Name hname p2) (a::as) [] c2) X.env)::starEach es X.env:=by exact bq rfl) (hplf:(backTo cpos (starEach es X.env)).any (·.1)=false:=by exact bD rfl) :
  DE X (.Call (.Name fname p) (.Call (.Name hname p2) (a::as) [] c2::es) [] cpos) (bQ mf mh g1 g2):=by
 refine ⟨?_⟩
 refine bx (fQ Ff hrf hgf (bV (fQ Fh hrh hgh ha.pe hdh hsh hplh) he.pe hsf) hdf hsf hplf) fun σ H Q=>?_
 rintro ⟨O,ts,ρ,T,w,T',hc,re,e,q⟩
 obtain ⟨ws,T1,e1,e⟩:=aG e
 obtain ⟨x,T2,e2,e⟩:=aG e
 obtain ⟨xs,ws2,T3,y,T5,rfl,e3,hno,e4,hlen,rfl,rfl⟩:=wG e
 refine ⟨O,ts,ρ,T,ws,T1,hc,re,e1,fun vs H1 s1 hc1 r1=>?_⟩
 refine ⟨O,ts,T1,ws,_,_,hc1,by rw [List.append_nil]; exact r1,hl1 _ _ _ _ e1,e2,fun A v H2 s2 hA hc2 ov=>?_⟩
 obtain ⟨b,rfl,hAA,us,k1,k2⟩:=ov
 have hAb:=hA b ((hAA b).mpr rfl)
 have ntb:b∉ts:=fun z=>hAb.2 (hc1.own b z)
 have le2:Le O H1 (fun c=>O c∨A c) H2:=fun c o n z=>⟨fun y=>y.elim n fun y=>(by rw [(hA c y).1] at z; cases z),s2 c o (fun y=>n (hc1.own c y)) z⟩
 have re2:RelE X.K (fun c=>O c∨A c) ts H2 σ ρ:=fun i w e=>by
  obtain ⟨v,h1,h2⟩:=(re.mono hc s1) i w e
  refine ⟨v,h1,?_⟩
  cases w with
  | d x=>exact Rep.mono le2 h2
  | tp k=>exact h2
  | loc ys=>
   obtain ⟨a',ea,m1,m2,m3⟩:=h2
   exact ⟨a',ea,.inl m1,m2,m3.mono (fun o q=>s2 _ _ m2 q) le2⟩
 refine ⟨_,ts,ρ,T2,ws2,T3,hc2,re2,e3,fun vs2 H3 s3 hc3 r3=>?_⟩
 have kb3:H3 b=some (.lst us):=s3 b _ ntb k1
 have ru3:=k2.mono (hc2.le s3)
 have lt3:ts.length=T3.length:=hc3.len
 have hc4:HC X.K (fun c=>O c∨A c) (ts++[b]) H3 (T3++[xs]):=by
  refine ⟨fun c hc'=>?_,hc3.trk,?_,by simp [lt3],fun i c ys q1 q2=>?_⟩
  ·rcases List.mem_append.mp hc' with z | z
   ·exact hc3.own c z
   ·rw [List.mem_singleton.mp z]; exact .inr ((hAA b).mpr rfl)
  ·exact List.nodup_append.mpr ⟨hc3.nd,by simp,fun c hc' d hd z=>ntb (by rw [← List.mem_singleton.mp hd,← z]; exact hc')⟩
  ·by_cases hi:i < ts.length
   ·rw [List.getElem?_append_left hi] at q1
    rw [List.getElem?_append_left (by omega)] at q2
    exact hc3.tape i c ys q1 q2
   ·have hi':i=ts.length:=by
     have:=(List.getElem?_eq_some_iff.mp q1).1
     simp at this
     omega
    subst hi'
    rw [List.getElem?_append_right (Nat.le_refl _)] at q1
    rw [List.getElem?_append_right (by omega)] at q2
    simp [lt3] at q1 q2
    subst q1 q2
    exact .inl ⟨ru3.notO,us,kb3,ru3⟩
 have rw4:eZ X.K (fun c=>O c∨A c) (ts++[b]) H3 (.ref b::vs2) (.tp T3.length::ws2):=by
  refine .cons ⟨b,by rw [List.getElem?_append_right (by omega)]; simp [lt3],rfl⟩ ?_
  clear e4 hlen q e3
  induction r3 with
  | nil=>exact .nil
  | @cons v w vs ws h t ih=>
   cases w with
   | d x=>exact .cons h (ih hno)
   | tp i=>
    obtain ⟨c,h1,h2⟩:=h
    exact .cons ⟨c,by rw [List.getElem?_append_left (List.getElem?_eq_some_iff.mp h1).1]; exact h1,h2⟩ (ih hno)
   | loc _=>cases hno
 have hlw:(W.tp T3.length::ws2).length=ps.length:=by
  have:=hl2 ρ T2 (.d .none::ws2) T3 (by show bnd (some (W.d .none,T2)) _=_; rw [Bv,e3]; rfl)
  simpa using this
 refine ⟨_,ts++[b],T3++[xs],.tp T3.length::ws2,y,T5,hc4,by rw [List.append_nil]; exact rw4,hlw,e4,fun v H4 s4 hc5 r5=>?_⟩
 have le5:Le (fun c=>O c∨A c) H4 O H4:=fun c o n z=>⟨fun y=>n (.inl y),z⟩
 refine q v H4 (fun c o n z=>?_) ⟨hc.own,fun c hc'=>hc5.trk c (.inl hc'),hc.nd,?_,fun i c ys q1 q2=>?_⟩ (Rep.mono le5 r5)
 ·have h1:=s1 c o n z
  have nb:c≠b:=fun y=>by rw [y,hAb.1] at h1; cases h1
  refine s4 c o (fun y=>?_) (s3 c o n (s2 c o n h1))
  rcases List.mem_append.mp y with z | z
  ·exact n z
  ·exact nb (List.mem_singleton.mp z)
 ·rw [List.length_take,hlen,lt3]
  omega
 ·have hi:i < ts.length:=(List.getElem?_eq_some_iff.mp q1).1
  rw [List.getElem?_take_of_lt (by omega)] at q2
  exact (hc5.tape i c ys (by rw [List.getElem?_append_left hi]; exact q1) q2).mono (fun _ h=>h) le5
end
section
variable {X:Cx}
variable {pos:Pos} {e:Expr} {fe:FE}
end
section
variable {prog:Program} {w:World} {A:Around} {E:Value→Shared→Prop}
end
section
variable {X:Cx} {pos:Pos}
end
section
variable {X:Cx} {pos:Pos} {e:Expr} {fe:FE}
def rW (i:Nat) (ρ:Rho) (T:Tp) (o:Option PyData):Option ((Fl×Rho)×Tp):=match o with
 | some (.list xs)=>some ((.nx,ρ.set i (some (.loc (.list xs)))),T)
 | _=>none
def gL (i:Nat) (f:FE):FS:=fun ρ T=>bnd (f ρ T) fun w T1=>rW i ρ T1 (view T1 w)
theorem qu {i:Nat} {x:Str} {p cpos pos':Pos} (hm:X.mg "list" = none) (hN:X.N.Nodup) (he:DE X e fe) (hg:Gl X "list":=by rfl)
  (hse:starEach [e] X.env=(false,eval e X.env)::starEach [] X.env:=by exact bq rfl) (hpl:(backTo cpos (starEach [] X.env)).any (·.1)=false:=by exact bD rfl) (hi:X.N[i]? = some x:=by rfl) (hx:Loc X.env.scope x:=by first | exact Or.inl rfl | exact Or.inr rfl)
  (hs:swapsWith (.Call (.Name "list" p) [e] [] cpos) (some (.Name x pos')) pos.line X.env=pure false:=by rfl) (hf:X.fn x=true∨X.env.scope.names.lookup x=some .local:=by first | exact .inl rfl | exact .inr rfl | assumption) :
  DS X (.Assign [.Name x pos'] (.Call (.Name "list" p) [e] [] cpos) pos) (gL i fe):=by
 refine ⟨?_⟩
 refine bw (dN hN hi hx (jP oO hg hm boot_list (bV he.pe cG hse) (by decide) (by decide) hse hpl) hs hf) fun D σ H=>?_
 rintro ⟨O₀,H₀,F,ts,O,ρ,T,fl,ρ',T',rs,e,q⟩
 obtain ⟨w,T1,e1,e⟩:=aG e
 refine ⟨O,ts,ρ,T,w,T1,rs.hc,rs.re,e1,fun v H1 s1 hc1 r1=>?_⟩
 have rs1:=rs.step s1 hc1
 unfold rW at e
 split at e
 ·rename_i xs h1
  cases e
  obtain ⟨a,vs,rfl,t,r⟩:=(hc1.view r1 h1).lst
  exact ⟨a,vs,rfl,.inl t,fun p hp=>q _ _ _ (rs1.own hp r)⟩
 ·cases e
theorem xU:MtM X "list.pop" (fun x vs H Q=>∃ (l:Addr) (xs:List V) (i:Int) (k:Nat) (y:V),x=.ref l∧vs=[.int i]∧H l=some (.lst xs)∧i=k∧xs[k]? = some y∧xs.length≤1000∧Q y (upd H l (.lst (xs.eraseIdx k)))):=by
 intro pins s σ H x vs v us Q I rx rv h
 obtain ⟨l,xs,i,k,y,rfl,rfl,hH,hik,hy,hz,q⟩:=h
 cases rx
 obtain ⟨u,rfl,ru⟩:=rv.one
 obtain ⟨t,rfl⟩:=ru
 obtain ⟨z,its,n,r,hl,e⟩:=I.lstM hH
 have hsl:(1001:Nat)≤sizeLine:=by decide
 obtain ⟨u,hu,ru⟩:=r.get hy
 have hk:k < its.length:=(List.getElem?_eq_some_iff.mp hu).1
 have hfit:Builtin.List.listFitsIndex i=true:=fitsIndex_both (by omega) (by omega)
 have hsi:seqIndex? i its.toArray.size=some k:=by
  have h0:¬ (i < 0):=by omega
  unfold seqIndex?
  rw [if_neg h0]
  simp [hk,hik]
 have hu':its.toArray[k]? = some u:=by simpa using hu
 have hz':its.toArray.size≤sizeLine:=by rw [List.size_toArray]; exact Nat.le_trans (by omega) hsl
 clear hsl hz
 have er:Vals (xs.eraseIdx k) (its.eraseIdx k):=by
  rw [List.eraseIdx_eq_take_drop_succ,List.eraseIdx_eq_take_drop_succ]
  exact (r.take k).append (r.drop (k + 1))
 refine call_meets F.slot_list_pop ⟨_,e,rfl⟩ F.entry_list_pop (F.args_list_pop_2 _ _) (PySem.MeetsSeq.list_pop_at l its.toArray n i t k u hfit hsi hu' hz') ⟨e,?_⟩
 refine ⟨y,_,I.lset (its':=its.eraseIdx k) hH e ?_ er ?_,ru,q⟩
 ·apply Array.ext'
  simp [Array.eraseIdxIfInBounds,hk]
 ·exact Nat.le_trans (List.length_eraseIdx_le xs k) (by rw [hl]; simpa using hz')
end
section
variable {X:Cx}
theorem any_range (bs:List Bool) (n:Nat) (hn:n=bs.length):(List.range n).any (fun i=>bs.getD i false)=bs.any id:=by
 subst hn
 induction bs with
 | nil=>rfl
 | cons b r ih=>
  rw [List.length_cons,List.range_succ_eq_map,List.any_cons,List.any_map,List.any_cons,← ih]
  rfl
theorem yr (hc:X.calm=true):CallR X (.builtin "any") (fun xs H Q=>∃ (p:Addr) (bs:List Bool),xs=[.ref p]∧SqL X.K H p (bs.map V.bl)∧Q (.bl (bs.any id)) H):=by
 intro pins s σ H xs us Q I r h
 obtain ⟨p,bs,rfl,hq,q⟩:=h
 obtain ⟨u,rfl,ru⟩:=vals1 r
 cases ru
 obtain ⟨its,rv,pl,hz⟩:=I.list hq
 have hlen:its.length=bs.length:=by have:=rv.length; simpa using this.symm
 have hlt:p < s.heap.objs.size:=by
  obtain ⟨o,n,e,_⟩:=pl
  exact Heap.lt_size e
 refine call_any_walk (wpAny_pyIter_list pl.isList ?_)
 refine ⟨s.heap.objs.size,_,_,_,_,_,fun i=>bs.getD i false,rfl,Walks.list (A:=X.A.in1) (I.ok.hd hc) _ p (Nat.ne_of_lt hlt) its.toArray,⟨⟨_,Heap.get?_push_size _ rfl,rfl,rfl⟩,?_⟩,fun i v s' Q' E' hv hQ'=>?_,fun h' tk hk=>?_⟩
 ·obtain ⟨o,n,e,r⟩:=pl.isList
  exact ⟨o,Heap.get?_push_of_some _ n,e,r⟩
 ·have hi:i < its.length:=by
   have:=(Array.getElem?_eq_some_iff.mp hv).1
   simpa using this
  have hi2:i < bs.length:=by omega
  obtain ⟨u,hu,ru⟩:=rv.get (i:=i) (x:=.bl bs[i]) (by simp [hi2])
  have e:v=u:=by
   have hv':its[i]? = some v:=by simpa using hv
   rw [hu] at hv'
   exact (Option.some.inj hv').symm
  subst e
  cases (show v=Value.bool bs[i] from ru)
  refine wpAny_truthy_bool ?_
  have e:bs[i]=bs.getD i false:=by simp [List.getD,hi2]
  rw [e]
  exact hQ'
 ·have e:(List.range its.toArray.size).any (fun i=>bs.getD i false)=bs.any id:=any_range bs _ (by simpa using hlen)
  rw [e]
  exact ⟨.bl _,H,I.kept (t':=tk) fun b o q=>hk b o (by simp; exact Nat.ne_of_lt (Heap.lt_size q)) (Heap.get?_push_of_some _ q),rfl,q⟩
def g5:List PyData→Option PyData
 | [.list xs]=>(eU xs).map fun bs=>.bool (bs.any id)
 | _=>none
theorem tH (hc:X.calm=true:=by rfl):dU X (.builtin "any") g5:=⟨_,yr hc,fun O ts H T vs xs d Q hc h e q=>by
 unfold g5 at e
 split at e
 ·obtain ⟨bs,e1,rfl⟩:=Option.map_eq_some_iff.mp e
  obtain ⟨v,rfl,g⟩:=cM h
  obtain ⟨a,vs,rfl,t,r⟩:=g.lst
  rw [mq r e1] at t
  exact ⟨a,bs,rfl,t,q _ H (.refl _ _) hc (.bl _)⟩
 ·cases e⟩
theorem wQ (l:Addr) (items:Array Value) (n:Nat) (dd:Option Addr) (sl:Array (Option Value)) (x:Int) (u:Tok) (hc0:¬(!Builtin.List.listFitsIndex x)=true) (hc1:¬items.size * x.toNat > (2 ^ 63 - 1) / 8) (hc2:¬Builtin.List.listTooLong (items.size * x.toNat)=true) :
  Meets (Builtin.«list.__mul__» ⟨[.ref l,.int x u],[]⟩) (fun _ R s=>s.heap.get? l=some { cls:=.type "list",dict:=dd,data:=.seq items n,slots:=sl }∧R (.ok (.ret (Value.ref s.heap.objs.size))) { s with heap:=s.heap.push { cls:=Value.type "list",data:=Data.seq (List.foldl (fun x1 x2=>x1++x2) #[] (List.replicate (if items.isEmpty=true then 0 else x.toNat) items)) },toks:=s.toks }):=
 .of_wp fun prog w A R s h=>by
  obtain ⟨hp,g,d,tk,os⟩:=s
  obtain ⟨hl,h⟩:=h
  have f1:=AutoSeq1.idx_int
  have f2:=AutoSeq1.sub_tuple_tuple
  have f3:=AutoSeq1.sub_list_list
  have f4:=AutoSeq1.sub_tuple_list
  have f5:=AutoSeq1.sub_list_tuple
  have hsz:=PySem.AutoListH.joined_fits hc2
  wp_walk using wpAny_loadPart' hl
  refine wpAny_ite_false (decide_eq_false (Nat.not_lt.mpr hsz)) ?_
  wp_walk using wpAny_loadPart' hl
  exact ⟨_,rfl,h⟩
theorem u4 (a:Int) (t:Tok) (l:Addr) (items:Array Value) (n:Nat) (dd:Option Addr) (sl:Array (Option Value)) :
  Meets (Builtin.«int.__rmul__» ⟨[.int a t,.ref l],[]⟩) (fun _ R s=>s.heap.get? l=some { cls:=.type "list",dict:=dd,data:=.seq items n,slots:=sl }∧R (.ok (.ret Value.notImplemented)) s):=.of_wp fun prog w A R s h=>by obtain ⟨hp,g,d,tk,os⟩:=s; obtain ⟨hl,h⟩:=h; wp_walk; exact ⟨_,rfl,h⟩
theorem zg:OpR X (binaryOp .Mult) (fun x y H Q=>∃ a k v,x=.ref a∧y=.int k∧SqL X.K H a [v]∧(k=0∨k=1)∧∀ p,H p=none→Q (.ref p) (upd H p (.lst (List.replicate k.toNat v)))):=by
 intro pins s σ H x y v u Q I rx ry h
 obtain ⟨a,k,v0,rfl,rfl,hq,hk,q⟩:=h
 cases rx
 obtain ⟨t,rfl⟩:=ry
 obtain ⟨its,r,pl,_⟩:=I.list hq
 obtain ⟨u0,rfl,r0⟩:=r.one
 obtain ⟨⟨cls,dd,data,sl⟩,n,ho,c,d1,d2⟩:=pl
 simp only at c d1 d2
 subst c d1 d2
 have hfit:¬ (!Builtin.List.listFitsIndex k)=true:=by rcases hk with rfl | rfl <;> decide
 have hc1:¬ ([u0].toArray.size * k.toNat > (2 ^ 63 - 1) / 8):=by
  rcases hk with rfl | rfl
  ·show ¬ (1 * 0 > (2 ^ 63 - 1) / 8); decide
  ·show ¬ (1 * 1 > (2 ^ 63 - 1) / 8); decide
 have hc2:¬ Builtin.List.listTooLong ([u0].toArray.size * k.toNat)=true:=by
  rcases hk with rfl | rfl
  ·show ¬ Builtin.List.listTooLong (1 * 0)=true; decide
  ·show ¬ Builtin.List.listTooLong (1 * 1)=true; decide
 have hnew:List.foldl (fun x1 x2=>x1++x2) #[] (List.replicate (if [u0].toArray.isEmpty=true then 0 else k.toNat) [u0].toArray)=(List.replicate k.toNat u0).toArray:=by
  rcases hk with rfl | rfl <;> rfl
 refine wpAny_binaryOp_repeat_ref (T:="list") (U:="int") (by decide) ⟨_,ho,rfl⟩ (fun s'=>typeIs_int s' k t) noFill_list_mul F.fills_int_mul F.slot_int_rmul repeat_list F.slot_int_index.lookup
  (call_meets F.slot_int_rmul (typeIs_int s k t) F.entry_int_rmul (F.args_int_rmul_2 _ _) (u4 k t a [u0].toArray n none sl)
   ⟨ho,rfl,⟨_,ho,rfl⟩,call_meets PySem.F.slot_list_mul ⟨_,ho,rfl⟩ PySem.F.entry_list_mul (PySem.F.args_list_mul_2 _ _) (wQ a [u0].toArray n none sl k t hfit hc1 hc2) ⟨ho,?_⟩⟩)
 rw [hnew]
 refine ⟨.ref s.heap.objs.size,_,I.laid (t':=s.toks) (o:=.lst (List.replicate k.toNat v0)) (fun b ob q=>Heap.get?_push_of_some _ q) (Nat.le_refl _) ?_,rfl,q _ (I.hok.fresh (Nat.le_refl _))⟩
 refine ⟨?_,List.replicate k.toNat u0,0,?_,Heap.get?_push_size _ rfl⟩
 ·rw [List.length_replicate]
  rcases hk with rfl | rfl <;> decide
 ·rcases hk with rfl | rfl
  ·exact .nil
  ·exact .cons r0 .nil
def jC:PyData→PyData→Option PyData
 | .list [x],.int k=>if k=0∨k=1 then some (.list (List.replicate k.toNat x)) else none
 | _,_=>none
theorem AY:OpD X (binaryOp .Mult) jC:=⟨_,zg,fun O ts H T v1 v2 x y d Q hc h1 h2 e q=>by
 unfold jC at e
 split at e
 ·split at e
  ·rename_i hk
   cases e
   obtain ⟨a,vs,rfl,t,r⟩:=h1.lst
   cases r with
   | cons r0 r=>
    cases r
    cases h2.int
    refine ⟨a,_,_,rfl,rfl,t,hk,fun p hp=>q _ _ (.new hp _) (hc.new hp _) (hc.newL hp ?_)⟩
    rcases hk with rfl | rfl
    ·exact .nil
    ·exact .cons r0 .nil
  ·cases e
 ·cases e⟩
end
section
variable {X:Cx} {pos:Pos} {e:Expr} {fe:FE}
def kT (i j:Nat) (ρ:Rho) (T:Tp) (o:Option (Option W)):Option ((Fl×Rho)×Tp):=match o with
 | some (some (.loc (.list xs)))=>if i=j then none else (match xs[xs.length - 1]? with
  | some y=>some ((.nx,(ρ.set i (some (.loc (.list xs.dropLast)))).set j (some (.d y))),T)
  | none=>none)
 | _=>none
def iC (i j:Nat):FS:=fun ρ T=>kT i j ρ T ρ[i]?
def kU (i j:Nat) (ρ:Rho) (T:Tp) (o:Option (Option W)):Option ((Fl×Rho)×Tp):=match o with
 | some (some (.loc (.list (y::r))))=>if i=j∨1000≤r.length then none else some ((.nx,(ρ.set i (some (.loc (.list r)))).set j (some (.d y))),T)
 | _=>none
def iD (i j:Nat):FS:=fun ρ T=>kU i j ρ T ρ[i]?
theorem zV {i j:Nat} {x y:Str} {p apos cpos pos':Pos} (hNd:X.N.Nodup) (hN:X.N[i]? = some x:=by rfl) (hv:Vis X.env.scope x:=by first | exact Or.inl rfl | exact Or.inr (Or.inl rfl) | exact Or.inr (Or.inr rfl)) (hd:(x == ("__debug__" : Str))=false:=by decide)
  (hcd:(x == ("__classdict__" : Str))=false:=by decide) (hj:X.N[j]? = some y:=by rfl) (hy:Loc X.env.scope y:=by first | exact Or.inl rfl | exact Or.inr rfl)
  (hbase:attributeBase (.Name x p) "pop" X.env (eval (.Name x p) X.env)=eval (.Name x p) X.env:=by rfl) (hline:(apos.endLine == cpos.line)=true:=by rfl)
  (hs:swapsWith (.Call (.Attribute (.Name x p) "pop" apos) [] [] cpos) (some (.Name y pos')) pos.line X.env=pure false:=by rfl) (hf:X.fn y=true∨X.env.scope.names.lookup y=some .local:=by first | exact .inl rfl | exact .inr rfl | assumption) :
  DS X (.Assign [.Name y pos'] (.Call (.Attribute (.Name x p) "pop" apos) [] [] cpos) pos) (iC i j):=by
 refine ⟨?_⟩
 refine bw (dN hNd hj hy (AL PySem.F.plainAttrs_list PySem.F.slot_list_pop PySem.F.type_list_pop A1 (pv i hN hv hd hcd) hbase hline) hs hf) fun D σ H=>?_
 rintro ⟨O₀,H₀,F,ts,O,ρ,T,fl,ρ',T',rs,e,q⟩
 unfold iC kT at e
 split at e
 ·rename_i xs h1
  split at e
  ·cases e
  ·rename_i hij
   split at e
   ·rename_i y0 hy0
    cases e
    obtain ⟨v,k1,a,rfl,k2,k3,vs,k4,k5⟩:=rs.re i _ h1
    obtain ⟨vy,hvy,ry⟩:=k5.getD hy0
    have hl:=k5.length
    have rd:Reps X.K O H vs.dropLast xs.dropLast:=by
     rw [List.dropLast_eq_take,List.dropLast_eq_take,hl]
     exact k5.take _
    have rs1:=rs.put (us:=[]) h1 k1 rd
    have rs2:=rs1.set (i:=j) (v:=vy) (w:=.d y0) (Rep.mono (fun b o n z=>⟨n,by rw [aK (show b≠a from fun z=>n (by rw [z]; exact k2))]; exact z⟩) ry) (fun _ z=>nomatch z)
    exact ⟨_,k1,.inl ⟨rfl,vs,SqL.of k4⟩,a,vs,vy,rfl,rfl,k4,by rw [hl]; exact hvy,q O _ _ rs2⟩
   ·cases e
 ·cases e
theorem zW {i j:Nat} {x y:Str} {k:_} {kp p apos cpos pos':Pos} (hNd:X.N.Nodup) (hN:X.N[i]? = some x:=by rfl) (hv:Vis X.env.scope x:=by first | exact Or.inl rfl | exact Or.inr (Or.inl rfl) | exact Or.inr (Or.inr rfl)) (hd:(x == ("__debug__" : Str))=false:=by decide)
  (hcd:(x == ("__classdict__" : Str))=false:=by decide) (hj:X.N[j]? = some y:=by rfl) (hy:Loc X.env.scope y:=by first | exact Or.inl rfl | exact Or.inr rfl)
  (hbase:attributeBase (.Name x p) "pop" X.env (eval (.Name x p) X.env)=eval (.Name x p) X.env:=by rfl)
  (hfew:((backTo cpos (starEach [.Constant (.int 0) k kp] X.env)).all (fun x=>!x.1) && (backToKw cpos (keywordEach [] X.env)).all (fun x=>x.1.isSome)
   && decide (([.Constant (.int 0) k kp]:List Expr).length + ([]:List Keyword).length + (if ([]:List Keyword).isEmpty then 0 else 1) < 30))=true:=by exact g4 rfl)
  (hline:(apos.endLine == cpos.line)=true:=by rfl) (hse:starEach [.Constant (.int 0) k kp] X.env=(false,eval (.Constant (.int 0) k kp) X.env)::starEach [] X.env:=by exact bq rfl) (hplain:(backTo cpos (starEach [] X.env)).any (·.1)=false:=by exact bD rfl)
  (hs:swapsWith (.Call (.Attribute (.Name x p) "pop" apos) [.Constant (.int 0) k kp] [] cpos) (some (.Name y pos')) pos.line X.env=pure false:=by rfl) (hf:X.fn y=true∨X.env.scope.names.lookup y=some .local:=by first | exact .inl rfl | exact .inr rfl | assumption) :
  DS X (.Assign [.Name y pos'] (.Call (.Attribute (.Name x p) "pop" apos) [.Constant (.int 0) k kp] [] cpos) pos) (iD i j):=by
 refine ⟨?_⟩
 refine bw (dN hNd hj hy (fR PySem.F.plainAttrs_list PySem.F.slot_list_pop PySem.F.type_list_pop xU (pv i hN hv hd hcd) (bV sj cG hse) hbase hfew hline hse hplain) hs hf) fun D σ H=>?_
 rintro ⟨O₀,H₀,F,ts,O,ρ,T,fl,ρ',T',rs,e,q⟩
 unfold iD kU at e
 split at e
 ·rename_i y0 r h1
  split at e
  ·cases e
  ·rename_i hij
   cases e
   obtain ⟨v,k1,a,rfl,k2,k3,vs,k4,k5⟩:=rs.re i _ h1
   cases k5 with
   | @cons vy _ vr _ ry rr=>
    have hl:=rr.length
    have rs1:=rs.put (us:=[]) h1 k1 rr
    have rs2:=rs1.set (i:=j) (v:=vy) (w:=.d y0) (Rep.mono (fun b o n z=>⟨n,by rw [aK (show b≠a from fun z=>n (by rw [z]; exact k2))]; exact z⟩) ry) (fun _ z=>nomatch z)
    exact ⟨_,k1,.inl ⟨rfl,_,SqL.of k4⟩,a,vy::vr,0,0,vy,rfl,rfl,k4,rfl,rfl,by simp; omega,q O _ _ rs2⟩
 ·cases e
end
def cS (ds:List (PyData×PyData)) (s:Str):List (PyData×PyData):=ds.filter fun p=>match p.1 with
 | .str x=>decide (x≠s)
 | _=>true
theorem qy {K:Frag} {O:Addr→Prop} {H:Hp} {s:Str}:∀ {kvs:List (Key×V)} {ds:List (PyData×PyData)},RepK K O H kvs ds→RepK K O H (cz kvs (Sum.inr s:Key)) (cS ds s)
 | _,_,.nil=>.nil
 | _,_,.cons (k:=k) (v:=v) (d:=d) (kvs:=kvs) (ds:=ds) r t=>by
  have ih:=qy (s:=s) t
  rcases k with i | x
  ·have e1:cz (((Sum.inl i:Key),v)::kvs) (Sum.inr s:Key)=((Sum.inl i:Key),v)::cz kvs (Sum.inr s:Key):=by simp [cz]
   have e2:cS ((cV (Sum.inl i),d)::ds) s=(cV (Sum.inl i),d)::cS ds s:=rfl
   rw [e1,e2]
   exact .cons r ih
  ·by_cases hx:x=s
   ·have e1:cz (((Sum.inr x:Key),v)::kvs) (Sum.inr s:Key)=cz kvs (Sum.inr s:Key):=by simp [cz,hx]
    have e2:cS ((cV (Sum.inr x),d)::ds) s=cS ds s:=by simp [cS,cV,hx]
    rw [e1,e2]
    exact ih
   ·have e1:cz (((Sum.inr x:Key),v)::kvs) (Sum.inr s:Key)=((Sum.inr x:Key),v)::cz kvs (Sum.inr s:Key):=by simp [cz,hx]
    have e2:cS ((cV (Sum.inr x),d)::ds) s=(cV (Sum.inr x),d)::cS ds s:=by simp [cS,cV,hx]
    rw [e1,e2]
    exact .cons r ih
section
variable {X:Cx} {pos:Pos} {e:Expr} {fe:FE}
theorem zm:MtM X "dict.pop" (fun x vs H Q=>∃ (a:Addr) (kvs:List (Key×V)) (s:Str) (v:V),x=.ref a∧vs=[.str s]∧H a=some (.dK kvs)∧bu kvs (Sum.inr s:Key)=some v∧Q v (upd H a (.dK (cz kvs (Sum.inr s:Key))))):=by
 intro pins s σ H x vs v us Q I rx rv h
 obtain ⟨a,kvs,z,y,rfl,rfl,hA,hy,q⟩:=h
 cases rx
 obtain ⟨u,rfl,ru⟩:=rv.one
 exact Cs I hA (k:=Sum.inr z) ru hy (.inl rfl) fun w' s' I' r'=>⟨_,_,I',r',q⟩
def jK (i j:Nat) (ρ:Rho) (w:W) (T:Tp) (o1 o2:Option (Option W)):Option ((Fl×Rho)×Tp):=match w,o1,o2 with
 | .d (.str s),some (some (.loc (.list xs))),some (some (.loc (.dict ds)))=>(match aZ ds s with
  | some y=>if xs.length < 1000 then some ((.nx,(ρ.set j (some (.loc (.dict (cS ds s))))).set i (some (.loc (.list (xs++[y]))))),T) else none
  | none=>none)
 | _,_,_=>none
theorem Ac {i j:Nat} {ρ ρ':Rho} {w:W} {T T':Tp} {fl:Fl} {o1 o2:Option (Option W)} (h:jK i j ρ w T o1 o2=some ((fl,ρ'),T')):∃ s xs ds y,w=.d (.str s)∧o1=some (some (.loc (.list xs)))∧o2=some (some (.loc (.dict ds)))∧aZ ds s=some y∧xs.length < 1000∧((fl,ρ'),T')=((Fl.nx,(ρ.set j (some (W.loc (.dict (cS ds s))))).set i (some (W.loc (.list (xs++[y]))))),T):=by
 unfold jK at h
 split at h
 ·split at h
  ·rename_i y hy
   split at h
   ·rename_i hl
    exact ⟨_,_,_,y,rfl,rfl,rfl,hy,hl,(Option.some.inj h).symm⟩
   ·cases h
  ·cases h
 ·cases h
def lC (i j:Nat) (f:FE):FS:=fun ρ T=>bnd (f ρ T) fun w T1=>jK i j ρ w T1 ρ[i]? ρ[j]?
theorem Bp {i j:Nat} {x y:Str} {p p2 apos apos2 cpos2:Pos} (he:DE X e fe) (hN:X.N[i]? = some x:=by rfl) (hv:Vis X.env.scope x:=by first | exact Or.inl rfl | exact Or.inr (Or.inl rfl) | exact Or.inr (Or.inr rfl)) (hd:(x == ("__debug__" : Str))=false:=by decide)
  (hcd:(x == ("__classdict__" : Str))=false:=by decide) (hN2:X.N[j]? = some y:=by rfl) (hv2:Vis X.env.scope y:=by first | exact Or.inl rfl | exact Or.inr (Or.inl rfl) | exact Or.inr (Or.inr rfl)) (hd2:(y == ("__debug__" : Str))=false:=by decide)
  (hcd2:(y == ("__classdict__" : Str))=false:=by decide) {cpos:Pos}
  (hbase:attributeBase (.Name x p) "append" X.env (eval (.Name x p) X.env)=eval (.Name x p) X.env:=by rfl)
  (hbase2:attributeBase (.Name y p2) "pop" X.env (eval (.Name y p2) X.env)=eval (.Name y p2) X.env:=by rfl)
  (hfew:((backTo cpos (starEach [.Call (.Attribute (.Name y p2) "pop" apos2) [e] [] cpos2] X.env)).all (fun x=>!x.1) && (backToKw cpos (keywordEach [] X.env)).all (fun x=>x.1.isSome)
   && decide (([.Call (.Attribute (.Name y p2) "pop" apos2) [e] [] cpos2]:List Expr).length + ([]:List Keyword).length + (if ([]:List Keyword).isEmpty then 0 else 1) < 30))=true:=by exact g4 rfl)
  (hfew2:((backTo cpos2 (starEach [e] X.env)).all (fun x=>!x.1) && (backToKw cpos2 (keywordEach [] X.env)).all (fun x=>x.1.isSome)
   && decide (([e]:List Expr).length + ([]:List Keyword).length + (if ([]:List Keyword).isEmpty then 0 else 1) < 30))=true:=by exact g4 rfl)
  (hline:(apos.endLine == cpos.line)=true:=by rfl) (hline2:(apos2.endLine == cpos2.line)=true:=by rfl)
  (hse:starEach [.Call (.Attribute (.Name y p2) "pop" apos2) [e] [] cpos2] X.env=(false,eval (.Call (.Attribute (.Name y p2) "pop" apos2) [e] [] cpos2) X.env)::starEach [] X.env:=by exact bq rfl)
  (hse3:starEach [e] X.env=(false,eval e X.env)::starEach [] X.env:=by exact bq rfl) (hplain:(backTo cpos (starEach [] X.env)).any (·.1)=false:=by exact bD rfl) (hplain2:(backTo cpos2 (starEach [] X.env)).any (·.1)=false:=by exact bD rfl)
  (hs:swapsWith (.Call (.Attribute (.Name x p) "append" apos) [.Call (.Attribute (.Name y p2) "pop" apos2) [e] [] cpos2] [] cpos) none pos.line X.env=pure false:=by rfl) :
  DS X (.Expr (.Call (.Attribute (.Name x p) "append" apos) [.Call (.Attribute (.Name y p2) "pop" apos2) [e] [] cpos2] [] cpos) pos) (lC i j fe):=by
 refine ⟨?_⟩
 refine bw (j3 (fR PySem.F.plainAttrs_list PySem.F.slot_list_append PySem.F.type_list_append pM (pv i hN hv hd hcd) (bV (fR PySem.F.plainAttrs_dict PySem.F.slot_dict_pop PySem.F.type_dict_pop zm (pv j hN2 hv2 hd2 hcd2) (bV he.pe cG hse3) hbase2 hfew2 hline2 hse3 hplain2) cG hse) hbase hfew hline hse hplain) hs) fun D σ H=>?_
 rintro ⟨O₀,H₀,F,ts,O,ρ,T,fl,ρ',T',rs,e,q⟩
 obtain ⟨w,T1,e1,e⟩:=aG e
 obtain ⟨s,xs,ds,y0,rfl,h1,h2,hy,hlen,e3⟩:=Ac e
 cases e3
 obtain ⟨v,k1,a,rfl,k2,k3,vs,k4,k5⟩:=rs.re i _ h1
 obtain ⟨v',m1,b,rfl,m2,m3,kvs,m4,m5⟩:=rs.re j _ h2
 have hij:i≠j:=fun z=>by rw [z,h2] at h1; cases h1
 have hab:b≠a:=fun z=>hij (rs.dist i j _ _ (.ref a) h1 h2 k1 (by rw [m1,z]))
 refine ⟨_,k1,.inl ⟨rfl,vs,SqL.of k4⟩,?_⟩
 refine ⟨_,m1,.inr (.inr (.inl ⟨rfl,.inl ⟨kvs,m4⟩⟩)),O,ts,ρ,T,_,_,rs.hc,rs.re,e1,fun u H1 s1 hc1 r1=>?_⟩
 cases (show Rep X.K O H1 u (.str s) from r1)
 have rs1:=rs.step s1 hc1
 have m4':=s1 _ _ m3 m4
 have m5':=m5.mono (rs.hc.le s1)
 have k4':=s1 _ _ k3 k4
 have k5':=k5.mono (rs.hc.le s1)
 rcases gu (s:=s) m5' with ⟨z1,z2⟩ | ⟨vy,dy,z1,z2,ry⟩
 ·rw [z1] at hy; cases hy
 rw [hy] at z1
 cases z1
 refine ⟨b,kvs,s,vy,rfl,rfl,m4',z2,?_⟩
 have leb:Le O H1 O (upd H1 b (.dK (cz kvs (Sum.inr s:Key)))):=fun c o n z=>⟨n,by rw [aK (show c≠b from fun y=>n (by rw [y]; exact m2))]; exact z⟩
 have rs2:=rs1.putO h2 m1 (o:=.dK (cz kvs (Sum.inr s:Key))) (ys:=.dict (cS ds s)) (.inr (.inl ⟨_,rfl⟩)) fun le=>⟨_,br,qy (m5'.mono le)⟩
 have h1':(ρ.set j (some (W.loc (.dict (cS ds s)))))[i]? = some (some (.loc (.list xs))):=by rw [List.getElem?_set_ne hij.symm]; exact h1
 refine ⟨a,vs,vy,rfl,rfl,(aK hab.symm).trans k4',by rw [k5.length]; exact Nat.lt_of_lt_of_le hlen (by decide),?_⟩
 exact q O _ _ (rs2.put (us:=[]) h1' k1 ((k5'.mono leb).append (.cons (Rep.mono leb ry) .nil)))
end
section
variable {X:Cx} {pos:Pos}
def jk:FS:=fun ρ T=>some ((.ro .none,ρ),T)
theorem yg {k:_} {p:Pos}:DS X (.Return (some (.Constant .none k p)) pos) jk:=by
 refine ⟨?_⟩
 refine bw (je si) fun D σ H=>?_
 rintro ⟨O₀,H₀,F,ts,O,ρ,T,fl,ρ',T',rs,e,q⟩
 cases e
 obtain ⟨c,_⟩:=rs.keep (A:=fun _=>False) fun _ z=>z.elim
 exact q (fun _=>False) .non H rs.same (fun _ z=>z.elim) c ⟨rfl,fun _ z=>z⟩
def rY (ρ:Rho) (T:Tp) (o:Option (Option W)):Option ((Fl×Rho)×Tp):=match o with
 | some (some (.loc (.list xs)))=>some ((.ro (.list xs),ρ),T)
 | _=>none
def kJ (i:Nat):FS:=fun ρ T=>rY ρ T ρ[i]?
theorem yi {i:Nat} {x:Str} {p:Pos} (hN:X.N[i]? = some x:=by rfl) (hv:Vis X.env.scope x:=by first | exact Or.inl rfl | exact Or.inr (Or.inl rfl) | exact Or.inr (Or.inr rfl)) (hd:(x == ("__debug__" : Str))=false:=by decide) (hcd:(x == ("__classdict__" : Str))=false:=by decide) :
  DS X (.Return (some (.Name x p)) pos) (kJ i):=by
 refine ⟨?_⟩
 refine bw (je (pv i hN hv hd hcd)) fun D σ H=>?_
 rintro ⟨O₀,H₀,F,ts,O,ρ,T,fl,ρ',T',rs,e,q⟩
 unfold kJ rY at e
 split at e
 ·rename_i xs h1
  cases e
  obtain ⟨v,k1,a,rfl,k2,k3,vs,k4,k5⟩:=rs.re i _ h1
  obtain ⟨c,le⟩:=rs.keep (A:=fun c=>c=a) fun c hc=>by rw [hc]; exact k2
  exact ⟨_,k1,q (fun c=>c=a) (.ref a) H rs.same (fun c hc=>by rw [hc]; exact rs.fresh i _ a h1 k1) c ⟨a,rfl,fun _=>Iff.rfl,vs,k4,k5.mono le⟩⟩
 ·cases e
def nk (ρ:Rho) (x:PyData) (T:Tp):Option ((Fl×Rho)×Tp):=match x with
 | .list xs=>some ((.ro (.list xs),ρ),T)
 | .none=>some ((.ro .none,ρ),T)
 | _=>none
def kI (m:FnM) (g:FA):FS:=fun ρ T=>bnd (g ρ T) fun ws T1=>bnd (m ws T1) (nk ρ)
theorem yh {name:Str} {ps:List Str} {kk:Nat} {m:FnM} {e:Expr} {es:List Expr} {g:FA} {p cpos:Pos} (F:Fn X.prog X.w X.K X.mg X.base name ps kk (spO X.K ps.length m)) (hr:Room kk X.A) (hg:Gl X name) (ha:DA X (e::es) g) (hl:dW g ps.length) (hdb:(name == ("__debug__" : Str))=false:=by decide)
  (he:starEach (e::es) X.env=(false,eval e X.env)::starEach es X.env:=by exact bq rfl) (hpl:(backTo cpos (starEach es X.env)).any (·.1)=false:=by exact bD rfl) :
  DS X (.Return (some (.Call (.Name name p) (e::es) [] cpos)) pos) (kI m g):=by
 refine ⟨?_⟩
 refine bw (je (fQ F hr hg ha.pe hdb he hpl)) fun D σ H=>?_
 rintro ⟨O₀,H₀,F,ts,O,ρ,T,fl,ρ',T',rs,e,q⟩
 obtain ⟨ws,T1,e1,e⟩:=aG e
 obtain ⟨x0,T2,e2,e⟩:=aG e
 refine ⟨O,ts,_,T,ws,T1,rs.hc,rs.re,e1,fun vs H1 s1 hc1 r1=>?_⟩
 have rs1:=rs.step s1 hc1
 refine ⟨O,ts,T1,ws,_,_,hc1,by rw [List.append_nil]; exact r1,hl _ _ _ _ e1,e2,fun A v H2 s2 hA hc2 ov=>?_⟩
 have rs2:=rs1.widen s2 hA hc2
 cases x0 with
 | list xs=>
  cases e
  obtain ⟨a,rfl,hAA,us,k1,k2⟩:=ov
  have hAa:=hA a ((hAA a).mpr rfl)
  have nta:a∉ts:=fun z=>hAa.2 (hc1.own a z)
  have h0:H₀ a=none:=by
   cases z:H₀ a with
   | none=>rfl
   | some o=>have:=rs1.same a o nta z; rw [hAa.1] at this; cases this
  obtain ⟨c,le⟩:=rs2.keep (A:=fun c=>c=a) (fun c hc=>.inr ((hAA c).mpr hc))
  exact q (fun c=>c=a) (.ref a) H2 (rs1.same.trans s2) (fun c hc=>by rw [hc]; exact ⟨h0,fun z=>hAa.2 (rs1.sub a z)⟩) c ⟨a,rfl,fun _=>Iff.rfl,us,k1,k2.mono le⟩
 | none=>
  cases e
  obtain ⟨rfl,hno⟩:=ov
  obtain ⟨c,_⟩:=rs2.keep (A:=fun _=>False) fun _ z=>z.elim
  exact q (fun _=>False) .non H2 (rs1.same.trans s2) (fun _ z=>z.elim) c ⟨rfl,fun _ z=>z⟩
 | _=>cases e
def kj (i:Nat) (ρ:Rho) (x:PyData) (T:Tp):Option ((Fl×Rho)×Tp):=match x with
 | .list xs=>some ((.nx,ρ.set i (some (.loc (.list xs)))),T)
 | .none=>some ((.nx,ρ.set i (some (.d .none))),T)
 | _=>none
def ji (i:Nat) (m:FnM) (g:FA):FS:=fun ρ T=>bnd (g ρ T) fun ws T1=>bnd (m ws T1) (kj i ρ)
theorem yf {i:Nat} {name x:Str} {ps:List Str} {kk:Nat} {m:FnM} {e:Expr} {es:List Expr} {g:FA} {p cpos pos':Pos} (F:Fn X.prog X.w X.K X.mg X.base name ps kk (spO X.K ps.length m)) (hr:Room kk X.A) (hg:Gl X name) (hN:X.N.Nodup) (ha:DA X (e::es) g) (hl:dW g ps.length) (hdb:(name == ("__debug__" : Str))=false:=by decide)
  (he:starEach (e::es) X.env=(false,eval e X.env)::starEach es X.env:=by exact bq rfl) (hpl:(backTo cpos (starEach es X.env)).any (·.1)=false:=by exact bD rfl) (hi:X.N[i]? = some x:=by rfl) (hx:Loc X.env.scope x:=by first | exact Or.inl rfl | exact Or.inr rfl)
  (hs:swapsWith (.Call (.Name name p) (e::es) [] cpos) (some (.Name x pos')) pos.line X.env=pure false:=by rfl) (hf:X.fn x=true∨X.env.scope.names.lookup x=some .local:=by first | exact .inl rfl | exact .inr rfl | assumption) :
  DS X (.Assign [.Name x pos'] (.Call (.Name name p) (e::es) [] cpos) pos) (ji i m g):=by
 refine ⟨?_⟩
 refine bw (dN hN hi hx (fQ F hr hg ha.pe hdb he hpl) hs hf) fun D σ H=>?_
 rintro ⟨O₀,H₀,F,ts,O,ρ,T,fl,ρ',T',rs,e,q⟩
 obtain ⟨ws,T1,e1,e⟩:=aG e
 obtain ⟨x0,T2,e2,e⟩:=aG e
 refine ⟨O,ts,ρ,T,ws,T1,rs.hc,rs.re,e1,fun vs H1 s1 hc1 r1=>?_⟩
 have rs1:=rs.step s1 hc1
 refine ⟨O,ts,T1,ws,_,_,hc1,by rw [List.append_nil]; exact r1,hl _ _ _ _ e1,e2,fun A v H2 s2 hA hc2 ov=>?_⟩
 have rs2:=rs1.widen s2 hA hc2
 cases x0 with
 | list xs=>
  cases e
  obtain ⟨a,rfl,hAA,oa⟩:=ov
  have hAa:=hA a ((hAA a).mpr rfl)
  have nta:a∉ts:=fun z=>hAa.2 (hc1.own a z)
  have h0:H₀ a=none:=by
   cases z:H₀ a with
   | none=>rfl
   | some o=>have:=rs1.same a o nta z; rw [hAa.1] at this; cases this
  exact q _ _ _ (rs2.hold (i:=i) (.inr ((hAA a).mpr rfl)) nta ⟨h0,fun z=>hAa.2 (rs1.sub a z)⟩ (fun j ys q1 q2=>by
   obtain ⟨v,h1,b,ea,h2,h3,h4⟩:=rs1.re j _ q1
   rw [q2] at h1
   cases h1
   cases ea
   obtain ⟨o',h5⟩:=h4.some
   rw [hAa.1] at h5
   cases h5) oa)
 | none=>
  cases e
  obtain ⟨rfl,hno⟩:=ov
  exact q _ _ _ (rs2.set (i:=i) (v:=.non) (w:=.d .none) .non fun _ z=>nomatch z)
 | _=>cases e
def mX (x:PyData) (T:Tp):Option (W×Tp):=match x with
 | .list xs=>some (.d (.list xs),T)
 | .none=>some (.d .none,T)
 | _=>none
def gA (m:FnM) (g:FA):FE:=fun ρ T=>bnd (g ρ T) fun ws T1=>bnd (m ws T1) mX
theorem pV {name:Str} {ps:List Str} {k:Nat} {m:FnM} {e:Expr} {es:List Expr} {g:FA} {p cpos:Pos} (F:Fn X.prog X.w X.K X.mg X.base name ps k (spO X.K ps.length m)) (hr:Room k X.A) (hg:Gl X name) (ha:DA X (e::es) g) (hl:dW g ps.length) (hdb:(name == ("__debug__" : Str))=false:=by decide)
  (he:starEach (e::es) X.env=(false,eval e X.env)::starEach es X.env:=by exact bq rfl) (hpl:(backTo cpos (starEach es X.env)).any (·.1)=false:=by exact bD rfl):DE X (.Call (.Name name p) (e::es) [] cpos) (gA m g):=by
 refine ⟨?_⟩
 refine bx (fQ F hr hg ha.pe hdb he hpl) fun σ H Q=>?_
 rintro ⟨O,ts,ρ,T,w,T',hc,re,e,q⟩
 obtain ⟨ws,T1,e1,e⟩:=aG e
 obtain ⟨x,T2,e2,e⟩:=aG e
 refine ⟨O,ts,ρ,T,ws,T1,hc,re,e1,fun vs H1 s1 hc1 r1=>?_⟩
 refine ⟨O,ts,T1,ws,_,_,hc1,by rw [List.append_nil]; exact r1,hl _ _ _ _ e1,e2,fun A v H2 s2 hA hc2 ov=>?_⟩
 have le:Le (fun b=>O b∨A b) H2 O H2:=fun b u n z=>⟨fun y=>n (.inl y),z⟩
 have c2:HC X.K O ts H2 T2:=⟨hc1.own,fun b hb=>hc2.trk b (.inl hb),hc2.nd,hc2.len,fun j b ys q1 q2=>(hc2.tape j b ys q1 q2).mono (fun _ h=>h) le⟩
 cases x with
 | list xs=>
  cases e
  obtain ⟨a,rfl,hAA,us,k1,k2⟩:=ov
  exact q _ _ (s1.trans s2) c2 (.lst (.inl ⟨(hA a ((hAA a).mpr rfl)).2,.inl k1⟩) (k2.mono le))
 | none=>
  cases e
  obtain ⟨rfl,hno⟩:=ov
  exact q _ _ (s1.trans s2) c2 .non
 | _=>cases e
def km (i:Nat) (ρ:Rho) (T:Tp) (o:Option (List (Str×PyData))):Option ((Fl×Rho)×Tp):=match o with
 | some l=>if ol l=true then some ((.nx,ρ.set i (some (.loc (.dict (aq l))))),T) else none
 | none=>none
def tX (o:Option PyData):Option (List (Str×PyData)):=match o with
 | some (.list ds)=>gG ds
 | _=>none
def jj (i:Nat) (f:FE):FS:=fun ρ T=>bnd (f ρ T) fun w T1=>km i ρ T1 (tX (view T1 w))
theorem qv {i:Nat} {x:Str} {e:Expr} {fe:FE} {p cpos pos':Pos} (hm:X.mg "dict" = none) (hN:X.N.Nodup) (he:DE X e fe) (hcm:X.calm=true:=by rfl) (hg:Gl X "dict":=by rfl)
  (hse:starEach [e] X.env=(false,eval e X.env)::starEach [] X.env:=by exact bq rfl) (hpl:(backTo cpos (starEach [] X.env)).any (·.1)=false:=by exact bD rfl) (hi:X.N[i]? = some x:=by rfl) (hx:Loc X.env.scope x:=by first | exact Or.inl rfl | exact Or.inr rfl)
  (hs:swapsWith (.Call (.Name "dict" p) [e] [] cpos) (some (.Name x pos')) pos.line X.env=pure false:=by rfl) (hf:X.fn x=true∨X.env.scope.names.lookup x=some .local:=by first | exact .inl rfl | exact .inr rfl | assumption) :
  DS X (.Assign [.Name x pos'] (.Call (.Name "dict" p) [e] [] cpos) pos) (jj i fe):=by
 refine ⟨?_⟩
 refine bw (dN hN hi hx (jP (v8 hcm) hg hm boot_dict (bV he.pe cG hse) (by decide) (by decide) hse hpl) hs hf) fun D σ H=>?_
 rintro ⟨O₀,H₀,F,ts,O,ρ,T,fl,ρ',T',rs,e,q⟩
 obtain ⟨w,T1,e1,e⟩:=aG e
 refine ⟨O,ts,ρ,T,w,T1,rs.hc,rs.re,e1,fun v H1 s1 hc1 r1=>?_⟩
 have rs1:=rs.step s1 hc1
 unfold km at e
 split at e
 ·rename_i l hl
  split at e
  ·rename_i ho
   cases e
   have nd:=of_decide_eq_true ((Bool.and_eq_true _ _ ▸ ho).1)
   have hz:=of_decide_eq_true ((Bool.and_eq_true _ _ ▸ ho).2)
   unfold tX at hl
   split at hl
   ·rename_i ds hv
    obtain ⟨a,vs,rfl,t,r⟩:=(hc1.view r1 hv).lst
    obtain ⟨kvs,h1,h2,h3⟩:=qo r hl
    have hlen:kvs.length=l.length:=by have:=congrArg List.length h2; simpa using this
    refine ⟨a,vs,kvs,rfl,t,h1,by rw [hlen]; exact Nat.le_trans hz (by decide),fun p hp=>?_⟩
    have hm:d7 [] (kvs.map cq)=kvs.map cq:=by
     have:=pN kvs [] (by rw [List.map_nil,List.nil_append,h2]; exact nd)
     simpa using this
    rw [hm]
    exact q _ _ _ (rs1.ownO hp (.inr (.inl ⟨_,rfl⟩)) fun le=>⟨_,br,h3.mono le⟩)
   ·cases hl
  ·cases e
 ·cases e
end
def Cz (_ j:Int):Prop:=0 < j∧j < 18446744073709551616
def n8:PyData→PyData→Option PyData:=iop fun i j=>if 0 < j∧j < 18446744073709551616 then some (.int (i / j)) else none
theorem B5 {x y:Int} (h:y.natAbs < 18446744073709551616):Builtin.divisionGoesByPylong x y=false:=by
 refine PyProof.noPylong_of_log2 ?_
 by_cases h0:y.natAbs=0
 ·rw [h0]; decide +kernel
 ·have h30:y.natAbs.log2 < 64:=(Nat.log2_lt h0).mpr h
  omega
section
variable {X:Cx}
theorem xR:OpR X (binaryOp .FloorDiv) (rI Cz fun i j=>.int (i / j)):=opI fun i j _ _ _ _ _ hc q=>by
 have h1:(0:Int) < j:=hc.1
 have h2:j < 18446744073709551616:=hc.2
 exact floordiv_int (by omega) (by rw [Int.fdiv_eq_ediv_of_nonneg i (by omega)]; exact q) (.inl (B5 (by omega)))
theorem zk:OpD X (binaryOp .FloorDiv) n8:=⟨_,xR,nj fun i j d e=>by
 split at e
 ·rename_i h; cases e; exact ⟨h,fun _ _=>.int _⟩
 ·cases e⟩
end
end D
namespace G
open PySem PySem.Spec PyProof.Rows L2 D

theorem lr (k:Nat) (h:0 < k):∃ j,k=j + 1:=⟨k - 1,by omega⟩
def fG:FnM:=aX 2 (aj (aD 1 (bY (au (af eqD (af ixD (af ixD (aa 0) (fC (.int 2))) (fC (.int 0))) (fC (.str "wants")))) (ay .list (ae (af ixD (af ixD (aa 0) (fC (.int 2))) (fC (.int 1))) ai)) (ay .list ai))) (aB (af aO (bf (aW (af ixD (aa 0) (fC (.int 1)))) bo (af ixD (aa 0) (fC (.int 0)))) (aa 1))))
def gh:FnM:=aX 5 (aj (cK 2) (aj (gL 3 (aa 1)) (aj (bA (au (af gtD (fCB aR (ae (aa 3) ai)) (fC (.int 0)))) (aj (iC 3 4) (fIf (au (af fL (aa 4) (aa 2))) (aj (bM 2 (aa 4) (fC (.bool true))) (lA 3 (bY (au (af inA (aa 4) (aa 0))) (aw fG (ae (af ixA (aa 0) (aa 4)) ai)) (ay .list ai)))) aC)) 100000) (aB (fUn dJ (aa 2))))))
def g8:FnM:=aX 4 (aj (cK 2) (aj (bp 3 (aW (aw gh (ae (aa 0) (ae (aa 1) ai)))) (fIf (au (af inA (aa 3) (aa 0))) (bM 2 (aa 3) (af ixA (aa 0) (aa 3))) aC)) (aB (aa 2))))
def eJ:FnM:=aX 2 (aB (n9 (fCB g5 (ae (bf (aW (af ixD (aa 1) (fC (.int 1)))) bo (af inA (af ixD (aa 0) (fC (.int 0))) (aa 1))) ai))))
def gn:FnM:=fS 5 (aj (bB 1 ai) (aj (fM 2 (aa 0)) (aj (bA (au (af gtD (fCB aR (ae (aa 2) ai)) (fC (.int 0)))) (aj (aD 3 (bf (aW (fUn dJ (aa 2))) (a8 (dD (aw eJ (ae (aa 3) (ae (af ixA (aa 3) (aa 0)) ai))))) (aa 0))) (aj (fIf (au (af eqD (fCB aR (ae (aa 3) ai)) (fC (.int 0)))) jk aC) (bp 4 (aW (aa 3)) (lC 1 2 (aa 4))))) 100000) (kJ 1))))
def fE:FnM:=aX 4 (aj (cK 1) (aj (k9 2 3 (aa 0) (bM 1 (aa 2) (af ixD (aa 3) (fC (.int 1))))) (aB (aa 1))))
def cD:FnM:=fS 2 (kI gn (ae (aw g8 (ae (aw fE (ae (aa 0) ai)) (ae (aa 1) ai))) ai))
def bj:FnM:=fS 2 (aj (fIf (au (af eqD (fCB aR (ae (aa 0) ai)) (fC (.int 0)))) (kH (ae (fC (.int 0)) (ae (fC (.int 0)) (ae (aa 1) ai)))) aC) (kH (ae (af ixD (aa 0) (af fg (aa 1) (fCB aR (ae (aa 0) ai)))) (ae (fC (.int 0)) (ae (aa 1) ai)))))
def aI:FnM:=aX 4 (aj (jH (aa 0) (fC (.int 1)) (af aO (af ixD (aa 0) (fC (.int 1))) (fC (.int 1)))) (aj (fIf (au (af geD (af ixD (aa 0) (fC (.int 0))) (af eG (fC (.int 10)) (fC (.int 18))))) (aj (aD 2 (af fg (af ixD (aa 0) (fC (.int 0))) (aa 1))) (aj (jH (aa 0) (fC (.int 0)) (af n8 (af ixD (aa 0) (fC (.int 0))) (aa 1))) (aB (aa 2)))) aC) (aj (aD 3 (af aO (af aO (af fg (af ixD (aa 0) (fC (.int 0))) (fC (.int 2147483647))) (af dG (fC (.int 40692)) (af ixD (aa 0) (fC (.int 1))))) (af dG (fC (.int 7919)) (af ixD (aa 0) (fC (.int 2)))))) (aj (aD 3 (af fg (af dG (af aO (aa 3) (fC (.int 12345))) (fC (.int 48271))) (fC (.int 2147483647)))) (aB (af fg (af fg (af dG (af fg (af aO (af dG (aa 3) (fC (.int 69621))) (af ixD (aa 0) (fC (.int 1)))) (fC (.int 2147483399))) (fC (.int 16807))) (fC (.int 2147483563))) (aa 1)))))))
def fF:FnM:=aX 8 (aj (aD 2 (ay .list (ae (fC (.str "made")) (ae (fC (.str "told")) (ae (fC (.str "say")) (ae (fC (.str "want")) (ae (fC (.str "fails")) (ae (fC (.str "got")) (ae (fC (.str "put")) (ae (fC (.str "lacks")) ai)))))))))) (aj (aD 3 (fC (.str "abcdefghijklmnopqrstuvwxyz"))) (aj (bB 4 ai) (aj (bp 5 (bR (aa 1)) (aj (aD 6 (aw aI (ae (aa 0) (ae (fC (.int 5)) ai)))) (aj (aD 7 (af ixD (aa 3) (aw aI (ae (aa 0) (ae (fC (.int 26)) ai))))) (aj (fIf (au (af eqD (aa 6) (fC (.int 0)))) (aD 7 (af ixD (aa 2) (aw aI (ae (aa 0) (ae (fC (.int 8)) ai))))) aC) (aj (fIf (cy (au (af eqD (aa 6) (fC (.int 1)))) (au (af gtD (fCB aR (ae (aa 4) ai)) (fC (.int 0))))) (aD 7 (fSl (af aO (af ixD (aa 4) (fUn eI (fC (.int 1)))) (aa 7)) cX (fP (fC (.int 8))))) aC) (aj (fIf (au (af eqD (aa 6) (fC (.int 2)))) (aD 7 (af dG (af aO (aa 7) (af ixD (aa 3) (aw aI (ae (aa 0) (ae (fC (.int 26)) ai))))) (fC (.int 4)))) aC) (aj (fIf (au (af inD (aa 7) (aa 4))) (aD 7 (af ixD (bf (aW (aa 3)) (au (af cH (aa 0) (aa 5))) (aa 0)) (fC (.int 0)))) aC) (jI 4 (aw aI (ae (aa 0) (ae (af aO (fCB aR (ae (aa 4) ai)) (fC (.int 1))) ai))) (aa 7))))))))) (aB (aa 4))))))
def cZ:FnM:=aX 4 (aj (aD 2 (ay .list (ae (fC (.int 0)) (ae (fC (.int 1)) (ae (fC (.str "")) (ae (ay .tuple ai) (ae (fC (.int 2)) (ae (fC (.str "a")) (ae (ay .tuple (ae (fC (.int 0)) ai)) (ae (ay .tuple (ae (fC (.int 1)) (ae (fC (.str "")) ai))) (ae (fUn eI (fC (.int 7))) (ae (af eG (fC (.int 10)) (fC (.int 18))) (ae (fC (.str "x-0")) (ae (ay .tuple (ae (ay .tuple ai) (ae (ay .tuple (ae (fC (.str "b")) (ae (fC (.int 3)) ai))) ai))) (ae (ay .tuple (ae (fC (.int 0)) (ae (fC (.int 1)) (ae (fC (.int 2)) ai)))) (ae (af e9 (fC (.int 1)) (af eG (fC (.int 10)) (fC (.int 18)))) ai)))))))))))))))) (aj (aD 3 (aw aI (ae (aa 0) (ae (fC (.int 18)) ai)))) (aj (fIf (au (af ltD (aa 3) (fC (.int 14)))) (aB (af ixD (aa 2) (aa 3))) aC) (aj (fIf (au (af eqD (aa 3) (fC (.int 14)))) (aB (aw aI (ae (aa 0) (ae (af eG (fC (.int 10)) (fC (.int 18))) ai)))) aC) (aB (af ixD (aa 1) (aw aI (ae (aa 0) (ae (fCB aR (ae (aa 1) ai)) ai)))))))))
def bT:Nat→FnM
 | 0=>fun _ _=>none
 | n + 1=>aX 3 (aj (aD 1 (bY (a8 (fUn (bG .tup) (aa 0))) (bf (aW (aa 0)) bo (aw (bT n) (ae (aa 0) ai))) (ay .list ai))) (aj (aD 2 (af aO (fCB intD (ae (fUn (bG .tup) (aa 0)) ai)) (af gQ (bf (aW (aa 1)) bo (af ixD (aa 0) (fC (.int 0)))) (fC (.int 0))))) (aB (ay .tuple (ae (aa 2) (ae (af aO (fC (.int 1)) (fCB gU (ae (bf (aW (aa 1)) bo (af ixD (aa 0) (fC (.int 1)))) ai))) ai))))))
def bU:FnM:=aX 4 (aj (cO 1 2 (aw (bT 25) (ae (aa 0) ai))) (aj (fIf (a8 (fUn (bG .int) (aa 0))) (aB (bY (au (af leD (fCB lE (ae (aa 0) ai)) (af eG (fC (.int 10)) (fC (.int 18))))) (ay .tuple (ae (fC (.str "value")) (ae (aa 0) ai))) (ay .tuple (ae (fC (.str "fails")) (ae (fC (.str "great")) ai))))) aC) (aj (aD 3 (af leD (fCB aR (ae (aa 0) ai)) (bY (a8 (fUn (bG .str) (aa 0))) (fC (.int 20)) (fC (.int 8))))) (aB (bY (cy (a8 (aa 3)) (cy (au (af leD (aa 1) (fC (.int 4)))) (au (af leD (aa 2) (fC (.int 40)))))) (ay .tuple (ae (fC (.str "value")) (ae (aa 0) ai))) (ay .tuple (ae (fC (.str "fails")) (ae (fC (.str "great")) ai))))))))
def cC:Nat→FnM
 | 0=>fun _ _=>none
 | n + 1=>aX 1 (aj (fIf (a8 (fUn (bG .int) (aa 0))) (aB (fCB gW (ae (aa 0) ai))) aC) (aj (fIf (a8 (fUn (bG .str) (aa 0))) (aB (af aO (fC (.str "'")) (aa 0))) aC) (aB (af aO (af aO (fC (.str "(")) (af iB (fC (.str ",")) (bf (aW (aa 0)) bo (aw (cC n) (ae (aa 0) ai))))) (fC (.str ")"))))))
def bg:FnM:=aX 4 (aj (fIf (au (af eqD (aa 0) (fC (.str "same")))) (aB (ay .tuple (ae (fC (.str "value")) (ae (fCB intD (ae (af eqG (aa 1) (aa 2)) ai)) ai)))) aC) (aj (fIf (au (af eqD (aa 0) (fC (.str "part")))) (aj (fIf (cW (cj (a8 (fUn (bG .tup) (aa 1)))) (cj (a8 (fUn (bG .int) (aa 2))))) (aB (ay .tuple (ae (fC (.str "fails")) (ae (fC (.str "kind")) ai)))) aC) (aB (bY (au (jl leD ltD (fC (.int 0)) (aa 2) (fCB aR (ae (aa 1) ai)))) (ay .tuple (ae (fC (.str "value")) (ae (af ixD (aa 1) (aa 2)) ai))) (ay .tuple (ae (fC (.str "fails")) (ae (fC (.str "part")) ai)))))) aC) (aj (aD 3 (ay .list (ae (fUn (bG .int) (aa 1)) (ae (fUn (bG .int) (aa 2)) (ae (fUn (bG .str) (aa 1)) (ae (fUn (bG .str) (aa 2)) ai)))))) (aj (fIf (au (af eqD (aa 0) (fC (.str "join")))) (aj (fIf (cW (au (af neG (fSl (aa 3) cX (fP (fC (.int 2)))) (ay .list (ae (fC (.bool false)) (ae (fC (.bool false)) ai))))) (au (af neD (af ixD (aa 3) (fC (.int 2))) (af ixD (aa 3) (fC (.int 3)))))) (aB (ay .tuple (ae (fC (.str "fails")) (ae (fC (.str "kind")) ai)))) aC) (aB (aw bU (ae (af aO (aa 1) (aa 2)) ai)))) aC) (aj (fIf (au (af neG (fSl (aa 3) cX (fP (fC (.int 2)))) (ay .list (ae (fC (.bool true)) (ae (fC (.bool true)) ai))))) (aB (ay .tuple (ae (fC (.str "fails")) (ae (fC (.str "kind")) ai)))) aC) (aB (bY (au (af eqD (aa 0) (fC (.str "sum")))) (aw bU (ae (af aO (aa 1) (aa 2)) ai)) (ay .tuple (ae (fC (.str "value")) (ae (fCB intD (ae (af ltD (aa 1) (aa 2)) ai)) ai))))))))))
def bI:Nat→FnM
 | 0=>fun _ _=>none
 | n + 1=>aX 5 (aj (fIf (au (af eqD (af ixD (aa 0) (fC (.int 0))) (fC (.str "put")))) (aB (ay .tuple (ae (fC (.str "value")) (ae (af ixD (aa 0) (fC (.int 1))) ai)))) aC) (aj (fIf (au (af eqD (af ixD (aa 0) (fC (.int 0))) (fC (.str "got")))) (aB (ay .tuple (ae (fC (.str "value")) (ae (af ixD (aa 1) (af ixD (aa 0) (fC (.int 1)))) ai)))) aC) (aj (bB 2 ai) (aj (bp 3 (aW (bY (au (af eqD (af ixD (aa 0) (fC (.int 0))) (fC (.str "row")))) (af ixD (aa 0) (fC (.int 1))) (fSl (aa 0) (fP (fC (.int 1))) cX))) (aj (aD 4 (aw (bI n) (ae (aa 3) (ae (aa 1) ai)))) (aj (fIf (au (af eqD (af ixD (aa 4) (fC (.int 0))) (fC (.str "fails")))) (aB (aa 4)) aC) (bS 2 (af ixD (aa 4) (fC (.int 1))))))) (aj (fIf (au (af eqD (af ixD (aa 0) (fC (.int 0))) (fC (.str "row")))) (aB (aw bU (ae (fCB b4 (ae (aa 2) ai)) ai))) aC) (aj (fIf (au (af eqD (af ixD (aa 0) (fC (.int 0))) (fC (.str "many")))) (aB (bY (a8 (fUn (bG .int) (af ixD (aa 2) (fC (.int 0))))) (ay .tuple (ae (fC (.str "fails")) (ae (fC (.str "kind")) ai))) (ay .tuple (ae (fC (.str "value")) (ae (fCB aR (ae (af ixD (aa 2) (fC (.int 0))) ai)) ai))))) aC) (aB (aw bg (ae (af ixD (aa 0) (fC (.int 0))) (ae (af ixD (aa 2) (fC (.int 0))) (ae (af ixD (aa 2) (fC (.int 1))) ai)))))))))))
def cY:FnM:=aX 1 (aj (fIf (cW (cj (a8 (fUn (bG .str) (aa 0)))) (cj (au (jl leD leD (fC (.int 1)) (fCB aR (ae (aa 0) ai)) (fC (.int 8)))))) (aB (fC (.bool false))) aC) (aB (fCB lD (ae (bf (aW (aa 0)) bo (af inD (aa 0) (fC (.str "abcdefghijklmnopqrstuvwxyz")))) ai))))
def dH:FnM:=aX 5 (aj (bB 2 ai) (aj (bB 3 ai) (aj (bA (au (af inD (af ixD (aa 0) (fC (.int 0))) (ay .tuple (ae (fC (.str "want")) (ae (fC (.str "peek")) (ae (fC (.str "when")) ai)))))) (aj (aD 4 (eO (bI 25) (ae (af ixD (aa 0) (fC (.int 1))) (ae (aa 2) ai)))) (aj (fIf (au (af eqD (af ixD (aa 4) (fC (.int 0))) (fC (.str "fails")))) (aB (ay .tuple (ae (fCB b4 (ae (aa 3) ai)) (ae (aa 4) ai)))) aC) (fIf (au (af eqD (af ixD (aa 0) (fC (.int 0))) (fC (.str "when")))) (aD 0 (bY (au (af inG (af ixD (aa 4) (fC (.int 1))) (ay .tuple (ae (fC (.int 0)) (ae (fC (.str "")) (ae (ay .tuple ai) ai)))))) (af ixD (aa 0) (fC (.int 3))) (af ixD (aa 0) (fC (.int 2))))) (fIf (cj (a8 (aw cY (ae (af ixD (aa 4) (fC (.int 1))) ai)))) (aB (ay .tuple (ae (fCB b4 (ae (aa 3) ai)) (ae (ay .tuple (ae (fC (.str "fails")) (ae (fC (.str "name")) ai))) ai)))) (fIf (au (af fL (af ixD (aa 4) (fC (.int 1))) (aa 1))) (aB (ay .tuple (ae (fCB b4 (ae (aa 3) ai)) (ae (ay .tuple (ae (fC (.str "wants")) (ae (af ixD (aa 4) (fC (.int 1))) ai))) ai)))) (aj (bS 2 (af ixA (aa 1) (af ixD (aa 4) (fC (.int 1))))) (aj (fIf (au (af eqD (af ixD (aa 0) (fC (.int 0))) (fC (.str "want")))) (bS 3 (ay .tuple (ae (af ixD (aa 4) (fC (.int 1))) (ae (aw (cC 25) (ae (af ixA (aa 1) (af ixD (aa 4) (fC (.int 1)))) ai)) ai)))) aC) (aD 0 (af ixD (aa 0) (fC (.int 2))))))))))) 100000) (aj (fIf (au (af eqD (af ixD (aa 0) (fC (.int 0))) (fC (.str "fail")))) (aB (ay .tuple (ae (fCB b4 (ae (aa 3) ai)) (ae (ay .tuple (ae (fC (.str "fails")) (ae (af ixD (aa 0) (fC (.int 1))) ai))) ai)))) aC) (aj (aD 4 (eO (bI 25) (ae (af ixD (aa 0) (fC (.int 1))) (ae (aa 2) ai)))) (aj (fIf (au (af eqD (af ixD (aa 4) (fC (.int 0))) (fC (.str "fails")))) (aB (ay .tuple (ae (fCB b4 (ae (aa 3) ai)) (ae (aa 4) ai)))) aC) (aB (ay .tuple (ae (fCB b4 (ae (aa 3) ai)) (ae (ay .tuple (ae (fC (.str "made")) (ae (aw (cC 25) (ae (af ixD (aa 4) (fC (.int 1))) ai)) ai))) (ae (af ixD (aa 4) (fC (.int 1))) ai)))))))))))
def gk:FnM:=aX 5 (aj (fM 1 (af ixD (aa 0) (fC (.int 0)))) (aj (aD 2 (fUn eI (fC (.int 1)))) (aj (bA (au (af ltD (aa 2) (fCB aR (ae (aa 1) ai)))) (aj (aD 2 (fCB aR (ae (aa 1) ai))) (bp 3 (aW (af ixD (aa 0) (fC (.int 1)))) (fIf (au (af fL (aa 3) (aa 1))) (aj (aD 4 (dD (aw dH (ae (af ixA (af ixD (aa 0) (fC (.int 1))) (aa 3)) (ae (aa 1) ai))))) (fIf (au (af eqD (af ixD (af ixD (aa 4) (fC (.int 1))) (fC (.int 0))) (fC (.str "made")))) (bM 1 (aa 3) (af ixD (aa 4) (fC (.int 2)))) aC)) aC))) 100000) (aB (aa 1)))))
def cP:Nat→FnM
 | 0=>fun _ _=>none
 | n + 1=>aX 3 (aj (fIf (au (af eqD (af ixD (aa 0) (fC (.int 0))) (fC (.str "put")))) (aB (af aO (fC (.str "put ")) (aw (cC 25) (ae (af ixD (aa 0) (fC (.int 1))) ai)))) aC) (aj (fIf (au (af eqD (af ixD (aa 0) (fC (.int 0))) (fC (.str "got")))) (aB (af aO (fC (.str "got ")) (fCB gW (ae (af ixD (aa 0) (fC (.int 1))) ai)))) aC) (aj (bB 1 (ae (af ixD (aa 0) (fC (.int 0))) ai)) (aj (aD 2 (fSl (aa 0) (fP (fC (.int 1))) cX)) (aj (fIf (au (af eqD (af ixD (aa 0) (fC (.int 0))) (fC (.str "row")))) (aj (bS 1 (fCB gW (ae (fCB aR (ae (af ixD (aa 0) (fC (.int 1))) ai)) ai))) (aD 2 (af ixD (aa 0) (fC (.int 1))))) aC) (aB (af jw (fC (.str " ")) (af aO (aa 1) (bf (aW (aa 2)) bo (aw (cP n) (ae (aa 0) ai)))))))))))
def df:Nat→FnM
 | 0=>fun _ _=>none
 | n + 1=>aX 2 (aj (fIf (au (af eqD (af ixD (aa 0) (fC (.int 0))) (fC (.str "fail")))) (aB (af aO (fC (.str "fail ")) (af ixD (aa 0) (fC (.int 1))))) aC) (aj (aD 1 (ay .list (ae (af ixD (aa 0) (fC (.int 0))) (ae (aw (cP 25) (ae (af ixD (aa 0) (fC (.int 1))) ai)) ai)))) (aB (af jw (fC (.str " ")) (af aO (aa 1) (bf (aW (fSl (aa 0) (fP (fC (.int 2))) cX)) bo (aw (df n) (ae (aa 0) ai))))))))
def bO:Nat→FnM
 | 0=>fun _ _=>none
 | n + 1=>aX 7 (aj (aD 4 (aw aI (ae (aa 0) (ae (fC (.int 12)) ai)))) (aj (fIf (cy (au (af ltD (aa 4) (fC (.int 4)))) (au (af gtD (aa 1) (fC (.int 0))))) (aB (ay .tuple (ae (fC (.str "got")) (ae (aw aI (ae (aa 0) (ae (aa 1) ai))) ai)))) aC) (aj (fIf (cW (au (af eqD (aa 3) (fC (.int 0)))) (au (af ltD (aa 4) (fC (.int 7))))) (aB (ay .tuple (ae (fC (.str "put")) (ae (aw cZ (ae (aa 0) (ae (aa 2) ai))) ai)))) aC) (aj (aD 5 (aw (bO n) (ae (aa 0) (ae (aa 1) (ae (aa 2) (ae (af e9 (aa 3) (fC (.int 1))) ai)))))) (aj (fIf (au (af eqD (aa 4) (fC (.int 7)))) (aB (ay .tuple (ae (fC (.str "many")) (ae (aa 5) ai)))) aC) (aj (aD 6 (aw (bO n) (ae (aa 0) (ae (aa 1) (ae (aa 2) (ae (af e9 (aa 3) (fC (.int 1))) ai)))))) (aj (fIf (au (af eqD (aa 4) (fC (.int 8)))) (aB (ay .tuple (ae (fC (.str "row")) (ae (fSl (ay .tuple (ae (aa 5) (ae (aa 6) ai))) cX (fP (aw aI (ae (aa 0) (ae (fC (.int 3)) ai))))) ai)))) aC) (aB (ay .tuple (ae (af ixD (ay .list (ae (fC (.str "part")) (ae (fC (.str "sum")) (ae (fC (.str "join")) (ae (fC (.str "same")) (ae (fC (.str "less")) ai)))))) (aw aI (ae (aa 0) (ae (fC (.int 5)) ai)))) (ae (aa 5) (ae (aa 6) ai))))))))))))
def fA:FnM:=aX 4 (aj (aD 3 (aw aI (ae (aa 0) (ae (fC (.int 10)) ai)))) (aj (fIf (au (af ltD (aa 3) (fC (.int 7)))) (aB (ay .tuple (ae (fC (.str "put")) (ae (af ixD (aa 2) (aw aI (ae (aa 0) (ae (fCB aR (ae (aa 2) ai)) ai)))) ai)))) aC) (aj (fIf (au (af eqD (aa 3) (fC (.int 7)))) (aB (ay .tuple (ae (fC (.str "join")) (ae (ay .tuple (ae (fC (.str "put")) (ae (af ixD (aa 2) (aw aI (ae (aa 0) (ae (fCB aR (ae (aa 2) ai)) ai)))) ai))) (ae (ay .tuple (ae (fC (.str "put")) (ae (fC (.str "")) ai))) ai))))) aC) (aB (aw (bO 25) (ae (aa 0) (ae (aa 1) (ae (aa 2) (ae (fC (.int 1)) ai)))))))))
def bZ:Nat→FnM
 | 0=>fun _ _=>none
 | n + 1=>aX 10 (aj (aD 6 (aw aI (ae (aa 0) (ae (fC (.int 8)) ai)))) (aj (fIf (cy (au (af ltD (aa 6) (fC (.int 4)))) (au (af gtD (aa 3) (fC (.int 0))))) (aj (aD 7 (bY (cy (a8 (aa 5)) (au (af eqD (aw aI (ae (aa 0) (ae (fC (.int 3)) ai))) (fC (.int 0))))) (fC (.str "peek")) (fC (.str "want")))) (aj (aD 8 (aw fA (ae (aa 0) (ae (aa 1) (ae (aa 2) ai))))) (aB (ay .tuple (ae (aa 7) (ae (aa 8) (ae (aw (bZ n) (ae (aa 0) (ae (af aO (aa 1) (fC (.int 1))) (ae (aa 2) (ae (af e9 (aa 3) (fC (.int 1))) (ae (aa 4) (ae (aa 5) ai))))))) ai))))))) aC) (aj (fIf (cy (au (af inD (aa 6) (ay .tuple (ae (fC (.int 4)) (ae (fC (.int 5)) ai))))) (au (af gtD (aa 4) (fC (.int 0))))) (aj (aD 8 (aw (bO 25) (ae (aa 0) (ae (aa 1) (ae (aa 2) (ae (fC (.int 1)) ai)))))) (aj (aD 9 (aw (bZ n) (ae (aa 0) (ae (aa 1) (ae (aa 2) (ae (aa 3) (ae (af e9 (aa 4) (fC (.int 1))) (ae (aa 5) ai)))))))) (aB (ay .tuple (ae (fC (.str "when")) (ae (aa 8) (ae (aa 9) (ae (aw (bZ n) (ae (aa 0) (ae (aa 1) (ae (aa 2) (ae (aa 3) (ae (af e9 (aa 4) (fC (.int 1))) (ae (aa 5) ai))))))) ai)))))))) aC) (aj (fIf (cy (au (af eqD (aa 6) (fC (.int 6)))) (au (af eqD (aw aI (ae (aa 0) (ae (fC (.int 2)) ai))) (fC (.int 0))))) (aB (ay .tuple (ae (fC (.str "fail")) (ae (af ixD (aa 2) (aw aI (ae (aa 0) (ae (fCB aR (ae (aa 2) ai)) ai)))) ai)))) aC) (aB (ay .tuple (ae (fC (.str "say")) (ae (aw (bO 25) (ae (aa 0) (ae (aa 1) (ae (aa 2) (ae (fC (.int 1)) ai))))) ai))))))))
def de:FnM:=aX 5 (aj (cO 3 4 (af ixD (ay .list (ae (ay .tuple (ae (fC (.int 4)) (ae (fC (.int 1)) ai))) (ae (ay .tuple (ae (fC (.int 2)) (ae (fC (.int 2)) ai))) (ae (ay .tuple (ae (fC (.int 1)) (ae (fC (.int 1)) ai))) (ae (ay .tuple (ae (fC (.int 3)) (ae (fC (.int 1)) ai))) (ae (ay .tuple (ae (fC (.int 0)) (ae (fC (.int 1)) ai))) ai)))))) (aw aI (ae (aa 0) (ae (fC (.int 5)) ai))))) (aB (aw (bZ 25) (ae (aa 0) (ae (fC (.int 0)) (ae (aa 1) (ae (aa 3) (ae (aa 4) (ae (aa 2) ai)))))))))
def gm:FnM:=aX 9 (aj (cK 4) (aj (cK 5) (aj (bp 6 (bR (fCB aR (ae (aa 2) ai))) (fN 7 bj (ae (aa 0) (ae (af aO (aa 1) (aa 6)) ai)) (aj (aD 8 (aw aI (ae (aa 7) (ae (fC (.int 8)) ai)))) (fIf (au (af ltD (aa 8) (fC (.int 2)))) (bM 4 (af ixD (aa 2) (aa 6)) (aw cZ (ae (aa 7) (ae (aa 2) ai)))) (fIf (au (af ltD (aa 8) (fC (.int 7)))) (bM 5 (af ixD (aa 2) (aa 6)) (aw de (ae (aa 7) (ae (aa 2) (ae (aa 3) ai))))) aC))))) (aB (ay .tuple (ae (aa 4) (ae (aa 5) ai)))))))
def fB:FnM:=aX 8 (aj (aD 4 (af ixD (aa 2) (aw aI (ae (aa 0) (ae (fCB aR (ae (aa 2) ai)) ai))))) (aj (jj 5 (bf (aW (af ixD (aa 1) (fC (.int 0)))) (au (af neD (aa 0) (aa 5))) (ay .tuple (ae (aa 0) (ae (af ixA (af ixD (aa 2) (fC (.int 0))) (aa 0)) ai))))) (aj (jj 6 (bf (aW (af ixD (aa 1) (fC (.int 1)))) (au (af neD (aa 0) (aa 5))) (ay .tuple (ae (aa 0) (ae (af ixA (af ixD (aa 2) (fC (.int 1))) (aa 0)) ai))))) (aj (aD 7 (aw aI (ae (aa 0) (ae (fC (.int 5)) ai)))) (aj (fIf (au (af ltD (aa 7) (fC (.int 2)))) (bM 5 (aa 4) (aw cZ (ae (aa 0) (ae (aa 2) ai)))) (fIf (au (af ltD (aa 7) (fC (.int 4)))) (bM 6 (aa 4) (aw de (ae (aa 0) (ae (aa 2) (ae (aa 3) ai))))) aC)) (aB (ay .tuple (ae (aa 5) (ae (aa 6) ai)))))))))
def gj:FnM:=aX 12 (aj (cK 4) (aj (aD 5 (bf (aW (aa 2)) bo (aw gk (ae (aa 0) ai)))) (aj (bp 6 (bR (fCB aR (ae (aa 3) ai))) (fN 7 bj (ae (aa 0) (ae (af aO (aa 1) (aa 6)) ai)) (aj (aD 8 (aw aI (ae (aa 7) (ae (fCB aR (ae (aa 2) ai)) ai)))) (aj (aD 9 (af ixD (aa 5) (aa 8))) (aj (fIf (au (af eqD (aw aI (ae (aa 7) (ae (fC (.int 4)) ai))) (fC (.int 0)))) (aj (cK 9) (bp 10 (aW (aa 3)) (fIf (au (af gtD (aw aI (ae (aa 7) (ae (fC (.int 4)) ai))) (fC (.int 0)))) (bM 9 (aa 10) (aw cZ (ae (aa 7) (ae (aa 3) ai)))) aC))) aC) (fIf (cy (au (af inA (af ixD (aa 3) (aa 6)) (af ixD (af ixD (aa 2) (aa 8)) (fC (.int 1))))) (au (af gtD (aw aI (ae (aa 7) (ae (fC (.int 5)) ai))) (fC (.int 0))))) (aj (aD 11 (af ixA (af ixD (af ixD (aa 2) (aa 8)) (fC (.int 1))) (af ixD (aa 3) (aa 6)))) (bM 4 (af ixD (aa 3) (aa 6)) (dD (ay .tuple (ae (aw (df 25) (ae (aa 11) ai)) (ae (af aO (ay .tuple (ae (af ixD (aa 3) (aa 6)) ai)) (fSl (aw dH (ae (aa 11) (ae (aa 9) ai))) cX (fP (fC (.int 2))))) ai)))))) aC)))))) (aB (aa 4)))))
def fu:FnM:=aX 1 (aB (af aO (nH (aW (af ixD (aa 0) (fC (.int 1)))) bo (aa 0)) (af jC (ay .list (ae (af ixD (af ixD (aa 0) (fC (.int 2))) (fC (.int 1))) ai)) (fCB intD (ae (af eqD (af ixD (af ixD (aa 0) (fC (.int 2))) (fC (.int 0))) (fC (.str "wants"))) ai)))))
def fw:FnM:=aX 5 (aj (bB 2 ai) (aj (gL 3 (aa 1)) (aj (bA (au (af gtD (fCB aR (ae (aa 3) ai)) (fC (.int 0)))) (aj (iD 3 4) (fIf (au (af cH (aa 4) (aa 2))) (aj (bS 2 (aa 4)) (fIf (au (af inA (aa 4) (aa 0))) (k7 3 (aa 3) (aw fu (ae (af ixD (af ixA (aa 0) (aa 4)) (fC (.int 1))) ai))) aC)) aC)) 100000) (aB (aa 2)))))
def fD:FnM:=aX 4 (aj (aD 2 (fCB eW (ae (aa 1) ai))) (aj (bp 3 (bR (fCB aR (ae (aa 1) ai))) (aD 2 (bf (aW (aa 2)) (a8 (fCB g5 (ae (bf (aW (af ixD (af ixD (af ixA (aa 1) (aa 0)) (fC (.int 1))) (fC (.int 1)))) bo (af inD (af ixD (aa 0) (fC (.int 0))) (aa 4))) ai))) (aa 0)))) (aB (af eqG (aa 2) (ay .list ai)))))
def du:FnM:=aX 7 (aj (fIf (cW (cj (a8 (fUn (bG .lst) (aa 2)))) (au (af neD (fCB aR (ae (aa 2) ai)) (fCB aR (ae (aa 1) ai))))) (aB (fC (.bool false))) aC) (aj (bB 3 ai) (aj (bp 4 (aW (aa 2)) (aj (fIf (cW (cj (a8 (fUn (bG .tup) (aa 4)))) (cW (au (af cH (af ixD (aa 4) (fC (.int 0))) (aa 1))) (au (af inD (af ixD (aa 4) (fC (.int 0))) (aa 3))))) (aB (fC (.bool false))) aC) (aj (fIf (au (af neG (aa 4) (af ixD (af ixA (aa 0) (af ixD (aa 4) (fC (.int 0)))) (fC (.int 1))))) (aB (fC (.bool false))) aC) (aj (k8 5 6 (aW (af ixD (aa 4) (fC (.int 1)))) (fIf (cy (au (af inA (aa 5) (aa 0))) (au (af cH (aa 5) (aa 3)))) (aB (fC (.bool false))) aC)) (bS 3 (af ixD (aa 4) (fC (.int 0)))))))) (aB (fC (.bool true))))))
def kX:FnM:=aX 13 (aj (aD 1 (bQ fF bj (ae (aa 0) (ae (fC (.int 0)) ai)) (ae (af aO (fC (.int 3)) (bQ aI bj (ae (aa 0) (ae (fC (.int 1)) ai)) (ae (fC (.int 5)) ai))) ai))) (aj (aD 2 (af eqD (bQ aI bj (ae (aa 0) (ae (fC (.int 2)) ai)) (ae (fC (.int 4)) ai)) (fC (.int 0)))) (aj (aD 3 (aw gm (ae (aa 0) (ae (fC (.int 3)) (ae (aa 1) (ae (aa 2) ai)))))) (aj (bB 4 (ae (aa 3) ai)) (aj (bp 5 (bR (af aO (fC (.int 1)) (bQ aI bj (ae (aa 0) (ae (fC (.int 10)) ai)) (ae (fC (.int 4)) ai)))) (aD 3 (bQ fB bj (ae (aa 0) (ae (af aO (fC (.int 11)) (aa 5)) ai)) (ae (aa 3) (ae (aa 1) (ae (aa 2) ai)))))) (aj (bS 4 (aa 3)) (f6 4 (aj (aD 6 (aw gj (ae (aa 0) (ae (fC (.int 16)) (ae (aa 4) (ae (aa 1) ai)))))) (aj (bp 5 (bR (fC (.int 4))) (fN 7 bj (ae (aa 0) (ae (af aO (fC (.int 30)) (aa 5)) ai)) (aj (bB 8 ai) (aj (bp 9 (bR (af aO (fC (.int 1)) (aw aI (ae (aa 7) (ae (fC (.int 4)) ai))))) (bS 8 (af ixD (af aO (aa 1) (ay .list (ae (fC (.str "zzzz")) ai))) (aw aI (ae (aa 7) (ae (af aO (fCB aR (ae (aa 1) ai)) (fC (.int 1))) ai)))))) (f6 8 (aj (aD 10 (bf (aW (aw fw (ae (aa 6) (ae (aa 8) ai)))) (au (af inA (aa 0) (aa 7))) (aa 0))) (aj (aD 11 (fCB eW (ae (aa 8) ai))) (aj (ji 12 cD (ae (aa 6) (ae (aa 11) ai))) (aj (fIf (cW (au (af neG (aa 11) (aa 8))) (au (af eqD (af isD (aa 12) (fC .none)) (aw fD (ae (aa 6) (ae (aa 10) ai)))))) (aB (fC (.bool false))) aC) (fIf (au (af gJ (aa 12) (fC .none))) (aj (fIf (cj (a8 (eO du (ae (aa 6) (ae (aa 10) (ae (aa 12) ai)))))) (aB (fC (.bool false))) aC) (aj (bS 12 (fC .none)) (fIf (cj (a8 (aw du (ae (aa 6) (ae (aa 10) (ae (gA cD (ae (aa 6) (ae (aa 11) ai))) ai)))))) (aB (fC (.bool false))) aC))) aC)))))))))) (aB (af eqG (gA cD (ae (aa 6) (ae (ay .list ai) ai))) (ay .list ai))))))))))))
def g7:FS:=(aj (iC 3 4) (fIf (au (af fL (aa 4) (aa 2))) (aj (bM 2 (aa 4) (fC (.bool true))) (lA 3 (bY (au (af inA (aa 4) (aa 0))) (aw fG (ae (af ixA (aa 0) (aa 4)) ai)) (ay .list ai)))) aC))
theorem uq:gh=aX 5 (aj (cK 2) (aj (gL 3 (aa 1)) (aj (bA (au (af gtD (fCB aR (ae (aa 3) ai)) (fC (.int 0)))) g7 100000) (aB (fUn dJ (aa 2)))))):=rfl
def fq:FS:=(fIf (au (af inA (aa 3) (aa 0))) (bM 2 (aa 3) (af ixA (aa 0) (aa 3))) aC)
theorem ur:g8=aX 4 (aj (cK 2) (aj (bp 3 (aW (aw gh (ae (aa 0) (ae (aa 1) ai)))) fq) (aB (aa 2)))):=rfl
def iL:FS:=(lC 1 2 (aa 4))
def g9:FS:=(aj (aD 3 (bf (aW (fUn dJ (aa 2))) (a8 (dD (aw eJ (ae (aa 3) (ae (af ixA (aa 3) (aa 0)) ai))))) (aa 0))) (aj (fIf (au (af eqD (fCB aR (ae (aa 3) ai)) (fC (.int 0)))) jk aC) (bp 4 (aW (aa 3)) iL)))
theorem uV:gn=fS 5 (aj (bB 1 ai) (aj (fM 2 (aa 0)) (aj (bA (au (af gtD (fCB aR (ae (aa 2) ai)) (fC (.int 0)))) g9 100000) (kJ 1)))):=rfl
def gi:FS:=(bM 1 (aa 2) (af ixD (aa 3) (fC (.int 1))))
theorem uE:fE=aX 4 (aj (cK 1) (aj (k9 2 3 (aa 0) gi) (aB (aa 1)))):=rfl
def lK:FS:=(aj (aD 6 (aw aI (ae (aa 0) (ae (fC (.int 5)) ai)))) (aj (aD 7 (af ixD (aa 3) (aw aI (ae (aa 0) (ae (fC (.int 26)) ai))))) (aj (fIf (au (af eqD (aa 6) (fC (.int 0)))) (aD 7 (af ixD (aa 2) (aw aI (ae (aa 0) (ae (fC (.int 8)) ai))))) aC) (aj (fIf (cy (au (af eqD (aa 6) (fC (.int 1)))) (au (af gtD (fCB aR (ae (aa 4) ai)) (fC (.int 0))))) (aD 7 (fSl (af aO (af ixD (aa 4) (fUn eI (fC (.int 1)))) (aa 7)) cX (fP (fC (.int 8))))) aC) (aj (fIf (au (af eqD (aa 6) (fC (.int 2)))) (aD 7 (af dG (af aO (aa 7) (af ixD (aa 3) (aw aI (ae (aa 0) (ae (fC (.int 26)) ai))))) (fC (.int 4)))) aC) (aj (fIf (au (af inD (aa 7) (aa 4))) (aD 7 (af ixD (bf (aW (aa 3)) (au (af cH (aa 0) (aa 5))) (aa 0)) (fC (.int 0)))) aC) (jI 4 (aw aI (ae (aa 0) (ae (af aO (fCB aR (ae (aa 4) ai)) (fC (.int 1))) ai))) (aa 7))))))))
theorem vZ:fF=aX 8 (aj (aD 2 (ay .list (ae (fC (.str "made")) (ae (fC (.str "told")) (ae (fC (.str "say")) (ae (fC (.str "want")) (ae (fC (.str "fails")) (ae (fC (.str "got")) (ae (fC (.str "put")) (ae (fC (.str "lacks")) ai)))))))))) (aj (aD 3 (fC (.str "abcdefghijklmnopqrstuvwxyz"))) (aj (bB 4 ai) (aj (bp 5 (bR (aa 1)) lK) (aB (aa 4)))))):=rfl
def jS (n:Nat):FS:=(aj (aD 4 (aw (bI n) (ae (aa 3) (ae (aa 1) ai)))) (aj (fIf (au (af eqD (af ixD (aa 4) (fC (.int 0))) (fC (.str "fails")))) (aB (aa 4)) aC) (bS 2 (af ixD (aa 4) (fC (.int 1))))))
theorem lN (n:Nat):bI (n + 1)=aX 5 (aj (fIf (au (af eqD (af ixD (aa 0) (fC (.int 0))) (fC (.str "put")))) (aB (ay .tuple (ae (fC (.str "value")) (ae (af ixD (aa 0) (fC (.int 1))) ai)))) aC) (aj (fIf (au (af eqD (af ixD (aa 0) (fC (.int 0))) (fC (.str "got")))) (aB (ay .tuple (ae (fC (.str "value")) (ae (af ixD (aa 1) (af ixD (aa 0) (fC (.int 1)))) ai)))) aC) (aj (bB 2 ai) (aj (bp 3 (aW (bY (au (af eqD (af ixD (aa 0) (fC (.int 0))) (fC (.str "row")))) (af ixD (aa 0) (fC (.int 1))) (fSl (aa 0) (fP (fC (.int 1))) cX))) (jS n)) (aj (fIf (au (af eqD (af ixD (aa 0) (fC (.int 0))) (fC (.str "row")))) (aB (aw bU (ae (fCB b4 (ae (aa 2) ai)) ai))) aC) (aj (fIf (au (af eqD (af ixD (aa 0) (fC (.int 0))) (fC (.str "many")))) (aB (bY (a8 (fUn (bG .int) (af ixD (aa 2) (fC (.int 0))))) (ay .tuple (ae (fC (.str "fails")) (ae (fC (.str "kind")) ai))) (ay .tuple (ae (fC (.str "value")) (ae (fCB aR (ae (af ixD (aa 2) (fC (.int 0))) ai)) ai))))) aC) (aB (aw bg (ae (af ixD (aa 0) (fC (.int 0))) (ae (af ixD (aa 2) (fC (.int 0))) (ae (af ixD (aa 2) (fC (.int 1))) ai))))))))))):=rfl
def c5:FS:=(aj (aD 4 (eO (bI 25) (ae (af ixD (aa 0) (fC (.int 1))) (ae (aa 2) ai)))) (aj (fIf (au (af eqD (af ixD (aa 4) (fC (.int 0))) (fC (.str "fails")))) (aB (ay .tuple (ae (fCB b4 (ae (aa 3) ai)) (ae (aa 4) ai)))) aC) (fIf (au (af eqD (af ixD (aa 0) (fC (.int 0))) (fC (.str "when")))) (aD 0 (bY (au (af inG (af ixD (aa 4) (fC (.int 1))) (ay .tuple (ae (fC (.int 0)) (ae (fC (.str "")) (ae (ay .tuple ai) ai)))))) (af ixD (aa 0) (fC (.int 3))) (af ixD (aa 0) (fC (.int 2))))) (fIf (cj (a8 (aw cY (ae (af ixD (aa 4) (fC (.int 1))) ai)))) (aB (ay .tuple (ae (fCB b4 (ae (aa 3) ai)) (ae (ay .tuple (ae (fC (.str "fails")) (ae (fC (.str "name")) ai))) ai)))) (fIf (au (af fL (af ixD (aa 4) (fC (.int 1))) (aa 1))) (aB (ay .tuple (ae (fCB b4 (ae (aa 3) ai)) (ae (ay .tuple (ae (fC (.str "wants")) (ae (af ixD (aa 4) (fC (.int 1))) ai))) ai)))) (aj (bS 2 (af ixA (aa 1) (af ixD (aa 4) (fC (.int 1))))) (aj (fIf (au (af eqD (af ixD (aa 0) (fC (.int 0))) (fC (.str "want")))) (bS 3 (ay .tuple (ae (af ixD (aa 4) (fC (.int 1))) (ae (aw (cC 25) (ae (af ixA (aa 1) (af ixD (aa 4) (fC (.int 1)))) ai)) ai)))) aC) (aD 0 (af ixD (aa 0) (fC (.int 2)))))))))))
theorem vG:dH=aX 5 (aj (bB 2 ai) (aj (bB 3 ai) (aj (bA (au (af inD (af ixD (aa 0) (fC (.int 0))) (ay .tuple (ae (fC (.str "want")) (ae (fC (.str "peek")) (ae (fC (.str "when")) ai)))))) c5 100000) (aj (fIf (au (af eqD (af ixD (aa 0) (fC (.int 0))) (fC (.str "fail")))) (aB (ay .tuple (ae (fCB b4 (ae (aa 3) ai)) (ae (ay .tuple (ae (fC (.str "fails")) (ae (af ixD (aa 0) (fC (.int 1))) ai))) ai)))) aC) (aj (aD 4 (eO (bI 25) (ae (af ixD (aa 0) (fC (.int 1))) (ae (aa 2) ai)))) (aj (fIf (au (af eqD (af ixD (aa 4) (fC (.int 0))) (fC (.str "fails")))) (aB (ay .tuple (ae (fCB b4 (ae (aa 3) ai)) (ae (aa 4) ai)))) aC) (aB (ay .tuple (ae (fCB b4 (ae (aa 3) ai)) (ae (ay .tuple (ae (fC (.str "made")) (ae (aw (cC 25) (ae (af ixD (aa 4) (fC (.int 1))) ai)) ai))) (ae (af ixD (aa 4) (fC (.int 1))) ai))))))))))):=rfl
def hW:FS:=(fIf (au (af fL (aa 3) (aa 1))) (aj (aD 4 (dD (aw dH (ae (af ixA (af ixD (aa 0) (fC (.int 1))) (aa 3)) (ae (aa 1) ai))))) (fIf (au (af eqD (af ixD (af ixD (aa 4) (fC (.int 1))) (fC (.int 0))) (fC (.str "made")))) (bM 1 (aa 3) (af ixD (aa 4) (fC (.int 2)))) aC)) aC)
def jT:FS:=(aj (aD 2 (fCB aR (ae (aa 1) ai))) (bp 3 (aW (af ixD (aa 0) (fC (.int 1)))) hW))
theorem wW:gk=aX 5 (aj (fM 1 (af ixD (aa 0) (fC (.int 0)))) (aj (aD 2 (fUn eI (fC (.int 1)))) (aj (bA (au (af ltD (aa 2) (fCB aR (ae (aa 1) ai)))) jT 100000) (aB (aa 1))))):=rfl
def hZ:FS:=(aj (aD 8 (aw aI (ae (aa 7) (ae (fC (.int 8)) ai)))) (fIf (au (af ltD (aa 8) (fC (.int 2)))) (bM 4 (af ixD (aa 2) (aa 6)) (aw cZ (ae (aa 7) (ae (aa 2) ai)))) (fIf (au (af ltD (aa 8) (fC (.int 7)))) (bM 5 (af ixD (aa 2) (aa 6)) (aw de (ae (aa 7) (ae (aa 2) (ae (aa 3) ai))))) aC)))
def lU:FS:=(fN 7 bj (ae (aa 0) (ae (af aO (aa 1) (aa 6)) ai)) hZ)
theorem wX:gm=aX 9 (aj (cK 4) (aj (cK 5) (aj (bp 6 (bR (fCB aR (ae (aa 2) ai))) lU) (aB (ay .tuple (ae (aa 4) (ae (aa 5) ai))))))):=rfl
def iP:FS:=(fIf (au (af gtD (aw aI (ae (aa 7) (ae (fC (.int 4)) ai))) (fC (.int 0)))) (bM 9 (aa 10) (aw cZ (ae (aa 7) (ae (aa 3) ai)))) aC)
def iO:FS:=(aj (aD 8 (aw aI (ae (aa 7) (ae (fCB aR (ae (aa 2) ai)) ai)))) (aj (aD 9 (af ixD (aa 5) (aa 8))) (aj (fIf (au (af eqD (aw aI (ae (aa 7) (ae (fC (.int 4)) ai))) (fC (.int 0)))) (aj (cK 9) (bp 10 (aW (aa 3)) iP)) aC) (fIf (cy (au (af inA (af ixD (aa 3) (aa 6)) (af ixD (af ixD (aa 2) (aa 8)) (fC (.int 1))))) (au (af gtD (aw aI (ae (aa 7) (ae (fC (.int 5)) ai))) (fC (.int 0))))) (aj (aD 11 (af ixA (af ixD (af ixD (aa 2) (aa 8)) (fC (.int 1))) (af ixD (aa 3) (aa 6)))) (bM 4 (af ixD (aa 3) (aa 6)) (dD (ay .tuple (ae (aw (df 25) (ae (aa 11) ai)) (ae (af aO (ay .tuple (ae (af ixD (aa 3) (aa 6)) ai)) (fSl (aw dH (ae (aa 11) (ae (aa 9) ai))) cX (fP (fC (.int 2))))) ai)))))) aC))))
def lT:FS:=(fN 7 bj (ae (aa 0) (ae (af aO (aa 1) (aa 6)) ai)) iO)
theorem wV:gj=aX 12 (aj (cK 4) (aj (aD 5 (bf (aW (aa 2)) bo (aw gk (ae (aa 0) ai)))) (aj (bp 6 (bR (fCB aR (ae (aa 3) ai))) lT) (aB (aa 4))))):=rfl
def hJ:FS:=(aj (iD 3 4) (fIf (au (af cH (aa 4) (aa 2))) (aj (bS 2 (aa 4)) (fIf (au (af inA (aa 4) (aa 0))) (k7 3 (aa 3) (aw fu (ae (af ixD (af ixA (aa 0) (aa 4)) (fC (.int 1))) ai))) aC)) aC))
theorem vp:fw=aX 5 (aj (bB 2 ai) (aj (gL 3 (aa 1)) (aj (bA (au (af gtD (fCB aR (ae (aa 3) ai)) (fC (.int 0)))) hJ 100000) (aB (aa 2))))):=rfl
def jL:FS:=(aD 2 (bf (aW (aa 2)) (a8 (fCB g5 (ae (bf (aW (af ixD (af ixD (af ixA (aa 1) (aa 0)) (fC (.int 1))) (fC (.int 1)))) bo (af inD (af ixD (aa 0) (fC (.int 0))) (aa 4))) ai))) (aa 0)))
theorem vF:fD=aX 4 (aj (aD 2 (fCB eW (ae (aa 1) ai))) (aj (bp 3 (bR (fCB aR (ae (aa 1) ai))) jL) (aB (af eqG (aa 2) (ay .list ai))))):=rfl
def gp:FS:=(fIf (cy (au (af inA (aa 5) (aa 0))) (au (af cH (aa 5) (aa 3)))) (aB (fC (.bool false))) aC)
def iN:FS:=(aj (fIf (cW (cj (a8 (fUn (bG .tup) (aa 4)))) (cW (au (af cH (af ixD (aa 4) (fC (.int 0))) (aa 1))) (au (af inD (af ixD (aa 4) (fC (.int 0))) (aa 3))))) (aB (fC (.bool false))) aC) (aj (fIf (au (af neG (aa 4) (af ixD (af ixA (aa 0) (af ixD (aa 4) (fC (.int 0)))) (fC (.int 1))))) (aB (fC (.bool false))) aC) (aj (k8 5 6 (aW (af ixD (aa 4) (fC (.int 1)))) gp) (bS 3 (af ixD (aa 4) (fC (.int 0)))))))
theorem vY:du=aX 7 (aj (fIf (cW (cj (a8 (fUn (bG .lst) (aa 2)))) (au (af neD (fCB aR (ae (aa 2) ai)) (fCB aR (ae (aa 1) ai))))) (aB (fC (.bool false))) aC) (aj (bB 3 ai) (aj (bp 4 (aW (aa 2)) iN) (aB (fC (.bool true)))))):=rfl
def ms:FS:=(aD 3 (bQ fB bj (ae (aa 0) (ae (af aO (fC (.int 11)) (aa 5)) ai)) (ae (aa 3) (ae (aa 1) (ae (aa 2) ai)))))
def iW:FS:=(bS 8 (af ixD (af aO (aa 1) (ay .list (ae (fC (.str "zzzz")) ai))) (aw aI (ae (aa 7) (ae (af aO (fCB aR (ae (aa 1) ai)) (fC (.int 1))) ai)))))
def jY:FS:=(aj (bB 8 ai) (aj (bp 9 (bR (af aO (fC (.int 1)) (aw aI (ae (aa 7) (ae (fC (.int 4)) ai))))) iW) (f6 8 (aj (aD 10 (bf (aW (aw fw (ae (aa 6) (ae (aa 8) ai)))) (au (af inA (aa 0) (aa 7))) (aa 0))) (aj (aD 11 (fCB eW (ae (aa 8) ai))) (aj (ji 12 cD (ae (aa 6) (ae (aa 11) ai))) (aj (fIf (cW (au (af neG (aa 11) (aa 8))) (au (af eqD (af isD (aa 12) (fC .none)) (aw fD (ae (aa 6) (ae (aa 10) ai)))))) (aB (fC (.bool false))) aC) (fIf (au (af gJ (aa 12) (fC .none))) (aj (fIf (cj (a8 (eO du (ae (aa 6) (ae (aa 10) (ae (aa 12) ai)))))) (aB (fC (.bool false))) aC) (aj (bS 12 (fC .none)) (fIf (cj (a8 (aw du (ae (aa 6) (ae (aa 10) (ae (gA cD (ae (aa 6) (ae (aa 11) ai))) ai)))))) (aB (fC (.bool false))) aC))) aC))))))))
def mr:FS:=(fN 7 bj (ae (aa 0) (ae (af aO (fC (.int 30)) (aa 5)) ai)) jY)
theorem xQ:kX=aX 13 (aj (aD 1 (bQ fF bj (ae (aa 0) (ae (fC (.int 0)) ai)) (ae (af aO (fC (.int 3)) (bQ aI bj (ae (aa 0) (ae (fC (.int 1)) ai)) (ae (fC (.int 5)) ai))) ai))) (aj (aD 2 (af eqD (bQ aI bj (ae (aa 0) (ae (fC (.int 2)) ai)) (ae (fC (.int 4)) ai)) (fC (.int 0)))) (aj (aD 3 (aw gm (ae (aa 0) (ae (fC (.int 3)) (ae (aa 1) (ae (aa 2) ai)))))) (aj (bB 4 (ae (aa 3) ai)) (aj (bp 5 (bR (af aO (fC (.int 1)) (bQ aI bj (ae (aa 0) (ae (fC (.int 10)) ai)) (ae (fC (.int 4)) ai)))) ms) (aj (bS 4 (aa 3)) (f6 4 (aj (aD 6 (aw gj (ae (aa 0) (ae (fC (.int 16)) (ae (aa 4) (ae (aa 1) ai)))))) (aj (bp 5 (bR (fC (.int 4))) mr) (aB (af eqG (gA cD (ae (aa 6) (ae (ay .list ai) ai))) (ay .list ai)))))))))))):=rfl
abbrev Dc:=List (PyData×PyData)
theorem sz:sizeLine=16777216:=by decide
theorem len_app (a b:Str):(a++b).length=a.length + b.length:=by
 show (a++b).cps.size=_
 rw [PySem.Str.cps_append,Array.size_append]
 rfl
theorem ir {α:Type} {xs:List α} {i:Int} (h0:0≤i) (h1:i < xs.length):∃ x,atI xs i=some x∧x∈xs:=by
 unfold atI ixN
 rw [if_pos h0,if_pos h1]
 have hl:i.toNat < xs.length:=by omega
 exact ⟨xs[i.toNat],by simp [hl],List.getElem_mem hl⟩
theorem dY {i:Nat} {body:FS} {I:Nat→Rho→Tp→Prop} {N:Nat}:∀ (ds:List PyData) (k:Nat) (ρ:Rho) (T:Tp),k + ds.length≤N→I k ρ T →
  (∀ k d ρ T,d∈ds→k < N→I k ρ T→∃ ρ' T',body (ρ.set i (some (.d d))) T=some ((.nx,ρ'),T')∧I (k + 1) ρ' T')→∃ ρ' T',forL i body ds ρ T=some ((.nx,ρ'),T')∧I (k + ds.length) ρ' T'
 | [],k,ρ,T,_,h,_=>⟨ρ,T,rfl,h⟩
 | d::r,k,ρ,T,hN,h,hs=>by
  rw [List.length_cons] at hN
  obtain ⟨ρ1,T1,e1,h1⟩:=hs k d ρ T List.mem_cons_self (by omega) h
  obtain ⟨ρ2,T2,e2,h2⟩:=dY (body:=body) (I:=I) r (k + 1) ρ1 T1 (by omega) h1 fun k d ρ T hd=>hs k d ρ T (List.mem_cons_of_mem _ hd)
  refine ⟨ρ2,T2,?_,by rw [List.length_cons,show k + (r.length + 1)=k + 1 + r.length by omega]; exact h2⟩
  unfold forL
  rw [e1]
  exact e2
theorem jU {n:Nat} {d:PyData} (h:d∈bL 0 n):∃ j:Int,d=.int j∧0≤j∧j < n:=by
 obtain ⟨k,hk,rfl⟩:=List.mem_map.mp h
 have:=List.mem_range.mp hk
 exact ⟨0 + (k:Int),rfl,by omega,by omega⟩
theorem dX (n:Nat):(bL 0 n).length=n:=by simp [bL]
theorem rng_ok {j:Int} (h0:0≤j) (h1:j≤1000):dm j=true:=by
 unfold dm
 simp
 omega
def Fr (xs:List PyData):Prop:=∃ c n k:Int,xs=[.int c,.int n,.int k]
theorem t4 {o:PyData→PyData→Option PyData} {c:Int} {xs:List PyData} {r:Tp} {y:PyData}:op2 o ((.int c::xs)::r) (.tp 0) (.d y)=mkD ((.int c::xs)::r) (o (.list (.int c::xs)) y):=rfl
theorem rl {c:Int} {r:List PyData}:isO (.int c::r)=false:=rfl
theorem ye {i j:Int}:n8 (.int i) (.int j)=if 0 < j∧j < 18446744073709551616 then some (.int (i / j)) else none:=rfl
theorem ix0:ixN 3 0=some 0:=rfl
theorem jt:eG (.int 10) (.int 18)=some (.int 1000000000000000000):=rfl
theorem bi {xs:List PyData} (h:Fr xs) {m:Int} (h1:0 < m) (h2:m≤1000000000000000000):∃ r xs',aI [.tp 0,.d (.int m)] [xs]=some (.int r,[xs'])∧Fr xs'∧0≤r∧r < m:=by
 obtain ⟨c,n,k,rfl⟩:=h
 by_cases hc:1000000000000000000≤c
 ·refine ⟨c % m,[.int (c / m),.int (n + 1),.int k],?_,⟨_,_,_,rfl⟩,Int.emod_nonneg _ (by omega),Int.emod_lt_of_pos _ h1⟩
  have h3:m < 18446744073709551616:=by omega
  simp [aI,jH,t4,rl,at0,at1,at2,ix0,ix1,ix2,jt,hc,h1,h3,ye]
 ·have e:∃ z:Int,aI [.tp 0,.d (.int m)] [[.int c,.int n,.int k]]=some (.int (z % m),[[.int c,.int (n + 1),.int k]]):=by
   refine ⟨?_,?_⟩
   rotate_left
   ·simp [aI,jH,t4,rl,at0,at1,at2,ix0,ix1,ix2,jt,hc,h1]
    rfl
  obtain ⟨z,e⟩:=e
  exact ⟨z % m,_,e,⟨_,_,_,rfl⟩,Int.emod_nonneg _ (by omega),Int.emod_lt_of_pos _ h1⟩
@[simp] theorem nI {N:Nat} {s:FS} {ws:List W} {T:Tp}:fS N s ws T=if c9 ws=true then gK (s (ws.map some++List.replicate (N - ws.length) none) T) else none:=rfl
@[simp] theorem EV {x:PyData} {r:Rho} {T:Tp}:gK (some ((.ro x,r),T))=some (x,T):=rfl
@[simp] theorem DM {a:FA} {ρ:Rho} {T:Tp}:kH a ρ T=bnd (a ρ T) fun ws T1=>kq ρ (dq ws) T1:=rfl
@[simp] theorem Dm {xs:List PyData} {ρ:Rho} {T:Tp}:kq ρ (some xs) T=if xs.length≤1000 then some ((.ro (.list xs),ρ),T) else none:=rfl
@[simp] theorem DL {s:FS} {x:PyData} {ρ:Rho} {T:Tp}:iG s (.ro x,ρ) T=some ((.ro x,ρ),T):=rfl
theorem fO (ns:List Int) (k:Int) (hk:0≤k):∃ xs,Fr xs∧∀ T,bj [.d (.list (ns.map PyData.int)),.d (.int k)] T=some (.list xs,T):=by
 cases ns with
 | nil=>exact ⟨_,⟨0,0,k,rfl⟩,fun T=>by simp [bj]⟩
 | cons a r=>
  have hp:(0:Int) < (((a::r).map PyData.int).length:Int):=by simp
  obtain ⟨d,e1,hm⟩:=ir (xs:=(a::r).map PyData.int) (i:=k % (((a::r).map PyData.int).length:Int)) (Int.emod_nonneg _ (by omega)) (Int.emod_lt_of_pos _ hp)
  obtain ⟨c,_,rfl⟩:=List.mem_map.mp hm
  refine ⟨_,⟨c,0,k,rfl⟩,fun T=>?_⟩
  generalize (a::r).map PyData.int=l at hp e1
  have h0:¬ (l.length:Int)=0:=by omega
  have h3:0 < l.length:=by omega
  have h0':l≠[]:=fun z=>by rw [z] at hp; simp at hp
  simp [bj,hp,e1,h0,h0',h3]
end G
namespace D
open PySem PySem.Spec PyProof.Rows L2
def cd (x:Str):List Nat:=x.cps.toList
theorem Bs (x:Str):(cd x).length=x.length:=Array.length_toList
theorem pI {α:Type} (xs:List α) (a:Nat):∀ k:Nat,(List.range k).filterMap (fun m=>xs[a + m]?)=(xs.drop a).take k
 | 0=>by simp
 | k + 1=>by
  rw [List.range_succ,List.filterMap_append,pI xs a k,List.take_add_one]
  congr 1
  simp only [List.filterMap_cons,List.filterMap_nil,List.getElem?_drop]
  cases xs[a + k]? <;> rfl
theorem xq {x:Str} {i j:Int} (h0:0≤i) (h1:0≤j):cd (Txt.slice x (some i) (some j))=((cd x).drop i.toNat).take (j.toNat - i.toNat):=by
 have hl:x.cps.toList.length=x.length:=Array.length_toList
 have e:Builtin.Str.strSliceIndices (some i) (some j) 1 x.length=(List.range ((min j.toNat x.length) - (min i.toNat x.length))).map fun k=>min i.toNat x.length + k:=by
  unfold Builtin.Str.strSliceIndices sliceRange
  simp only [show (1:Int) > 0 by decide,if_true,show ¬ i < 0 by omega,show ¬ j < 0 by omega,if_false]
  have ea:max 0 (min i (x.length:Int))=((min i.toNat x.length:Nat):Int):=by omega
  have eb:max 0 (min j (x.length:Int))=((min j.toNat x.length:Nat):Int):=by omega
  rw [ea,eb]
  have ec:(if ((min i.toNat x.length:Nat):Int) < ((min j.toNat x.length:Nat):Int) then (((min j.toNat x.length:Nat):Int) - ((min i.toNat x.length:Nat):Int) + 1 - 1) / 1 else 0).toNat=(min j.toNat x.length) - (min i.toNat x.length):=by
   split
   ·rw [Int.ediv_one]; omega
   ·omega
  rw [ec]
  refine List.map_congr_left fun k _=>?_
  omega
 have pk:(Builtin.Str.strSliceIndices (some i) (some j) 1 x.length).filterMap (x.cps[·]?)=(x.cps.toList.drop (min i.toNat x.length)).take ((min j.toNat x.length) - (min i.toNat x.length)):=by
  rw [e,List.filterMap_map,← pI]
  congr 1
  funext m
  simp
 have fin:(x.cps.toList.drop (min i.toNat x.length)).take ((min j.toNat x.length) - (min i.toNat x.length))=((cd x).drop i.toNat).take (j.toNat - i.toNat):=by
  unfold cd
  by_cases hi:i.toNat≤x.length
  ·have e1:min i.toNat x.length=i.toNat:=by omega
   rw [e1]
   by_cases hj:j.toNat≤x.length
   ·have e2:min j.toNat x.length=j.toNat:=by omega
    rw [e2]
   ·have e2:min j.toNat x.length=x.length:=by omega
    rw [e2,List.take_of_length_le (by rw [List.length_drop,hl]; omega),List.take_of_length_le (by rw [List.length_drop,hl]; omega)]
  ·have e1:min i.toNat x.length=x.length:=by omega
   rw [e1,List.drop_eq_nil_of_le (by omega),List.drop_eq_nil_of_le (by omega)]
   simp
 unfold Txt.slice
 split
 ·rename_i h
  have h':(Builtin.Str.strSliceIndices (some i) (some j) 1 x.length).length=x.length:=by simpa using h
  rw [e,List.length_map,List.length_range] at h'
  rw [← fin]
  show x.cps.toList=_
  by_cases hz:x.length=0
  ·have:x.cps.toList=[]:=List.length_eq_zero_iff.mp (by omega)
   rw [this]; simp
  ·have e1:min i.toNat x.length=0:=by omega
   have e2:min j.toNat x.length=x.length:=by omega
   rw [e1,e2,List.drop_zero,Nat.sub_zero,List.take_of_length_le (by omega)]
 ·rw [← fin,← pk]
  rfl
end D
namespace G
open PySem PySem.Spec PyProof.Rows L2 D
def nm (l:List Str):List PyData:=l.map PyData.str
theorem a9 (l:List Str):(nm l).length=l.length:=by simp [nm]
theorem jy (w:Str) (xs:List Str):inD (.str w) (.list (nm xs))=some (.bool (decide (w∈xs))):=by
 have h:(xs.map PyData.str).all cx=true:=by simp [cx]
 show (if cx (.str w) && (xs.map PyData.str).all cx then some ((xs.map PyData.str).any fun y=>eqF y (.str w)) else none).map PyData.bool=_
 rw [h]
 simp [cx,eqF,List.any_map]
 induction xs with
 | nil=>simp
 | cons a r ih=>
  have ih':=ih (by simp [cx])
  simp only [List.any_cons,ih',List.mem_cons,Function.comp,eqF]
  by_cases e:w=a
  ·subst e; simp
  ·have e':¬ a=w:=fun z=>e z.symm
   simp [e,e']
theorem ij (w:Str) (xs:List Str):cH (.str w) (.list (nm xs))=some (.bool (!decide (w∈xs))):=by
 have h:=jy w xs
 unfold inD at h
 unfold cH
 cases hb:inS (.str w) (.list (nm xs)) with
 | none=>rw [hb] at h; cases h
 | some b=>
  rw [hb] at h
  simp at h
  simp [h]
theorem iF {l:List Str} {i:Int} (h0:0≤i) (h1:i < (l.length:Int)):∃ x,atI (nm l) i=some (.str x)∧x∈l:=by
 obtain ⟨d,e,hm⟩:=ir (xs:=nm l) h0 (by rw [a9]; exact h1)
 obtain ⟨x,hx,rfl⟩:=List.mem_map.mp hm
 exact ⟨x,e,hx⟩
def Lo (x:Str):Prop:=∀ c∈x.cps.toList,c < 128
theorem cR {x:Str} (h:(x.cps.toList.all fun c=>decide (c < 128))=true):Lo x:=fun c hc=>of_decide_eq_true (List.all_eq_true.mp h c hc)
theorem Lo.app {x y:Str} (h:Lo x) (g:Lo y):Lo (x++y):=fun c hc=>by
 rw [cps_toList_append] at hc
 rcases List.mem_append.mp hc with k | k
 ·exact h c k
 ·exact g c k
theorem Lo.join {z:Str} (hz:Lo z):∀ {xs:List Str},(∀ x∈xs,Lo x)→Lo (Str.join z xs)
 | [],_=>fun c hc=>by cases hc
 | [a],h=>h a List.mem_cons_self
 | a::b::r,h=>by
  have e:Str.join z (a::b::r)=a++z++Str.join z (b::r):=rfl
  rw [e]
  exact ((h a List.mem_cons_self).app hz).app (Lo.join hz fun x hx=>h x (List.mem_cons_of_mem _ hx))
def Nx (n:Nat) (x:Str):Prop:=x.length≤n∧Lo x
theorem Nx.mono {n m:Nat} {x:Str} (h:Nx n x) (l:n≤m):Nx m x:=⟨Nat.le_trans h.1 l,h.2⟩
def Ns (l:List Str):Prop:=∀ x∈l,Nx 40 x
def LT:Str:=Str.ofString "abcdefghijklmnopqrstuvwxyz"
def LTs:List Str:=LT.cps.toList.map fun c=>(⟨#[c]⟩:Str)
theorem A3:LTs.Nodup:=by decide +kernel
theorem zv:LTs.length=26:=by decide +kernel
theorem zu {x:Str} (h:x∈LTs):x.length=1:=by
 obtain ⟨c,_,rfl⟩:=List.mem_map.mp h
 rfl
theorem nE {x:Str} (h:x∈LTs):Nx 1 x:=by
 have:(LTs.all fun x=>x.cps.toList.all fun c=>decide (c < 128))=true:=by decide +kernel
 exact ⟨by rw [zu h]; exact Nat.le_refl 1,cR (List.all_eq_true.mp this x h)⟩
theorem l9:D.signs LT=nm LTs:=by
 unfold D.signs nm LTs
 rw [List.map_map]
 rfl
theorem sv:LT.length=26:=by decide +kernel
theorem tm {i:Int} (h0:0≤i) (h1:i < 26):∃ x∈LTs,ixD (.str LT) (.int i)=some (.str x):=by
 have hl:LT.cps.toList.length=26:=by decide +kernel
 obtain ⟨c,e,hm⟩:=ir (xs:=LT.cps.toList) h0 (by rw [hl]; exact h1)
 refine ⟨⟨#[c]⟩,List.mem_map.mpr ⟨c,hm,rfl⟩,?_⟩
 rw [Be,if_pos (by rw [sv,sz]; decide),e]
 rfl
theorem nz {α:Type} [DecidableEq α]:∀ {L N:List α},L.Nodup→N.length < L.length→∃ x∈L,x∉N
 | [],N,_,h=>absurd h (by simp)
 | a::L,N,nd,h=>by
  rw [List.nodup_cons] at nd
  by_cases ha:a∈N
  ·have hp:(N.erase a).length < L.length:=by
    have h1:=List.length_erase_of_mem ha
    have h2:0 < N.length:=List.length_pos_of_mem ha
    rw [List.length_cons] at h
    omega
   obtain ⟨x,hx,nx⟩:=nz nd.2 hp
   refine ⟨x,List.mem_cons_of_mem _ hx,fun z=>nx ?_⟩
   exact (List.mem_erase_of_ne (fun (q:x=a)=>nd.1 (q ▸ hx))).mpr z
  ·exact ⟨a,List.mem_cons_self,ha⟩
theorem vH {l:List Str} (h:l.length < 26) (ρ:Rho) (T:Tp) (hv:∀ d,aa 5 (some (.d d)::ρ) T=some (.loc (.list (nm l)),T)) :
  ∃ x ys,x∈LTs∧a6 (au (af cH (aa 0) (aa 5))) (aa 0) ρ (D.signs LT) T=some (.str x::ys,T):=by
 have c:a6 (au (af cH (aa 0) (aa 5))) (aa 0) ρ (D.signs LT) T=some ((D.signs LT).filter (fun d=>match d with | .str x=>!decide (x∈l) | _=>false),T):=iM fun d hd=>by
  rw [l9] at hd
  obtain ⟨x,hx,rfl⟩:=List.mem_map.mp hd
  have:op2 cH T (.d (.str x)) (.loc (.list (nm l)))=mkD T (cH (.str x) (.list (nm l))):=rfl
  simp [hv,this,ij]
 rw [c]
 obtain ⟨x,hx,nx⟩:=nz (N:=l) A3 (by rw [zv]; exact h)
 have hm:PyData.str x∈(D.signs LT).filter (fun d=>match d with | .str x=>!decide (x∈l) | _=>false):=by
  rw [List.mem_filter,l9]
  exact ⟨List.mem_map.mpr ⟨x,hx,rfl⟩,by simp [nx]⟩
 cases hf:(D.signs LT).filter (fun d=>match d with | .str x=>!decide (x∈l) | _=>false) with
 | nil=>rw [hf] at hm; cases hm
 | cons d r=>
  have hd:d∈(D.signs LT).filter (fun d=>match d with | .str x=>!decide (x∈l) | _=>false):=by rw [hf]; exact List.mem_cons_self
  rw [List.mem_filter,l9] at hd
  obtain ⟨y,hy,rfl⟩:=List.mem_map.mp hd.1
  exact ⟨y,r,hy,rfl⟩
theorem xo (z:Str) (n:Nat):(Txt.slice z none (some (n:Int))).length≤n:=by
 have e:Builtin.Str.strSliceIndices none (some (n:Int)) 1 z.length=Builtin.Str.strSliceIndices (some 0) (some (n:Int)) 1 z.length:=by
  have hm:max 0 (min (0:Int) (z.length:Int))=0:=by omega
  unfold Builtin.Str.strSliceIndices sliceRange
  simp [hm]
 have e2:Txt.slice z none (some (n:Int))=Txt.slice z (some 0) (some (n:Int)):=by
  unfold Txt.slice
  rw [e]
 rw [e2,← Bs,xq (by omega) (by omega),List.length_take]
 omega
theorem xT (x:Str):(Txt.mul x 4).length≤4 * x.length:=by
 unfold Txt.mul
 by_cases h:x.length=0
 ·simp [h]
 ·have h2:¬ ((4:Int) == 1 || x.length == 0)=true:=by simp [h]
  rw [if_neg (by decide),if_neg h2]
  show ((List.replicate 4 x.cps).foldl (·++·) #[]).size≤_
  have e:x.length=x.cps.size:=rfl
  rw [e]
  simp [List.replicate]
  omega
theorem zl {x:Str} (h:Lo x):Lo (Txt.mul x 4):=by
 unfold Txt.mul
 by_cases h0:x.length=0
 ·simp [h0]; exact h
 ·have h2:¬ ((4:Int) == 1 || x.length == 0)=true:=by simp [h0]
  rw [if_neg (by decide),if_neg h2]
  intro c hc
  have hc':c∈((List.replicate 4 x.cps).foldl (·++·) #[]).toList:=hc
  simp [List.replicate] at hc'
  exact h c (by simpa using hc')
theorem xp {x:Str} {l u:Option Int} (h:Lo x):Lo (Txt.slice x l u):=fun c hc=>h c (wx hc)
def WD:List Str:=["made","told","say","want","fails","got","put","lacks"]
theorem Ai {x:Str} (h:x∈WD):Nx 8 x:=by
 have h1:(WD.all fun x=>decide (x.length≤8))=true:=by decide +kernel
 have h2:(WD.all fun x=>x.cps.toList.all fun c=>decide (c < 128))=true:=by decide +kernel
 exact ⟨of_decide_eq_true (List.all_eq_true.mp h1 x h),cR (List.all_eq_true.mp h2 x h)⟩
theorem aQ {a b:FS} {ρ ρ1:Rho} {T T1:Tp} (h:a ρ T=some ((.nx,ρ1),T1)):aj a b ρ T=b ρ1 T1:=by
 rw [il,h]
 rfl
def ρN (m:PyData) (l:List Str) (o5:Option W) (w:Int) (x:Str):Rho:=[some (.tp 0),some (.d m),some (.d (.list (nm WD))),some (.d (.str LT)),some (.loc (.list (nm l))),o5,some (.d (.int w)),some (.d (.str x))]
section
variable {m:PyData} {l:List Str} {o5:Option W} {w:Int} {x:Str} {xs:List PyData}
theorem AZ (hf:Fr xs) (hx:Nx 8 x):∃ x' xs',fIf (au (af eqD (aa 6) (fC (.int 0)))) (aD 7 (af ixD (aa 2) (aw aI (ae (aa 0) (ae (fC (.int 8)) ai))))) aC (ρN m l o5 w x) [xs]=some ((.nx,ρN m l o5 w x'),[xs'])∧Nx 8 x'∧Fr xs':=by
 by_cases hw:w=0
 ·obtain ⟨r,xs',e,h',r0,r1⟩:=bi hf (m:=8) (by decide) (by decide)
  obtain ⟨y,ey,my⟩:=iF (l:=WD) r0 (by simpa [WD] using r1)
  refine ⟨y,xs',?_,Ai my,h'⟩
  simp [ρN,hw,e,ey]
 ·exact ⟨x,xs,by simp [ρN,hw],hx,hf⟩
theorem Ab {l:List Str} (h:0 < l.length):∃ y∈l,atI (nm l) (-1)=some (.str y):=by
 unfold atI ixN
 rw [a9,if_neg (by omega),if_pos (by omega)]
 have hl:(-1 + (l.length:Int)).toNat < l.length:=by omega
 exact ⟨l[(-1 + (l.length:Int)).toNat],List.getElem_mem hl,by simp [nm,hl]⟩
theorem nW {o:PyData→PyData→Option PyData} {ys:List PyData} {T:Tp} {y:PyData}:op2 o T (.loc (.list ys)) (.d y)=mkD T (o (.list ys) y):=rfl
theorem gN {o:PyData→PyData→Option PyData} {ys:List PyData} {T:Tp} {y:PyData}:op2 o T (.d y) (.loc (.list ys))=mkD T (o y (.list ys)):=rfl
theorem A0 (hl:Ns l) (hx:Nx 8 x):∃ x',fIf (cy (au (af eqD (aa 6) (fC (.int 1)))) (au (af gtD (fCB aR (ae (aa 4) ai)) (fC (.int 0))))) (aD 7 (fSl (af aO (af ixD (aa 4) (fUn eI (fC (.int 1)))) (aa 7)) cX (fP (fC (.int 8))))) aC (ρN m l o5 w x) [xs]=some ((.nx,ρN m l o5 w x'),[xs])∧Nx 8 x':=by
 by_cases hw:w=1
 ·by_cases h0:0 < l.length
  ·obtain ⟨y,my,ey⟩:=Ab h0
   have hy:=hl y my
   have z:y.length + x.length≤sizeLine:=by have:=hy.1; have:=hx.1; rw [sz]; omega
   have z2:(y++x).length≤sizeLine:=by rw [len_app]; exact z
   refine ⟨Txt.slice (y++x) none (some 8),?_,xo (y++x) 8,xp (hy.2.app hx.2)⟩
   simp [ρN,hw,a9,h0,nW,ey,z,z2]
  ·have h1:l=[]:=List.eq_nil_of_length_eq_zero (by omega)
   exact ⟨x,by simp [ρN,hw,h1,nm],hx⟩
 ·exact ⟨x,by simp [ρN,hw],hx⟩
theorem B8 (hf:Fr xs) (hx:Nx 8 x):∃ x' xs',fIf (au (af eqD (aa 6) (fC (.int 2)))) (aD 7 (af dG (af aO (aa 7) (af ixD (aa 3) (aw aI (ae (aa 0) (ae (fC (.int 26)) ai))))) (fC (.int 4)))) aC (ρN m l o5 w x) [xs]=some ((.nx,ρN m l o5 w x'),[xs'])∧Nx 40 x'∧Fr xs':=by
 by_cases hw:w=2
 ·obtain ⟨r,xs',e,h',r0,r1⟩:=bi hf (m:=26) (by decide) (by decide)
  obtain ⟨y,my,ey⟩:=tm r0 r1
  have hy:=nE my
  have hy1:=hy.1
  have hx1:=hx.1
  have z:x.length + y.length≤sizeLine:=by rw [sz]; omega
  have z2:(x++y).length≤1000:=by rw [len_app]; omega
  have z3:=xT (x++y)
  rw [len_app] at z3
  refine ⟨Txt.mul (x++y) 4,xs',?_,⟨by omega,zl (hx.2.app hy.2)⟩,h'⟩
  simp only [ρN,hw,tE,Bb,jr,i7,i6,i5,i4,kc,ka,mO,zM,dO,i9,oy,jn,Bj,jp,zN,Bh,decide_true,if_true,jm,rB,i8,iS,jo,e,ey,zS,z,zO,z2,mR]
  rfl
 ·exact ⟨x,xs,by simp [ρN,hw],hx.mono (by decide),hf⟩
theorem Ca (h26:l.length < 26) (hx:Nx 40 x):∃ x',fIf (au (af inD (aa 7) (aa 4))) (aD 7 (af ixD (bf (aW (aa 3)) (au (af cH (aa 0) (aa 5))) (aa 0)) (fC (.int 0)))) aC (ρN m l o5 w x) [xs]=some ((.nx,ρN m l o5 w x'),[xs])∧Nx 40 x':=by
 by_cases hi:x∈l
 ·obtain ⟨y,ys,my,c⟩:=vH h26 (ρN m l o5 w x) [xs] (fun d=>rfl)
  have hy:=nE my
  refine ⟨y,?_,hy.mono (by decide)⟩
  have z:LT.length≤sizeLine:=by rw [sv,sz]; decide
  have a0:atI (PyData.str y::ys) 0=some (.str y):=by simp [atI,ixN]
  unfold ρN at c
  simp [ρN,gN,jy,hi,z,c,a0]
 ·exact ⟨x,by simp [ρN,gN,jy,hi],hx⟩
theorem B9 (hf:Fr xs) (h6:l.length≤20):∃ l' xs',jI 4 (aw aI (ae (aa 0) (ae (af aO (fCB aR (ae (aa 4) ai)) (fC (.int 1))) ai))) (aa 7) (ρN m l o5 w x) [xs]=some ((.nx,ρN m l' o5 w x),[xs'])∧Fr xs'∧l'.length=l.length + 1∧∀ y∈l',y=x∨y∈l:=by
 obtain ⟨r,xs',e,h',r0,r1⟩:=bi hf (m:=(l.length:Int) + 1) (by omega) (by omega)
 refine ⟨l.take r.toNat++x::l.drop r.toNat,xs',?_,h',by simp; omega,fun y hy=>?_⟩
 ·have h3:0≤r∧r≤((nm l).length:Int)∧(nm l).length≤1000:=⟨r0,by rw [a9]; omega,by rw [a9]; omega⟩
  have k:jF 4 (ρN m l o5 w x) (.d (.int r)) (.d (.str x)) [xs'] (some (some (.loc (.list (nm l)))))=some ((.nx,(ρN m l o5 w x).set 4 (some (.loc (.list ((nm l).take r.toNat++.str x::(nm l).drop r.toNat))))),[xs']):=by
   unfold jF
   dsimp only
   rw [if_pos h3]
  unfold jI
  have e1:aw aI (ae (aa 0) (ae (af aO (fCB aR (ae (aa 4) ai)) (fC (.int 1))) ai)) (ρN m l o5 w x) [xs]=some (.d (.int r),[xs']):=by
   simp [ρN,a9,e]
  have e2:aa 7 (ρN m l o5 w x) [xs']=some (.d (.str x),[xs']):=rfl
  rw [e1]
  dsimp only [dO]
  rw [e2]
  refine Eq.trans k ?_
  simp [ρN,nm]
 ·rcases List.mem_append.mp hy with q | q
  ·exact .inr (List.mem_of_mem_take q)
  ·rcases List.mem_cons.mp q with q | q
   ·exact .inl q
   ·exact .inr (List.mem_of_mem_drop q)
end
theorem Ag {xs:List PyData} (hf:Fr xs) {m:Int} (h0:0≤m) (h1:m≤20):∃ l xs',fF [.tp 0,.d (.int m)] [xs]=some (.list (nm l),[xs'])∧Ns l∧(l.length:Int)=m:=by
 have lp:=dY (i:=5) (body:=lK) (N:=20) (I:=fun k ρ T=>∃ l xs o5 o6 o7,ρ=[some (.tp 0),some (.d (.int m)),some (.d (.list (nm WD))),some (.d (.str LT)),some (.loc (.list (nm l))),o5,o6,o7]∧T=[xs]∧Fr xs∧Ns l∧l.length=k)
  (bL 0 m.toNat) 0 [some (.tp 0),some (.d (.int m)),some (.d (.list (nm WD))),some (.d (.str LT)),some (.loc (.list (nm []))),none,none,none] [xs] (by rw [dX]; omega) ⟨[],xs,none,none,none,rfl,rfl,hf,(fun _ z=>nomatch z),rfl⟩ (fun k d ρ T hd hk hI=>by
   obtain ⟨l,xs,o5,o6,o7,rfl,rfl,hf,hn,hl⟩:=hI
   obtain ⟨w,x1,e1,f1,_,_⟩:=bi hf (m:=5) (by decide) (by decide)
   obtain ⟨r,x2,e2,f2,r0,r1⟩:=bi f1 (m:=26) (by decide) (by decide)
   obtain ⟨y,my,ey⟩:=tm r0 r1
   have hy:=nE my
   obtain ⟨y3,x3,e3,h3,f3⟩:=AZ (m:=.int m) (l:=l) (o5:=some (.d d)) (w:=w) f2 (hy.mono (by decide))
   obtain ⟨y4,e4,h4⟩:=A0 (m:=.int m) (o5:=some (.d d)) (w:=w) (xs:=x3) hn h3
   obtain ⟨y5,x5,e5,h5,f5⟩:=B8 (m:=.int m) (l:=l) (o5:=some (.d d)) (w:=w) f3 h4
   obtain ⟨y6,e6,h6⟩:=Ca (m:=.int m) (o5:=some (.d d)) (w:=w) (xs:=x5) (show l.length < 26 by omega) h5
   obtain ⟨l',x7,e7,f7,h7,m7⟩:=B9 (m:=.int m) (l:=l) (o5:=some (.d d)) (w:=w) (x:=y6) f5 (by omega)
   refine ⟨ρN (.int m) l' (some (.d d)) w y6,[x7],?_,⟨l',x7,_,_,_,rfl,rfl,f7,fun y hy=>?_,by omega⟩⟩
   ·unfold lK
    have s1:aD 6 (aw aI (ae (aa 0) (ae (fC (.int 5)) ai))) (List.set [some (.tp 0),some (.d (.int m)),some (.d (.list (nm WD))),some (.d (.str LT)),some (.loc (.list (nm l))),o5,o6,o7] 5 (some (.d d))) [xs]=some ((.nx,[some (.tp 0),some (.d (.int m)),some (.d (.list (nm WD))),some (.d (.str LT)),some (.loc (.list (nm l))),some (.d d),some (.d (.int w)),o7]),[x1]):=by
     simp [e1]
    have s2:aD 7 (af ixD (aa 3) (aw aI (ae (aa 0) (ae (fC (.int 26)) ai)))) [some (.tp 0),some (.d (.int m)),some (.d (.list (nm WD))),some (.d (.str LT)),some (.loc (.list (nm l))),some (.d d),some (.d (.int w)),o7] [x1]=some ((.nx,ρN (.int m) l (some (.d d)) w y),[x2]):=by
     simp only [jm,jr,i7,i6,i5,i4,dO,i9,rB,i8,iS,jo,oy,e2,jn,ey,jp,mR]
     rfl
    rw [aQ s1,aQ s2,aQ e3,aQ e4,aQ e5,aQ e6,e7]
   ·rcases m7 y hy with rfl | q
    ·exact h6
    ·exact hn y q)
 obtain ⟨ρ',T',e,l,xs',o5,o6,o7,rfl,rfl,_,hn,hl⟩:=lp
 rw [dX] at hl
 refine ⟨l,xs',?_,hn,by omega⟩
 have ro:dm m=true:=rng_ok h0 (by omega)
 have wd:(PyData.list [.str "made",.str "told",.str "say",.str "want",.str "fails",.str "got",.str "put",.str "lacks"])=.list (nm WD):=rfl
 have lt:Str.ofString "abcdefghijklmnopqrstuvwxyz" = LT:=rfl
 have n0:([]:List PyData)=nm []:=rfl
 rw [vZ]
 simp [wd,lt,ro]
 rw [n0,e]
 simp
inductive Va:Nat→PyData→Prop where
 | int {n:Nat} {i:Int}:i.natAbs≤1000000000000000000→Va n (.int i)
 | str {n:Nat} {x:Str}:Nx 40 x→Va n (.str x)
 | tup {n:Nat} {ds:List PyData}:ds.length≤8→(∀ d∈ds,Va n d)→Va (n + 1) (.tuple ds)
theorem Va.up {n m:Nat} {v:PyData} (h:Va n v) (l:n≤m):Va m v:=by
 induction h generalizing m with
 | int h=>exact .int h
 | str h=>exact .str h
 | tup h g ih=>
  obtain ⟨k,rfl⟩:∃ k,m=k + 1:=⟨m - 1,by omega⟩
  exact .tup h fun d hd=>ih d hd (by omega)
theorem Va.nil {n:Nat}:Va (n + 1) (.tuple []):=.tup (by simp) fun _ h=>nomatch h
theorem Va.one {n:Nat} {a:PyData} (h:Va n a):Va (n + 1) (.tuple [a]):=.tup (by simp) fun d hd=>by
 rw [List.mem_singleton] at hd
 exact hd ▸ h
theorem Va.two {n:Nat} {a b:PyData} (h:Va n a) (g:Va n b):Va (n + 1) (.tuple [a,b]):=.tup (by simp) fun d hd=>by
 simp only [List.mem_cons,List.not_mem_nil,or_false] at hd
 rcases hd with rfl | rfl
 ·exact h
 ·exact g
theorem Va.three {n:Nat} {a b c:PyData} (h:Va n a) (g:Va n b) (k:Va n c):Va (n + 1) (.tuple [a,b,c]):=.tup (by simp) fun d hd=>by
 simp only [List.mem_cons,List.not_mem_nil,or_false] at hd
 rcases hd with rfl | rfl | rfl
 ·exact h
 ·exact g
 ·exact k
def MN:List PyData:=[.int 0,.int 1,.str "",.tuple [],.int 2,.str "a",.tuple [.int 0],.tuple [.int 1,.str ""],.int (-7),.int 1000000000000000000,.str "x-0",.tuple [.tuple [],.tuple [.str "b",.int 3]],.tuple [.int 0,.int 1,.int 2],.int (1 - 1000000000000000000)]
theorem Cc {v:PyData} (h:v∈MN):Va 2 v:=by
 unfold MN at h
 simp only [List.mem_cons,List.not_mem_nil,or_false] at h
 rcases h with rfl | rfl | rfl | rfl | rfl | rfl | rfl | rfl | rfl | rfl | rfl | rfl | rfl | rfl
 ·exact .int (by decide)
 ·exact .int (by decide)
 ·exact .str ⟨by decide +kernel,cR (by decide +kernel)⟩
 ·exact .nil
 ·exact .int (by decide)
 ·exact .str ⟨by decide +kernel,cR (by decide +kernel)⟩
 ·exact .one (.int (by decide))
 ·exact .two (.int (by decide)) (.str ⟨by decide +kernel,cR (by decide +kernel)⟩)
 ·exact .int (by decide)
 ·exact .int (by decide)
 ·exact .str ⟨by decide +kernel,cR (by decide +kernel)⟩
 ·exact .two .nil (.two (.str ⟨by decide +kernel,cR (by decide +kernel)⟩) (.int (by decide)))
 ·exact .three (.int (by decide)) (.int (by decide)) (.int (by decide))
 ·exact .int (by decide)
theorem jc {xs:List PyData} (hf:Fr xs) {l:List Str} (hn:Ns l) (h0:0 < l.length) (h1:l.length≤20):∃ v xs',cZ [.tp 0,.d (.list (nm l))] [xs]=some (v,[xs'])∧Va 2 v∧Fr xs':=by
 have mn:(PyData.list [.int 0,.int 1,.str "",.tuple [],.int 2,.str "a",.tuple [.int 0],.tuple [.int 1,.str ""],.int (-7),.int 1000000000000000000,.str "x-0",.tuple [.tuple [],.tuple [.str "b",.int 3]],.tuple [.int 0,.int 1,.int 2],.int (1 - 1000000000000000000)])=.list MN:=rfl
 obtain ⟨k,x1,e1,f1,k0,k1⟩:=bi hf (m:=18) (by decide) (by decide)
 have s1:aD 2 (ay .list (ae (fC (.int 0)) (ae (fC (.int 1)) (ae (fC (.str "")) (ae (ay .tuple ai) (ae (fC (.int 2)) (ae (fC (.str "a")) (ae (ay .tuple (ae (fC (.int 0)) ai)) (ae (ay .tuple (ae (fC (.int 1)) (ae (fC (.str "")) ai))) (ae (fUn eI (fC (.int 7))) (ae (af eG (fC (.int 10)) (fC (.int 18))) (ae (fC (.str "x-0")) (ae (ay .tuple (ae (ay .tuple ai) (ae (ay .tuple (ae (fC (.str "b")) (ae (fC (.int 3)) ai))) ai))) (ae (ay .tuple (ae (fC (.int 0)) (ae (fC (.int 1)) (ae (fC (.int 2)) ai)))) (ae (af e9 (fC (.int 1)) (af eG (fC (.int 10)) (fC (.int 18)))) ai))))))))))))))) [some (.tp 0),some (.d (.list (nm l))),none,none] [xs]=some ((.nx,[some (.tp 0),some (.d (.list (nm l))),some (.d (.list MN)),none]),[xs]):=rfl
 have s2:aD 3 (aw aI (ae (aa 0) (ae (fC (.int 18)) ai))) [some (.tp 0),some (.d (.list (nm l))),some (.d (.list MN)),none] [xs]=some ((.nx,[some (.tp 0),some (.d (.list (nm l))),some (.d (.list MN)),some (.d (.int k))]),[x1]):=by simp [e1]
 unfold cZ
 rw [eE]
 simp only [pT,dg,dh,if_true]
 show ∃ v xs',cg (aj _ _ [some (.tp 0),some (.d (.list (nm l))),none,none] [xs])=_∧_
 rw [aQ s1,aQ s2]
 by_cases h14:k < 14
 ·obtain ⟨v,ev,mv⟩:=ir (xs:=MN) k0 (by simpa [MN] using h14)
  exact ⟨v,x1,by simp [h14,ev],Cc mv,f1⟩
 ·by_cases he:k=14
  ·obtain ⟨r,x2,e2,f2,r0,r1⟩:=bi f1 (m:=1000000000000000000) (by decide) (by decide)
   exact ⟨.int r,x2,by simp [h14,he,jt,e2],.int (by omega),f2⟩
  ·obtain ⟨r,x2,e2,f2,r0,r1⟩:=bi f1 (m:=(l.length:Int)) (by omega) (by omega)
   obtain ⟨y,ey,my⟩:=iF r0 r1
   exact ⟨.str y,x2,by simp [h14,he,a9,e2,ey],.str (hn y my),f2⟩
theorem nG:cN .int .tup=false:=rfl
theorem nF:cN .str .tup=false:=rfl
theorem ik:cN .tup .tup=true:=rfl
theorem b6:cN .str .str=true:=rfl
theorem b5:cN .tup .str=false:=rfl
theorem cI:cN .int .str=false:=rfl
theorem bJ:cN .int .int=true:=rfl
theorem cv:cN .str .int=false:=rfl
theorem bX:cN .tup .int=false:=rfl
theorem eN (b:Bool):intD [.bool b]=some (.int (if b then 1 else 0)):=rfl
theorem nA:∀ (r:List Int) (n:Int),n≤K1.di n r∧∀ m∈r,m≤K1.di n r
 | [],n=>⟨Int.le_refl _,fun _ h=>nomatch h⟩
 | a::r,n=>by
  unfold K1.di
  have h1:=nA r (if a > n then a else n)
  have h2:n≤(if a > n then a else n)∧a≤(if a > n then a else n):=by split <;> omega
  refine ⟨by have:=h1.1; omega,fun m hm=>?_⟩
  rcases List.mem_cons.mp hm with rfl | q
  ·have:=h1.1; omega
  ·exact h1.2 m q
theorem Cb {l:List Int} {n:Int} (h:n∈l):n≤K1.cB 0 l:=by
 cases l with
 | nil=>cases h
 | cons a r=>
  rcases List.mem_cons.mp h with rfl | q
  ·exact (nA r n).1
  ·exact (nA r a).2 n q
def q0:PyData→Int
 | .tuple [.int a,_]=>a
 | _=>0
def q1:PyData→Int
 | .tuple [_,.int b]=>b
 | _=>0
theorem mxd {l:List PyData}:gQ (.list (l.map fun d=>.int (q0 d))) (.int 0)=some (.int (K1.cB 0 (l.map q0))):=zP q0 l 0
theorem sm1 {l:List PyData}:gU [.list (l.map fun d=>.int (q1 d))]=some (.int (l.map q1).sum):=Bc q1 l
theorem aV {α:Type} {a b:α}:atI [a,b] 0=some a∧atI [a,b] 1=some b:=⟨rfl,rfl⟩
theorem sU {ds:List PyData} {m:Nat} (h:∀ d∈ds,∃ a b:Nat,Va a d∧∀ T,bT m [.d d] T=some (.tuple [.int a,.int b],T)):∃ a b:Nat,(∀ d∈ds,Va a d)∧∀ T,bT (m + 1) [.d (.tuple ds)] T=some (.tuple [.int ((a + 1:Nat):Int),.int b],T):=by
 have hc:∀ d,∃ p:Nat×Nat,d∈ds→Va p.1 d∧∀ T,bT m [.d d] T=some (.tuple [.int p.1,.int p.2],T):=fun d=>by
  by_cases hd:d∈ds
  ·obtain ⟨a,b,h1,h2⟩:=h d hd
   exact ⟨(a,b),fun _=>⟨h1,h2⟩⟩
  ·exact ⟨(0,0),fun z=>absurd z hd⟩
 obtain ⟨p,hp⟩:=Classical.axiomOfChoice hc
 have c:∀ T,a6 bo (aw (bT m) (ae (aa 0) ai)) [some (.d (.tuple ds)),none,none] ds T=some (ds.map fun d=>.tuple [.int (p d).1,.int (p d).2],T):=fun T=>eK (g:=fun d=>.tuple [.int (p d).1,.int (p d).2]) fun d hd=>by
  simp [(hp d hd).2 T]
 let L:List PyData:=ds.map fun d=>.tuple [.int ((p d).1:Int),.int ((p d).2:Int)]
 have cs:∀ (ρ:Rho) (T:Tp),a6 bo (af ixD (aa 0) (fC (.int 0))) ρ L T=some (L.map fun d=>.int (q0 d),T):=fun ρ T=>eK (g:=fun d=>.int (q0 d)) fun d hd=>by
  obtain ⟨x,_,rfl⟩:=List.mem_map.mp hd
  simp [aV,q0]
 have ct:∀ (ρ:Rho) (T:Tp),a6 bo (af ixD (aa 0) (fC (.int 1))) ρ L T=some (L.map fun d=>.int (q1 d),T):=fun ρ T=>eK (g:=fun d=>.int (q1 d)) fun d hd=>by
  obtain ⟨x,_,rfl⟩:=List.mem_map.mp hd
  simp [aV,q1]
 have m0:0≤K1.cB 0 (L.map q0):=K1.zq _ fun n hn=>by
  obtain ⟨x,hx,rfl⟩:=List.mem_map.mp hn
  obtain ⟨y,_,rfl⟩:=List.mem_map.mp hx
  simp [q0]
 have s0:0≤(L.map q1).sum:=by
  have:∀ l:List PyData,0≤((l.map fun d=>PyData.tuple [.int ((p d).1:Int),.int ((p d).2:Int)]).map q1).sum:=fun l=>by
   induction l with
   | nil=>simp
   | cons a r ih=>simp only [List.map_cons,List.sum_cons,q1]; omega
  exact this ds
 refine ⟨(K1.cB 0 (L.map q0)).toNat,(1 + (L.map q1).sum).toNat,fun d hd=>?_,fun T=>?_⟩
 ·have hm:q0 (.tuple [.int ((p d).1:Int),.int ((p d).2:Int)])∈L.map q0:=List.mem_map.mpr ⟨_,List.mem_map.mpr ⟨d,hd,rfl⟩,rfl⟩
  have:=Cb hm
  simp only [q0] at this
  exact (hp d hd).1.up (by omega)
 ·have e1:(((K1.cB 0 (L.map q0)).toNat + 1:Nat):Int)=1 + K1.cB 0 (L.map q0):=by omega
  have e2:((1 + (L.map q1).sum).toNat:Int)=1 + (L.map q1).sum:=by omega
  rw [e1,e2]
  have c':=c T
  change _=some (L,T) at c'
  unfold bT
  simp [ik,c',cs,ct,mxd,sm1,eN]
theorem yv {n:Nat} {v:PyData} (h:Va n v):∀ m,n≤m→∃ a b:Nat,Va a v∧∀ T,bT (m + 1) [.d v] T=some (.tuple [.int a,.int b],T):=by
 have mx0:gQ (.list []) (.int 0)=some (.int 0):=rfl
 have sm0:gU [.list []]=some (.int 0):=rfl
 induction h with
 | @int n i h=>exact fun m _=>⟨0,1,.int h,fun T=>by simp [bT,nG,a6,mx0,sm0,eN]⟩
 | @str n x h=>exact fun m _=>⟨0,1,.str h,fun T=>by simp [bT,nF,a6,mx0,sm0,eN]⟩
 | @tup n ds h g ih=>
  intro m hm
  obtain ⟨k,rfl⟩:∃ k,m=k + 1:=⟨m - 1,by omega⟩
  obtain ⟨a,b,h1,h2⟩:=sU (m:=k + 1) fun d hd=>ih d hd k (by omega)
  exact ⟨a + 1,b,.tup h h1,h2⟩
theorem join_le (z:Str):∀ xs:List Str,(Str.join z xs).length≤(xs.map Str.length).sum + xs.length * z.length
 | []=>by
  have:(Str.join z []).length=0:=rfl
  omega
 | [a]=>by
  have:(Str.join z [a]).length=a.length:=rfl
  simp [this]
 | a::b::r=>by
  have ih:=join_le z (b::r)
  have e:Str.join z (a::b::r)=a++z++Str.join z (b::r):=rfl
  rw [e,len_app,len_app]
  simp only [List.map_cons,List.sum_cons,List.length_cons,Nat.add_mul,Nat.one_mul] at ih ⊢
  omega
theorem m9 {B:Nat} {xs:List Str} (h:∀ x∈xs,x.length≤B):(xs.map Str.length).sum≤B * xs.length:=by
 induction xs with
 | nil=>simp
 | cons a r ih=>
  have h1:=h a List.mem_cons_self
  have h2:=ih fun x hx=>h x (List.mem_cons_of_mem _ hx)
  simp only [List.map_cons,List.sum_cons,List.length_cons,Nat.mul_add,Nat.mul_one]
  omega
def stp:Nat→PyData→Str
 | _,.int i=>Str.ofString (toString i)
 | _,.str x=>Str.ofString "'"++x
 | n + 1,.tuple ds=>Str.ofString "("++Str.join "," (ds.map (stp n))++Str.ofString ")"
 | _,_=>Str.ofString ""
theorem int_text {i:Int} (h:i.natAbs≤1000000000000000000):(Str.ofString (toString i)).length≤60∧Lo (Str.ofString (toString i)):=by
 constructor
 ·have e:=int_text_length_le10 (a:=i) (k:=19) (by decide) (Nat.lt_of_le_of_lt h (by decide))
  rw [PySem.ofString_length]
  omega
 ·intro c hc
  rw [signs_ofString] at hc
  obtain ⟨d,hd,rfl⟩:=List.mem_map.mp hc
  exact int_ascii i d hd
theorem lg {i:Int} (h:i.natAbs≤1000000000000000000):i.natAbs.log2 < 1920:=by
 by_cases z:i.natAbs=0
 ·rw [z]; decide
 ·exact Nat.lt_of_lt_of_le ((Nat.log2_lt (k:=64) z).mpr (Nat.lt_of_le_of_lt h (by decide))) (by decide)
theorem jd {n:Nat} {v:PyData} (h:Va n v):∀ m,n≤m→(stp m v).length≤60 * 10 ^ n∧Lo (stp m v):=by
 induction h with
 | @int n i h=>
  intro m hm
  have e:stp m (.int i)=Str.ofString (toString i):=by cases m <;> rfl
  rw [e]
  have p:1≤10 ^ n:=Nat.one_le_pow _ _ (by decide)
  have:=int_text h
  exact ⟨by omega,this.2⟩
 | @str n x h=>
  intro m hm
  have g:=h.2
  have h:=h.1
  have e:stp m (.str x)=Str.ofString "'"++x:=by cases m <;> rfl
  rw [e,len_app]
  have p:1≤10 ^ n:=Nat.one_le_pow _ _ (by decide)
  have:(Str.ofString "'").length=1:=by decide
  exact ⟨by omega,(cR (by decide +kernel)).app g⟩
 | @tup n ds h g ih=>
  intro m hm
  obtain ⟨k,rfl⟩:∃ k,m=k + 1:=⟨m - 1,by omega⟩
  have e:stp (k + 1) (.tuple ds)=Str.ofString "("++Str.join "," (ds.map (stp k))++Str.ofString ")":=rfl
  rw [e,len_app,len_app]
  have c1:(Str.ofString ",").length=1:=by decide
  have c2:(Str.ofString "(").length=1:=by decide
  have c3:(Str.ofString ")").length=1:=by decide
  have j:=join_le "," (ds.map (stp k))
  have s:=m9 (B:=60 * 10 ^ n) (xs:=ds.map (stp k)) fun x hx=>by
   obtain ⟨d,hd,rfl⟩:=List.mem_map.mp hx
   exact (ih d hd k (by omega)).1
  rw [c1,List.length_map] at j
  rw [List.length_map] at s
  have p:1≤10 ^ n:=Nat.one_le_pow _ _ (by decide)
  have s2:60 * 10 ^ n * ds.length≤60 * 10 ^ n * 8:=Nat.mul_le_mul_left _ h
  have pe:10 ^ (n + 1)=10 ^ n * 10:=Nat.pow_succ _ _
  refine ⟨by rw [pe]; omega,((cR (by decide +kernel)).app (Lo.join (cR (by decide +kernel)) fun x hx=>?_)).app (cR (by decide +kernel))⟩
  obtain ⟨d,hd,rfl⟩:=List.mem_map.mp hx
  exact (ih d hd k (by omega)).2
theorem mP {i:Int} (h:i.natAbs.log2 < 1920):gW [.int i]=some (.str (Str.ofString (toString i))):=if_pos h
theorem yd {z:Str} {xs:List PyData} {ys:List Str} (h:cc xs=some ys):iB (.str z) (.list xs)=if (ys.map Str.length).sum + ys.length * z.length≤16777216 then some (.str (Str.join z ys)) else none:=by
 show (match cc xs with | some ys=>if (ys.map Str.length).sum + ys.length * z.length≤16777216 then some (PyData.str (Str.join z ys)) else none | none=>none)=_
 rw [h]
theorem Aq {f:FnM} {ds:List PyData} {k:Nat} {t:Str} {T:Tp} (c:a6 bo (aw f (ae (aa 0) ai)) [some (.d (.tuple ds))] ds T=some (ds.map fun d=>.str (stp k d),T)) (j:iB (.str ",") (.list (ds.map fun d=>.str (stp k d)))=some (.str t))
  (z1:(Str.ofString "(").length + t.length≤sizeLine) (z2:(Str.ofString "("++t).length + (Str.ofString ")").length≤sizeLine) :
  aX 1 (aj (fIf (a8 (fUn (bG .int) (aa 0))) (aB (fCB gW (ae (aa 0) ai))) aC) (aj (fIf (a8 (fUn (bG .str) (aa 0))) (aB (af aO (fC (.str "'")) (aa 0))) aC) (aB (af aO (af aO (fC (.str "(")) (af iB (fC (.str ",")) (bf (aW (aa 0)) bo (aw f (ae (aa 0) ai))))) (fC (.str ")")))))) [.d (.tuple ds)] T=some (.str (Str.ofString "("++t++Str.ofString ")"),T):=by simp [bX,b5,c,j,z1,z2]
theorem m6 {n:Nat} {v:PyData} (h:Va n v) (h5:n≤4):∀ (m:Nat) (T:Tp),n≤m→cC (m + 1) [.d v] T=some (.str (stp m v),T):=by
 induction h with
 | @int n i h=>
  intro m T hm
  have e:stp m (.int i)=Str.ofString (toString i):=by cases m <;> rfl
  rw [e]
  have q:=mP (lg h)
  generalize Str.ofString (toString i)=t at q
  simp [cC,bJ,q]
 | @str n x h=>
  intro m T hm
  have h:=h.1
  have e:stp m (.str x)=Str.ofString "'"++x:=by cases m <;> rfl
  rw [e]
  have z:(Str.ofString "'").length + x.length≤sizeLine:=by rw [show (Str.ofString "'").length=1 by decide,sz]; omega
  simp [cC,cv,b6,z]
 | @tup n ds h g ih=>
  intro m T hm
  obtain ⟨k,rfl⟩:∃ k,m=k + 1:=⟨m - 1,by omega⟩
  have o:=jd (.tup h g) (k + 1) hm
  have e:stp (k + 1) (.tuple ds)=Str.ofString "("++Str.join "," (ds.map (stp k))++Str.ofString ")":=rfl
  rw [e,len_app,len_app] at o
  rw [e]
  have c:a6 bo (aw (cC (k + 1)) (ae (aa 0) ai)) [some (.d (.tuple ds))] ds T=some (ds.map fun d=>.str (stp k d),T):=eK (g:=fun d=>.str (stp k d)) fun d hd=>by
   simp [ih d hd (by omega) k T (by omega)]
  have p:10 ^ (n + 1)≤10000:=Nat.le_trans (Nat.pow_le_pow_right (by decide) h5) (by decide)
  have j:=yd (z:=Str.ofString ",") (show cc (ds.map fun d=>.str (stp k d))=some (ds.map (stp k)) from jM (stp k) ds)
  have s:=m9 (B:=600000) (xs:=ds.map (stp k)) fun x hx=>by
   obtain ⟨d,hd,rfl⟩:=List.mem_map.mp hx
   have q:=(jd (g d hd) k (by omega)).1
   have p':10 ^ n≤10000:=Nat.le_trans (Nat.pow_le_pow_right (by decide) (show n≤4 by omega)) (by decide)
   omega
  rw [List.length_map] at s
  rw [if_pos (by rw [List.length_map,show (Str.ofString ",").length=1 by decide]; omega)] at j
  have z1:(Str.ofString "(").length + (Str.join "," (ds.map (stp k))).length≤sizeLine:=by rw [sz]; omega
  have z2:(Str.ofString "("++Str.join "," (ds.map (stp k))).length + (Str.ofString ")").length≤sizeLine:=by rw [sz,len_app]; omega
  exact Aq c j z1 z2
theorem AW {x:Str} (h:Lo x):PyData.strOk x=true:=by
 unfold PyData.strOk
 rw [← Array.all_toList,List.all_eq_true]
 intro c hc
 exact decide_eq_true (Nat.lt_trans (h c hc) (by decide))
theorem mJ:∀ {ds:List PyData},(∀ d∈ds,d.canLay0=true)→PyData.canLayAll0 ds=true
 | [],_=>rfl
 | d::r,h=>by
  show (d.canLay0 && PyData.canLayAll0 r)=true
  rw [h d List.mem_cons_self,mJ fun x hx=>h x (List.mem_cons_of_mem _ hx)]
  rfl
theorem mU {k:Nat}:∀ {ds:List PyData},(∀ d∈ds,d.depth≤k)→PyData.depthAll ds≤k
 | [],_=>Nat.zero_le _
 | d::r,h=>by
  show max d.depth (PyData.depthAll r)≤k
  exact Nat.max_le.mpr ⟨h d List.mem_cons_self,mU fun x hx=>h x (List.mem_cons_of_mem _ hx)⟩
def Sp (k:Nat) (d:PyData):Prop:=d.canLay0=true∧d.depth≤k
theorem Sp.mono {k n:Nat} {d:PyData} (h:Sp k d) (l:k≤n):Sp n d:=⟨h.1,Nat.le_trans h.2 l⟩
theorem Sp.sh {k:Nat} {d:PyData} (h:Sp k d) (l:k≤64):SeqAt.shaped d=true:=by
 unfold SeqAt.shaped
 rw [h.1,decide_eq_true (Nat.le_trans h.2 l)]
 rfl
theorem Sp.str {x:Str} (h:Lo x):Sp 0 (.str x):=⟨AW h,Nat.le_refl _⟩
theorem Sp.int (i:Int):Sp 0 (.int i):=⟨rfl,Nat.le_refl _⟩
theorem Sp.tup {k:Nat} {ds:List PyData} (h:∀ d∈ds,Sp k d):Sp (k + 1) (.tuple ds):=⟨mJ fun d hd=>(h d hd).1,Nat.succ_le_succ (mU fun d hd=>(h d hd).2)⟩
theorem Sp.lst {k:Nat} {ds:List PyData} (h:∀ d∈ds,Sp k d):Sp (k + 1) (.list ds):=⟨mJ fun d hd=>(h d hd).1,Nat.succ_le_succ (mU fun d hd=>(h d hd).2)⟩
theorem Va.sp {n:Nat} {v:PyData} (h:Va n v):Sp n v:=by
 induction h with
 | int _=>exact (Sp.int _).mono (Nat.zero_le _)
 | str h=>exact (Sp.str h.2).mono (Nat.zero_le _)
 | tup _ _ ih=>exact .tup ih
def vaD (v:PyData):PyData:=.tuple [.str "value",v]
def faD (w:Str):PyData:=.tuple [.str "fails",.str w]
inductive Tl:PyData→Prop where
 | va {v:PyData}:Va 4 v→Tl (vaD v)
 | fa {w:Str}:Nx 40 w→Tl (faD w)
theorem e8 (s:String) (h:(Str.ofString s).length≤40:=by decide +kernel) (g:((Str.ofString s).cps.toList.all fun c=>decide (c < 128))=true:=by decide +kernel):Tl (faD (Str.ofString s)):=.fa ⟨h,cR g⟩
theorem abs_le {i:Int}:(if i < 0 then -i else i)≤1000000000000000000↔i.natAbs≤1000000000000000000:=by split <;> omega
theorem mx0:gQ (.list []) (.int 0)=some (.int 0):=rfl
theorem sm0:gU [.list []]=some (.int 0):=rfl
theorem BB (i:Int) (m:Nat) (T:Tp):bT (m + 1) [.d (.int i)] T=some (.tuple [.int 0,.int 1],T):=by simp [bT,nG,a6,mx0,sm0,eN]
theorem BA (x:Str) (m:Nat) (T:Tp):bT (m + 1) [.d (.str x)] T=some (.tuple [.int 0,.int 1],T):=by simp [bT,nF,a6,mx0,sm0,eN]
theorem Cj (i:Int):∃ r,Tl r∧∀ T,bU [.d (.int i)] T=some (r,T):=by
 have w:=BB i 24
 by_cases h:i.natAbs≤1000000000000000000
 ·have h':=abs_le.mpr h
  exact ⟨vaD (.int i),.va (.int h),fun T=>by simp [bU,cO,w,bJ,jt,h',vaD]⟩
 ·have h':¬ (if i < 0 then -i else i)≤1000000000000000000:=fun z=>h (abs_le.mp z)
  exact ⟨faD "great",e8 "great",fun T=>by simp [bU,cO,w,bJ,jt,h',faD]⟩
theorem Ci {x:Str} (hx:Nx 80 x):∃ r,Tl r∧∀ T,bU [.d (.str x)] T=some (r,T):=by
 have w:=BA x 24
 have z:x.length≤sizeLine:=by have:=hx.1; rw [sz]; omega
 by_cases h:x.length≤20
 ·have h':(x.length:Int)≤20:=by omega
  exact ⟨vaD (.str x),.va (.str ⟨by omega,hx.2⟩),fun T=>by simp [bU,cO,w,cv,b6,z,h,h',vaD]⟩
 ·have h':¬ (x.length:Int)≤20:=by omega
  exact ⟨faD "great",e8 "great",fun T=>by simp [bU,cO,w,cv,b6,z,h,h',faD]⟩
theorem tB {ds:List PyData} (h:∀ d∈ds,Va 4 d):∃ r,Tl r∧∀ T,bU [.d (.tuple ds)] T=some (r,T):=by
 obtain ⟨a,b,ha,w⟩:=sU (m:=24) (ds:=ds) fun d hd=>yv (h d hd) 23 (by decide)
 have w':∀ T,bT 25 [.d (.tuple ds)] T=some (.tuple [.int ((a:Int) + 1),.int b],T):=w
 by_cases h8:ds.length≤8
 ·have h8':(ds.length:Int)≤8:=by omega
  by_cases h4:(a:Int) + 1≤4
  ·by_cases h40:(b:Int)≤40
   ·refine ⟨vaD (.tuple ds),.va ?_,fun T=>by simp [bU,cO,w',bX,b5,h8',h8,h4,h40,vaD]⟩
    exact .tup h8 fun d hd=>(ha d hd).up (by omega)
   ·exact ⟨faD "great",e8 "great",fun T=>by simp [bU,cO,w',bX,b5,h8',h8,h4,h40,faD]⟩
  ·exact ⟨faD "great",e8 "great",fun T=>by simp [bU,cO,w',bX,b5,h8',h8,h4,faD]⟩
 ·have h8':¬ (ds.length:Int)≤8:=by omega
  exact ⟨faD "great",e8 "great",fun T=>by simp [bU,cO,w',bX,b5,h8',h8,faD]⟩
def fzO (o:Option W):Option W:=(bH [o]).headD none
theorem bW {o:Option W} {r:Rho}:bH (o::r)=fzO o::bH r:=rfl
@[simp] theorem FV:fzO none=none:=rfl
@[simp] theorem FX {x:PyData}:fzO (some (.d x))=some (.d x):=rfl
@[simp] theorem FU {i:Nat}:fzO (some (.tp i))=some (.tp i):=rfl
@[simp] theorem FW {x:PyData}:fzO (some (.loc x))=some (.d x):=rfl
theorem ct2 {α:Type} {a b c d:α}:bN [a,b,c,d] none (some 2)=[a,b]:=rfl
theorem at4 {α:Type} {a b c d:α}:atI [a,b,c,d] 2=some c∧atI [a,b,c,d] 3=some d:=⟨rfl,rfl⟩
theorem kt {a b:Bool}:neG (.list [.bool a,.bool b]) (.list [.bool true,.bool true])=some (.bool (!(a && b))):=by cases a <;> cases b <;> rfl
theorem kf {a b:Bool}:neG (.list [.bool a,.bool b]) (.list [.bool false,.bool false])=some (.bool (a || b)):=by cases a <;> cases b <;> rfl
def li (w:String):Prop:=w = "sum"∨w = "join"∨w = "same"∨w = "part"∨w = "less"
theorem vaF (x:PyData):PyData.tuple [.str "value",x]=vaD x:=rfl
theorem faF (x:Str):PyData.tuple [.str "fails",.str x]=faD x:=rfl
theorem tM {n:Nat} (b:Bool):Va n (.int (if b then 1 else 0)):=by cases b <;> exact .int (by decide)
theorem Cy {w:String} (hw:li w) {a b:PyData} (ha:Va 4 a) (hb:Va 4 b):∃ r,Tl r∧∀ T,bg [.d (.str (Str.ofString w)),.d a,.d b] T=some (r,T):=by
 have s1:Str.ofString "sum"≠Str.ofString "same":=by decide
 have s2:Str.ofString "sum"≠Str.ofString "part":=by decide
 have s3:Str.ofString "sum"≠Str.ofString "join":=by decide
 have j1:Str.ofString "join"≠Str.ofString "same":=by decide
 have j2:Str.ofString "join"≠Str.ofString "part":=by decide
 have l1:Str.ofString "less"≠Str.ofString "same":=by decide
 have l2:Str.ofString "less"≠Str.ofString "part":=by decide
 have l3:Str.ofString "less"≠Str.ofString "join":=by decide
 have l4:Str.ofString "less"≠Str.ofString "sum":=by decide
 have p1:Str.ofString "part"≠Str.ofString "same":=by decide
 have kd:Tl (faD "kind"):=e8 "kind"
 rcases hw with rfl | rfl | rfl | rfl | rfl
 ·cases ha with
  | @int _ i h=>
   cases hb with
   | @int _ j g=>
    obtain ⟨r,hr,e⟩:=Cj (i + j)
    exact ⟨r,hr,fun T=>by simp [bg,s1,s2,s3,bJ,cI,kt,ct2,e]⟩
   | str _=>exact ⟨_,kd,fun T=>by simp [bg,s1,s2,s3,bJ,cv,cI,b6,kt,ct2,faF]⟩
   | tup _ _=>exact ⟨_,kd,fun T=>by simp [bg,s1,s2,s3,bJ,bX,cI,b5,kt,ct2,faF]⟩
  | str _=>cases hb <;> exact ⟨_,kd,fun T=>by simp [bg,s1,s2,s3,bJ,cv,bX,cI,b6,b5,kt,ct2,faF]⟩
  | tup _ _=>cases hb <;> exact ⟨_,kd,fun T=>by simp [bg,s1,s2,s3,bJ,cv,bX,cI,b6,b5,kt,ct2,faF]⟩
 ·cases ha with
  | int h=>cases hb <;> exact ⟨_,kd,fun T=>by simp [bg,j1,j2,bJ,cv,bX,cI,b6,b5,kf,ct2,faF]⟩
  | @str _ x hx=>
   cases hb with
   | @str _ y hy=>
    have z:x.length + y.length≤sizeLine:=by have:=hx.1; have:=hy.1; rw [sz]; omega
    obtain ⟨r,hr,e⟩:=Ci (x:=x++y) ⟨by have:=hx.1; have:=hy.1; rw [len_app]; omega,hx.2.app hy.2⟩
    exact ⟨r,hr,fun T=>by simp [bg,j1,j2,cv,b6,kf,ct2,at4,z,e]⟩
   | int _=>exact ⟨_,kd,fun T=>by simp [bg,j1,j2,bJ,cv,bX,cI,b6,b5,kf,ct2,at4,faF]⟩
   | tup _ _=>exact ⟨_,kd,fun T=>by simp [bg,j1,j2,bJ,cv,bX,cI,b6,b5,kf,ct2,at4,faF]⟩
  | @tup _ xs hx gx=>
   cases hb with
   | @tup _ ys hy gy=>
    have z:xs.length + ys.length≤sizeLine:=by rw [sz]; omega
    obtain ⟨r,hr,e⟩:=tB (ds:=xs++ys) fun d hd=>by
     rcases List.mem_append.mp hd with q | q
     ·exact (gx d q).up (by omega)
     ·exact (gy d q).up (by omega)
    exact ⟨r,hr,fun T=>by simp [bg,j1,j2,bX,b5,kf,ct2,at4,z,e]⟩
   | int _=>exact ⟨_,kd,fun T=>by simp [bg,j1,j2,bJ,cv,bX,cI,b6,b5,kf,ct2,at4,faF]⟩
   | str _=>exact ⟨_,kd,fun T=>by simp [bg,j1,j2,bJ,cv,bX,cI,b6,b5,kf,ct2,at4,faF]⟩
 ·have q:eqG a b=some (.bool (PyData.eqv a b)):=by
   unfold eqG
   rw [if_pos ⟨ha.sp.sh (by decide),hb.sp.sh (by decide)⟩]
  exact ⟨_,.va (tM (PyData.eqv a b)),fun T=>by simp [bg,q,eN,vaF]⟩
 ·cases ha with
  | int _=>exact ⟨_,kd,fun T=>by simp [bg,p1,nG,faF]⟩
  | str _=>exact ⟨_,kd,fun T=>by simp [bg,p1,nF,faF]⟩
  | @tup _ xs hx gx=>
   cases hb with
   | str _=>exact ⟨_,kd,fun T=>by simp [bg,p1,ik,cv,faF]⟩
   | tup _ _=>exact ⟨_,kd,fun T=>by simp [bg,p1,ik,bX,faF]⟩
   | @int _ i hi=>
    by_cases h0:0≤i
    ·by_cases h1:i < xs.length
     ·obtain ⟨v,hv,mv⟩:=ir h0 h1
      exact ⟨vaD v,.va ((gx v mv).up (by omega)),fun T=>by simp [bg,p1,ik,bJ,h0,h1,hv,vaF]⟩
     ·exact ⟨_,e8 "part",fun T=>by simp [bg,p1,ik,bJ,h0,h1,faF]⟩
    ·exact ⟨_,e8 "part",fun T=>by simp [bg,p1,ik,bJ,h0,faF]⟩
 ·cases ha with
  | @int _ i h=>
   cases hb with
   | @int _ j g=>exact ⟨_,.va (tM (decide (i < j))),fun T=>by simp [bg,l1,l2,l3,l4,bJ,cI,kt,ct2,eN,vaF]⟩
   | str _=>exact ⟨_,kd,fun T=>by simp [bg,l1,l2,l3,bJ,cv,cI,b6,kt,ct2,faF]⟩
   | tup _ _=>exact ⟨_,kd,fun T=>by simp [bg,l1,l2,l3,bJ,bX,cI,b5,kt,ct2,faF]⟩
  | str _=>cases hb <;> exact ⟨_,kd,fun T=>by simp [bg,l1,l2,l3,bJ,cv,bX,cI,b6,b5,kt,ct2,faF]⟩
  | tup _ _=>cases hb <;> exact ⟨_,kd,fun T=>by simp [bg,l1,l2,l3,bJ,cv,bX,cI,b6,b5,kt,ct2,faF]⟩
def exP (v:PyData):PyData:=.tuple [.str "put",v]
def exG (k:Int):PyData:=.tuple [.str "got",.int k]
def exM (a:PyData):PyData:=.tuple [.str "many",a]
def exR (es:List PyData):PyData:=.tuple [.str "row",.tuple es]
def ex2 (w:String) (a b:PyData):PyData:=.tuple [.str (Str.ofString w),a,b]
inductive Lf (k:Nat):PyData→Prop where
 | put {v:PyData}:Va 2 v→Lf k (exP v)
 | got {i:Int}:0≤i→i < k→Lf k (exG i)
inductive Ex (k:Nat):PyData→Prop where
 | lf {e:PyData}:Lf k e→Ex k e
 | two {w:String} {a b:PyData}:li w→Lf k a→Lf k b→Ex k (ex2 w a b)
 | row {es:List PyData}:es.length≤2→(∀ e∈es,Lf k e)→Ex k (exR es)
 | many {a:PyData}:Lf k a→Ex k (exM a)
theorem rQ {w:String} (h:li w):Str.ofString w≠Str.ofString "put"∧Str.ofString w≠Str.ofString "got"∧Str.ofString w≠Str.ofString "row"∧Str.ofString w≠Str.ofString "many":=by rcases h with rfl | rfl | rfl | rfl | rfl <;> exact ⟨by decide,by decide,by decide,by decide⟩
section
variable {k:Nat} {got:List PyData} (hk:got.length=k) (hg:∀ v∈got,Va 4 v)
include hk hg in
theorem tw {e:PyData} (h:Lf k e):∃ v,Va 4 v∧∀ (n:Nat) (T:Tp),bI (n + 1) [.d e,.d (.list got)] T=some (vaD v,T):=by
 cases h with
 | @put v hv=>exact ⟨v,hv.up (by decide),fun n T=>by simp [bI,exP,aV,vaF]⟩
 | @got i h0 h1=>
  obtain ⟨v,e1,e2⟩:=ir (xs:=got) h0 (by omega)
  have n1:Str.ofString "got"≠Str.ofString "put":=by decide
  exact ⟨v,hg v e2,fun n T=>by simp [bI,exG,aV,n1,e1,vaF]⟩
include hk hg in
theorem kG:∀ {es:List PyData},(∀ e∈es,Lf k e)→∃ vs:List PyData,vs.length=es.length∧(∀ v∈vs,Va 4 v)∧∀ (n:Nat) (T:Tp) (x:W) (acc:List PyData) (o3 o4:Option W),acc.length + es.length≤1000 →
  ∃ o3' o4',forL 3 (jS (n + 1)) es [some x,some (.d (.list got)),some (.loc (.list acc)),o3,o4] T=some ((.nx,[some x,some (.d (.list got)),some (.loc (.list (acc++vs))),o3',o4']),T)
 | [],_=>⟨[],rfl,(fun _ h=>nomatch h),fun n T x acc o3 o4 _=>⟨o3,o4,by rw [List.append_nil]; rfl⟩⟩
 | e::es,h=>by
  obtain ⟨v,hv,ev⟩:=tw hk hg (h e List.mem_cons_self)
  obtain ⟨vs,hl,hvs,ih⟩:=kG (es:=es) fun x hx=>h x (List.mem_cons_of_mem _ hx)
  refine ⟨v::vs,by simp [hl],fun u hu=>?_,fun n T x acc o3 o4 hn=>?_⟩
  ·rcases List.mem_cons.mp hu with rfl | q
   ·exact hv
   ·exact hvs u q
  ·rw [List.length_cons] at hn
   obtain ⟨p,q,e2⟩:=ih n T x (acc++[v]) (some (.d e)) (some (.d (vaD v))) (by simp; omega)
   refine ⟨p,q,?_⟩
   have n1:Str.ofString "value"≠Str.ofString "fails":=by decide
   have z:acc.length < sizeLine:=by rw [sz]; omega
   have b:jS (n + 1) (List.set [some x,some (.d (.list got)),some (.loc (.list acc)),o3,o4] 3 (some (.d e))) T=some ((.nx,[some x,some (.d (.list got)),some (.loc (.list (acc++[v]))),some (.d e),some (.d (vaD v))]),T):=by
    have ev':=ev n T
    unfold vaD at ev' ⊢
    simp [jS,ev',aV,n1,z]
   unfold forL
   rw [b]
   refine Eq.trans e2 ?_
   rw [List.append_assoc]
   rfl
include hk hg in
theorem mw {e:PyData} (h:Ex k e):∃ r,Tl r∧∀ T,bI 25 [.d e,.d (.list got)] T=some (r,T):=by
 cases h with
 | lf h=>
  obtain ⟨v,hv,ev⟩:=tw hk hg h
  exact ⟨vaD v,.va hv,ev 24⟩
 | @two w a b hw ha hb=>
  obtain ⟨vs,hl,hvs,lp⟩:=kG hk hg (es:=[a,b]) fun e he=>by
   simp only [List.mem_cons,List.not_mem_nil,or_false] at he
   rcases he with rfl | rfl
   ·exact ha
   ·exact hb
  match vs,hl with
  | [u,v],_=>
   obtain ⟨r,hr,er⟩:=Cy hw (hvs u (by simp)) (hvs v (by simp))
   obtain ⟨n1,n2,n3,n4⟩:=rQ hw
   refine ⟨r,hr,fun T=>?_⟩
   obtain ⟨p,q,e⟩:=lp 23 T (.d (ex2 w a b)) [] none none (by simp)
   have i3:atI [PyData.str (Str.ofString w),a,b] 0=some (.str (Str.ofString w)):=rfl
   have sl:bN [PyData.str (Str.ofString w),a,b] (some 1) none=[a,b]:=rfl
   rw [lN]
   unfold ex2 at e ⊢
   simp only [List.nil_append] at e
   simp [i3,n1,n2,n3,sl]
   rw [e]
   simp [i3,n3,n4,nW,aV,er]
 | @row es h2 hes=>
  obtain ⟨vs,hl,hvs,lp⟩:=kG hk hg hes
  obtain ⟨r,hr,er⟩:=tB hvs
  have n1:Str.ofString "row"≠Str.ofString "put":=by decide
  have n2:Str.ofString "row"≠Str.ofString "got":=by decide
  refine ⟨r,hr,fun T=>?_⟩
  obtain ⟨p,q,e⟩:=lp 23 T (.d (exR es)) [] none none (by simp; omega)
  rw [lN]
  unfold exR at e ⊢
  simp only [List.nil_append] at e
  simp [aV,n1,n2]
  rw [e]
  simp [aV,er,bW]
 | @many a ha=>
  obtain ⟨vs,hl,hvs,lp⟩:=kG hk hg (es:=[a]) fun e he=>by
   rw [List.mem_singleton] at he
   exact he ▸ ha
  match vs,hl with
  | [u],_=>
   have n1:Str.ofString "many"≠Str.ofString "put":=by decide
   have n2:Str.ofString "many"≠Str.ofString "got":=by decide
   have n3:Str.ofString "many"≠Str.ofString "row":=by decide
   have sl:bN [PyData.str "many",a] (some 1) none=[a]:=rfl
   have a1:atI [u] 0=some u:=rfl
   have hu:=hvs u (by simp)
   have pre:∀ T,∃ p q,bI 25 [.d (exM a),.d (.list got)] T=cg (aj (fIf (au (af eqD (af ixD (aa 0) (fC (.int 0))) (fC (.str "many")))) (aB (bY (a8 (fUn (bG .int) (af ixD (aa 2) (fC (.int 0))))) (ay .tuple (ae (fC (.str "fails")) (ae (fC (.str "kind")) ai))) (ay .tuple (ae (fC (.str "value")) (ae (fCB aR (ae (af ixD (aa 2) (fC (.int 0))) ai)) ai))))) aC) (aB (aw bg (ae (af ixD (aa 0) (fC (.int 0))) (ae (af ixD (aa 2) (fC (.int 0))) (ae (af ixD (aa 2) (fC (.int 1))) ai))))) [some (.d (exM a)),some (.d (.list got)),some (.loc (.list [u])),p,q] T):=fun T=>by
    obtain ⟨p,q,e⟩:=lp 23 T (.d (exM a)) [] none none (by simp)
    refine ⟨p,q,?_⟩
    rw [lN]
    unfold exM at e ⊢
    simp only [List.nil_append] at e
    simp [aV,n1,n2,n3,sl,-tE,-Bd]
    simp [aV,n1,n2,n3,sl]
    rw [e]
    simp [aV,n3]
   have op:∀ (T:Tp),op2 ixD T (.d (.list [u])) (.d (.int 0))=mkD T (atI [u] 0):=fun _=>rfl
   cases hu with
   | int h=>
    refine ⟨_,e8 "kind",fun T=>?_⟩
    obtain ⟨p,q,e⟩:=pre T
    rw [e]
    simp [exM,aV,bW,a1,bJ,faF]
   | @str _ x h=>
    refine ⟨_,.va (.int (i:=(x.length:Int)) (by have:=h.1; omega)),fun T=>?_⟩
    obtain ⟨p,q,e⟩:=pre T
    have z:x.length≤sizeLine:=by have:=h.1; rw [sz]; omega
    rw [e]
    simp [exM,aV,bW,a1,cv,z,vaF]
   | @tup _ ds h g=>
    refine ⟨_,.va (.int (i:=(ds.length:Int)) (by omega)),fun T=>?_⟩
    obtain ⟨p,q,e⟩:=pre T
    rw [e]
    simp [exM,aV,bW,a1,bX,vaF]
end
section
variable {l:List Str} (hn:Ns l) (h0:0 < l.length) (h1:l.length≤20)
include hn h0 h1 in
theorem kL {xs:List PyData} (hf:Fr xs):∃ y xs' r,aI [.tp 0,.d (.int (l.length:Int))] [xs]=some (.int r,[xs'])∧atI (nm l) r=some (.str y)∧y∈l∧Fr xs':=by
 obtain ⟨r,x2,e2,f2,r0,r1⟩:=bi hf (m:=(l.length:Int)) (by omega) (by omega)
 obtain ⟨y,ey,my⟩:=iF r0 r1
 exact ⟨y,x2,r,e2,ey,my,f2⟩
include hn h0 h1 in
theorem rO {xs:List PyData} (hf:Fr xs) (k:Nat) (hk:k≤1000) (n:Nat):∃ e xs',bO (n + 1) [.tp 0,.d (.int k),.d (.list (nm l)),.d (.int 0)] [xs]=some (e,[xs'])∧Lf k e∧Fr xs':=by
 obtain ⟨w,x1,e1,f1,w0,w1⟩:=bi hf (m:=12) (by decide) (by decide)
 by_cases hg:w < 4∧0 < k
 ·obtain ⟨r,x2,e2,f2,r0,r1⟩:=bi f1 (m:=(k:Int)) (by omega) (by omega)
  exact ⟨exG r,x2,by simp [bO,e1,hg.1,hg.2,e2,exG],.got r0 r1,f2⟩
 ·obtain ⟨v,x2,e2,hv,f2⟩:=jc f1 hn h0 h1
  refine ⟨exP v,x2,?_,.put hv,f2⟩
  by_cases h4:w < 4
  ·have hk0:¬ 0 < k:=fun z=>hg ⟨h4,z⟩
   simp [bO,e1,h4,hk0,e2,exP]
  ·simp [bO,e1,h4,e2,exP]
theorem CZ {r:Int} (h0:0≤r) (h1:r < 5):∃ w,li w∧atI [PyData.str "part",.str "sum",.str "join",.str "same",.str "less"] r=some (.str (Str.ofString w)):=by
 have:r=0∨r=1∨r=2∨r=3∨r=4:=by omega
 rcases this with rfl | rfl | rfl | rfl | rfl
 ·exact ⟨"part",.inr (.inr (.inr (.inl rfl))),rfl⟩
 ·exact ⟨"sum",.inl rfl,rfl⟩
 ·exact ⟨"join",.inr (.inl rfl),rfl⟩
 ·exact ⟨"same",.inr (.inr (.inl rfl)),rfl⟩
 ·exact ⟨"less",.inr (.inr (.inr (.inr rfl))),rfl⟩
theorem C3 {r:Int} (h0:0≤r) (h1:r < 3) (a b:PyData):(bN [a,b] none (some r)).length≤2∧∀ e∈bN [a,b] none (some r),e=a∨e=b:=by
 have:r=0∨r=1∨r=2:=by omega
 rcases this with rfl | rfl | rfl
 ·have e:bN [a,b] none (some 0)=[]:=rfl
  rw [e]; exact ⟨by simp,fun _ h=>nomatch h⟩
 ·have e:bN [a,b] none (some 1)=[a]:=rfl
  rw [e]; exact ⟨by simp,fun e h=>by simp at h; exact .inl h⟩
 ·have e:bN [a,b] none (some 2)=[a,b]:=rfl
  rw [e]; exact ⟨by simp,fun e h=>by simpa using h⟩
include hn h0 h1 in
theorem kg {xs:List PyData} (hf:Fr xs) (k:Nat) (hk:k≤1000) (n:Nat):∃ e xs',bO (n + 2) [.tp 0,.d (.int k),.d (.list (nm l)),.d (.int 1)] [xs]=some (e,[xs'])∧Ex k e∧Fr xs':=by
 obtain ⟨w,x1,e1,f1,w0,w1⟩:=bi hf (m:=12) (by decide) (by decide)
 by_cases hg:w < 4∧0 < k
 ·obtain ⟨r,x2,e2,f2,r0,r1⟩:=bi f1 (m:=(k:Int)) (by omega) (by omega)
  refine ⟨exG r,x2,?_,.lf (.got r0 r1),f2⟩
  unfold bO
  simp [e1,hg.1,hg.2,e2,exG]
 ·by_cases h7:w < 7
  ·obtain ⟨v,x2,e2,hv,f2⟩:=jc f1 hn h0 h1
   refine ⟨exP v,x2,?_,.lf (.put hv),f2⟩
   unfold bO
   by_cases h4:w < 4
   ·have hk0:¬ 0 < k:=fun z=>hg ⟨h4,z⟩
    simp [e1,h4,h7,hk0,e2,exP]
   ·simp [e1,h4,h7,e2,exP]
  ·have h4:¬ w < 4:=by omega
   obtain ⟨a,x2,e2,ha,f2⟩:=rO hn h0 h1 f1 k hk n
   by_cases h8:w=7
   ·refine ⟨exM a,x2,?_,.many ha,f2⟩
    unfold bO
    simp [e1,h4,h7,e2,h8,exM]
   ·obtain ⟨b,x3,e3,hb,f3⟩:=rO hn h0 h1 f2 k hk n
    by_cases h9:w=8
    ·obtain ⟨r,x4,e4,f4,r0,r1⟩:=bi f3 (m:=3) (by decide) (by decide)
     obtain ⟨c1,c2⟩:=C3 r0 r1 a b
     refine ⟨exR (bN [a,b] none (some r)),x4,?_,.row c1 fun e he=>?_,f4⟩
     ·unfold bO
      simp [e1,h4,h7,e2,h8,e3,h9,e4,exR]
     ·rcases c2 e he with rfl | rfl
      ·exact ha
      ·exact hb
    ·obtain ⟨r,x4,e4,f4,r0,r1⟩:=bi f3 (m:=5) (by decide) (by decide)
     obtain ⟨v,hv,ev⟩:=CZ r0 r1
     refine ⟨ex2 v a b,x4,?_,.two hv ha hb,f4⟩
     unfold bO
     simp [e1,h4,h7,e2,h8,e3,h9,e4,ev,ex2]
include hn h0 h1 in
theorem qF {xs:List PyData} (hf:Fr xs) (k:Nat) (hk:k≤1000):∃ e xs',fA [.tp 0,.d (.int k),.d (.list (nm l))] [xs]=some (e,[xs'])∧Ex k e∧Fr xs':=by
 obtain ⟨w,x1,e1,f1,w0,w1⟩:=bi hf (m:=10) (by decide) (by decide)
 by_cases h7:w < 7
 ·obtain ⟨y,x2,r,e2,ey,my,f2⟩:=kL hn h0 h1 f1
  exact ⟨exP (.str y),x2,by simp [fA,e1,h7,a9,e2,ey,exP],.lf (.put (.str (hn y my))),f2⟩
 ·by_cases h8:w=7
  ·obtain ⟨y,x2,r,e2,ey,my,f2⟩:=kL hn h0 h1 f1
   exact ⟨ex2 "join" (exP (.str y)) (exP (.str "")),x2,by simp [fA,e1,h7,h8,a9,e2,ey,exP,ex2],.two (.inr (.inl rfl)) (.put (.str (hn y my))) (.put (.str ⟨by decide +kernel,cR (by decide +kernel)⟩)),f2⟩
  ·obtain ⟨e,x2,e2,he,f2⟩:=kg hn h0 h1 f1 k hk 23
   exact ⟨e,x2,by simp [fA,e1,h7,h8,e2],he,f2⟩
def dr (e:PyData):PyData:=.tuple [.str "say",e]
def fT (w:Str):PyData:=.tuple [.str "fail",.str w]
def b9 (b:Bool) (e r:PyData):PyData:=.tuple [.str (Str.ofString (if b then "peek" else "want")),e,r]
def eV (e p q:PyData):PyData:=.tuple [.str "when",e,p,q]
inductive RC:Nat→Nat→PyData→Prop where
 | say {h k:Nat} {e:PyData}:Ex k e→RC h k (dr e)
 | fail {h k:Nat} {w:Str}:Nx 40 w→RC h k (fT w)
 | want {h k:Nat} {b:Bool} {e r:PyData}:Ex k e→RC h (k + 1) r→RC (h + 1) k (b9 b e r)
 | when {h k:Nat} {e p q:PyData}:Ex k e→RC h k p→RC h k q→RC (h + 1) k (eV e p q)
theorem RC.up {h k m:Nat} {r:PyData} (c:RC h k r) (l:h≤m):RC m k r:=by
 induction c generalizing m with
 | say h=>exact .say h
 | fail h=>exact .fail h
 | want h _ ih=>
  obtain ⟨j,rfl⟩:∃ j,m=j + 1:=⟨m - 1,by omega⟩
  exact .want h (ih (by omega))
 | when h _ _ i1 i2=>
  obtain ⟨j,rfl⟩:∃ j,m=j + 1:=⟨m - 1,by omega⟩
  exact .when h (i1 (by omega)) (i2 (by omega))
theorem gZ (w:Int):inD (.int w) (.tuple [.int 4,.int 5])=some (.bool (decide (w=4) || decide (w=5))):=by
 have e:inD (.int w) (.tuple [.int 4,.int 5])=some (.bool (decide ((4:Int)=w) || (decide ((5:Int)=w) || false))):=rfl
 rw [e,Bool.or_false]
 congr 2
 rw [decide_eq_decide.mpr (show (4:Int)=w↔w=4 from ⟨fun z=>z.symm,fun z=>z.symm⟩),decide_eq_decide.mpr (show (5:Int)=w↔w=5 from ⟨fun z=>z.symm,fun z=>z.symm⟩)]
include hn h0 h1 in
theorem r8 {xs:List PyData} {pk:Bool} {h k a b n:Nat} {w:Int} {x1:List PyData} (hk:k≤1000) (e1:aI [.tp 0,.d (.int 8)] [xs]=some (.int w,[x1])) (f1:Fr x1) (hA:¬ (w < 4∧0 < a)) (hB:¬ ((w=4∨w=5)∧0 < b)):∃ r xs',bZ (n + 1) [.tp 0,.d (.int k),.d (.list (nm l)),.d (.int a),.d (.int b),.d (.bool pk)] [xs]=some (r,[xs'])∧RC h k r∧Fr xs':=by
 have cA:∀ {α:Type} (p q:α),(if w < 4 then (if 0 < a then p else q) else q)=q:=fun p q=>by
  by_cases z:w < 4
  ·rw [if_pos z,if_neg fun y=>hA ⟨z,y⟩]
  ·rw [if_neg z]
 by_cases h6:w=6
 ·obtain ⟨r,x2,e2,f2,r0,r1⟩:=bi f1 (m:=2) (by decide) (by decide)
  by_cases hr:r=0
  ·obtain ⟨y,x3,r3,e3,ey,my,f3⟩:=kL hn h0 h1 f2
   refine ⟨fT y,x3,?_,.fail (hn y my),f3⟩
   unfold bZ
   simp [e1,h6,gZ,e2,hr,a9,e3,ey,fT]
  ·obtain ⟨e,x3,e3,he,f3⟩:=kg hn h0 h1 f2 k (by omega) 23
   refine ⟨dr e,x3,?_,.say he,f3⟩
   unfold bZ
   simp [e1,h6,gZ,e2,hr,e3,dr]
 ·obtain ⟨e,x3,e3,he,f3⟩:=kg hn h0 h1 f1 k (by omega) 23
  refine ⟨dr e,x3,?_,.say he,f3⟩
  unfold bZ
  by_cases h45:w=4∨w=5
  ·have hb:¬ 0 < b:=fun z=>hB ⟨h45,z⟩
   rcases h45 with rfl | rfl <;> simp [e1,gZ,e3,dr,hb]
  ·have h4:¬ w=4:=fun z=>h45 (.inl z)
   have h5:¬ w=5:=fun z=>h45 (.inr z)
   by_cases hw:w < 4
   ·have ha:¬ 0 < a:=fun z=>hA ⟨hw,z⟩
    simp [e1,hw,ha,h4,h5,h6,gZ,e3,dr]
   ·simp [e1,hw,h4,h5,h6,gZ,e3,dr]
include hn h0 h1 in
theorem yz (pk:Bool):∀ (h:Nat) {xs:List PyData} (_:Fr xs) (k a b n:Nat),a + b=h→k + h≤100→h≤n→∃ r xs',bZ (n + 1) [.tp 0,.d (.int k),.d (.list (nm l)),.d (.int a),.d (.int b),.d (.bool pk)] [xs]=some (r,[xs'])∧RC h k r∧Fr xs':=by
 intro h
 induction h with
 | zero=>
  intro xs hf k a b n hab hk hn'
  obtain ⟨w,x1,e1,f1,w0,w1⟩:=bi hf (m:=8) (by decide) (by decide)
  exact r8 hn h0 h1 (by omega) e1 f1 (by omega) (by omega)
 | succ h ih=>
  intro xs hf k a b n hab hk hn'
  obtain ⟨j,rfl⟩:∃ j,n=j + 1:=⟨n - 1,by omega⟩
  obtain ⟨w,x1,e1,f1,w0,w1⟩:=bi hf (m:=8) (by decide) (by decide)
  by_cases hA:w < 4∧0 < a
  ·obtain ⟨a',rfl⟩:∃ a',a=a' + 1:=⟨a - 1,by omega⟩
   have hpi:(0:Int) < (a':Int) + 1:=by omega
   have ca:(a':Int) + 1 - 1=a':=by omega
   have ck:((k + 1:Nat):Int)=(k:Int) + 1:=by omega
   cases pk with
   | false=>
    obtain ⟨e,x3,e3,he,f3⟩:=qF hn h0 h1 f1 k (by omega)
    obtain ⟨r,x4,e4,hr,f4⟩:=ih f3 (k + 1) a' b j (by omega) (by omega) (by omega)
    rw [ck] at e4
    refine ⟨b9 false e r,x4,?_,.want he hr,f4⟩
    unfold bZ
    simp [e1,hA.1,hpi,e3,e4,ca,b9]
   | true=>
    obtain ⟨r2,x2,e2,f2,r0,r1⟩:=bi f1 (m:=3) (by decide) (by decide)
    obtain ⟨e,x3,e3,he,f3⟩:=qF hn h0 h1 f2 k (by omega)
    obtain ⟨r,x4,e4,hr,f4⟩:=ih f3 (k + 1) a' b j (by omega) (by omega) (by omega)
    rw [ck] at e4
    by_cases hr0:r2=0
    ·refine ⟨b9 true e r,x4,?_,.want he hr,f4⟩
     unfold bZ
     simp [e1,hA.1,hpi,e2,hr0,e3,e4,ca,b9]
    ·refine ⟨b9 false e r,x4,?_,.want he hr,f4⟩
     unfold bZ
     simp [e1,hA.1,hpi,e2,hr0,e3,e4,ca,b9]
  ·by_cases hB:(w=4∨w=5)∧0 < b
   ·obtain ⟨b',rfl⟩:∃ b',b=b' + 1:=⟨b - 1,by omega⟩
    have hpi:(0:Int) < (b':Int) + 1:=by omega
    have cb:(b':Int) + 1 - 1=b':=by omega
    obtain ⟨e,x2,e2,he,f2⟩:=kg hn h0 h1 f1 k (by omega) 23
    obtain ⟨p,x3,e3,hp,f3⟩:=ih f2 k a b' j (by omega) (by omega) (by omega)
    obtain ⟨q,x4,e4,hq,f4⟩:=ih f3 k a b' j (by omega) (by omega) (by omega)
    refine ⟨eV e p q,x4,?_,.when he hp hq,f4⟩
    unfold bZ
    rcases hB.1 with rfl | rfl
    ·simp [e1,gZ,hpi,e2,cb,e3,e4,eV]
    ·simp [e1,gZ,hpi,e2,cb,e3,e4,eV]
   ·exact r8 hn h0 h1 (by omega) e1 f1 hA hB
include hn h0 h1 in
theorem sT {xs:List PyData} (hf:Fr xs) (pk:Bool):∃ r xs',de [.tp 0,.d (.list (nm l)),.d (.bool pk)] [xs]=some (r,[xs'])∧RC 5 0 r∧Fr xs':=by
 obtain ⟨w,x1,e1,f1,w0,w1⟩:=bi hf (m:=5) (by decide) (by decide)
 have hw:w=0∨w=1∨w=2∨w=3∨w=4:=by omega
 have run:∀ a b:Nat,a + b≤5→∃ r xs',bZ 25 [.tp 0,.d (.int 0),.d (.list (nm l)),.d (.int a),.d (.int b),.d (.bool pk)] [x1]=some (r,[xs'])∧RC 5 0 r∧Fr xs':=fun a b hab=>by
  obtain ⟨r,x2,e2,hr,f2⟩:=yz hn h0 h1 pk (a + b) f1 0 a b 24 rfl (by omega) (by omega)
  exact ⟨r,x2,e2,hr.up hab,f2⟩
 have a5:∀ (a b c d e:PyData),atI [a,b,c,d,e] 0=some a∧atI [a,b,c,d,e] 1=some b∧atI [a,b,c,d,e] 2=some c∧atI [a,b,c,d,e] 3=some d∧atI [a,b,c,d,e] 4=some e:=fun _ _ _ _ _=>⟨rfl,rfl,rfl,rfl,rfl⟩
 rcases hw with rfl | rfl | rfl | rfl | rfl
 ·obtain ⟨r,x2,e2,h2⟩:=run 4 1 (by decide)
  exact ⟨r,x2,by simp at e2; simp [de,cO,e1,a5,e2],h2⟩
 ·obtain ⟨r,x2,e2,h2⟩:=run 2 2 (by decide)
  exact ⟨r,x2,by simp at e2; simp [de,cO,e1,a5,e2],h2⟩
 ·obtain ⟨r,x2,e2,h2⟩:=run 1 1 (by decide)
  exact ⟨r,x2,by simp at e2; simp [de,cO,e1,a5,e2],h2⟩
 ·obtain ⟨r,x2,e2,h2⟩:=run 3 1 (by decide)
  exact ⟨r,x2,by simp at e2; simp [de,cO,e1,a5,e2],h2⟩
 ·obtain ⟨r,x2,e2,h2⟩:=run 0 1 (by decide)
  exact ⟨r,x2,by simp at e2; simp [de,cO,e1,a5,e2],h2⟩
end
theorem jx {xs:List Str} {B:Nat} (h:∀ x∈xs,x.length≤B) (hB:B * xs.length + xs.length≤16777216):jw (.str " ") (.list (nm xs))=some (.str (Str.join " " xs))∧(Str.join " " xs).length≤B * xs.length + xs.length:=by
 have c1:(Str.ofString " ").length=1:=by decide
 have s:=m9 h
 have j:=join_le " " xs
 rw [c1] at j
 constructor
 ·show (match cc (nm xs) with | some ys=>if (ys.map fun y:Str=>y.length).sum + ys.length * (Str.ofString " ").length≤16777216 then some (PyData.str (Str.join " " ys)) else none | none=>none)=_
  rw [show cc (nm xs)=some xs from by have:=jM (fun x:Str=>x) xs; simpa [nm] using this]
  dsimp only
  have s':(xs.map fun y:Str=>y.length).sum≤B * xs.length:=s
  rw [c1,if_pos (by omega)]
 ·omega
theorem qL {k:Nat} {e:PyData} (h:Lf k e) (hk:k≤1000):∃ t:Str,t.length≤7000∧∀ (n:Nat) (T:Tp),cP (n + 1) [.d e] T=some (.str t,T):=by
 cases h with
 | @put v hv=>
  have st:=m6 hv (by decide) 24
  have o:=(jd hv 24 (by decide)).1
  have c1:(Str.ofString "put ").length=4:=by decide
  have z:(Str.ofString "put ").length + (stp 24 v).length≤sizeLine:=by rw [c1,sz]; omega
  refine ⟨Str.ofString "put "++stp 24 v,by rw [len_app,c1]; omega,fun n T=>?_⟩
  have st':=st T (by decide)
  simp [cP,exP,aV,st',z]
 | @got i h0 h1=>
  have hi:i.natAbs≤1000000000000000000:=by omega
  have o:=(int_text hi).1
  have st:=mP (lg hi)
  have c1:(Str.ofString "got ").length=4:=by decide
  have n1:Str.ofString "got"≠Str.ofString "put":=by decide
  generalize Str.ofString (toString i)=t at o st
  have z:(Str.ofString "got ").length + t.length≤sizeLine:=by rw [c1,sz]; omega
  exact ⟨Str.ofString "got "++t,by rw [len_app,c1]; omega,fun n T=>by simp [cP,exG,aV,n1,st,z]⟩
theorem l0 {k:Nat} (hk:k≤1000):∀ {es:List PyData},(∀ e∈es,Lf k e)→∃ ts:List Str,ts.length=es.length∧(∀ t∈ts,t.length≤7000)∧∀ (n:Nat) (ρ:Rho) (T:Tp),a6 bo (aw (cP (n + 1)) (ae (aa 0) ai)) ρ es T=some (nm ts,T)
 | [],_=>⟨[],rfl,(fun _ h=>nomatch h),fun _ _ _=>rfl⟩
 | e::es,h=>by
  obtain ⟨t,h1,h2⟩:=qL (h e List.mem_cons_self) hk
  obtain ⟨ts,g1,g2,g3⟩:=l0 hk (es:=es) fun x hx=>h x (List.mem_cons_of_mem _ hx)
  refine ⟨t::ts,by simp [g1],fun u hu=>?_,fun n ρ T=>?_⟩
  ·rcases List.mem_cons.mp hu with rfl | q
   ·exact h1
   ·exact g2 u q
  ·unfold a6
   simp [h2 n T,g3 n ρ T,nm]
theorem rV {w:String} (hw:Str.ofString w≠Str.ofString "put"∧Str.ofString w≠Str.ofString "got"∧Str.ofString w≠Str.ofString "row") (hl:(Str.ofString w).length≤10) {es:List PyData} {k:Nat} (hk:k≤1000) (h:∀ e∈es,Lf k e) (h2:es.length≤2) (sl:bN (PyData.str (Str.ofString w)::es) (some 1) none=es):∃ t:Str,t.length≤22000∧∀ T,cP 25 [.d (.tuple (.str (Str.ofString w)::es))] T=some (.str t,T):=by
 obtain ⟨ts,g1,g2,g3⟩:=l0 hk h
 obtain ⟨j1,j2⟩:=jx (xs:=Str.ofString w::ts) (B:=7000) (fun x hx=>by
  rcases List.mem_cons.mp hx with rfl | q
  ·omega
  ·exact g2 x q) (by simp [g1]; omega)
 refine ⟨Str.join " " (Str.ofString w::ts),by rw [List.length_cons,g1] at j2; omega,fun T=>?_⟩
 have i0:atI (PyData.str (Str.ofString w)::es) 0=some (.str (Str.ofString w)):=by simp [atI,ixN]
 have ap:nm (Str.ofString w::ts)=PyData.str (Str.ofString w)::nm ts:=rfl
 have z:1 + (nm ts).length≤sizeLine:=by rw [a9,g1,sz]; omega
 rw [ap] at j1
 unfold cP
 simp [i0,hw.1,hw.2.1,hw.2.2,sl,g3 23,z,j1]
theorem Aw {es:List PyData} {k:Nat} (hk:k≤1000) (h:∀ e∈es,Lf k e) (h2:es.length≤2):∃ t:Str,t.length≤29000∧∀ T,cP 25 [.d (exR es)] T=some (.str t,T):=by
 obtain ⟨ts,g1,g2,g3⟩:=l0 hk h
 have hi:((es.length:Int)).natAbs≤1000000000000000000:=by omega
 have o:=(int_text hi).1
 have st:=mP (lg hi)
 generalize Str.ofString (toString (es.length:Int))=u at o st
 have c1:(Str.ofString "row").length=3:=by decide
 obtain ⟨j1,j2⟩:=jx (xs:=Str.ofString "row"::u::ts) (B:=7000) (fun x hx=>by
  rcases List.mem_cons.mp hx with rfl | q
  ·omega
  ·rcases List.mem_cons.mp q with rfl | q
   ·omega
   ·exact g2 x q) (by simp [g1]; omega)
 refine ⟨Str.join " " (Str.ofString "row"::u::ts),by rw [List.length_cons,List.length_cons,g1] at j2; omega,fun T=>?_⟩
 have n1:Str.ofString "row"≠Str.ofString "put":=by decide
 have n2:Str.ofString "row"≠Str.ofString "got":=by decide
 have ap:nm (Str.ofString "row"::u::ts)=PyData.str "row"::.str u::nm ts:=rfl
 have z:2 + (nm ts).length≤sizeLine:=by rw [a9,g1,sz]; omega
 have z1:1 < sizeLine:=by rw [sz]; decide
 rw [ap] at j1
 unfold cP
 simp [exR,aV,n1,n2,g3 23,st,z,z1,j1]
theorem mz {k:Nat} {e:PyData} (h:Ex k e) (hk:k≤1000):∃ t:Str,t.length≤29000∧∀ T,cP 25 [.d e] T=some (.str t,T):=by
 cases h with
 | lf h=>
  obtain ⟨t,h1,h2⟩:=qL h hk
  exact ⟨t,by omega,h2 24⟩
 | @two w a b hw ha hb=>
  have wl:(Str.ofString w).length≤10:=by rcases hw with rfl | rfl | rfl | rfl | rfl <;> decide
  obtain ⟨n1,n2,n3,_⟩:=rQ hw
  obtain ⟨t,h1,h2⟩:=rV ⟨n1,n2,n3⟩ wl hk (es:=[a,b]) (fun e he=>by
   simp only [List.mem_cons,List.not_mem_nil,or_false] at he
   rcases he with rfl | rfl
   ·exact ha
   ·exact hb) (by simp) rfl
  exact ⟨t,by omega,h2⟩
 | @row es h2 hes=>exact Aw hk hes h2
 | @many a ha=>
  obtain ⟨t,h1,h2⟩:=rV (w:="many") ⟨by decide,by decide,by decide⟩ (by decide) hk (es:=[a]) (fun e he=>by
   rw [List.mem_singleton] at he
   exact he ▸ ha) (by simp) rfl
  exact ⟨t,by omega,h2⟩
theorem BH {h k:Nat} {r:PyData} (c:RC h k r):∀ n,h≤n→h≤6→k + h≤1000→∃ t:Str,t.length + 30000≤30000 * 2 ^ (h + 1)∧∀ T,df (n + 1) [.d r] T=some (.str t,T):=by
 induction c with
 | @say h k e he=>
  intro n hn h6 hk
  obtain ⟨t,h1,h2⟩:=mz he (by omega)
  have n1:Str.ofString "say"≠Str.ofString "fail":=by decide
  have c1:(Str.ofString "say").length=3:=by decide
  obtain ⟨j1,j2⟩:=jx (xs:=[Str.ofString "say",t]) (B:=29000) (fun x hx=>by
   simp only [List.mem_cons,List.not_mem_nil,or_false] at hx
   rcases hx with rfl | rfl <;> omega) (by simp)
  have e1:(Str.join " " [Str.ofString "say",t]).length≤29004:=by
   have:(Str.join " " [Str.ofString "say",t])=Str.ofString "say"++Str.ofString " "++t:=rfl
   rw [this,len_app,len_app,c1,show (Str.ofString " ").length=1 by decide]
   omega
  have p2:2≤2 ^ (h + 1):=by rw [Nat.pow_succ]; have:=Nat.one_le_two_pow (n:=h); omega
  refine ⟨Str.join " " [Str.ofString "say",t],by omega,fun T=>?_⟩
  have ap:nm [Str.ofString "say",t]=[PyData.str "say",.str t]:=rfl
  have z:2≤sizeLine:=by rw [sz]; decide
  have sl:bN [PyData.str "say",e] (some 2) none=[]:=rfl
  rw [ap] at j1
  unfold df
  simp [dr,aV,n1,h2,sl,a6,z,j1]
 | @fail h k w hw=>
  intro n hn h6 hk
  have c1:(Str.ofString "fail ").length=5:=by decide
  have hl:=hw.1
  have z:(Str.ofString "fail ").length + w.length≤sizeLine:=by rw [c1,sz]; omega
  have p2:2≤2 ^ (h + 1):=by rw [Nat.pow_succ]; have:=Nat.one_le_two_pow (n:=h); omega
  refine ⟨Str.ofString "fail "++w,by rw [len_app,c1]; omega,fun T=>?_⟩
  unfold df
  simp [fT,aV,z]
 | @want h k b e r he hr ih=>
  intro n hn h6 hk
  obtain ⟨j,rfl⟩:∃ j,n=j + 1:=⟨n - 1,by omega⟩
  obtain ⟨t,h1,h2⟩:=mz he (by omega)
  obtain ⟨u,g1,g2⟩:=ih j (by omega) (by omega) (by omega)
  obtain ⟨wd,hwd⟩:∃ wd,wd=Str.ofString (if b then "peek" else "want"):=⟨_,rfl⟩
  have c1:wd.length=4:=by rw [hwd]; cases b <;> decide
  have n1:wd≠Str.ofString "fail":=by rw [hwd]; cases b <;> decide
  have p6:2 ^ (h + 1)≤64:=Nat.le_trans (Nat.pow_le_pow_right (by decide) (show h + 1≤6 by omega)) (by decide)
  obtain ⟨j1,j2⟩:=jx (xs:=[wd,t,u]) (B:=2000000) (fun x hx=>by
   simp only [List.mem_cons,List.not_mem_nil,or_false] at hx
   rcases hx with rfl | rfl | rfl <;> omega) (by simp)
  have e1:(Str.join " " [wd,t,u]).length≤29010 + u.length:=by
   have:(Str.join " " [wd,t,u])=wd++Str.ofString " "++(t++Str.ofString " "++u):=rfl
   rw [this,len_app,len_app,len_app,len_app,c1,show (Str.ofString " ").length=1 by decide]
   omega
  have pe:2 ^ (h + 1 + 1)=2 ^ (h + 1) * 2:=Nat.pow_succ _ _
  have p2:2≤2 ^ (h + 1):=by rw [Nat.pow_succ]; have:=Nat.one_le_two_pow (n:=h); omega
  refine ⟨Str.join " " [wd,t,u],by rw [pe]; omega,fun T=>?_⟩
  have ap:nm [wd,t,u]=[PyData.str wd,.str t,.str u]:=rfl
  have z:3≤sizeLine:=by rw [sz]; decide
  have sl:bN [PyData.str wd,e,r] (some 2) none=[r]:=rfl
  have i0:atI [PyData.str wd,e,r] 0=some (.str wd)∧atI [PyData.str wd,e,r] 1=some e:=⟨rfl,rfl⟩
  rw [ap] at j1
  unfold df b9
  rw [← hwd]
  simp [i0,n1,h2,sl,a6,g2,z,j1]
 | @when h k e p q he hp hq ip iq=>
  intro n hn h6 hk
  obtain ⟨j,rfl⟩:∃ j,n=j + 1:=⟨n - 1,by omega⟩
  obtain ⟨t,h1,h2⟩:=mz he (by omega)
  obtain ⟨u,g1,g2⟩:=ip j (by omega) (by omega) (by omega)
  obtain ⟨v,f1,f2⟩:=iq j (by omega) (by omega) (by omega)
  obtain ⟨wd,hwd⟩:∃ wd,wd=Str.ofString "when":=⟨_,rfl⟩
  have c1:wd.length=4:=by rw [hwd]; decide
  have n1:wd≠Str.ofString "fail":=by rw [hwd]; decide
  have p6:2 ^ (h + 1)≤64:=Nat.le_trans (Nat.pow_le_pow_right (by decide) (show h + 1≤6 by omega)) (by decide)
  obtain ⟨j1,j2⟩:=jx (xs:=[wd,t,u,v]) (B:=2000000) (fun x hx=>by
   simp only [List.mem_cons,List.not_mem_nil,or_false] at hx
   rcases hx with rfl | rfl | rfl | rfl <;> omega) (by simp)
  have e1:(Str.join " " [wd,t,u,v]).length≤29010 + u.length + v.length:=by
   have:(Str.join " " [wd,t,u,v])=wd++Str.ofString " "++(t++Str.ofString " "++(u++Str.ofString " "++v)):=rfl
   rw [this,len_app,len_app,len_app,len_app,len_app,len_app,c1,show (Str.ofString " ").length=1 by decide]
   omega
  have pe:2 ^ (h + 1 + 1)=2 ^ (h + 1) * 2:=Nat.pow_succ _ _
  refine ⟨Str.join " " [wd,t,u,v],by rw [pe]; omega,fun T=>?_⟩
  have ap:nm [wd,t,u,v]=[PyData.str wd,.str t,.str u,.str v]:=rfl
  have z:4≤sizeLine:=by rw [sz]; decide
  have sl:bN [PyData.str wd,e,p,q] (some 2) none=[p,q]:=rfl
  have i0:atI [PyData.str wd,e,p,q] 0=some (.str wd)∧atI [PyData.str wd,e,p,q] 1=some e:=⟨rfl,rfl⟩
  rw [ap] at j1
  unfold df eV
  rw [← hwd]
  simp [i0,n1,h2,sl,a6,g2,f2,z,j1]
theorem yA {v:PyData} (h:Va 4 v):∃ b,(∀ T,cY [.d v] T=some (.bool b,T))∧(b=true→∃ x,v=.str x):=by
 cases h with
 | int h=>exact ⟨false,fun T=>by simp [cY,cI],fun z=>nomatch z⟩
 | tup h g=>exact ⟨false,fun T=>by simp [cY,b5],fun z=>nomatch z⟩
 | @str _ x h=>
  have z:x.length≤sizeLine:=by have:=h.1; rw [sz]; omega
  have c:∀ (ρ:Rho) (T:Tp),a6 bo (af inD (aa 0) (fC (.str "abcdefghijklmnopqrstuvwxyz"))) ρ (D.signs x) T=some ((D.signs x).map fun d=>.bool (nc "abcdefghijklmnopqrstuvwxyz" d),T):=fun ρ T=>eK (g:=fun d=>.bool (nc "abcdefghijklmnopqrstuvwxyz" d)) fun d hd=>by
   obtain ⟨c,_,rfl⟩:=wy hd
   simp [nc]
  by_cases h1:1≤x.length
  ·have h1':(1:Int)≤x.length:=by omega
   by_cases h8:x.length≤8
   ·have h8':(x.length:Int)≤8:=by omega
    exact ⟨_,fun T=>by simp [cY,b6,z,h1,h1',h8,h8',c]; rfl,fun _=>⟨x,rfl⟩⟩
   ·have h8':¬ (x.length:Int)≤8:=by omega
    exact ⟨false,fun T=>by simp [cY,b6,z,h1,h1',h8,h8'],fun z=>nomatch z⟩
  ·have h1':¬ (1:Int)≤x.length:=by omega
   have h0:x.length=0:=by omega
   exact ⟨false,fun T=>by simp [cY,b6,z,h0],fun z=>nomatch z⟩
def js (m:FnM) (ws:List D.W) (T1:Tp):Option (D.W×Tp):=if jD ws=true then (match m (ws.map iK) [] with
 | some (x,_)=>if bF x=true then some (.d x,T1) else none
 | none=>none) else none
@[simp] theorem D4 {m:FnM} {a:FA} {ρ:Rho} {T:Tp}:eO m a ρ T=bnd (a ρ T) (js m):=rfl
theorem pZ {m:FnM} {ws:List D.W} {T T':Tp} {x:PyData} (h1:jD ws=true) (h2:m (ws.map iK) []=some (x,T')) (h3:bF x=true):js m ws T=some (.d x,T):=by
 unfold js
 rw [if_pos h1,h2]
 dsimp only
 rw [if_pos h3]
@[simp] theorem Do {s:Str} {ds:List (PyData×PyData)}:fL (.str s) (.dict ds)=some (.bool (!(aZ ds s).isSome)):=rfl
@[simp] theorem EI {s:Str} {ds:List (PyData×PyData)}:ixA (.dict ds) (.str s)=aZ ds s:=rfl
theorem gv:∀ {ds:List PyData},(∀ d∈ds,bF d=true)→eA ds=true
 | [],_=>rfl
 | d::r,h=>by
  show (bF d && eA r)=true
  rw [h d List.mem_cons_self,gv fun x hx=>h x (List.mem_cons_of_mem _ hx)]
  rfl
theorem qI {n:Nat} {v:PyData} (h:Va n v):bF v=true:=by
 induction h with
 | int _=>rfl
 | str _=>rfl
 | tup _ _ ih=>exact gv ih
theorem yD {r:PyData} (h:Tl r):bF r=true:=by
 cases h with
 | va h=>
  show (true && (bF _ && true))=true
  rw [qI h]; rfl
 | fa _=>rfl
abbrev SS:=Str×Str
def Rd (rs:List SS):List PyData:=rs.map fun p=>.tuple [.str p.1,.str p.2]
theorem Az (rs:List SS):(Rd rs).length=rs.length:=by simp [Rd]
def tlD (a b:Str):PyData:=.tuple [.str a,.str b]
def g6:Str:=Str.ofString "made"
structure FoK (rs:List SS) (a b:Str):Prop where
 rd:∀ p∈rs,Lo p.1∧Lo p.2
 la:Lo a
 lb:Lo b
 ln:rs.length≤5
inductive Fo:PyData→Prop where
 | no {rs:List SS} {a b:Str}:FoK rs a b→a≠g6→Fo (.tuple [.tuple (Rd rs),tlD a b])
 | ok {rs:List SS} {b:Str} {v:PyData}:FoK rs g6 b→Va 4 v→Fo (.tuple [.tuple (Rd rs),tlD g6 b,v])
def KV (gd:Dc):Prop:=∀ n v,aZ gd n=some v→Va 4 v
def ρF (r:PyData) (gd:Dc) (got:List PyData) (rs:List SS) (o:Option W):Rho:=[some (.d r),some (.d (.dict gd)),some (.loc (.list got)),some (.loc (.list (Rd rs))),o]
theorem gD {e t:PyData} {got:List PyData} {T:Tp} (h:∀ T,bI 25 [.d e,.d (.list got)] T=some (t,T)) (ht:Tl t):js (bI 25) [.d e,.loc (.list got)] T=some (.d t,T):=pZ rfl (h []) (yD ht)
theorem iJ:Str.ofString "value"≠Str.ofString "fails":=by decide
theorem oq:Str.ofString "peek"≠Str.ofString "when":=by decide
theorem om:Str.ofString "want"≠Str.ofString "when":=by decide
theorem CT:Str.ofString "peek"≠Str.ofString "want":=by decide
theorem at3 {α:Type} {a b c:α}:atI [a,b,c] 0=some a∧atI [a,b,c] 1=some b∧atI [a,b,c] 2=some c:=⟨rfl,rfl,rfl⟩
theorem uh {α:Type} {a b c d:α}:atI [a,b,c,d] 0=some a∧atI [a,b,c,d] 1=some b∧atI [a,b,c,d] 2=some c∧atI [a,b,c,d] 3=some d:=⟨rfl,rfl,rfl,rfl⟩
theorem fW (s:String) (g:((Str.ofString s).cps.toList.all fun c=>decide (c < 128))=true:=by decide +kernel):Lo (Str.ofString s):=cR g
section
variable {gd:Dc} {got:List PyData} {rs:List SS} {o:Option W} {e t:PyData} {T:Tp}
theorem qK {w:Str} {rest:List PyData} {x:Str} (h:∀ T,bI 25 [.d e,.d (.list got)] T=some (faD w,T)) (ht:Tl (faD w)) (hi:atI (PyData.str x::e::rest) 1=some e):∃ ρ',c5 (ρF (.tuple (.str x::e::rest)) gd got rs o) T=some ((.rt (.tuple [.tuple (Rd rs),tlD "fails" w]),ρ'),T):=by
 have cf:=gD (T:=T) h ht
 refine ⟨ρF (.tuple (.str x::e::rest)) gd got rs (some (.d (faD w))),?_⟩
 unfold faD ρF at *
 simp [c5,hi,cf,aV,tlD]
theorem A8 {v:PyData} (h:Va 4 v):∃ b,inG v (.tuple [.int 0,.str "",.tuple []])=some (.bool b):=by
 have h3:([PyData.int 0,.str "",.tuple []].all SeqAt.shaped)=true:=by decide +kernel
 refine ⟨([PyData.int 0,.str "",.tuple []].any fun y=>PyData.eqv y v),?_⟩
 show (if SeqAt.shaped v=true∧([PyData.int 0,.str "",.tuple []].all SeqAt.shaped)=true then some (PyData.bool ([PyData.int 0,.str "",.tuple []].any fun y=>PyData.eqv y v)) else none)=_
 rw [if_pos ⟨h.sp.sh (by decide),h3⟩]
theorem yG {v p q:PyData} (h:∀ T,bI 25 [.d e,.d (.list got)] T=some (vaD v,T)) (hv:Va 4 v):∃ r',(r'=p∨r'=q)∧c5 (ρF (eV e p q) gd got rs o) T=some ((.nx,ρF r' gd got rs (some (.d (vaD v)))),T):=by
 have cf:=gD (T:=T) h (.va hv)
 obtain ⟨b,hb⟩:=A8 hv
 refine ⟨if b then q else p,by cases b <;> simp,?_⟩
 unfold vaD ρF eV at *
 cases b <;> simp [c5,uh,cf,aV,iJ,hb]
theorem wq {b:Bool} {v r:PyData} (h:∀ T,bI 25 [.d e,.d (.list got)] T=some (vaD v,T)) (hv:Va 4 v) (hn:∀ T,cY [.d v] T=some (.bool false,T)):∃ ρ',c5 (ρF (b9 b e r) gd got rs o) T=some ((.rt (.tuple [.tuple (Rd rs),tlD "fails" "name"]),ρ'),T):=by
 have cf:=gD (T:=T) h (.va hv)
 refine ⟨ρF (b9 b e r) gd got rs (some (.d (vaD v))),?_⟩
 unfold vaD ρF b9 at *
 cases b <;> simp [c5,at3,cf,aV,iJ,oq,om,hn,tlD]
theorem yI {b:Bool} {n:Str} {r:PyData} (h:∀ T,bI 25 [.d e,.d (.list got)] T=some (vaD (.str n),T)) (hv:Va 4 (.str n)) (hn:∀ T,cY [.d (.str n)] T=some (.bool true,T)) (hk:aZ gd n=none):∃ ρ',c5 (ρF (b9 b e r) gd got rs o) T=some ((.rt (.tuple [.tuple (Rd rs),tlD "wants" n]),ρ'),T):=by
 have cf:=gD (T:=T) h (.va hv)
 refine ⟨ρF (b9 b e r) gd got rs (some (.d (vaD (.str n)))),?_⟩
 unfold vaD ρF b9 at *
 cases b <;> simp [c5,at3,cf,aV,iJ,oq,om,hn,hk,tlD]
theorem yH {b:Bool} {n:Str} {r v:PyData} (h:∀ T,bI 25 [.d e,.d (.list got)] T=some (vaD (.str n),T)) (hs:Va 4 (.str n)) (hn:∀ T,cY [.d (.str n)] T=some (.bool true,T)) (hk:aZ gd n=some v) (hv:Va 4 v) (l1:rs.length≤100) (l2:got.length≤1000):∃ rs',(rs'=rs∨rs'=rs++[(n,stp 24 v)])∧c5 (ρF (b9 b e r) gd got rs o) T=some ((.nx,ρF r gd (got++[v]) rs' (some (.d (vaD (.str n))))),T):=by
 have cf:=gD (T:=T) h (.va hs)
 have st:∀ T,cC 25 [.d v] T=some (.str (stp 24 v),T):=fun T=>m6 hv (by decide) 24 T (by decide)
 have z1:got.length < sizeLine:=by rw [sz]; omega
 have z2:(Rd rs).length < sizeLine:=by rw [sz,Az]; omega
 have rr:Rd rs++[.tuple [.str n,.str (stp 24 v)]]=Rd (rs++[(n,stp 24 v)]):=by simp [Rd]
 unfold vaD ρF b9 at *
 cases b with
 | true=>exact ⟨rs,.inl rfl,by simp [c5,at3,cf,aV,iJ,oq,CT,hn,hk,z1]⟩
 | false=>exact ⟨rs++[(n,stp 24 v)],.inr rfl,by simp [c5,at3,cf,aV,iJ,om,hn,hk,z1,z2,st,rr]⟩
end
theorem lz (x a b c:Str):inD (.str x) (.tuple [.str a,.str b,.str c])=some (.bool (decide (x=a) || decide (x=b) || decide (x=c))):=by
 have e:inD (.str x) (.tuple [.str a,.str b,.str c])=some (.bool (decide (a=x) || (decide (b=x) || (decide (c=x) || false)))):=rfl
 rw [e,Bool.or_false,Bool.or_assoc]
 congr 2
 rw [decide_eq_decide.mpr (show a=x↔x=a from ⟨fun z=>z.symm,fun z=>z.symm⟩),decide_eq_decide.mpr (show b=x↔x=b from ⟨fun z=>z.symm,fun z=>z.symm⟩),decide_eq_decide.mpr (show c=x↔x=c from ⟨fun z=>z.symm,fun z=>z.symm⟩)]
def foC:FT:=(au (af inD (af ixD (aa 0) (fC (.int 0))) (ay .tuple (ae (fC (.str "want")) (ae (fC (.str "peek")) (ae (fC (.str "when")) ai))))))
theorem kM {c:FT} {b:FS} {m:Nat} {ρ ρ':Rho} {T:Tp} {x:PyData} (hc:c ρ T=some (true,T)) (hb:b ρ T=some ((.rt x,ρ'),T)):bA c b (m + 1) ρ T=some ((.rt x,ρ'),T):=by
 show (bnd (c ρ T) fun b1 T1=>_)=_
 rw [hc]
 show (bnd (b ρ T) fun p T2=>_)=_
 rw [hb]
 rfl
theorem iu {c:FT} {b:FS} {m:Nat} {ρ ρ':Rho} {T:Tp} (hc:c ρ T=some (true,T)) (hb:b ρ T=some ((.nx,ρ'),T)):bA c b (m + 1) ρ T=bA c b m ρ' T:=by
 show (bnd (c ρ T) fun b1 T1=>_)=_
 rw [hc]
 show (bnd (b ρ T) fun p T2=>_)=_
 rw [hb]
 rfl
theorem gF {c:FT} {b:FS} {m:Nat} {ρ:Rho} {T:Tp} (hc:c ρ T=some (false,T)):bA c b (m + 1) ρ T=some ((.nx,ρ),T):=by
 show (bnd (c ρ T) fun b1 T1=>_)=_
 rw [hc]
 rfl
inductive Fin (k:Nat):PyData→Prop where
 | say {e:PyData}:Ex k e→Fin k (dr e)
 | fail {w:Str}:Nx 40 w→Fin k (fT w)
theorem zL {gd:Dc} (hg:KV gd) {h k:Nat} {r:PyData} (c:RC h k r):∀ (got:List PyData) (rs:List SS) (o:Option W) (T:Tp) (m:Nat),got.length=k→(∀ v∈got,Va 4 v)→(∀ p∈rs,Lo p.1∧Lo p.2)→rs.length≤k→k + h≤5→h < m →
  (∃ x ρ',bA foC c5 m (ρF r gd got rs o) T=some ((.rt x,ρ'),T)∧Fo x) ∨
  (∃ k' r' got' rs' o',bA foC c5 m (ρF r gd got rs o) T=some ((.nx,ρF r' gd got' rs' o'),T)∧Fin k' r'∧got'.length=k'∧(∀ v∈got',Va 4 v)∧(∀ p∈rs',Lo p.1∧Lo p.2)∧rs'.length≤5):=by
 induction c with
 | @say h k e he=>
  intro got rs o T m hl hv hr hrl hkh hm
  obtain ⟨m,rfl⟩:=lr m (by omega)
  refine .inr ⟨k,dr e,got,rs,o,gF ?_,.say he,hl,hv,hr,by omega⟩
  have:(decide (Str.ofString "say" = Str.ofString "want") || decide (Str.ofString "say" = Str.ofString "peek") || decide (Str.ofString "say" = Str.ofString "when"))=false:=by decide
  simp [foC,ρF,dr,aV,lz]
  simpa using this
 | @fail h k w hw=>
  intro got rs o T m hl hv hr hrl hkh hm
  obtain ⟨m,rfl⟩:=lr m (by omega)
  refine .inr ⟨k,fT w,got,rs,o,gF ?_,.fail hw,hl,hv,hr,by omega⟩
  have:(decide (Str.ofString "fail" = Str.ofString "want") || decide (Str.ofString "fail" = Str.ofString "peek") || decide (Str.ofString "fail" = Str.ofString "when"))=false:=by decide
  simp [foC,ρF,fT,aV,lz]
  simpa using this
 | @want h k b e r he hr' ih=>
  intro got rs o T m hl hv hr hrl hkh hm
  obtain ⟨m,rfl⟩:=lr m (by omega)
  have hc:∀ o,foC (ρF (b9 b e r) gd got rs o) T=some (true,T):=fun o=>by cases b <;> simp [foC,ρF,b9,at3,lz]
  obtain ⟨t,ht,et⟩:=mw hl hv he
  cases ht with
  | @fa w hw=>
   left
   obtain ⟨ρ',q⟩:=qK (gd:=gd) (rs:=rs) (o:=o) (T:=T) (x:=Str.ofString (if b then "peek" else "want")) (rest:=[r]) et (.fa hw) rfl
   exact ⟨_,ρ',kM (hc o) q,.no ⟨hr,fW "fails",hw.2,by omega⟩ (by decide)⟩
  | @va v hva=>
   obtain ⟨nb,hn,hx⟩:=yA hva
   cases nb with
   | false=>
    left
    obtain ⟨ρ',q⟩:=wq (gd:=gd) (rs:=rs) (o:=o) (T:=T) (b:=b) (r:=r) et hva hn
    exact ⟨_,ρ',kM (hc o) q,.no ⟨hr,fW "fails",fW "name",by omega⟩ (by decide)⟩
   | true=>
    obtain ⟨n,rfl⟩:=hx rfl
    have hlo:Lo n:=by cases hva with | str h=>exact h.2
    cases hk:aZ gd n with
    | none=>
     left
     obtain ⟨ρ',q⟩:=yI (gd:=gd) (rs:=rs) (o:=o) (T:=T) (b:=b) (r:=r) et hva hn hk
     exact ⟨_,ρ',kM (hc o) q,.no ⟨hr,fW "wants",hlo,by omega⟩ (by decide)⟩
    | some u=>
     have hu:=hg n u hk
     obtain ⟨rs',hrs,q⟩:=yH (gd:=gd) (rs:=rs) (o:=o) (T:=T) (b:=b) (r:=r) et hva hn hk hu (by omega) (by omega)
     rw [iu (hc o) q]
     have hr2:(∀ p∈rs',Lo p.1∧Lo p.2)∧rs'.length≤k + 1:=by
      rcases hrs with rfl | rfl
      ·exact ⟨hr,by omega⟩
      ·refine ⟨fun p hp=>?_,by simp; omega⟩
       rcases List.mem_append.mp hp with z | z
       ·exact hr p z
       ·rw [List.mem_singleton] at z
        subst z
        exact ⟨hlo,(jd hu 24 (by decide)).2⟩
     exact ih (got++[u]) rs' _ T m (by simp [hl]) (fun w hw=>by
      rcases List.mem_append.mp hw with z | z
      ·exact hv w z
      ·rw [List.mem_singleton] at z
       exact z ▸ hu) hr2.1 hr2.2 (by omega) (by omega)
 | @when h k e p q he hp hq ip iq=>
  intro got rs o T m hl hv hr hrl hkh hm
  obtain ⟨m,rfl⟩:=lr m (by omega)
  have hc:∀ o,foC (ρF (eV e p q) gd got rs o) T=some (true,T):=fun o=>by simp [foC,ρF,eV,uh,lz]
  obtain ⟨t,ht,et⟩:=mw hl hv he
  cases ht with
  | @fa w hw=>
   left
   obtain ⟨ρ',q⟩:=qK (gd:=gd) (rs:=rs) (o:=o) (T:=T) (x:=Str.ofString "when") (rest:=[p,q]) et (.fa hw) rfl
   exact ⟨_,ρ',kM (hc o) q,.no ⟨hr,fW "fails",hw.2,by omega⟩ (by decide)⟩
  | @va v hva=>
   obtain ⟨r',hr',s⟩:=yG (gd:=gd) (rs:=rs) (o:=o) (T:=T) (p:=p) (q:=q) et hva
   rw [iu (hc o) s]
   rcases hr' with rfl | rfl
   ·exact ip got rs _ T m hl hv hr hrl (by omega) (by omega)
   ·exact iq got rs _ T m hl hv hr hrl (by omega) (by omega)
theorem qG {gd:Dc} (hg:KV gd) {r:PyData} (c:RC 5 0 r):∃ x,Fo x∧dH [.d r,.d (.dict gd)] []=some (x,[]):=by
 rw [vG]
 rcases zL hg c [] [] none [] 100000 rfl (fun _ h=>nomatch h) (fun _ h=>nomatch h) (by simp) (by decide) (by decide) with ⟨x,ρ',e,hx⟩ | ⟨k',r',got,rs,o,e,hf,hl,hv,hr,hrl⟩
 ·refine ⟨x,hx,?_⟩
  unfold foC ρF at e
  have e':=e
  simp only [Rd,List.map_nil] at e'
  simp only [eE,dg,dh,if_true,List.map_cons,List.map_nil,List.length_cons,List.length_nil,List.cons_append,List.nil_append]
  show cg (aj (bB 2 ai) _ [some (.d r),some (.d (.dict gd)),none,none,none] [])=_
  rw [aQ (ρ1:=[some (.d r),some (.d (.dict gd)),some (.loc (.list [])),none,none]) (T1:=[]) (by simp),aQ (ρ1:=[some (.d r),some (.d (.dict gd)),some (.loc (.list [])),some (.loc (.list [])),none]) (T1:=[]) (by simp)]
  rw [il,e']
  rfl
 ·unfold foC ρF at e
  have e':=e
  simp only [Rd,List.map_nil] at e'
  cases hf with
  | @fail w hw=>
   refine ⟨_,.no (rs:=rs) (a:=Str.ofString "fails") (b:=w) ⟨hr,fW "fails",hw.2,hrl⟩ (by decide),?_⟩
   simp only [eE,dg,dh,if_true,List.map_cons,List.map_nil,List.length_cons,List.length_nil,List.cons_append,List.nil_append]
   show cg (aj (bB 2 ai) _ [some (.d r),some (.d (.dict gd)),none,none,none] [])=_
   rw [aQ (ρ1:=[some (.d r),some (.d (.dict gd)),some (.loc (.list [])),none,none]) (T1:=[]) (by simp),aQ (ρ1:=[some (.d r),some (.d (.dict gd)),some (.loc (.list [])),some (.loc (.list [])),none]) (T1:=[]) (by simp)]
   rw [il,e']
   simp [fT,aV,bW,tlD,Rd]
  | @say e2 he=>
   have n1:Str.ofString "say"≠Str.ofString "fail":=by decide
   obtain ⟨t,ht,et⟩:=mw hl hv he
   cases ht with
   | @fa w hw=>
    have cf:=gD (T:=[]) et (.fa hw)
    refine ⟨_,.no (rs:=rs) (a:=Str.ofString "fails") (b:=w) ⟨hr,fW "fails",hw.2,hrl⟩ (by decide),?_⟩
    simp only [eE,dg,dh,if_true,List.map_cons,List.map_nil,List.length_cons,List.length_nil,List.cons_append,List.nil_append]
    show cg (aj (bB 2 ai) _ [some (.d r),some (.d (.dict gd)),none,none,none] [])=_
    rw [aQ (ρ1:=[some (.d r),some (.d (.dict gd)),some (.loc (.list [])),none,none]) (T1:=[]) (by simp),aQ (ρ1:=[some (.d r),some (.d (.dict gd)),some (.loc (.list [])),some (.loc (.list [])),none]) (T1:=[]) (by simp)]
    rw [il,e']
    unfold faD at cf
    simp [dr,aV,n1,cf,bW,tlD,Rd]
   | @va v hva=>
    have cf:=gD (T:=[]) et (.va hva)
    have st:=m6 hva (by decide) 24 [] (by decide)
    refine ⟨_,.ok (rs:=rs) (b:=stp 24 v) (v:=v) ⟨hr,fW "made",(jd hva 24 (by decide)).2,hrl⟩ hva,?_⟩
    simp only [eE,dg,dh,if_true,List.map_cons,List.map_nil,List.length_cons,List.length_nil,List.cons_append,List.nil_append]
    show cg (aj (bB 2 ai) _ [some (.d r),some (.d (.dict gd)),none,none,none] [])=_
    rw [aQ (ρ1:=[some (.d r),some (.d (.dict gd)),some (.loc (.list [])),none,none]) (T1:=[]) (by simp),aQ (ρ1:=[some (.d r),some (.d (.dict gd)),some (.loc (.list [])),some (.loc (.list [])),none]) (T1:=[]) (by simp)]
    rw [il,e']
    unfold vaD at cf
    simp [dr,aV,n1,iJ,cf,bW,tlD,Rd,st,g6]
abbrev Dl:=List (Str×PyData)
def ky (l:Dl):List Str:=l.map (·.1)
theorem bP (s:Str):∀ l:Dl,aZ (aq l) s=l.lookup s
 | []=>rfl
 | (k,d)::r=>by
  have ih:=bP s r
  show (if k=s then some d else aZ (aq r) s)=_
  rw [List.lookup_cons,ih]
  by_cases h:k=s
  ·subst h; simp
  ·have h':(s == k)=false:=beq_eq_false_iff_ne.mpr fun z=>h z.symm
   rw [if_neg h,h']
theorem ia {s:Str} {d:PyData}:∀ {l:Dl},l.lookup s=some d→(s,d)∈l
 | [],h=>nomatch h
 | (k,e)::r,h=>by
  rw [List.lookup_cons] at h
  by_cases hk:s=k
  ·subst hk
   simp at h
   subst h
   exact List.mem_cons_self
  ·have h':(s == k)=false:=beq_eq_false_iff_ne.mpr hk
   rw [h'] at h
   exact List.mem_cons_of_mem _ (ia h)
theorem gq {s:Str}:∀ {l:Dl},s∈ky l→∃ d,l.lookup s=some d
 | [],h=>nomatch h
 | (k,e)::r,h=>by
  rw [List.lookup_cons]
  by_cases hk:s=k
  ·subst hk; exact ⟨e,by simp⟩
  ·have h':(s == k)=false:=beq_eq_false_iff_ne.mpr hk
   rw [h']
   exact gq (by
    rcases List.mem_cons.mp h with z | z
    ·exact absurd z hk
    ·exact z)
theorem j9 {s:Str} {d:PyData} {l:Dl} (h:l.lookup s=some d):s∈ky l:=List.mem_map.mpr ⟨_,ia h,rfl⟩
theorem ma {s:Str} {l:Dl}:(l.lookup s).isSome=decide (s∈ky l):=by
 by_cases h:s∈ky l
 ·obtain ⟨d,e⟩:=gq h
  rw [e,decide_eq_true h]; rfl
 ·rw [decide_eq_false h]
  cases e:l.lookup s with
  | none=>rfl
  | some d=>exact absurd (j9 e) h
theorem j6 {s:Str} {d:PyData}:∀ {l:Dl},(ky l).Nodup→(s,d)∈l→l.lookup s=some d
 | [],_,h=>nomatch h
 | (k,e)::r,nd,h=>by
  have nd':k∉ky r∧(ky r).Nodup:=List.nodup_cons.mp nd
  rw [List.lookup_cons]
  rcases List.mem_cons.mp h with z | z
  ·cases z; simp
  ·have hk:s∈ky r:=List.mem_map.mpr ⟨_,z,rfl⟩
   have h':(s == k)=false:=beq_eq_false_iff_ne.mpr fun q=>nd'.1 (q ▸ hk)
   rw [h']
   exact j6 nd'.2 z
theorem qT (s:Str) (x:PyData):∀ l:Dl,d6 (aq l) s x=aq (l.map fun p=>if p.1=s then (p.1,x) else p)
 | []=>rfl
 | (k,d)::r=>by
  have ih:=qT s x r
  show (if k=s then (PyData.str k,x)::d6 (aq r) s x else (PyData.str k,d)::d6 (aq r) s x)=_
  rw [ih,List.map_cons]
  by_cases h:k=s
  ·simp [h,aq]
  ·simp [h,aq]
def putL (l:Dl) (s:Str) (x:PyData):Dl:=if s∈ky l then l.map fun p=>if p.1=s then (p.1,x) else p else l++[(s,x)]
theorem dM (l:Dl) (s:Str) (x:PyData):putN (aq l) s x=aq (putL l s x):=by
 unfold putN putL
 rw [bP,ma]
 by_cases h:s∈ky l
 ·rw [decide_eq_true h,if_pos rfl,if_pos h,qT]
 ·rw [decide_eq_false h,if_neg (by decide),if_neg h]
  simp [aq]
theorem nq (l:Dl) (s:Str) (x:PyData):ky (putL l s x)=if s∈ky l then ky l else ky l++[s]:=by
 unfold putL
 by_cases h:s∈ky l
 ·rw [if_pos h,if_pos h]
  unfold ky
  rw [List.map_map]
  refine List.map_congr_left fun p _=>?_
  simp only [Function.comp]
  split <;> rfl
 ·rw [if_neg h,if_neg h]
  simp [ky]
theorem qV {l:Dl} {s:Str} {x:PyData} {p:Str×PyData} (h:p∈putL l s x):p∈l∨p=(s,x):=by
 unfold putL at h
 split at h
 ·obtain ⟨q,hq,e⟩:=List.mem_map.mp h
  split at e
  ·rename_i z
   exact .inr (by rw [← e,z])
  ·exact .inl (e ▸ hq)
 ·rcases List.mem_append.mp h with z | z
  ·exact .inl z
  ·exact .inr (by simpa using z)
structure Dq (P:PyData→Prop) (K:List Str) (l:Dl):Prop where
 nd:(ky l).Nodup
 ok:∀ p∈l,P p.2∧p.1∈K
theorem Dq.nil {P:PyData→Prop} {K:List Str}:Dq P K []:=⟨by simp [ky],fun _ h=>nomatch h⟩
theorem Dq.put {P:PyData→Prop} {K:List Str} {l:Dl} (h:Dq P K l) {s:Str} {x:PyData} (hx:P x) (hs:s∈K):Dq P K (putL l s x):=by
 refine ⟨?_,fun p hp=>?_⟩
 ·rw [nq]
  split
  ·exact h.nd
  ·rename_i z
   rw [List.nodup_append]
   exact ⟨h.nd,by simp,fun a ha b hb=>by simp at hb; subst hb; exact fun q=>z (q ▸ ha)⟩
 ·rcases qV hp with z | rfl
  ·exact h.ok p z
  ·exact ⟨hx,hs⟩
theorem Dq.look {P:PyData→Prop} {K:List Str} {l:Dl} (h:Dq P K l) {s:Str} {x:PyData} (e:l.lookup s=some x):P x:=(h.ok _ (ia e)).1
theorem eB {α:Type} [DecidableEq α] {L N:List α} (nd:L.Nodup) (h:∀ x∈L,x∈N):L.length≤N.length:=by
 apply Nat.le_of_not_lt
 intro z
 obtain ⟨x,hx,nx⟩:=nz nd z
 exact nx (h x hx)
theorem Dq.len {P:PyData→Prop} {K:List Str} {l:Dl} (h:Dq P K l):l.length≤K.length:=by
 have:=eB h.nd (N:=K) fun x hx=>by
  obtain ⟨p,hp,rfl⟩:=List.mem_map.mp hx
  exact (h.ok p hp).2
 simpa [ky] using this
theorem dj (l:Dl):(aq l).length=l.length:=by simp [aq]
@[simp] theorem C8 {xs:List (PyData×PyData)} {r:List W} {T:Tp}:views T (.loc (.dict xs)::r)=jB (.dict xs) (views T r):=rfl
@[simp] theorem Eg {i:Nat} {ρ:Rho} {T:Tp}:cK i ρ T=some ((.nx,ρ.set i (some (.loc (.dict [])))),T):=rfl
@[simp] theorem Es {i:Nat} {fk fv:FE} {ρ:Rho} {T:Tp}:bM i fk fv ρ T=bnd (fv ρ T) fun w T1=>kR i fk ρ w T1 ρ[i]?:=rfl
@[simp] theorem DN {i:Nat} {fk:FE} {ρ:Rho} {w:D.W} {T:Tp} {ds:Dc}:kR i fk ρ w T (some (some (.loc (.dict ds))))=bnd (fk ρ T) (kS i ρ ds w):=rfl
@[simp] theorem DQ {i:Nat} {ρ:Rho} {T:Tp} {ds:Dc} {x:PyData} {s:Str}:kS i ρ ds (.d x) (.d (.str s)) T=if ds.length≤1000 then some ((.nx,ρ.set i (some (.loc (.dict (putN ds s x))))),T) else none:=rfl
theorem iw {o:PyData→PyData→Option PyData} {ds:Dc} {T:Tp} {y:PyData}:op2 o T (.d y) (.loc (.dict ds))=mkD T (o y (.dict ds)):=rfl
@[simp] theorem mj {i:Nat} {m:FnM} {g:FA} {fr:FS} {ρ:Rho} {T:Tp}:fN i m g fr ρ T=bnd (g ρ T) fun ws T1=>bnd (m ws T1) (kz i fr ρ):=rfl
theorem l7 {i:Nat} {fr:FS} {ρ ρ':Rho} {xs xs':List PyData} {fl:Fl} (h:fr (ρ.set i (some (.tp 0))) [xs]=some ((fl,ρ'),[xs'])):kz i fr ρ (.list xs) []=some ((fl,iE 0 ρ'),[]):=by
 show iZ 0 (fr (ρ.set i (some (.tp 0))) [xs])=_
 rw [h]
 rfl
def Bk (l:List Str) (d0 r0:Dl):Prop:=Dq (Va 2) l d0∧Dq (RC 5 0) l r0
def bkD (d0 r0:Dl):PyData:=.tuple [.dict (aq d0),.dict (aq r0)]
def scr (ns:List Int):PyData:=.list (ns.map PyData.int)
section
variable {l:List Str} (hn:Ns l) (h0:0 < l.length) (h1:l.length≤20)
include hn h0 h1 in
theorem Aa {d0 r0:Dl} (hb:Bk l d0 r0) {xs:List PyData} (hf:Fr xs) {sc ba:PyData} {pk:Bool} {j:Int} (j0:0≤j) (j1:j < l.length) {o8:Option W} :
  ∃ d1 r1 w xs',hZ [some (.d sc),some (.d ba),some (.d (.list (nm l))),some (.d (.bool pk)),some (.loc (.dict (aq d0))),some (.loc (.dict (aq r0))),some (.d (.int j)),some (.tp 0),o8] [xs]=some ((.nx,[some (.d sc),some (.d ba),some (.d (.list (nm l))),some (.d (.bool pk)),some (.loc (.dict (aq d1))),some (.loc (.dict (aq r1))),some (.d (.int j)),some (.tp 0),some (.d (.int w))]),[xs'])∧Bk l d1 r1:=by
 obtain ⟨w,x1,e1,f1,w0,w1⟩:=bi hf (m:=8) (by decide) (by decide)
 obtain ⟨y,ey,my⟩:=iF j0 j1
 have z1:(aq d0).length≤1000:=by rw [dj]; have:=hb.1.len; omega
 have z2:(aq r0).length≤1000:=by rw [dj]; have:=hb.2.len; omega
 by_cases h2:w < 2
 ·obtain ⟨v,x2,e2,hv,f2⟩:=jc f1 hn h0 h1
  exact ⟨putL d0 y v,r0,w,x2,by simp [hZ,e1,h2,e2,ey,z1,dM],hb.1.put hv my,hb.2⟩
 ·by_cases h7:w < 7
  ·obtain ⟨r,x2,e2,hr,f2⟩:=sT hn h0 h1 f1 pk
   exact ⟨d0,putL r0 y r,w,x2,by simp [hZ,e1,h2,h7,e2,ey,z2,dM],hb.1,hb.2.put hr my⟩
  ·exact ⟨d0,r0,w,x1,by simp [hZ,e1,h2,h7],hb⟩
include hn h0 h1 in
theorem Bx (ns:List Int) {ba:Int} (hba:0≤ba) (pk:Bool):∃ d0 r0,gm [.d (scr ns),.d (.int ba),.d (.list (nm l)),.d (.bool pk)] []=some (bkD d0 r0,[])∧Bk l d0 r0:=by
 have lp:=dY (i:=6) (body:=lU) (N:=20) (I:=fun _ ρ T=>∃ d0 r0 o6 w8,ρ=[some (.d (scr ns)),some (.d (.int ba)),some (.d (.list (nm l))),some (.d (.bool pk)),some (.loc (.dict (aq d0))),some (.loc (.dict (aq r0))),o6,none,w8]∧T=[]∧Bk l d0 r0)
  (bL 0 l.length) 0 [some (.d (scr ns)),some (.d (.int ba)),some (.d (.list (nm l))),some (.d (.bool pk)),some (.loc (.dict [])),some (.loc (.dict [])),none,none,none] [] (by rw [dX]; omega) ⟨[],[],none,none,rfl,rfl,.nil,.nil⟩ (fun k d ρ T hd _ hI=>by
   obtain ⟨d0,r0,o6,w8,rfl,rfl,hb⟩:=hI
   obtain ⟨j,rfl,j0,j1⟩:=jU hd
   obtain ⟨xs,hf,ef⟩:=fO ns (ba + j) (by omega)
   obtain ⟨d1,r1,w,xs',e,hb'⟩:=Aa hn h0 h1 hb hf (sc:=scr ns) (ba:=.int ba) (pk:=pk) j0 j1 (o8:=w8)
   refine ⟨[some (.d (scr ns)),some (.d (.int ba)),some (.d (.list (nm l))),some (.d (.bool pk)),some (.loc (.dict (aq d1))),some (.loc (.dict (aq r1))),some (.d (.int j)),none,some (.d (.int w))],[],?_,d1,r1,_,_,rfl,rfl,hb'⟩
   have oo:=l7 (i:=7) (fr:=hZ) (ρ:=[some (.d (scr ns)),some (.d (.int ba)),some (.d (.list (nm l))),some (.d (.bool pk)),some (.loc (.dict (aq d0))),some (.loc (.dict (aq r0))),some (.d (.int j)),none,w8]) e
   have ef':=ef []
   unfold lU
   unfold scr at ef' oo ⊢
   simp only [mj,List.set_cons_succ,List.set_cons_zero,i8,i7,i6,i5,i4,kc,ka,mO,dO,iS,jr,i9,jn,mS,jp,jo,ef',oo]
   rfl)
 obtain ⟨ρ',T',e,d0,r0,o6,w8,rfl,rfl,hb⟩:=lp
 refine ⟨d0,r0,?_,hb⟩
 have ro:dm (l.length:Int)=true:=rng_ok (by omega) (by omega)
 have tn:((l.length:Int)).toNat=l.length:=by omega
 rw [wX]
 simp [a9,ro,tn]
 rw [e]
 simp [bkD,bW]
end
def pr (p:Str×PyData):PyData:=.tuple [.str p.1,p.2]
theorem qW:∀ l:Dl,gG (l.map pr)=some l
 | []=>rfl
 | (s,d)::r=>by
  have ih:=qW r
  show (match pairD (pr (s,d)) with | some p=>(match gG (r.map pr) with | some ps=>some (p::ps) | none=>none) | none=>none)=_
  rw [ih]
  rfl
theorem jW (l:Dl):(aq l).map (·.1)=nm (ky l):=by
 unfold aq nm ky
 rw [List.map_map,List.map_map]
 rfl
theorem qC {c:FT} {e:FE} {ρ:Rho} {T:Tp} {y:Str} {l:Dl} (hc:∀ s,c (some (.d (.str s))::ρ) T=some (!decide (s=y),T)) (he:∀ s d,(s,d)∈l→e (some (.d (.str s))::ρ) T=some (.d (.tuple [.str s,d]),T)):a6 c e ρ (nm (ky l)) T=some ((l.filter fun p=>!decide (p.1=y)).map pr,T):=by
 induction l with
 | nil=>rfl
 | cons p r ih=>
  obtain ⟨s,d⟩:=p
  have ih':=ih fun s d h=>he s d (List.mem_cons_of_mem _ h)
  have h1:=hc s
  have h2:=he s d List.mem_cons_self
  show a6 c e ρ (.str s::nm (ky r)) T=_
  unfold a6
  rw [h1]
  by_cases hs:s=y
  ·simp [hs,ih']
  ·simp [hs,h2,ih',pr]
theorem Dq.drop {P:PyData→Prop} {K:List Str} {l:Dl} (h:Dq P K l) (f:Str×PyData→Bool):Dq P K (l.filter f):=by
 refine ⟨?_,fun p hp=>h.ok p (List.mem_filter.mp hp).1⟩
 exact List.Nodup.sublist (List.Sublist.map _ List.filter_sublist) h.nd
theorem qg {i:Nat} {fe:FE} {ρ:Rho} {T:Tp} {l:Dl} (h:fe ρ T=some (.d (.list (l.map pr)),T)) (nd:(ky l).Nodup) (hl:l.length≤1000):jj i fe ρ T=some ((.nx,ρ.set i (some (.loc (.dict (aq l))))),T):=by
 unfold jj
 rw [h]
 show km i ρ T (gG (l.map pr))=_
 rw [qW]
 have:ol l=true:=by
  unfold ol
  have nd':(l.map fun x=>x.1).Nodup:=nd
  rw [decide_eq_true nd',decide_eq_true hl]
  rfl
 unfold km
 dsimp only
 rw [if_pos this]
section
variable {l:List Str} (hn:Ns l) (h0:0 < l.length) (h1:l.length≤20)
include hn h0 h1 in
theorem yw {d0 r0:Dl} (hb:Bk l d0 r0) {xs:List PyData} (hf:Fr xs) (pk:Bool):∃ d1 r1 xs',fB [.tp 0,.d (bkD d0 r0),.d (.list (nm l)),.d (.bool pk)] [xs]=some (bkD d1 r1,[xs'])∧Bk l d1 r1:=by
 obtain ⟨y,x1,r,e1,ey,my,f1⟩:=kL hn h0 h1 hf
 obtain ⟨w,x2,e2,f2,w0,w1⟩:=bi f1 (m:=5) (by decide) (by decide)
 let d1:=d0.filter fun p=>!decide (p.1=y)
 let r1:=r0.filter fun p=>!decide (p.1=y)
 have hd1:Dq (Va 2) l d1:=hb.1.drop _
 have hr1:Dq (RC 5 0) l r1:=hb.2.drop _
 have z1:d1.length≤1000:=by have:=hd1.len; omega
 have z2:r1.length≤1000:=by have:=hr1.len; omega
 have s1:aD 4 (af ixD (aa 2) (aw aI (ae (aa 0) (ae (fCB aR (ae (aa 2) ai)) ai)))) [some (.tp 0),some (.d (bkD d0 r0)),some (.d (.list (nm l))),some (.d (.bool pk)),none,none,none,none] [xs]=some ((.nx,[some (.tp 0),some (.d (bkD d0 r0)),some (.d (.list (nm l))),some (.d (.bool pk)),some (.d (.str y)),none,none,none]),[x1]):=by
  simp [a9,e1,ey]
 have s2:=qg (i:=5) (fe:=bf (aW (af ixD (aa 1) (fC (.int 0)))) (au (af neD (aa 0) (aa 5))) (ay .tuple (ae (aa 0) (ae (af ixA (af ixD (aa 2) (fC (.int 0))) (aa 0)) ai)))) (ρ:=[some (.tp 0),some (.d (bkD d0 r0)),some (.d (.list (nm l))),some (.d (.bool pk)),some (.d (.str y)),none,none,none]) (T:=[x1]) (l:=d1) (by
  have c:=qC (c:=au (af neD (aa 0) (aa 5))) (e:=ay .tuple (ae (aa 0) (ae (af ixA (af ixD (aa 2) (fC (.int 0))) (aa 0)) ai))) (ρ:=[some (.tp 0),some (.d (bkD d0 r0)),some (.d (.list (nm l))),some (.d (.bool pk)),some (.d (.str y)),none,none,none]) (T:=[x1]) (y:=y) (l:=d0) (fun s=>by simp) (fun s d hm=>by
   have k:=j6 hb.1.nd hm
   simp [bkD,aV,bP,k])
  unfold bkD at c ⊢
  simp [aV,jW,c]
  rfl) hd1.nd z1
 have s3:=qg (i:=6) (fe:=bf (aW (af ixD (aa 1) (fC (.int 1)))) (au (af neD (aa 0) (aa 5))) (ay .tuple (ae (aa 0) (ae (af ixA (af ixD (aa 2) (fC (.int 1))) (aa 0)) ai)))) (ρ:=[some (.tp 0),some (.d (bkD d0 r0)),some (.d (.list (nm l))),some (.d (.bool pk)),some (.d (.str y)),some (.loc (.dict (aq d1))),none,none]) (T:=[x1]) (l:=r1) (by
  have c:=qC (c:=au (af neD (aa 0) (aa 5))) (e:=ay .tuple (ae (aa 0) (ae (af ixA (af ixD (aa 2) (fC (.int 1))) (aa 0)) ai))) (ρ:=[some (.tp 0),some (.d (bkD d0 r0)),some (.d (.list (nm l))),some (.d (.bool pk)),some (.d (.str y)),some (.loc (.dict (aq d1))),none,none]) (T:=[x1]) (y:=y) (l:=r0) (fun s=>by simp) (fun s d hm=>by
   have k:=j6 hb.2.nd hm
   simp [bkD,aV,bP,k])
  unfold bkD at c ⊢
  simp [aV,jW,c]
  rfl) hr1.nd z2
 have s4:aD 7 (aw aI (ae (aa 0) (ae (fC (.int 5)) ai))) [some (.tp 0),some (.d (bkD d0 r0)),some (.d (.list (nm l))),some (.d (.bool pk)),some (.d (.str y)),some (.loc (.dict (aq d1))),some (.loc (.dict (aq r1))),none] [x1]=some ((.nx,[some (.tp 0),some (.d (bkD d0 r0)),some (.d (.list (nm l))),some (.d (.bool pk)),some (.d (.str y)),some (.loc (.dict (aq d1))),some (.loc (.dict (aq r1))),some (.d (.int w))]),[x2]):=by simp [e2]
 have y1:(aq d1).length≤1000:=by rw [dj]; exact z1
 have y2:(aq r1).length≤1000:=by rw [dj]; exact z2
 unfold fB
 rw [eE]
 simp only [pT,dg,dh,if_true]
 show ∃ d1 r1 xs',cg (aj _ _ [some (.tp 0),some (.d (bkD d0 r0)),some (.d (.list (nm l))),some (.d (.bool pk)),none,none,none,none] [xs])=_∧_
 rw [aQ s1,aQ s2]
 simp only [List.set_cons_succ,List.set_cons_zero]
 rw [aQ s3]
 simp only [List.set_cons_succ,List.set_cons_zero]
 rw [aQ s4]
 by_cases h2:w < 2
 ·obtain ⟨v,x3,e3,hv,f3⟩:=jc f2 hn h0 h1
  exact ⟨putL d1 y v,r1,x3,by simp [h2,e3,y1,dM,bkD,bW],hd1.put hv my,hr1⟩
 ·by_cases h4:w < 4
  ·obtain ⟨r,x3,e3,hr,f3⟩:=sT hn h0 h1 f2 pk
   exact ⟨d1,putL r1 y r,x3,by simp [h2,h4,e3,y2,dM,bkD,bW],hd1,hr1.put hr my⟩
  ·exact ⟨d1,r1,x2,by simp [h2,h4,bkD,bW],hd1,hr1⟩
end
@[simp] theorem Dr:eX []=[]:=rfl
@[simp] theorem DX {o:Option W} {r:Rho}:eX (o::r)=o.bind iz::eX r:=rfl
@[simp] theorem DV {x:PyData}:iz (.d x)=some (.d x):=rfl
@[simp] theorem Dp {x:PyData}:iz (.loc x)=some (.d x):=rfl
@[simp] theorem EE {f:FE} {ρ:Rho} {T:Tp}:dD f ρ T=gR T (f (eX ρ) []):=rfl
theorem jV {x:PyData} {T T':Tp} (h:bF x=true):gR T (some (.d x,T'))=some (.d x,T):=by
 unfold gR
 dsimp only
 rw [if_pos h]
theorem mE (rs:List SS):bF (.tuple (Rd rs))=true:=gv fun d hd=>by
 obtain ⟨p,_,rfl⟩:=List.mem_map.mp hd
 rfl
theorem zK {x:PyData} (h:Fo x):bF x=true:=by
 cases h with
 | @no rs a b _ _=>
  refine gv fun d hd=>?_
  simp only [List.mem_cons,List.not_mem_nil,or_false] at hd
  rcases hd with rfl | rfl
  ·exact mE rs
  ·rfl
 | @ok rs b v _ hv=>
  refine gv fun d hd=>?_
  simp only [List.mem_cons,List.not_mem_nil,or_false] at hd
  rcases hd with rfl | rfl | rfl
  ·exact mE rs
  ·rfl
  ·exact qI hv
def ρG (d0 r0 g:Dl) (m:Int) (o3 o4:Option W):Rho:=[some (.d (bkD d0 r0)),some (.loc (.dict (aq g))),some (.d (.int m)),o3,o4]
section
variable {l:List Str} (h1:l.length≤20) {d0 r0:Dl} (hb:Bk l d0 r0)
theorem Dq.kv {n:Nat} (hn:n≤4) {K:List Str} {g:Dl} (h:Dq (Va n) K g):KV (aq g):=fun s v e=>by
 rw [bP] at e
 exact (h.look e).up hn
include h1 hb in
theorem zI {g:Dl} (hg:Dq (Va 4) l g) {m:Int} {o3 o4:Option W} {s:Str} {r:PyData} (hs:r0.lookup s=some r):∃ g' o4',hW ((ρG d0 r0 g m o3 o4).set 3 (some (.d (.str s)))) []=some ((.nx,ρG d0 r0 g' m (some (.d (.str s))) o4'),[])∧Dq (Va 4) l g'∧g.length≤g'.length:=by
 have hsl:s∈l:=(hb.2.ok _ (ia hs)).2
 have z:(aq g).length≤1000:=by rw [dj]; have:=hg.len; omega
 by_cases hi:s∈ky g
 ·obtain ⟨v,hv⟩:=gq hi
  exact ⟨g,o4,by simp [hW,ρG,iw,bP,hv],hg,Nat.le_refl _⟩
 ·have hv:g.lookup s=none:=by
   cases e:g.lookup s with
   | none=>rfl
   | some v=>exact absurd (j9 e) hi
  obtain ⟨x,hx,e⟩:=qG (hg.kv (Nat.le_refl 4)) (hb.2.look hs)
  have tb:=zK hx
  cases hx with
  | @no rs a b hk ha=>
   have ha':¬ a=Str.ofString "made":=ha
   refine ⟨g,some (.d (.tuple [.tuple (Rd rs),tlD a b])),?_,hg,Nat.le_refl _⟩
   have lk:=jV (T:=[]) (T':=[]) tb
   unfold tlD at e lk ⊢
   simp [hW,ρG,iw,bP,hv,bkD,aV,hs,e,lk,ha']
  | @ok rs b v hk hva=>
   refine ⟨putL g s v,some (.d (.tuple [.tuple (Rd rs),tlD g6 b,v])),?_,hg.put hva hsl,?_⟩
   ·have lk:=jV (T:=[]) (T':=[]) tb
    unfold tlD g6 at e lk ⊢
    simp [hW,ρG,iw,bP,hv,bkD,aV,at3,hs,e,lk,z,dM]
   ·have:=congrArg List.length (nq g s v)
    rw [if_neg hi] at this
    simp [ky] at this
    omega
def gdC:FT:=(au (af ltD (aa 2) (fCB aR (ae (aa 1) ai))))
theorem ud {g:Dl} {m:Int} {o3 o4:Option W} {T:Tp}:gdC (ρG d0 r0 g m o3 o4) T=some (decide (m < g.length),T):=by
 have:aR [.dict (aq g)]=some (.int g.length):=by
  show some (PyData.int (aq g).length)=_
  rw [dj]
 simp [gdC,ρG,this]
include h1 hb in
theorem zJ {g:Dl} (hg:Dq (Va 4) l g) {m:Int} {o3 o4:Option W}:∃ g' o3' o4',jT (ρG d0 r0 g m o3 o4) []=some ((.nx,ρG d0 r0 g' g.length o3' o4'),[])∧Dq (Va 4) l g'∧g.length≤g'.length:=by
 have ln:aR [.dict (aq g)]=some (.int g.length):=by
  show some (PyData.int (aq g).length)=_
  rw [dj]
 have lp:=dY (i:=3) (body:=hW) (N:=20) (I:=fun _ ρ T=>∃ g' o3 o4,ρ=ρG d0 r0 g' g.length o3 o4∧T=[]∧Dq (Va 4) l g'∧g.length≤g'.length) (nm (ky r0)) 0 (ρG d0 r0 g g.length o3 o4) [] (by have:=hb.2.len; simp [nm,ky]; omega) ⟨g,o3,o4,rfl,rfl,hg,Nat.le_refl _⟩ (fun k d ρ T hd _ hI=>by
  obtain ⟨g',p3,p4,rfl,rfl,hg',hl⟩:=hI
  obtain ⟨s,hs,rfl⟩:=List.mem_map.mp hd
  obtain ⟨r,er⟩:=gq hs
  obtain ⟨g2,q4,e,hg2,hl2⟩:=zI h1 hb hg' (m:=g.length) (o3:=p3) (o4:=p4) er
  exact ⟨_,_,e,g2,_,_,rfl,rfl,hg2,by omega⟩)
 obtain ⟨ρ',T',e,g',p3,p4,rfl,rfl,hg',hl⟩:=lp
 refine ⟨g',p3,p4,?_,hg',hl⟩
 unfold jT
 rw [aQ (ρ1:=ρG d0 r0 g g.length o3 o4) (T1:=[]) (by simp [ρG,ln])]
 rw [jq]
 have it:aW (af ixD (aa 0) (fC (.int 1))) (ρG d0 r0 g g.length o3 o4) []=some (nm (ky r0),[]):=by simp [ρG,bkD,aV,jW]
 rw [it]
 exact e
include h1 hb in
theorem rA:∀ (f:Nat) (g:Dl) (m:Int) (o3 o4:Option W),Dq (Va 4) l g→((g.length:Int)≤m∧1≤f)∨l.length + 1 - g.length < f→∃ g' m' o3' o4',bA gdC jT f (ρG d0 r0 g m o3 o4) []=some ((.nx,ρG d0 r0 g' m' o3' o4'),[])∧Dq (Va 4) l g'
 | 0,g,m,o3,o4,hg,h=>by omega
 | f + 1,g,m,o3,o4,hg,h=>by
  have hl:=hg.len
  by_cases hc:m < g.length
  ·obtain ⟨g2,p3,p4,e,hg2,hl2⟩:=zJ h1 hb hg (m:=m) (o3:=o3) (o4:=o4)
   rw [iu (by rw [ud,decide_eq_true hc]) e]
   exact rA f g2 _ p3 p4 hg2 (by omega)
  ·rw [gF (by rw [ud,decide_eq_false hc])]
   exact ⟨g,m,o3,o4,rfl,hg⟩
include h1 hb in
theorem sS:∃ g,gk [.d (bkD d0 r0)] []=some (.dict (aq g),[])∧Dq (Va 4) l g:=by
 have hd:Dq (Va 4) l d0:=⟨hb.1.nd,fun p hp=>⟨(hb.1.ok p hp).1.up (by decide),(hb.1.ok p hp).2⟩⟩
 obtain ⟨g,m,o3,o4,e,hg⟩:=rA h1 hb 100000 d0 (-1) none none hd (by omega)
 refine ⟨g,?_,hg⟩
 rw [wW]
 unfold gdC ρG at e
 have sd:fM 1 (af ixD (aa 0) (fC (.int 0))) [some (.d (bkD d0 r0)),none,none,none,none] []=some ((.nx,[some (.d (bkD d0 r0)),some (.loc (.dict (aq d0))),none,none,none]),[]):=rfl
 rw [eE]
 simp only [dg,dh,if_true]
 show cg (aj _ _ [some (.d (bkD d0 r0)),none,none,none,none] [])=_
 rw [aQ sd,aQ (ρ1:=[some (.d (bkD d0 r0)),some (.loc (.dict (aq d0))),some (.d (.int (-1))),none,none]) (T1:=[]) (by simp),aQ e]
 simp [bW]
end
@[simp] theorem DF {o:Option W} {r:Rho} {T:Tp}:aa 10 (o::r) T=aa 9 r T:=dz
@[simp] theorem DD {o:Option W} {r:Rho} {T:Tp}:aa 11 (o::r) T=aa 10 r T:=dz
@[simp] theorem DC {o:Option W} {r:Rho} {T:Tp}:aa 12 (o::r) T=aa 11 r T:=dz
def lnD (n:Str) (rs:List SS) (a b:Str):PyData:=.tuple [.str n,.tuple (Rd rs),tlD a b]
def Hx (n:Str) (x:PyData):Prop:=Lo n∧∃ t rs a b,x=.tuple [.str t,lnD n rs a b]∧FoK rs a b
structure Hq (l:List Str) (h:Dl):Prop where
 nd:(ky h).Nodup
 ok:∀ p∈h,p.1∈l∧Hx p.1 p.2
theorem Hq.nil {l:List Str}:Hq l []:=⟨by simp [ky],fun _ h=>nomatch h⟩
theorem Hq.put {l:List Str} {h:Dl} (q:Hq l h) {s:Str} {x:PyData} (hs:s∈l) (hx:Hx s x):Hq l (putL h s x):=by
 refine ⟨?_,fun p hp=>?_⟩
 ·rw [nq]
  split
  ·exact q.nd
  ·rename_i z
   rw [List.nodup_append]
   exact ⟨q.nd,by simp,fun a ha b hb=>by simp at hb; subst hb; exact fun w=>z (w ▸ ha)⟩
 ·rcases qV hp with z | rfl
  ·exact q.ok p z
  ·exact ⟨hs,hx⟩
theorem Hq.len {l:List Str} {h:Dl} (q:Hq l h):h.length≤l.length:=by
 have:=eB q.nd (N:=l) fun x hx=>by
  obtain ⟨p,hp,rfl⟩:=List.mem_map.mp hx
  exact (q.ok p hp).1
 simpa [ky] using this
def ρH (sc ba bs:PyData) (l:List Str) (h:Dl) (gs:PyData) (k:Int) (o8 o9 o10 o11:Option W):Rho:=[some (.d sc),some (.d ba),some (.d bs),some (.d (.list (nm l))),some (.loc (.dict (aq h))),some (.d gs),some (.d (.int k)),some (.tp 0),o8,o9,o10,o11]
section
variable {l:List Str} (hn:Ns l) (h0:0 < l.length) (h1:l.length≤20)
variable {sc ba bs gs:PyData} {h:Dl} {k:Int} {o8 o11:Option W}
include hn h0 h1 in
theorem zA {xs:List PyData} (hf:Fr xs) {o10:Option W}:∃ g xs' p10,forL 10 iP (nm l) (ρH sc ba bs l h gs k o8 (some (.loc (.dict []))) o10 o11) [xs]=some ((.nx,ρH sc ba bs l h gs k o8 (some (.loc (.dict (aq g)))) p10 o11),[xs'])∧Dq (Va 2) l g∧Fr xs':=by
 have lp:=dY (i:=10) (body:=iP) (N:=20) (I:=fun _ ρ T=>∃ g xs p10,ρ=ρH sc ba bs l h gs k o8 (some (.loc (.dict (aq g)))) p10 o11∧T=[xs]∧Fr xs∧Dq (Va 2) l g) (nm l) 0 (ρH sc ba bs l h gs k o8 (some (.loc (.dict []))) o10 o11) [xs] (by rw [a9]; omega) ⟨[],xs,o10,rfl,rfl,hf,.nil⟩ (fun _ d ρ T hd _ hI=>by
  obtain ⟨g,xs,p10,rfl,rfl,hf,hg⟩:=hI
  obtain ⟨s,hs,rfl⟩:=List.mem_map.mp hd
  obtain ⟨w,x1,e1,f1,w0,w1⟩:=bi hf (m:=4) (by decide) (by decide)
  have z:(aq g).length≤1000:=by rw [dj]; have:=hg.len; omega
  by_cases hw:0 < w
  ·obtain ⟨v,x2,e2,hv,f2⟩:=jc f1 hn h0 h1
   exact ⟨ρH sc ba bs l h gs k o8 (some (.loc (.dict (aq (putL g s v))))) (some (.d (.str s))) o11,[x2],by simp [iP,ρH,e1,hw,e2,z,dM],_,_,_,rfl,rfl,f2,hg.put hv hs⟩
  ·exact ⟨ρH sc ba bs l h gs k o8 (some (.loc (.dict (aq g)))) (some (.d (.str s))) o11,[x1],by simp [iP,ρH,e1,hw],_,_,_,rfl,rfl,f1,hg⟩)
 obtain ⟨ρ',T',e,g,xs',p10,rfl,rfl,f,hg⟩:=lp
 exact ⟨g,xs',p10,e,hg,f⟩
theorem Ba {x:PyData} (hx:Fo x):∃ rs a b,FoK rs a b∧ie x none (some 2)=some (.tuple [.tuple (Rd rs),tlD a b]):=by
 cases hx with
 | @no rs a b hk _=>exact ⟨rs,a,b,hk,rfl⟩
 | @ok rs b v hk _=>exact ⟨rs,g6,b,hk,rfl⟩
theorem zw {t n:Str} {rs:List SS} {a b:Str}:bF (.tuple [.str t,lnD n rs a b])=true:=by
 refine gv fun d hd=>?_
 simp only [List.mem_cons,List.not_mem_nil,or_false] at hd
 rcases hd with rfl | rfl
 ·rfl
 ·refine gv fun d hd=>?_
  simp only [List.mem_cons,List.not_mem_nil,or_false] at hd
  rcases hd with rfl | rfl | rfl
  ·rfl
  ·exact mE rs
  ·rfl
theorem sG (hn:Ns l) (h1:l.length≤20) (hh:Hq l h) {d0 r0:Dl} (hb:Bk l d0 r0) {b0 b1:PyData} {i:Int} (hbs:atI [b0,b1] i=some (bkD d0 r0)) {kn:Dc} (hkn:KV kn) {W9:W} (h9:iz W9=some (.d (.dict kn))) (k0:0≤k) (k1:k < l.length) {xs:List PyData} (hf:Fr xs) {o10:Option W} :
  ∃ h' xs' p11,fIf (cy (au (af inA (af ixD (aa 3) (aa 6)) (af ixD (af ixD (aa 2) (aa 8)) (fC (.int 1))))) (au (af gtD (aw aI (ae (aa 7) (ae (fC (.int 5)) ai))) (fC (.int 0))))) (aj (aD 11 (af ixA (af ixD (af ixD (aa 2) (aa 8)) (fC (.int 1))) (af ixD (aa 3) (aa 6)))) (bM 4 (af ixD (aa 3) (aa 6)) (dD (ay .tuple (ae (aw (df 25) (ae (aa 11) ai)) (ae (af aO (ay .tuple (ae (af ixD (aa 3) (aa 6)) ai)) (fSl (aw dH (ae (aa 11) (ae (aa 9) ai))) cX (fP (fC (.int 2))))) ai)))))) aC (ρH sc ba (.list [b0,b1]) l h gs k (some (.d (.int i))) (some W9) o10 o11) [xs]=some ((.nx,ρH sc ba (.list [b0,b1]) l h' gs k (some (.d (.int i))) (some W9) o10 p11),[xs'])∧Hq l h':=by
 obtain ⟨y,ey,my⟩:=iF k0 k1
 have z:(aq h).length≤1000:=by rw [dj]; have:=hh.len; omega
 have ib:∀ s,inA (.str s) (.dict (aq r0))=some (.bool (decide (s∈ky r0))):=fun s=>by
  show (some (aZ (aq r0) s).isSome).map PyData.bool=_
  rw [bP,ma]
  rfl
 by_cases hi:y∈ky r0
 ·obtain ⟨r,er⟩:=gq hi
  obtain ⟨w,x1,e1,f1,w0,w1⟩:=bi hf (m:=5) (by decide) (by decide)
  by_cases hw:0 < w
  ·have rc:=hb.2.look er
   obtain ⟨t,_,et⟩:=BH rc 24 (by decide) (by decide) (by decide)
   obtain ⟨x,hx,ex⟩:=qG hkn rc
   obtain ⟨rs,a,b,fk,sl⟩:=Ba hx
   have et':=et []
   have lk:gR [x1] (some (.d (.tuple [.str t,lnD y rs a b]),[]))=some (.d (.tuple [.str t,lnD y rs a b]),[x1]):=jV zw
   have z3:[PyData.str y].length + [PyData.tuple (Rd rs),tlD a b].length≤sizeLine:=by rw [sz]; simp
   have z4:1 + 2≤sizeLine:=by rw [sz]; decide
   refine ⟨putL h y (.tuple [.str t,lnD y rs a b]),x1,some (.d r),?_,hh.put my ⟨(hn y my).2,t,rs,a,b,rfl,fk⟩⟩
   unfold lnD at lk ⊢
   simp [ρH,ey,hbs,bkD,aV,ib,hi,e1,hw,bP,er,h9,et',ex,sl,z4,lk,z,dM]
  ·exact ⟨h,x1,o11,by simp [ρH,ey,hbs,bkD,aV,ib,hi,e1,hw],hh⟩
 ·exact ⟨h,xs,o11,by simp [ρH,ey,hbs,bkD,aV,ib,hi],hh⟩
include hn h0 h1 in
theorem zH (hh:Hq l h) {d0 r0 d1 r1 g0 g1:Dl} (b0:Bk l d0 r0) (b1:Bk l d1 r1) (hg0:Dq (Va 4) l g0) (hg1:Dq (Va 4) l g1) (k0:0≤k) (k1:k < l.length) {xs:List PyData} (hf:Fr xs) {o9 o10:Option W} :
  ∃ h' xs' p8 p9 p10 p11,iO (ρH sc ba (.list [bkD d0 r0,bkD d1 r1]) l h (.list [.dict (aq g0),.dict (aq g1)]) k o8 o9 o10 o11) [xs]=some ((.nx,ρH sc ba (.list [bkD d0 r0,bkD d1 r1]) l h' (.list [.dict (aq g0),.dict (aq g1)]) k p8 p9 p10 p11),[xs'])∧Hq l h':=by
 obtain ⟨i,x1,e1,f1,i0,i1⟩:=bi hf (m:=2) (by decide) (by decide)
 obtain ⟨dd,rr,gg,hb,hbb,hg,hgg⟩:∃ dd rr gg,atI [bkD d0 r0,bkD d1 r1] i=some (bkD dd rr)∧Bk l dd rr∧atI [PyData.dict (aq g0),.dict (aq g1)] i=some (.dict (aq gg))∧Dq (Va 4) l gg:=by
  have:i=0∨i=1:=by omega
  rcases this with rfl | rfl
  ·exact ⟨d0,r0,g0,rfl,b0,rfl,hg0⟩
  ·exact ⟨d1,r1,g1,rfl,b1,rfl,hg1⟩
 have s1:aD 8 (aw aI (ae (aa 7) (ae (fCB aR (ae (aa 2) ai)) ai))) (ρH sc ba (.list [bkD d0 r0,bkD d1 r1]) l h (.list [.dict (aq g0),.dict (aq g1)]) k o8 o9 o10 o11) [xs]=some ((.nx,ρH sc ba (.list [bkD d0 r0,bkD d1 r1]) l h (.list [.dict (aq g0),.dict (aq g1)]) k (some (.d (.int i))) o9 o10 o11),[x1]):=by
  simp [ρH,e1]
 have s2:aD 9 (af ixD (aa 5) (aa 8)) (ρH sc ba (.list [bkD d0 r0,bkD d1 r1]) l h (.list [.dict (aq g0),.dict (aq g1)]) k (some (.d (.int i))) o9 o10 o11) [x1]=some ((.nx,ρH sc ba (.list [bkD d0 r0,bkD d1 r1]) l h (.list [.dict (aq g0),.dict (aq g1)]) k (some (.d (.int i))) (some (.d (.dict (aq gg)))) o10 o11),[x1]):=by
  simp [ρH,hg]
 obtain ⟨w,x2,e2,f2,w0,w1⟩:=bi f1 (m:=4) (by decide) (by decide)
 by_cases hw:w=0
 ·obtain ⟨g,x3,p10,e3,hg3,f3⟩:=zA hn h0 h1 (sc:=sc) (ba:=ba) (bs:=.list [bkD d0 r0,bkD d1 r1]) (gs:=.list [.dict (aq g0),.dict (aq g1)]) (h:=h) (k:=k) (o8:=some (.d (.int i))) (o11:=o11) f2 (o10:=o10)
  obtain ⟨h',x4,p11,e4,hh'⟩:=sG (sc:=sc) (ba:=ba) (gs:=.list [.dict (aq g0),.dict (aq g1)]) (o11:=o11) hn h1 hh hbb hb (hg3.kv (by decide)) (W9:=.loc (.dict (aq g))) rfl k0 k1 f3 (o10:=p10)
  refine ⟨h',x4,some (.d (.int i)),some (.loc (.dict (aq g))),p10,p11,?_,hh'⟩
  unfold iO
  rw [aQ s1,aQ s2,aQ (a:=fIf _ _ _) (ρ1:=ρH sc ba (.list [bkD d0 r0,bkD d1 r1]) l h (.list [.dict (aq g0),.dict (aq g1)]) k (some (.d (.int i))) (some (.loc (.dict (aq g)))) p10 o11) (T1:=[x3]) (by
   unfold ρH at e3 ⊢
   simp [e2,hw,e3])]
  exact e4
 ·obtain ⟨h',x4,p11,e4,hh'⟩:=sG (sc:=sc) (ba:=ba) (gs:=.list [.dict (aq g0),.dict (aq g1)]) (o11:=o11) hn h1 hh hbb hb (hgg.kv (by decide)) (W9:=.d (.dict (aq gg))) rfl k0 k1 f2 (o10:=o10)
  refine ⟨h',x4,some (.d (.int i)),some (.d (.dict (aq gg))),o10,p11,?_,hh'⟩
  unfold iO
  rw [aQ s1,aQ s2,aQ (a:=fIf _ _ _) (ρ1:=ρH sc ba (.list [bkD d0 r0,bkD d1 r1]) l h (.list [.dict (aq g0),.dict (aq g1)]) k (some (.d (.int i))) (some (.d (.dict (aq gg)))) o10 o11) (T1:=[x2]) (by
   unfold ρH
   simp [e2,hw])]
  exact e4
def ρI (sc ba bs:PyData) (l:List Str) (h:Dl) (gs:PyData) (o6 o8 o9 o10 o11:Option W):Rho:=[some (.d sc),some (.d ba),some (.d bs),some (.d (.list (nm l))),some (.loc (.dict (aq h))),some (.d gs),o6,none,o8,o9,o10,o11]
include hn h0 h1 in
theorem Bw (ns:List Int) {b:Int} (hb:0≤b) {d0 r0 d1 r1:Dl} (b0:Bk l d0 r0) (b1:Bk l d1 r1):∃ h,gj [.d (scr ns),.d (.int b),.d (.list [bkD d0 r0,bkD d1 r1]),.d (.list (nm l))] []=some (.dict (aq h),[])∧Hq l h:=by
 obtain ⟨g0,eg0,hg0⟩:=sS h1 b0
 obtain ⟨g1,eg1,hg1⟩:=sS h1 b1
 have lp:=dY (i:=6) (body:=lT) (N:=20) (I:=fun _ ρ T=>∃ h o6 o8 o9 o10 o11,ρ=ρI (scr ns) (.int b) (.list [bkD d0 r0,bkD d1 r1]) l h (.list [.dict (aq g0),.dict (aq g1)]) o6 o8 o9 o10 o11∧T=[]∧Hq l h)
  (bL 0 l.length) 0 (ρI (scr ns) (.int b) (.list [bkD d0 r0,bkD d1 r1]) l [] (.list [.dict (aq g0),.dict (aq g1)]) none none none none none) [] (by rw [dX]; omega) ⟨[],none,none,none,none,none,rfl,rfl,.nil⟩ (fun _ d ρ T hd _ hI=>by
   obtain ⟨h,o6,o8,o9,o10,o11,rfl,rfl,hh⟩:=hI
   obtain ⟨j,rfl,j0,j1⟩:=jU hd
   obtain ⟨xs,hf,ef⟩:=fO ns (b + j) (by omega)
   obtain ⟨h',xs',p8,p9,p10,p11,e,hh'⟩:=zH hn h0 h1 hh b0 b1 hg0 hg1 j0 j1 hf (sc:=scr ns) (ba:=.int b) (o8:=o8) (o9:=o9) (o10:=o10) (o11:=o11)
   refine ⟨ρI (scr ns) (.int b) (.list [bkD d0 r0,bkD d1 r1]) l h' (.list [.dict (aq g0),.dict (aq g1)]) (some (.d (.int j))) (p8.bind (dS 0)) (p9.bind (dS 0)) (p10.bind (dS 0)) (p11.bind (dS 0)),[],?_,h',_,_,_,_,_,rfl,rfl,hh'⟩
   have oo:=l7 (i:=7) (fr:=iO) (ρ:=(ρI (scr ns) (.int b) (.list [bkD d0 r0,bkD d1 r1]) l h (.list [.dict (aq g0),.dict (aq g1)]) (some (.d (.int j))) o8 o9 o10 o11)) e
   have ef':=ef []
   unfold lT
   unfold scr ρI at oo ⊢
   simp only [mj,List.set_cons_succ,List.set_cons_zero,i8,i7,i6,i5,i4,kc,ka,mO,dO,iS,jr,i9,jn,mS,jp,jo,ef',oo]
   rfl)
 obtain ⟨ρ',T',e,h,o6,o8,o9,o10,o11,rfl,rfl,hh⟩:=lp
 refine ⟨h,?_,hh⟩
 have ro:dm (l.length:Int)=true:=rng_ok (by omega) (by omega)
 have tn:((l.length:Int)).toNat=l.length:=by omega
 have d0':aq ([]:Dl)=[]:=rfl
 rw [wV]
 unfold ρI at e
 rw [d0'] at e
 simp [a6,eg0,eg1,a9,ro,tn]
 rw [e]
 simp [bW]
end
def wt (a b:Str):List Str:=if a=Str.ofString "wants" then [b] else []
def rn (rs:List SS):List Str:=rs.map (·.1)
def unS:PyData→Str
 | .str x=>x
 | _=>Str.ofString ""
def unP:PyData→SS
 | .tuple [a,b]=>(unS a,unS b)
 | _=>(Str.ofString "",Str.ofString "")
def oj:PyData→List SS
 | .tuple [_,.tuple [_,.tuple rs,_]]=>rs.map unP
 | _=>[]
def tK:PyData→List Str
 | .tuple [_,.tuple [_,_,.tuple [.str a,.str b]]]=>wt a b
 | _=>[]
def CU:PyData→PyData
 | .tuple [_,y]=>y
 | _=>.none
theorem mC (t n:Str) (rs:List SS) (a b:Str):oj (.tuple [.str t,lnD n rs a b])=rs:=by
 show (Rd rs).map unP=rs
 unfold Rd
 rw [List.map_map]
 have:(unP ∘ fun p:SS=>PyData.tuple [.str p.1,.str p.2])=id:=rfl
 rw [this,List.map_id]
theorem qH (t n:Str) (rs:List SS) (a b:Str):tK (.tuple [.str t,lnD n rs a b])=wt a b:=rfl
def rnH (h:Dl) (n:Str):List Str:=match h.lookup n with
 | some x=>rn (oj x)
 | none=>[]
def nx (h:Dl) (n:Str):List Str:=match h.lookup n with
 | some x=>rn (oj x)++tK x
 | none=>[]
def ln (h:Dl) (n:Str):PyData:=match h.lookup n with
 | some x=>CU x
 | none=>.none
inductive Reach (h:Dl) (roots:List Str):Str→Prop where
 | root {r:Str}:r∈roots→Reach h roots r
 | step {n m:Str}:Reach h roots n→m∈nx h n→Reach h roots m
def uc (h:Dl) (S:List Str):Nat:=((ky h).filter fun k=>!decide (k∈S)).length
theorem mN {α:Type} {p q:α→Bool}:∀ {L:List α},(∀ a∈L,q a=true→p a=true)→(L.filter q).length≤(L.filter p).length
 | [],_=>Nat.le_refl _
 | a::L,h=>by
  have ih:=mN (L:=L) fun x hx=>h x (List.mem_cons_of_mem _ hx)
  have h1:=h a List.mem_cons_self
  cases hq:q a with
  | true=>
   have hp:=h1 hq
   simp [hq,hp]; exact ih
  | false=>
   cases hp:p a with
   | true=>simp [hq,hp]; omega
   | false=>simp [hq,hp]; exact ih
theorem mM {α:Type} {p q:α→Bool} {x:α}:∀ {L:List α},(∀ a∈L,q a=true→p a=true)→x∈L→p x=true→q x=false→(L.filter q).length < (L.filter p).length
 | [],_,h,_,_=>nomatch h
 | a::L,h,hx,h1,h2=>by
  have hle:=mN (p:=p) (q:=q) (L:=L) fun x hx=>h x (List.mem_cons_of_mem _ hx)
  rcases List.mem_cons.mp hx with rfl | z
  ·simp [h1,h2]; omega
  ·have ih:=mM (L:=L) (fun x hx=>h x (List.mem_cons_of_mem _ hx)) z h1 h2
   have ha:=h a List.mem_cons_self
   cases hq:q a with
   | true=>
    have hp:=ha hq
    simp [hq,hp]; exact ih
   | false=>
    cases hp:p a with
    | true=>simp [hq,hp]; omega
    | false=>simp [hq,hp]; exact ih
theorem nV (h:Dl) (S:List Str) (x:Str):uc h (S++[x])≤uc h S:=mN fun a _ z=>by
 simp at z ⊢
 exact z.1
theorem nU {h:Dl} {S:List Str} {x:Str} (hx:x∈ky h) (hs:x∉S):uc h (S++[x]) + 1≤uc h S:=mM (x:=x) (fun a _ z=>by
 simp at z ⊢
 exact z.1) hx (by simp [hs]) (by simp)
theorem ny {l:List Str} {h:Dl} (q:Hq l h) (x:Str):(nx h x).length≤6∧(x∉ky h→nx h x=[]):=by
 unfold nx
 cases e:h.lookup x with
 | none=>exact ⟨by simp,fun _=>rfl⟩
 | some y=>
  obtain ⟨_,t,rs,a,b,e2,fk⟩:=(q.ok _ (ia e)).2
  dsimp only at e2
  subst e2
  refine ⟨?_,fun z=>absurd (j9 e) z⟩
  dsimp only
  rw [mC,qH,List.length_append]
  have:=fk.ln
  have:(wt a b).length≤1:=by unfold wt; split <;> simp
  unfold rn
  rw [List.length_map]
  omega
structure Inv (h:Dl) (roots S left:List Str):Prop where
 nd:S.Nodup
 rS:∀ x∈S,Reach h roots x
 rL:∀ x∈left,Reach h roots x
 ro:∀ r∈roots,r∈S∨r∈left
 cl:∀ n∈S,∀ m∈nx h n,m∈S∨m∈left
 ct:S.length + left.length + 6 * uc h S≤roots.length + 6 * h.length
theorem Inv.start (h:Dl) (roots:List Str):Inv h roots [] roots:=⟨by simp,fun _ z=>(nomatch z),fun x hx=>.root hx,fun r hr=>.inr hr,fun _ z=>(nomatch z),by
 have:uc h []≤h.length:=by
  unfold uc
  refine Nat.le_trans (List.length_filter_le _ _) ?_
  simp [ky]
 simp
 omega⟩
theorem Inv.old {h:Dl} {roots S left rest:List Str} (I:Inv h roots S left) {x:Str} (h1:∀ y∈left,y=x∨y∈rest) (h2:∀ y∈rest,y∈left) (h3:rest.length + 1=left.length) (hx:x∈S):Inv h roots S rest:=by
 have mv:∀ y,y∈S∨y∈left→y∈S∨y∈rest:=fun y z=>by
  rcases z with z | z
  ·exact .inl z
  ·rcases h1 y z with rfl | w
   ·exact .inl hx
   ·exact .inr w
 exact ⟨I.nd,I.rS,fun y hy=>I.rL y (h2 y hy),fun r hr=>mv r (I.ro r hr),fun n hn m hm=>mv m (I.cl n hn m hm),by have:=I.ct; omega⟩
theorem Inv.new {l:List Str} {h:Dl} (q:Hq l h) {roots S left rest:List Str} (I:Inv h roots S left) {x:Str} (h0:x∈left) (h1:∀ y∈left,y=x∨y∈rest) (h2:∀ y∈rest,y∈left) (h3:rest.length + 1=left.length) (hx:x∉S):Inv h roots (S++[x]) (rest++nx h x):=by
 have rx:=I.rL x h0
 have mv:∀ y,y∈S∨y∈left→y∈S++[x]∨y∈rest++nx h x:=fun y z=>by
  rcases z with z | z
  ·exact .inl (List.mem_append_left _ z)
  ·rcases h1 y z with rfl | w
   ·exact .inl (List.mem_append_right _ (List.mem_singleton.mpr rfl))
   ·exact .inr (List.mem_append_left _ w)
 refine ⟨?_,fun y hy=>?_,fun y hy=>?_,fun r hr=>mv r (I.ro r hr),fun n hn m hm=>?_,?_⟩
 ·rw [List.nodup_append]
  exact ⟨I.nd,by simp,fun a ha b hb=>by simp at hb; subst hb; exact fun w=>hx (w ▸ ha)⟩
 ·rcases List.mem_append.mp hy with z | z
  ·exact I.rS y z
  ·rw [List.mem_singleton.mp z]; exact rx
 ·rcases List.mem_append.mp hy with z | z
  ·exact I.rL y (h2 y z)
  ·exact .step rx z
 ·rcases List.mem_append.mp hn with z | z
  ·exact mv m (I.cl n z m hm)
  ·rw [List.mem_singleton.mp z] at hm
   exact .inr (List.mem_append_right _ hm)
 ·have c:=I.ct
  have n6:=ny q x
  rw [List.length_append,List.length_append,List.length_singleton]
  by_cases hk:x∈ky h
  ·have:=nU hk hx
   have:=n6.1
   omega
  ·have:=nV h S x
   rw [n6.2 hk,List.length_nil]
   omega
theorem Inv.done {h:Dl} {roots S:List Str} (I:Inv h roots S []) (x:Str):x∈S↔Reach h roots x:=by
 constructor
 ·exact I.rS x
 ·intro r
  induction r with
  | root hr=>exact (I.ro _ hr).resolve_right fun z=>nomatch z
  | step _ hm ih=>exact (I.cl _ ih _ hm).resolve_right fun z=>nomatch z
theorem rZ (rs:List SS) (ρ:Rho) (T:Tp):a6 bo (af ixD (aa 0) (fC (.int 0))) ρ (Rd rs) T=some (nm (rn rs),T):=by
 have h:=eK (e:=af ixD (aa 0) (fC (.int 0))) (ρ:=ρ) (T:=T) (g:=fun d=>.str (unP d).1) (ds:=Rd rs) fun d hd=>by
  obtain ⟨p,_,rfl⟩:=List.mem_map.mp hd
  simp [aV,unP,unS]
 rw [h]
 congr 2
 unfold Rd nm rn
 rw [List.map_map,List.map_map]
 rfl
theorem xm {n:Str} {rs:List SS} {a b:Str} (hl:rs.length≤5) (T:Tp):fG [.d (lnD n rs a b)] T=some (.list (nm (rn rs++wt a b)),T):=by
 have z:(nm (rn rs)).length + 1≤sizeLine:=by rw [a9,sz]; unfold rn; rw [List.length_map]; omega
 have z0:(nm (rn rs)).length≤sizeLine:=by omega
 by_cases h:a=Str.ofString "wants"
 ·simp [fG,lnD,tlD,at3,aV,h,rZ,z,wt,nm]
  intro q
  rw [a9] at z
  omega
 ·simp [fG,lnD,tlD,at3,aV,h,rZ,z0,wt,nm]
  intro q
  rw [a9] at z0
  omega
theorem mF:∀ (rs:List SS) (ρ:Rho) (T:Tp),dQ bo (aa 0) ρ (Rd rs) T=some (nm (rn rs),T)
 | [],_,_=>rfl
 | p::r,ρ,T=>by
  have ih:=mF r ρ T
  show dQ bo (aa 0) ρ (.tuple [.str p.1,.str p.2]::Rd r) T=_
  unfold dQ
  simp [ih,nm,rn]
theorem rep1 (x:PyData):jC (.list [x]) (.int 1)=some (.list [x]):=rfl
theorem rep0 (x:PyData):jC (.list [x]) (.int 0)=some (.list []):=rfl
@[simp] theorem D2 {it:FI} {c:FT} {e:FE} {ρ:Rho} {T:Tp}:nH it c e ρ T=bnd (it ρ T) fun ds T1=>bnd (dQ c e ρ ds T1) fun ys T2=>some (.d (.list ys),T2):=rfl
theorem wc {n:Str} {rs:List SS} {a b:Str} (hl:rs.length≤5) (T:Tp):fu [.d (lnD n rs a b)] T=some (.list (nm (rn rs++wt a b)),T):=by
 have z:(nm (rn rs)).length + 1≤sizeLine:=by rw [a9,sz]; unfold rn; rw [List.length_map]; omega
 have z0:(nm (rn rs)).length≤sizeLine:=by omega
 by_cases h:a=Str.ofString "wants"
 ·simp [fu,lnD,tlD,at3,aV,h,mF,eN,rep1,z,wt,nm]
  intro q
  rw [a9] at z
  omega
 ·simp [fu,lnD,tlD,at3,aV,h,mF,eN,rep0,z0,wt,nm]
  intro q
  rw [a9] at z0
  omega
def dl (h:Dl) (A:List Str):Dl:=A.map fun n=>(n,ln h n)
theorem gT (h:Dl) (A:List Str):ky (dl h A)=A:=by
 unfold ky dl
 rw [List.map_map]
 exact List.map_id _
theorem ja (h:Dl) (x:Str):∀ A:List Str,(dl h A).lookup x=if x∈A then some (ln h x) else none
 | []=>rfl
 | a::r=>by
  have ih:=ja h x r
  show List.lookup x ((a,ln h a)::dl h r)=_
  rw [List.lookup_cons,ih]
  by_cases e:x=a
  ·subst e; simp
  ·have e':(x == a)=false:=beq_eq_false_iff_ne.mpr e
   simp [e,e']
theorem qU {l:Dl} {s:Str} {x:PyData} (h:s∉ky l):putL l s x=l++[(s,x)]:=by
 unfold putL
 rw [if_neg h]
theorem sO {h:Dl} {A:List Str} {s:Str} (hs:s∉A):putL (dl h A) s (ln h s)=dl h (A++[s]):=by
 rw [qU (by rw [gT]; exact hs)]
 simp [dl]
theorem d8 (s:Str) (l:Dl):inA (.str s) (.dict (aq l))=some (.bool (decide (s∈ky l))):=by
 show (some (aZ (aq l) s).isSome).map PyData.bool=_
 rw [bP,ma]
 rfl
theorem Hq.at {l:List Str} {h:Dl} (q:Hq l h) {n:Str} (hn:n∈ky h):∃ t rs a b,h.lookup n=some (.tuple [.str t,lnD n rs a b])∧FoK rs a b∧Lo n∧ln h n=lnD n rs a b∧nx h n=rn rs++wt a b∧rnH h n=rn rs:=by
 obtain ⟨x,e⟩:=gq hn
 obtain ⟨hlo,t,rs,a,b,e2,fk⟩:=(q.ok _ (ia e)).2
 dsimp only at e2
 subst e2
 refine ⟨t,rs,a,b,e,fk,hlo,?_,?_,?_⟩
 ·unfold ln; rw [e]; rfl
 ·unfold nx; rw [e]; dsimp only; rw [mC,qH]
 ·unfold rnH; rw [e]; dsimp only; rw [mC]
section
variable {l:List Str} {h:Dl} (q:Hq l h)
include q in
theorem rz {T:Tp} {x0:PyData}:∀ (r:Dl) (A:List Str) (o2 o3:Option W),(∀ p∈r,p∈h)→(A++ky r).Nodup→A.length + r.length≤900→∃ p2 p3,fj 2 3 gi (aq r) [some (.d x0),some (.loc (.dict (aq (dl h A)))),o2,o3] T=some ((.nx,[some (.d x0),some (.loc (.dict (aq (dl h (A++ky r))))),p2,p3]),T)
 | [],A,o2,o3,_,_,_=>⟨o2,o3,by simp [ky]; rfl⟩
 | (n,x)::r,A,o2,o3,hr,nd,hl=>by
  have hm:=hr _ List.mem_cons_self
  have hk:n∈ky h:=List.mem_map.mpr ⟨_,hm,rfl⟩
  obtain ⟨t,rs,a,b,e,fk,hlo,e2,_,_⟩:=q.at hk
  have ex:x=.tuple [.str t,lnD n rs a b]:=by
   have:=j6 q.nd hm
   rw [e] at this
   exact (Option.some.inj this).symm
  rw [List.length_cons] at hl
  have nd':(A++n::ky r).Nodup:=nd
  have hn:n∉A:=fun z=>by
   rw [List.nodup_append] at nd'
   exact nd'.2.2 n z n List.mem_cons_self rfl
  obtain ⟨p2,p3,ih⟩:=rz (T:=T) (x0:=x0) r (A++[n]) (some (.d (.str n))) (some (.d x)) (fun p hp=>hr p (List.mem_cons_of_mem _ hp)) (by rw [List.append_assoc]; exact nd) (by simp; omega)
  refine ⟨p2,p3,?_⟩
  have z:(aq (dl h A)).length≤1000:=by rw [dj]; unfold dl; rw [List.length_map]; omega
  have bd:gi [some (.d x0),some (.loc (.dict (aq (dl h A)))),some (.d (.str n)),some (.d x)] T=some ((.nx,[some (.d x0),some (.loc (.dict (aq (dl h (A++[n]))))),some (.d (.str n)),some (.d x)]),T):=by
   have dp:=sO (h:=h) hn
   rw [e2] at dp
   rw [ex]
   simp [gi,aV,z,dM,dp]
  show fj 2 3 gi ((.str n,x)::aq r) _ T=_
  unfold fj
  simp only [List.set_cons_succ,List.set_cons_zero]
  rw [bd]
  refine Eq.trans ih ?_
  rw [List.append_assoc]
  rfl
include q in
theorem yB (hl:l.length≤20) (T:Tp):fE [.d (.dict (aq h))] T=some (.dict (aq (dl h (ky h))),T):=by
 have:=q.len
 obtain ⟨p2,p3,e⟩:=rz q (T:=T) (x0:=.dict (aq h)) h [] none none (fun _ z=>z) (by simpa using q.nd) (by simp; omega)
 rw [uE]
 have d0:aq (dl h [])=[]:=rfl
 rw [d0,List.nil_append] at e
 have fi:∀ (ρ:Rho) (T:Tp),k9 2 3 (aa 0) gi (some (.d (.dict (aq h)))::ρ) T=fj 2 3 gi (aq h) (some (.d (.dict (aq h)))::ρ) T:=fun _ _=>rfl
 simp [fi]
 rw [e]
 simp [bW]
def tr (S:List Str):Dl:=S.map fun n=>(n,.bool true)
theorem kN (S:List Str):ky (tr S)=S:=by
 unfold ky tr
 rw [List.map_map]
 exact List.map_id _
theorem Am {S:List Str} {s:Str} (hs:s∉S):putL (tr S) s (.bool true)=tr (S++[s]):=by
 rw [qU (by rw [kN]; exact hs)]
 simp [tr]
theorem yX {ρ:Rho} {T:Tp} {rest:List Str} {x:Str} (e:ρ[3]? = some (some (.loc (.list (nm (rest++[x])))))):iC 3 4 ρ T=some ((.nx,(ρ.set 3 (some (.loc (.list (nm rest))))).set 4 (some (.d (.str x)))),T):=by
 show kT 3 4 ρ T ρ[3]? = _
 rw [e]
 have h1:nm (rest++[x])=nm rest++[.str x]:=by simp [nm]
 unfold kT
 dsimp only
 rw [if_neg (by decide),h1]
 simp
@[simp] theorem FY {i:Nat} {f:FE} {ρ:Rho} {T:Tp}:lA i f ρ T=bnd (f ρ T) fun w T1=>match w,ρ[i]? with
 | .d (.list ys),some (some (.loc (.list xs)))=>if xs.length + ys.length≤sizeLine then some ((.nx,ρ.set i (some (.loc (.list (xs++ys))))),T1) else none
 | _,_=>none:=rfl
def ρR (D x:PyData) (c:PyData) (left:List Str) (o:Option W):Rho:=[some (.d D),some (.d x),some (.loc c),some (.loc (.list (nm left))),o]
def rcC:FT:=(au (af gtD (fCB aR (ae (aa 3) ai)) (fC (.int 0))))
theorem lm {D x c:PyData} {left:List Str} {o:Option W} {T:Tp}:rcC (ρR D x c left o) T=some (decide (0 < left.length),T):=by simp [rcC,ρR,a9]
include q in
theorem yJ (hl:l.length≤7) {roots S rest:List Str} (hr:roots.length≤20) {x:Str} (I:Inv h roots S (rest++[x])) {D0:PyData} {o:Option W} {T:Tp}:∃ S' left' ,g7 (ρR (.dict (aq (dl h (ky h)))) D0 (.dict (aq (tr S))) (rest++[x]) o) T=some ((.nx,ρR (.dict (aq (dl h (ky h)))) D0 (.dict (aq (tr S'))) left' (some (.d (.str x)))),T)∧Inv h roots S' left'∧left'.length + 7 * uc h S' < (rest++[x]).length + 7 * uc h S:=by
 have hm:∀ y∈rest++[x],y=x∨y∈rest:=fun y hy=>by
  rcases List.mem_append.mp hy with z | z
  ·exact .inr z
  ·exact .inl (List.mem_singleton.mp z)
 have hm2:∀ y∈rest,y∈rest++[x]:=fun y hy=>List.mem_append_left _ hy
 have ct:=I.ct
 have hql:=q.len
 rw [List.length_append,List.length_singleton] at ct
 have p1:iC 3 4 (ρR (.dict (aq (dl h (ky h)))) D0 (.dict (aq (tr S))) (rest++[x]) o) T=some ((.nx,ρR (.dict (aq (dl h (ky h)))) D0 (.dict (aq (tr S))) rest (some (.d (.str x)))),T):=yX rfl
 by_cases hx:x∈S
 ·refine ⟨S,rest,?_,I.old hm hm2 (by simp) hx,by simp⟩
  obtain ⟨v,kx⟩:=gq (s:=x) (l:=tr S) (by rw [kN]; exact hx)
  rw [← bP] at kx
  unfold g7
  rw [aQ p1]
  simp [ρR,iw,kx]
 ·have nl:=ny q x
  have I2:=I.new q (List.mem_append_right _ (List.mem_singleton.mpr rfl)) hm hm2 (by simp) hx
  have z:(aq (tr S)).length≤1000:=by rw [dj]; unfold tr; rw [List.length_map]; omega
  have tp:=Am hx
  have kx:aZ (aq (tr S)) x=none:=by
   rw [bP]
   cases e:(tr S).lookup x with
   | none=>rfl
   | some v=>exact absurd (by have:=j9 e; rw [kN] at this; exact this) hx
  by_cases hk:x∈ky h
  ·obtain ⟨t,rs,a,b,e,fk,hlo,e2,e3,_⟩:=q.at hk
   have ni:=xm (n:=x) (a:=a) (b:=b) fk.ln T
   have nl1:=nl.1
   have u:=nU hk hx
   have z2:rest.length + (rn rs++wt a b).length≤sizeLine:=by rw [← e3,sz]; omega
   refine ⟨S++[x],rest++nx h x,?_,I2,by simp; omega⟩
   unfold g7
   rw [aQ p1]
   have z3:(nm rest).length + (nm (rn rs++wt a b)).length≤sizeLine:=by rw [a9,a9]; exact z2
   have na:nm rest++nm (rn rs++wt a b)=nm (rest++(rn rs++wt a b)):=by simp [nm]
   simp only [ρR]
   have kd:aZ (aq (dl h (ky h))) x=some (lnD x rs a b):=by rw [bP,ja,if_pos hk,e2]
   simp only [List.length_append] at z2
   simp [iw,kx,z,dM,tp,d8,gT,hk,kd,ni,a9,z2,na,e3]
  ·have nx0:=nl.2 hk
   have u:=nV h S x
   rw [nx0,List.append_nil] at I2
   refine ⟨S++[x],rest,?_,I2,by simp; omega⟩
   have z2:rest.length≤sizeLine:=by rw [sz]; omega
   unfold g7
   rw [aQ p1]
   simp only [ρR]
   simp [iw,kx,z,dM,tp,d8,gT,hk,a9,z2]
end
theorem rT {A:Dl} (h:A.length < 64):dJ (.dict (aq A))=some (.list (nm (bK (ky A)))):=by
 show kP (cc (iA (aq A)))=_
 have k:iA (aq A)=nm (ky A):=jW A
 have s:cc (nm (ky A))=some (ky A):=by have:=jM (fun x:Str=>x) (ky A); simpa [nm] using this
 rw [k,s]
 show (if (ky A).length < 64 then some (PyData.list ((bK (ky A)).map .str)) else none)=_
 rw [if_pos (by simpa [ky] using h)]
 rfl
theorem sort_mem {A:List Str} {x:Str}:x∈bK A↔x∈A:=(hU A).mem_iff
theorem mx {A:List Str} (h:A.Nodup):(bK A).Nodup:=(hU A).nodup_iff.mpr h
section
variable {l:List Str} {h:Dl} (q:Hq l h) (hl:l.length≤7) {roots:List Str} (hr:roots.length≤20)
include q hl hr in
theorem qP {D0:PyData} {T:Tp}:∀ (m:Nat) (S left:List Str) (o:Option W),Inv h roots S left→left.length + 7 * uc h S < m→∃ S' o',bA rcC g7 m (ρR (.dict (aq (dl h (ky h)))) D0 (.dict (aq (tr S))) left o) T=some ((.nx,ρR (.dict (aq (dl h (ky h)))) D0 (.dict (aq (tr S'))) [] o'),T)∧Inv h roots S' []
 | 0,_,_,_,_,z=>by omega
 | m + 1,S,left,o,I,z=>by
  rcases List.eq_nil_or_concat left with rfl | ⟨rest,x,rfl⟩
  ·exact ⟨S,o,gF (by rw [lm]; rfl),I⟩
  ·rw [List.concat_eq_append] at I z ⊢
   obtain ⟨S',left',e,I',lt⟩:=yJ q hl hr I (D0:=D0) (o:=o) (T:=T)
   rw [iu (by rw [lm]; simp) e]
   exact qP m S' left' _ I' (by omega)
include q hl hr in
theorem we (T:Tp):∃ S,gh [.d (.dict (aq (dl h (ky h)))),.d (.list (nm roots))] T=some (.list (nm (bK S)),T)∧Inv h roots S []:=by
 have hq:=q.len
 have u0:uc h []≤h.length:=by
  unfold uc
  refine Nat.le_trans (List.length_filter_le _ _) ?_
  simp [ky]
 obtain ⟨S,o,e,I⟩:=qP q hl hr (D0:=.list (nm roots)) (T:=T) 100000 [] roots none (Inv.start h roots) (by omega)
 refine ⟨S,?_,I⟩
 have ct:=I.ct
 have s64:(tr S).length < 64:=by unfold tr; rw [List.length_map]; simp at ct; omega
 have so:=rT s64
 rw [kN] at so
 rw [uq]
 unfold rcC ρR at e
 have t0:aq (tr [])=[]:=rfl
 rw [t0] at e
 have sl:∀ (o3 o4:Option W),gL 3 (aa 1) [some (.d (.dict (aq (dl h (ky h))))),some (.d (.list (nm roots))),some (.loc (.dict [])),o3,o4] T=some ((.nx,[some (.d (.dict (aq (dl h (ky h))))),some (.d (.list (nm roots))),some (.loc (.dict [])),some (.loc (.list (nm roots))),o4]),T):=fun _ _=>rfl
 rw [eE]
 simp only [dg,dh,if_true]
 show cg (aj _ _ [some (.d (.dict (aq (dl h (ky h))))),some (.d (.list (nm roots))),none,none,none] T)=_
 rw [aQ (ρ1:=[some (.d (.dict (aq (dl h (ky h))))),some (.d (.list (nm roots))),some (.loc (.dict [])),none,none]) (T1:=T) (by simp),aQ (sl none none),aQ e]
 simp [bW,so]
theorem mI {T:Tp} {x1:PyData}:∀ (r A:List Str) (o3:Option W),(A++r).Nodup→A.length + r.length≤900→∃ p3,forL 3 fq (nm r) [some (.d (.dict (aq (dl h (ky h))))),some (.d x1),some (.loc (.dict (aq (dl h A)))),o3] T=some ((.nx,[some (.d (.dict (aq (dl h (ky h))))),some (.d x1),some (.loc (.dict (aq (dl h (A++r.filter fun n=>decide (n∈ky h)))))),p3]),T)
 | [],A,o3,_,_=>⟨o3,by simp [nm]; rfl⟩
 | n::r,A,o3,nd,hl=>by
  have hn:n∉A:=fun z=>by
   rw [List.nodup_append] at nd
   exact nd.2.2 n z n List.mem_cons_self rfl
  rw [List.length_cons] at hl
  have z:(aq (dl h A)).length≤1000:=by rw [dj]; unfold dl; rw [List.length_map]; omega
  by_cases hk:n∈ky h
  ·obtain ⟨p3,ih⟩:=mI (T:=T) (x1:=x1) r (A++[n]) (some (.d (.str n))) (by rw [List.append_assoc]; exact nd) (by simp; omega)
   refine ⟨p3,?_⟩
   have kd:aZ (aq (dl h (ky h))) n=some (ln h n):=by rw [bP,ja,if_pos hk]
   have bd:fq [some (.d (.dict (aq (dl h (ky h))))),some (.d x1),some (.loc (.dict (aq (dl h A)))),some (.d (.str n))] T=some ((.nx,[some (.d (.dict (aq (dl h (ky h))))),some (.d x1),some (.loc (.dict (aq (dl h (A++[n]))))),some (.d (.str n))]),T):=by
    simp [fq,d8,gT,hk,kd,z,dM,sO hn]
   show forL 3 fq (.str n::nm r) _ T=_
   unfold forL
   simp only [List.set_cons_succ,List.set_cons_zero]
   rw [bd]
   refine Eq.trans ih ?_
   simp [hk]
  ·obtain ⟨p3,ih⟩:=mI (T:=T) (x1:=x1) r A (some (.d (.str n))) (by
    rw [List.nodup_append] at nd ⊢
    exact ⟨nd.1,(List.nodup_cons.mp nd.2.1).2,fun a ha b hb=>nd.2.2 a ha b (List.mem_cons_of_mem _ hb)⟩) (by omega)
   refine ⟨p3,?_⟩
   have bd:fq [some (.d (.dict (aq (dl h (ky h))))),some (.d x1),some (.loc (.dict (aq (dl h A)))),some (.d (.str n))] T=some ((.nx,[some (.d (.dict (aq (dl h (ky h))))),some (.d x1),some (.loc (.dict (aq (dl h A)))),some (.d (.str n))]),T):=by
    simp [fq,d8,gT,hk]
   show forL 3 fq (.str n::nm r) _ T=_
   unfold forL
   simp only [List.set_cons_succ,List.set_cons_zero]
   rw [bd]
   refine Eq.trans ih ?_
   simp [hk]
include q hl hr in
theorem wg (T:Tp):∃ K,g8 [.d (.dict (aq (dl h (ky h)))),.d (.list (nm roots))] T=some (.dict (aq (dl h K)),T)∧K.Nodup∧∀ x,x∈K↔(Reach h roots x∧x∈ky h):=by
 obtain ⟨S,e,I⟩:=we q hl hr T
 have ct:=I.ct
 have hq:=q.len
 have sl:(bK S).length≤900:=by rw [(hU S).length_eq]; simp at ct; omega
 obtain ⟨p3,lp⟩:=mI (h:=h) (T:=T) (x1:=.list (nm roots)) (bK S) [] none (by simpa using mx I.nd) (by simpa using sl)
 refine ⟨(bK S).filter fun n=>decide (n∈ky h),?_,List.Nodup.sublist List.filter_sublist (mx I.nd),fun x=>?_⟩
 ·rw [ur]
  have t0:aq (dl h [])=[]:=rfl
  rw [t0,List.nil_append] at lp
  simp [e]
  rw [lp]
  simp [bW]
 ·rw [List.mem_filter,sort_mem,I.done]
  simp
theorem yY {ρ:Rho} {T:Tp} {rest:List Str} {x:Str} (hl:rest.length < 1000) (e:ρ[3]? = some (some (.loc (.list (nm (x::rest)))))):iD 3 4 ρ T=some ((.nx,(ρ.set 3 (some (.loc (.list (nm rest))))).set 4 (some (.d (.str x)))),T):=by
 show kU 3 4 ρ T ρ[3]? = _
 rw [e]
 have h1:nm (x::rest)=.str x::nm rest:=rfl
 rw [h1]
 unfold kU
 dsimp only
 rw [if_neg (by rw [a9]; omega)]
@[simp] theorem Eh {i:Nat} {fa fb:FE} {ρ:Rho} {T:Tp}:k7 i fa fb ρ T=bnd (fa ρ T) fun w1 T1=>bnd (fb ρ T1) fun w2 T2=>kQ i ρ (view T2 w1) (view T2 w2) T2:=rfl
@[simp] theorem DK {i:Nat} {ρ:Rho} {xs ys:List PyData} {T:Tp}:kQ i ρ (some (.list xs)) (some (.list ys)) T=if xs.length + ys.length≤sizeLine then some ((.nx,ρ.set i (some (.loc (.list (xs++ys))))),T) else none:=rfl
include q hl hr in
theorem yL {S rest:List Str} {x:Str} (I:Inv h roots S (x::rest)) {D0:PyData} {o:Option W} {T:Tp}:∃ S' left' ,hJ (ρR (.dict (aq h)) D0 (.list (nm S)) (x::rest) o) T=some ((.nx,ρR (.dict (aq h)) D0 (.list (nm S')) left' (some (.d (.str x)))),T)∧Inv h roots S' left'∧left'.length + 7 * uc h S' < (x::rest).length + 7 * uc h S:=by
 have hm:∀ y∈x::rest,y=x∨y∈rest:=fun y hy=>List.mem_cons.mp hy
 have hm2:∀ y∈rest,y∈x::rest:=fun y hy=>List.mem_cons_of_mem _ hy
 have ct:=I.ct
 have hql:=q.len
 rw [List.length_cons] at ct
 have p1:iD 3 4 (ρR (.dict (aq h)) D0 (.list (nm S)) (x::rest) o) T=some ((.nx,ρR (.dict (aq h)) D0 (.list (nm S)) rest (some (.d (.str x)))),T):=yY (by omega) rfl
 by_cases hx:x∈S
 ·refine ⟨S,rest,?_,I.old hm hm2 (by simp) hx,by simp⟩
  unfold hJ
  rw [aQ p1]
  simp [ρR,gN,ij,hx]
 ·have nl:=ny q x
  have I2:=I.new q List.mem_cons_self hm hm2 (by simp) hx
  have z:S.length < sizeLine:=by rw [sz]; omega
  have ns:nm S++[.str x]=nm (S++[x]):=by simp [nm]
  by_cases hk:x∈ky h
  ·obtain ⟨t,rs,a,b,e,fk,hlo,e2,e3,_⟩:=q.at hk
   have ni:=wc (n:=x) (a:=a) (b:=b) fk.ln T
   have nl1:=nl.1
   have u:=nU hk hx
   have z2:rest.length + (rn rs++wt a b).length≤sizeLine:=by rw [← e3,sz]; omega
   refine ⟨S++[x],rest++nx h x,?_,I2,by simp; omega⟩
   unfold hJ
   rw [aQ p1]
   have na:nm rest++nm (rn rs++wt a b)=nm (rest++(rn rs++wt a b)):=by simp [nm]
   have kd:aZ (aq h) x=some (.tuple [.str t,lnD x rs a b]):=by rw [bP,e]
   simp only [List.length_append] at z2
   simp only [ρR]
   simp [gN,ij,hx,a9,z,ns,d8,hk,kd,aV,ni,z2,na,e3]
  ·have nx0:=nl.2 hk
   have u:=nV h S x
   rw [nx0,List.append_nil] at I2
   refine ⟨S++[x],rest,?_,I2,by simp; omega⟩
   unfold hJ
   rw [aQ p1]
   simp only [ρR]
   simp [gN,ij,hx,a9,z,ns,d8,hk]
include q hl hr in
theorem qQ {D0:PyData} {T:Tp}:∀ (m:Nat) (S left:List Str) (o:Option W),Inv h roots S left→left.length + 7 * uc h S < m→∃ S' o',bA rcC hJ m (ρR (.dict (aq h)) D0 (.list (nm S)) left o) T=some ((.nx,ρR (.dict (aq h)) D0 (.list (nm S')) [] o'),T)∧Inv h roots S' []
 | 0,_,_,_,_,z=>by omega
 | m + 1,S,left,o,I,z=>by
  cases left with
  | nil=>exact ⟨S,o,gF (by rw [lm]; rfl),I⟩
  | cons x rest=>
   obtain ⟨S',left',e,I',lt⟩:=yL q hl hr I (D0:=D0) (o:=o) (T:=T)
   rw [iu (by rw [lm]; simp) e]
   exact qQ m S' left' _ I' (by omega)
include q hl hr in
theorem vv (T:Tp):∃ S,fw [.d (.dict (aq h)),.d (.list (nm roots))] T=some (.list (nm S),T)∧Inv h roots S []:=by
 have hq:=q.len
 have u0:uc h []≤h.length:=by
  unfold uc
  refine Nat.le_trans (List.length_filter_le _ _) ?_
  simp [ky]
 obtain ⟨S,o,e,I⟩:=qQ q hl hr (D0:=.list (nm roots)) (T:=T) 100000 [] roots none (Inv.start h roots) (by omega)
 refine ⟨S,?_,I⟩
 rw [vp]
 unfold rcC ρR at e
 have t0:nm []=[]:=rfl
 rw [t0] at e
 have sl:∀ (o3 o4:Option W),gL 3 (aa 1) [some (.d (.dict (aq h))),some (.d (.list (nm roots))),some (.loc (.list [])),o3,o4] T=some ((.nx,[some (.d (.dict (aq h))),some (.d (.list (nm roots))),some (.loc (.list [])),some (.loc (.list (nm roots))),o4]),T):=fun _ _=>rfl
 rw [eE]
 simp only [dg,dh,if_true]
 show cg (aj _ _ [some (.d (.dict (aq h))),some (.d (.list (nm roots))),none,none,none] T)=_
 rw [aQ (ρ1:=[some (.d (.dict (aq h))),some (.d (.list (nm roots))),some (.loc (.list [])),none,none]) (T1:=T) (by simp),aQ (sl none none),aQ e]
 simp [bW]
end
theorem sI {α:Type} (p:α→Bool) (l:List α):g5 [.list (l.map fun d=>.bool (p d))]=some (.bool (l.any p)):=by
 show (eU _).map (fun bs=>PyData.bool (bs.any id))=_
 rw [lJ,Option.map_some,List.any_map]
 rfl
def bz (h:Dl) (A:List Str) (n:Str):Bool:=(rnH h n).any fun m=>decide (m∈A)
def cm (h:Dl) (A:List Str):List Str:=A.filter (bz h A)
def pln (h:Dl):Nat→List Str→List Str
 | 0,A=>A
 | n + 1,A=>pln h n (cm h A)
theorem qX (h:Dl):∀ (n:Nat) (A:List Str),pln h (n + 1) A=cm h (pln h n A)
 | 0,_=>rfl
 | n + 1,A=>qX h n (cm h A)
theorem Bu {h:Dl} {A B:List Str} (e:∀ x,x∈A↔x∈B) (n:Str):bz h A n=bz h B n:=by
 unfold bz
 congr 1
 funext m
 exact decide_eq_decide.mpr (e m)
theorem xF {h:Dl} {A B:List Str} (e:∀ x,x∈A↔x∈B) (x:Str):x∈cm h A↔x∈cm h B:=by
 unfold cm
 rw [List.mem_filter,List.mem_filter,Bu e,e]
theorem mG {h:Dl}:∀ (n:Nat) {A B:List Str},(∀ x,x∈A↔x∈B)→∀ x,x∈pln h n A↔x∈pln h n B
 | 0,_,_,e=>e
 | n + 1,_,_,e=>mG n (xF e)
theorem nil_of {A B:List Str} (e:∀ x,x∈A↔x∈B) (h:A=[]):B=[]:=by
 cases B with
 | nil=>rfl
 | cons b r=>
  have:=(e b).mpr List.mem_cons_self
  rw [h] at this
  cases this
theorem qY (h:Dl):∀ n,pln h n []=[]
 | 0=>rfl
 | n + 1=>qY h n
theorem ql {h:Dl} {A:List Str} (e:cm h A=A):∀ n,pln h n A=A
 | 0=>rfl
 | n + 1=>by
  show pln h n (cm h A)=A
  rw [e]
  exact ql e n
theorem qm {h:Dl} {A:List Str} {x:Str} (hx:x∈pln h n A):x∈A:=by
 induction n generalizing A with
 | zero=>exact hx
 | succ n ih=>exact (List.mem_filter.mp (ih hx)).1
section
variable {l:List Str} {h:Dl} (q:Hq l h)
theorem BL {A:List Str} {rs:List SS} (ρ:Rho) (T:Tp):a6 bo (af inA (af ixD (aa 0) (fC (.int 0))) (aa 1)) (some (.d (.dict (aq (dl h A))))::ρ) (Rd rs) T=some ((Rd rs).map fun d=>.bool (decide ((unP d).1∈A)),T):=eK (g:=fun d=>.bool (decide ((unP d).1∈A))) fun d hd=>by
 obtain ⟨p,_,rfl⟩:=List.mem_map.mp hd
 simp [aV,d8,gT,unP,unS]
 exact decide_eq_decide.mpr Iff.rfl
theorem r6 (rs:List SS) (A:List Str):((Rd rs).any fun d=>decide ((unP d).1∈A))=(rn rs).any fun m=>decide (m∈A):=by
 unfold Rd rn
 rw [List.any_map,List.any_map]
 rfl
include q in
theorem Ae {A:List Str} {n:Str} (hn:n∈ky h) (T:Tp):eJ [.d (.dict (aq (dl h A))),.d (ln h n)] T=some (.bool (!bz h A n),T):=by
 obtain ⟨t,rs,a,b,e,fk,hlo,e2,e3,e4⟩:=q.at hn
 have an:=sI (fun d=>decide ((unP d).1∈A)) (Rd rs)
 rw [r6] at an
 unfold bz
 rw [e2,e4]
 unfold lnD
 simp [eJ,at3,BL,an]
theorem zZ {A:List Str} {s:Str}:cS (aq (dl h A)) s=aq (dl h (A.filter fun n=>!decide (n=s))):=by
 induction A with
 | nil=>rfl
 | cons a r ih=>
  show List.filter _ ((PyData.str a,ln h a)::aq (dl h r))=_
  unfold cS at ih
  rw [List.filter_cons,ih]
  by_cases e:a=s
  ·simp [e]
  ·simp [e,dl,aq]
def ρO (D:PyData) (Q A:List Str) (o3 o4:Option W):Rho:=[some (.d D),some (.loc (.list (Q.map (ln h)))),some (.loc (.dict (aq (dl h A)))),o3,o4]
theorem rK {D:PyData} {T:Tp} {o3:Option W}:∀ (F Q A:List Str) (o4:Option W),F.Nodup→(∀ x∈F,x∈A)→Q.length + F.length≤900→∃ p4,forL 4 iL (nm F) (ρO (h:=h) D Q A o3 o4) T=some ((.nx,ρO (h:=h) D (Q++F) (A.filter fun n=>!decide (n∈F)) o3 p4),T)
 | [],Q,A,o4,_,_,_=>⟨o4,by
  have:A.filter (fun n=>!decide (n∈([]:List Str)))=A:=by simp
  rw [this,List.append_nil]; rfl⟩
 | x::F,Q,A,o4,nd,hs,hl=>by
  rw [List.nodup_cons] at nd
  rw [List.length_cons] at hl
  have hx:=hs x List.mem_cons_self
  have hf:∀ y∈F,y∈A.filter fun n=>!decide (n=x):=fun y hy=>List.mem_filter.mpr ⟨hs y (List.mem_cons_of_mem _ hy),by
   have:y≠x:=fun z=>nd.1 (z ▸ hy)
   simp [this]⟩
  obtain ⟨p4,ih⟩:=rK (D:=D) (T:=T) (o3:=o3) F (Q++[x]) (A.filter fun n=>!decide (n=x)) (some (.d (.str x))) nd.2 hf (by simp; omega)
  refine ⟨p4,?_⟩
  have kd:aZ (aq (dl h A)) x=some (ln h x):=by rw [bP,ja,if_pos hx]
  have z:(Q.map (ln h)).length < 1000:=by rw [List.length_map]; omega
  have bd:iL ((ρO (h:=h) D Q A o3 o4).set 4 (some (.d (.str x)))) T=some ((.nx,ρO (h:=h) D (Q++[x]) (A.filter fun n=>!decide (n=x)) o3 (some (.d (.str x)))),T):=by
   have e0:aa 4 ((ρO (h:=h) D Q A o3 o4).set 4 (some (.d (.str x)))) T=some (.d (.str x),T):=rfl
   unfold iL lC
   rw [e0,dO]
   show jK 1 2 _ (.d (.str x)) T (some (some (.loc (.list (Q.map (ln h)))))) (some (some (.loc (.dict (aq (dl h A))))))=_
   unfold jK
   dsimp only
   rw [kd]
   dsimp only
   rw [if_pos z,zZ]
   simp [ρO]
  show forL 4 iL (.str x::nm F) _ T=_
  unfold forL
  rw [bd]
  refine Eq.trans ih ?_
  have fe:(A.filter fun n=>!decide (n=x)).filter (fun n=>!decide (n∈F))=A.filter fun n=>!decide (n∈x::F):=by
   rw [List.filter_filter]
   congr 1
   funext n
   by_cases e1:n=x <;> by_cases e2:n∈F <;> simp [e1,e2]
  rw [List.append_assoc,fe]
  rfl
end
def frB (h:Dl) (A:List Str) (d:PyData):Bool:=match d with
 | .str n=>!bz h A n
 | _=>false
theorem wL (h:Dl) (A L:List Str):(nm L).filter (frB h A)=nm (L.filter fun n=>!bz h A n):=by
 unfold nm
 rw [List.filter_map]
 rfl
def gf (h:Dl):List Str→List Str→Prop
 | _,[]=>True
 | laid,n::r=>(∀ m∈rnH h n,m∈ky h→m∈laid)∧gf h (laid++[n]) r
theorem qZ {h:Dl}:∀ {Q laid F:List Str},gf h laid Q→gf h (laid++Q) F→gf h laid (Q++F)
 | [],laid,F,_,g=>by rw [List.append_nil] at g; exact g
 | n::r,laid,F,q,g=>⟨q.1,qZ q.2 (by rw [List.append_assoc]; exact g)⟩
theorem rf {h:Dl}:∀ {F laid laid':List Str},(∀ x∈laid,x∈laid')→(∀ n∈F,∀ m∈rnH h n,m∈ky h→m∈laid)→gf h laid' F
 | [],_,_,_,_=>trivial
 | n::r,laid,laid',hs,g=>⟨fun m hm hk=>hs m (g n List.mem_cons_self m hm hk),rf (laid:=laid) (fun x hx=>List.mem_append_left _ (hs x hx)) fun x hx=>g x (List.mem_cons_of_mem _ hx)⟩
structure KI (h:Dl) (K Q A:List Str):Prop where
 nd:(Q++A).Nodup
 mem:∀ x,x∈Q++A↔x∈K
 od:gf h [] Q
def ioC:FT:=(au (af gtD (fCB aR (ae (aa 2) ai)) (fC (.int 0))))
theorem Bz {c:FT} {b:FS} {m:Nat} {ρ ρ':Rho} {T:Tp} {x:PyData} (hc:c ρ T=some (true,T)) (hb:b ρ T=some ((.ro x,ρ'),T)):bA c b (m + 1) ρ T=some ((.ro x,ρ'),T):=by
 show (bnd (c ρ T) fun b1 T1=>_)=_
 rw [hc]
 show (bnd (b ρ T) fun p T2=>_)=_
 rw [hb]
 rfl
section
variable {l:List Str} {h:Dl} (q:Hq l h) {K:List Str} (hK:∀ x∈K,x∈ky h) (hc:∀ n∈K,∀ m∈rnH h n,m∈ky h→m∈K)
theorem ow {D:PyData} {Q A:List Str} {o3 o4:Option W} {T:Tp}:ioC (ρO (h:=h) D Q A o3 o4) T=some (decide (0 < A.length),T):=by
 have:aR [.dict (aq (dl h A))]=some (.int A.length):=by
  show some (PyData.int (aq (dl h A)).length)=_
  rw [dj]
  unfold dl
  rw [List.length_map]
 simp [ioC,ρO,this]
include q in
theorem zE {D:PyData} {Q A:List Str} (hA:∀ x∈A,x∈ky h) (hl:A.length < 64) {o3 o4:Option W} {T:Tp}:aD 3 (bf (aW (fUn dJ (aa 2))) (a8 (dD (aw eJ (ae (aa 3) (ae (af ixA (aa 3) (aa 0)) ai))))) (aa 0)) (ρO (h:=h) D Q A o3 o4) T=some ((.nx,ρO (h:=h) D Q A (some (.d (.list (nm ((bK A).filter fun n=>!bz h A n))))) o4),T):=by
 have so:=rT (A:=dl h A) (by unfold dl; rw [List.length_map]; exact hl)
 rw [gT] at so
 have c:=iM (c:=a8 (dD (aw eJ (ae (aa 3) (ae (af ixA (aa 3) (aa 0)) ai))))) (ρ:=ρO (h:=h) D Q A o3 o4) (T:=T) (p:=frB h A) (ds:=nm (bK A)) fun d hd=>by
  obtain ⟨n,hn,rfl⟩:=List.mem_map.mp hd
  have hn':=sort_mem.mp hn
  have kd:aZ (aq (dl h A)) n=some (ln h n):=by rw [bP,ja,if_pos hn']
  have rn:=Ae q (A:=A) (hA n hn') []
  have lk:gR T (some (.d (.bool (!bz h A n)),[]))=some (.d (.bool (!bz h A n)),T):=jV rfl
  simp [ρO,kd,rn,lk,frB]
 rw [wL] at c
 have un:fUn dJ (aa 2) (ρO (h:=h) D Q A o3 o4) T=some (.d (.list (nm (bK A))),T):=by
  show op1 dJ T (.loc (.dict (aq (dl h A))))=_
  show mkD T (dJ (.dict (aq (dl h A))))=_
  rw [so]
  rfl
 rw [jm,zR,zQ,un]
 simp only [dO,Bf,xc,Bg,c,mR]
 rfl
include q hK hc in
theorem zD {D:PyData} {T:Tp} (hk7:K.length≤20):∀ (N m:Nat) (Q A:List Str) (o3 o4:Option W),KI h K Q A→A.length≤N→N < m →
  (∃ Q' p3 p4,bA ioC g9 m (ρO (h:=h) D Q A o3 o4) T=some ((.nx,ρO (h:=h) D Q' [] p3 p4),T)∧pln h N A=[]∧KI h K Q' []) ∨
  (∃ ρ',bA ioC g9 m (ρO (h:=h) D Q A o3 o4) T=some ((.ro .none,ρ'),T)∧pln h N A≠[]):=by
 intro N
 induction N with
 | zero=>
  intro m Q A o3 o4 I hA hm
  have:A=[]:=List.eq_nil_of_length_eq_zero (by omega)
  subst this
  obtain ⟨j,rfl⟩:∃ j,m=j + 1:=⟨m - 1,by omega⟩
  exact .inl ⟨Q,o3,o4,gF (by rw [ow]; rfl),rfl,I⟩
 | succ N ih=>
  intro m Q A o3 o4 I hA hm
  obtain ⟨j,rfl⟩:∃ j,m=j + 1:=⟨m - 1,by omega⟩
  by_cases h0:A=[]
  ·subst h0
   exact .inl ⟨Q,o3,o4,gF (by rw [ow]; rfl),qY h _,I⟩
  ·have hp:0 < A.length:=List.length_pos_iff.mpr h0
   have cT:ioC (ρO (h:=h) D Q A o3 o4) T=some (true,T):=by rw [ow,decide_eq_true hp]
   have sub:∀ x∈A,x∈ky h:=fun x hx=>hK x ((I.mem x).mp (List.mem_append_right _ hx))
   have kl:=eB I.nd (N:=K) fun x hx=>(I.mem x).mp hx
   rw [List.length_append] at kl
   have s1:=zE q (D:=D) (Q:=Q) sub (by omega) (o3:=o3) (o4:=o4) (T:=T)
   obtain ⟨F,hF⟩:∃ F,F=(bK A).filter fun n=>!bz h A n:=⟨_,rfl⟩
   rw [← hF] at s1
   have Fm:∀ x,x∈F↔x∈A∧bz h A x=false:=fun x=>by
    rw [hF,List.mem_filter,sort_mem]
    simp
   have nda:A.Nodup:=(List.nodup_append.mp I.nd).2.1
   have Fnd:F.Nodup:=by rw [hF]; exact List.Nodup.sublist List.filter_sublist (mx nda)
   by_cases hf:F=[]
   ·right
    have pe:cm h A=A:=by
     unfold cm
     rw [List.filter_eq_self]
     intro a ha
     cases hb:bz h A a with
     | true=>rfl
     | false=>
      have:=(Fm a).mpr ⟨ha,hb⟩
      rw [hf] at this
      cases this
    refine ⟨ρO (h:=h) D Q A (some (.d (.list (nm F)))) o4,Bz cT ?_,by rw [ql pe]; exact h0⟩
    unfold g9
    rw [aQ s1,hf]
    have:jk (ρO (h:=h) D Q A (some (.d (.list (nm [])))) o4) T=some ((.ro .none,ρO (h:=h) D Q A (some (.d (.list (nm [])))) o4),T):=rfl
    unfold ρO at this ⊢
    simp [nm] at this ⊢
    simp [this]
   ·have fl:0 < F.length:=List.length_pos_iff.mpr hf
    have Fl2:=eB Fnd (N:=A) fun x hx=>((Fm x).mp hx).1
    obtain ⟨p4,lp⟩:=rK (h:=h) (D:=D) (T:=T) (o3:=some (.d (.list (nm F)))) F Q A o4 Fnd (fun x hx=>((Fm x).mp hx).1) (by omega)
    have pe:(A.filter fun n=>!decide (n∈F))=cm h A:=by
     unfold cm
     refine List.filter_congr fun a ha=>?_
     cases hb:bz h A a with
     | true=>
      have:a∉F:=fun z=>by
       have:=((Fm a).mp z).2
       rw [hb] at this
       cases this
      simp [this]
     | false=>simp [(Fm a).mpr ⟨ha,hb⟩]
    rw [pe] at lp
    have b2:g9 (ρO (h:=h) D Q A o3 o4) T=some ((.nx,ρO (h:=h) D (Q++F) (cm h A) (some (.d (.list (nm F)))) p4),T):=by
     unfold g9
     rw [aQ s1]
     have fl':¬ F.length=0:=by omega
     have i1:fIf (au (af eqD (fCB aR (ae (aa 3) ai)) (fC (.int 0)))) jk aC (ρO (h:=h) D Q A (some (.d (.list (nm F)))) o4) T=some ((.nx,ρO (h:=h) D Q A (some (.d (.list (nm F)))) o4),T):=by
      unfold ρO
      simp [a9,fl',hf]
     rw [aQ i1,jq]
     have it:aW (aa 3) (ρO (h:=h) D Q A (some (.d (.list (nm F)))) o4) T=some (nm F,T):=rfl
     rw [it]
     exact lp
    rw [iu cT b2]
    have lt:(cm h A).length < A.length:=by
     obtain ⟨x,hx⟩:∃ x,x∈F:=List.exists_mem_of_length_pos fl
     have hx':=(Fm x).mp hx
     have:(A.filter (bz h A)).length < (A.filter fun _=>true).length:=mM (x:=x) (fun _ _ _=>rfl) hx'.1 rfl hx'.2
     rw [show (A.filter fun _=>true)=A from List.filter_eq_self.mpr fun _ _=>rfl] at this
     exact this
    refine ih j (Q++F) (cm h A) _ _ ⟨?_,fun x=>?_,?_⟩ (by omega) (by omega)
    ·have n1:=List.nodup_append.mp I.nd
     rw [List.append_assoc,List.nodup_append]
     refine ⟨n1.1,?_,fun a ha b hb=>?_⟩
     ·rw [List.nodup_append]
      refine ⟨Fnd,List.Nodup.sublist List.filter_sublist nda,fun a ha b hb=>?_⟩
      rintro rfl
      have h1:=((Fm a).mp ha).2
      have h2:=(List.mem_filter.mp hb).2
      rw [h1] at h2
      cases h2
     ·refine n1.2.2 a ha b ?_
      rcases List.mem_append.mp hb with z | z
      ·exact ((Fm b).mp z).1
      ·exact (List.mem_filter.mp z).1
    ·rw [← I.mem x,List.append_assoc,List.mem_append,List.mem_append,List.mem_append,Fm]
     unfold cm
     rw [List.mem_filter]
     constructor
     ·rintro (z | z | z)
      ·exact .inl z
      ·exact .inr z.1
      ·exact .inr z.1
     ·rintro (z | z)
      ·exact .inl z
      ·cases hb:bz h A x with
       | true=>exact .inr (.inr ⟨z,rfl⟩)
       | false=>exact .inr (.inl ⟨z,rfl⟩)
    ·refine qZ I.od (rf (laid:=Q) (fun x hx=>by rw [List.nil_append]; exact hx) fun n hn m hm hk=>?_)
     have hn':=(Fm n).mp hn
     have nK:n∈K:=(I.mem n).mp (List.mem_append_right _ hn'.1)
     have mK:=hc n nK m hm hk
     rcases List.mem_append.mp ((I.mem m).mpr mK) with z | z
     ·exact z
     ·exfalso
      have hb:=hn'.2
      unfold bz at hb
      rw [List.any_eq_false] at hb
      exact hb m hm (decide_eq_true z)
end
section
variable {l:List Str} {h:Dl} (q:Hq l h) (hl:l.length≤7)
include q in
theorem xn {K:List Str} (hK:∀ x∈K,x∈ky h) (hc:∀ n∈K,∀ m∈rnH h n,m∈ky h→m∈K) (nd:K.Nodup) (hk7:K.length≤20) (T:Tp) :
  (∃ Q,gn [.d (.dict (aq (dl h K)))] T=some (.list (Q.map (ln h)),T)∧pln h K.length K=[]∧KI h K Q [])∨(gn [.d (.dict (aq (dl h K)))] T=some (.none,T)∧pln h K.length K≠[]):=by
 have st:∀ s:FS,fS 5 (aj (bB 1 ai) (aj (fM 2 (aa 0)) s)) [.d (.dict (aq (dl h K)))] T=gK (s (ρO (h:=h) (.dict (aq (dl h K))) [] K none none) T):=fun s=>by
  rw [nI]
  simp only [dg,dh,if_true]
  show gK (aj _ _ [some (.d (.dict (aq (dl h K)))),none,none,none,none] T)=_
  rw [aQ (ρ1:=[some (.d (.dict (aq (dl h K)))),some (.loc (.list [])),none,none,none]) (T1:=T) (by simp)]
  have:fM 2 (aa 0) [some (.d (.dict (aq (dl h K)))),some (.loc (.list [])),none,none,none] T=some ((.nx,ρO (h:=h) (.dict (aq (dl h K))) [] K none none),T):=rfl
  rw [aQ this]
 rw [uV,st]
 rcases zD q hK hc (D:=.dict (aq (dl h K))) (T:=T) hk7 K.length 100000 [] K none none ⟨by simpa using nd,fun x=>by simp,trivial⟩ (Nat.le_refl _) (by omega) with ⟨Q,p3,p4,e,e2,I⟩ | ⟨ρ',e,e2⟩
 ·left
  refine ⟨Q,?_,e2,I⟩
  unfold ioC at e
  rw [aQ e]
  rfl
 ·right
  refine ⟨?_,e2⟩
  unfold ioC at e
  rw [il,e]
  rfl
theorem BK {h:Dl} {n m:Str} (hm:m∈rnH h n):m∈nx h n:=by
 unfold rnH at hm
 unfold nx
 cases e:h.lookup n with
 | none=>rw [e] at hm; cases hm
 | some x=>rw [e] at hm; exact List.mem_append_left _ hm
include q hl in
theorem rN {roots:List Str} (hr:roots.length≤20) (T:Tp):∃ K:List Str,K.Nodup∧(∀ x,x∈K↔(Reach h roots x∧x∈ky h)) ∧
  ((∃ Q,cD [.d (.dict (aq h)),.d (.list (nm roots))] T=some (.list (Q.map (ln h)),T)∧pln h K.length K=[]∧KI h K Q [])∨(cD [.d (.dict (aq h)),.d (.list (nm roots))] T=some (.none,T)∧pln h K.length K≠[])):=by
 obtain ⟨K,e,nd,hm⟩:=wg q hl hr T
 have hh:=yB q (by omega) T
 have hK:∀ x∈K,x∈ky h:=fun x hx=>((hm x).mp hx).2
 have kl:K.length≤20:=by
  have:=eB nd hK
  have h2:(ky h).length=h.length:=by simp [ky]
  have:=q.len
  omega
 refine ⟨K,nd,hm,?_⟩
 rcases xn q hK (fun n hn m hmm hk=>(hm m).mpr ⟨.step ((hm n).mp hn).1 (BK hmm),hk⟩) nd kl T with ⟨Q,e2,e3,I⟩ | ⟨e2,e3⟩
 ·left
  refine ⟨Q,?_,e3,I⟩
  simp only [cD,nI,dg,dh,if_true,kI]
  show gK (bnd (bnd (bnd (bnd (bnd (fE [.d (.dict (aq h))] T) _) _) _) _) _)=_
  simp [hh,e,e2,nk]
 ·right
  refine ⟨?_,e3⟩
  simp only [cD,nI,dg,dh,if_true,kI]
  show gK (bnd (bnd (bnd (bnd (bnd (fE [.d (.dict (aq h))] T) _) _) _) _) _)=_
  simp [hh,e,e2,nk]
def frM (h:Dl) (A:List Str) (d:PyData):Bool:=match d with
 | .str n=>bz h A n
 | _=>false
theorem vU (h:Dl) (A L:List Str):(nm L).filter (frM h A)=nm (L.filter (bz h A)):=by
 unfold nm
 rw [List.filter_map]
 rfl
theorem AA {C:List Str} {rs:List SS} (r0 r1 r2:Option W) (ρ:Rho) (T:Tp):a6 bo (af inD (af ixD (aa 0) (fC (.int 0))) (aa 4)) (r0::r1::r2::some (.d (.list (nm C)))::ρ) (Rd rs) T=some ((Rd rs).map fun d=>.bool (decide ((unP d).1∈C)),T):=eK (g:=fun d=>.bool (decide ((unP d).1∈C))) fun d hd=>by
 obtain ⟨p,_,rfl⟩:=List.mem_map.mp hd
 simp [aV,jy,unP,unS]
 exact decide_eq_decide.mpr Iff.rfl
include q in
theorem zo {B C:List Str} (hC:∀ x∈C,x∈ky h) {o3:Option W} {T:Tp}:jL [some (.d (.dict (aq h))),some (.d (.list (nm B))),some (.d (.list (nm C))),o3] T=some ((.nx,[some (.d (.dict (aq h))),some (.d (.list (nm B))),some (.d (.list (nm (cm h C)))),o3]),T):=by
 have c:=iM (c:=a8 (fCB g5 (ae (bf (aW (af ixD (af ixD (af ixA (aa 1) (aa 0)) (fC (.int 1))) (fC (.int 1)))) bo (af inD (af ixD (aa 0) (fC (.int 0))) (aa 4))) ai))) (ρ:=[some (.d (.dict (aq h))),some (.d (.list (nm B))),some (.d (.list (nm C))),o3]) (T:=T) (p:=frM h C) (ds:=nm C) fun d hd=>by
  obtain ⟨n,hn,rfl⟩:=List.mem_map.mp hd
  obtain ⟨t,rs,a,b,e,fk,hlo,e2,e3,e4⟩:=q.at (hC n hn)
  have kd:aZ (aq h) n=some (.tuple [.str t,lnD n rs a b]):=by rw [bP,e]
  have an:=sI (fun d=>decide ((unP d).1∈C)) (Rd rs)
  rw [r6] at an
  unfold frM bz
  dsimp only
  rw [e4]
  unfold lnD at kd
  simp [kd,aV,at3,AA,an]
 rw [vU] at c
 unfold jL cm
 simp [c]
theorem zT (C:List Str):PyData.eqv (.list (nm C)) (.list [])=decide (C=[]):=by
 cases C with
 | nil=>rfl
 | cons c r=>rfl
include q in
theorem Ah {B:List Str} (hB:∀ x∈B,x∈ky h) (hl:B.length≤900) (T:Tp):fD [.d (.dict (aq h)),.d (.list (nm B))] T=some (.bool (decide (pln h B.length B=[])),T):=by
 have lp:=dY (i:=3) (body:=jL) (N:=900) (I:=fun k ρ T'=>T'=T∧∃ o3,ρ=[some (.d (.dict (aq h))),some (.d (.list (nm B))),some (.d (.list (nm (pln h k B)))),o3]) (bL 0 B.length) 0 [some (.d (.dict (aq h))),some (.d (.list (nm B))),some (.d (.list (nm B))),none] T (by rw [dX]; omega) ⟨rfl,none,rfl⟩ (fun k d ρ T' _ _ hI=>by
  obtain ⟨rfl,o3,rfl⟩:=hI
  refine ⟨_,_,zo q (fun x hx=>hB x (qm hx)),rfl,some (.d d),?_⟩
  rw [qX])
 obtain ⟨ρ',T',e,rfl,o3,rfl⟩:=lp
 rw [dX,Nat.zero_add] at e
 have sp:SeqAt.shaped (.list (nm (pln h B.length B)))=true:=Sp.sh (k:=1) (.lst fun d hd=>by
  obtain ⟨n,hn,rfl⟩:=List.mem_map.mp hd
  obtain ⟨_,_,_,_,_,_,hlo,_⟩:=q.at (hB n (qm hn))
  exact .str hlo) (by decide)
 have s0:SeqAt.shaped (.list [])=true:=by decide +kernel
 have eg:eqG (.list (nm (pln h B.length B))) (.list [])=some (.bool (decide (pln h B.length B=[]))):=by
  unfold eqG
  rw [if_pos ⟨sp,s0⟩,zT]
 have ro:dm (B.length:Int)=true:=rng_ok (by omega) (by omega)
 have tn:((B.length:Int)).toNat=B.length:=by omega
 rw [vF]
 simp [a9,ro,tn]
 rw [e]
 simp [bW,eg]
theorem qO {laid:List Str} {B:PyData} {P:PyData} {L:PyData} {T:Tp}:∀ (rs:List SS) (o5 o6:Option W),(∀ m∈rn rs,m∈ky h→m∈laid)→∃ p5 p6,fZ 5 6 gp (Rd rs) [some (.d (.dict (aq h))),some (.d B),some (.d P),some (.loc (.list (nm laid))),some (.d L),o5,o6] T=some ((.nx,[some (.d (.dict (aq h))),some (.d B),some (.d P),some (.loc (.list (nm laid))),some (.d L),p5,p6]),T)
 | [],o5,o6,_=>⟨o5,o6,rfl⟩
 | (m,s)::rs,o5,o6,hh=>by
  obtain ⟨p5,p6,ih⟩:=qO (laid:=laid) (B:=B) (P:=P) (L:=L) (T:=T) rs (some (.d (.str m))) (some (.d (.str s))) fun x hx=>hh x (List.mem_cons_of_mem _ hx)
  refine ⟨p5,p6,?_⟩
  have bd:gp [some (.d (.dict (aq h))),some (.d B),some (.d P),some (.loc (.list (nm laid))),some (.d L),some (.d (.str m)),some (.d (.str s))] T=some ((.nx,[some (.d (.dict (aq h))),some (.d B),some (.d P),some (.loc (.list (nm laid))),some (.d L),some (.d (.str m)),some (.d (.str s))]),T):=by
   by_cases hk:m∈ky h
   ·have:=hh m List.mem_cons_self hk
    simp [gp,d8,hk,gN,ij,this]
   ·simp [gp,d8,hk]
  show fZ 5 6 gp (.tuple [.str m,.str s]::Rd rs) _ T=_
  unfold fZ
  simp only [List.set_cons_succ,List.set_cons_zero]
  rw [bd]
  exact ih
theorem zB:cN .tup .tup=true:=rfl
include q in
theorem qN {B:List Str} {P:PyData} {T:Tp}:∀ (Q laid:List Str) (o4 o5 o6:Option W),(laid++Q).Nodup→(∀ x∈Q,x∈B)→(∀ x∈Q,x∈ky h)→gf h laid Q→laid.length + Q.length≤900→∃ L p4 p5 p6,forL 4 iN (Q.map (ln h)) [some (.d (.dict (aq h))),some (.d (.list (nm B))),some (.d P),some (.loc (.list (nm laid))),o4,o5,o6] T=some ((.nx,[some (.d (.dict (aq h))),some (.d (.list (nm B))),some (.d P),L,p4,p5,p6]),T)
 | [],laid,o4,o5,o6,_,_,_,_,_=>⟨_,o4,o5,o6,rfl⟩
 | n::Q,laid,o4,o5,o6,nd,hB,hk,od,hl=>by
  obtain ⟨t,rs,a,b,e,fk,hlo,e2,e3,e4⟩:=q.at (hk n List.mem_cons_self)
  rw [List.length_cons] at hl
  have nl:n∉laid:=fun z=>(List.nodup_append.mp nd).2.2 n z n List.mem_cons_self rfl
  have od1:=od.1
  rw [e4] at od1
  obtain ⟨p5,p6,rr⟩:=qO (h:=h) (laid:=laid) (B:=.list (nm B)) (P:=P) (L:=lnD n rs a b) (T:=T) rs o5 o6 od1
  obtain ⟨L,q4,q5,q6,ih⟩:=qN (B:=B) (P:=P) (T:=T) Q (laid++[n]) (some (.d (lnD n rs a b))) p5 p6 (by rw [List.append_assoc]; exact nd) (fun x hx=>hB x (List.mem_cons_of_mem _ hx)) (fun x hx=>hk x (List.mem_cons_of_mem _ hx)) od.2 (by simp; omega)
  refine ⟨L,q4,q5,q6,?_⟩
  have kd:aZ (aq h) n=some (.tuple [.str t,lnD n rs a b]):=by rw [bP,e]
  have sp:Sp 4 (lnD n rs a b):=(Sp.tup (k:=2) fun d hd=>by
   simp only [List.mem_cons,List.not_mem_nil,or_false] at hd
   rcases hd with rfl | rfl | rfl
   ·exact (Sp.str hlo).mono (by decide)
   ·exact Sp.tup (k:=1) fun d hd=>by
     obtain ⟨p,hp,rfl⟩:=List.mem_map.mp hd
     exact Sp.tup (k:=0) fun d hd=>by
      simp only [List.mem_cons,List.not_mem_nil,or_false] at hd
      rcases hd with rfl | rfl
      ·exact .str (fk.rd p hp).1
      ·exact .str (fk.rd p hp).2
   ·exact (Sp.tup (k:=0) fun d hd=>by
     simp only [List.mem_cons,List.not_mem_nil,or_false] at hd
     rcases hd with rfl | rfl
     ·exact .str fk.la
     ·exact .str fk.lb).mono (by decide)).mono (by decide)
  have ng:neG (lnD n rs a b) (lnD n rs a b)=some (.bool false):=by
   unfold neG
   rw [if_pos ⟨sp.sh (by decide),sp.sh (by decide)⟩,SeqAt.eqv_refl _ sp.1]
   rfl
  have nB:=hB n List.mem_cons_self
  have z:laid.length < sizeLine:=by rw [sz]; omega
  have ns:nm laid++[.str n]=nm (laid++[n]):=by simp [nm]
  have bd:iN [some (.d (.dict (aq h))),some (.d (.list (nm B))),some (.d P),some (.loc (.list (nm laid))),some (.d (lnD n rs a b)),o5,o6] T=some ((.nx,[some (.d (.dict (aq h))),some (.d (.list (nm B))),some (.d P),some (.loc (.list (nm (laid++[n])))),some (.d (lnD n rs a b)),p5,p6]),T):=by
   unfold iN
   have i0:ixD (lnD n rs a b) (.int 0)=some (.str n)∧ixD (lnD n rs a b) (.int 1)=some (.tuple (Rd rs)):=⟨rfl,rfl⟩
   have kdl:D.kd (lnD n rs a b)=Kd.tup:=rfl
   rw [aQ (ρ1:=[some (.d (.dict (aq h))),some (.d (.list (nm B))),some (.d P),some (.loc (.list (nm laid))),some (.d (lnD n rs a b)),o5,o6]) (T1:=T) (by
    simp [kdl,zB,i0,ij,nB,gN,jy,nl])]
   rw [aQ (ρ1:=[some (.d (.dict (aq h))),some (.d (.list (nm B))),some (.d P),some (.loc (.list (nm laid))),some (.d (lnD n rs a b)),o5,o6]) (T1:=T) (by
    simp [i0,kd,aV,ng])]
   have ft:k8 5 6 (aW (af ixD (aa 4) (fC (.int 1)))) gp [some (.d (.dict (aq h))),some (.d (.list (nm B))),some (.d P),some (.loc (.list (nm laid))),some (.d (lnD n rs a b)),o5,o6] T=some ((.nx,[some (.d (.dict (aq h))),some (.d (.list (nm B))),some (.d P),some (.loc (.list (nm laid))),some (.d (lnD n rs a b)),p5,p6]),T):=rr
   rw [aQ ft]
   simp [i0,a9,z,ns]
  show forL 4 iN (ln h n::Q.map (ln h)) _ T=_
  rw [e2]
  unfold forL
  simp only [List.set_cons_succ,List.set_cons_zero]
  rw [bd]
  exact ih
theorem zC:cN .lst .lst=true:=rfl
include q in
theorem Af {B Q:List Str} (nd:Q.Nodup) (hB:∀ x∈Q,x∈B) (hk:∀ x∈Q,x∈ky h) (od:gf h [] Q) (hl:Q.length≤900) (hlen:Q.length=B.length) (T:Tp):du [.d (.dict (aq h)),.d (.list (nm B)),.d (.list (Q.map (ln h)))] T=some (.bool true,T):=by
 obtain ⟨L,p4,p5,p6,e⟩:=qN q (B:=B) (P:=.list (Q.map (ln h))) (T:=T) Q [] none none none (by simpa using nd) hB hk od (by simpa using hl)
 rw [vY]
 have n0:nm []=[]:=rfl
 rw [n0] at e
 simp [zC,a9,hlen]
 rw [e]
 simp
end
theorem iQ {mf mh:FnM} {g1 g2:FA} {ρ:Rho} {ws ws2:List W} {xs xs':List PyData} {y:PyData} (h1:g1 ρ []=some (ws,[])) (h2:mh ws []=some (.list xs,[])) (h3:g2 ρ []=some (ws2,[])) (h4:c9 ws2=true) (h5:mf (.tp 0::ws2) [xs]=some (y,[xs'])):bQ mf mh g1 g2 ρ []=some (.d y,[]):=by
 unfold bQ
 rw [h1,dO,h2,dO]
 show bnd (g2 ρ []) (jf mf xs)=_
 rw [h3,dO]
 unfold jf
 rw [if_pos h4]
 show nM 0 (mf (.tp 0::ws2) [xs])=_
 rw [h5]
 rfl
def ZZ:Str:=Str.ofString "zzzz"
theorem By:Nx 40 ZZ:=⟨by decide +kernel,cR (by decide +kernel)⟩
def ρW (sc pk c3 c4 k5:PyData) (l:List Str) (h:Dl) (o8 o9 o10 o11 o12:Option W):Rho:=[some (.d sc),some (.d (.list (nm l))),some (.d pk),some (.d c3),some (.d c4),some (.d k5),some (.d (.dict (aq h))),some (.tp 0),o8,o9,o10,o11,o12]
section
variable {l:List Str} (hn:Ns l) (h0:0 < l.length) (h1:l.length≤7) {h:Dl} (q:Hq l h) {sc pk c3 c4 k5:PyData}
include hn h1 in
theorem yK {xs:List PyData} (hf:Fr xs) {n:Nat} (hn4:n≤5) {o9 o10 o11 o12:Option W}:∃ rs xs' p9,forL 9 iW (bL 0 n) (ρW sc pk c3 c4 k5 l h (some (.loc (.list []))) o9 o10 o11 o12) [xs]=some ((.nx,ρW sc pk c3 c4 k5 l h (some (.loc (.list (nm rs)))) p9 o10 o11 o12),[xs'])∧Ns rs∧rs.length≤5:=by
 have lp:=dY (i:=9) (body:=iW) (N:=5) (I:=fun k ρ T=>∃ rs xs p9,ρ=ρW sc pk c3 c4 k5 l h (some (.loc (.list (nm rs)))) p9 o10 o11 o12∧T=[xs]∧Fr xs∧Ns rs∧rs.length=k) (bL 0 n) 0 (ρW sc pk c3 c4 k5 l h (some (.loc (.list []))) o9 o10 o11 o12) [xs] (by rw [dX]; omega) ⟨[],xs,o9,rfl,rfl,hf,(fun _ z=>nomatch z),rfl⟩ (fun k d ρ T _ hk hI=>by
  obtain ⟨rs,xs,p9,rfl,rfl,hf,hns,hl⟩:=hI
  obtain ⟨r,x1,e1,f1,r0,r1⟩:=bi hf (m:=(l.length:Int) + 1) (by omega) (by omega)
  obtain ⟨y,ey,my⟩:=iF (l:=l++[ZZ]) r0 (by simp; omega)
  have z:l.length + 1≤sizeLine:=by rw [sz]; omega
  have z2:rs.length < sizeLine:=by rw [sz]; omega
  have na:nm l++[.str "zzzz"]=nm (l++[ZZ]):=by simp [nm,ZZ]
  have nr:nm rs++[.str y]=nm (rs++[y]):=by simp [nm]
  refine ⟨ρW sc pk c3 c4 k5 l h (some (.loc (.list (nm (rs++[y]))))) (some (.d d)) o10 o11 o12,[x1],?_,rs++[y],x1,_,rfl,rfl,f1,fun x hx=>?_,by simp [hl]⟩
  ·unfold ρW
   simp [iW,a9,z,na,e1,ey,z2,nr]
  ·rcases List.mem_append.mp hx with w | w
   ·exact hns x w
   ·rw [List.mem_singleton.mp w]
    rcases List.mem_append.mp my with v | v
    ·exact hn y v
    ·rw [List.mem_singleton.mp v]; exact By)
 obtain ⟨ρ',T',e,rs,xs',p9,rfl,rfl,_,hns,hl⟩:=lp
 rw [dX] at hl
 exact ⟨rs,xs',p9,e,hns,by omega⟩
@[simp] theorem DH {i:Nat} {m:FnM} {g:FA} {ρ:Rho} {T:Tp}:ji i m g ρ T=bnd (g ρ T) fun ws T1=>bnd (m ws T1) (kj i ρ):=rfl
@[simp] theorem Dk {i:Nat} {ρ:Rho} {xs:List PyData} {T:Tp}:kj i ρ (.list xs) T=some ((.nx,ρ.set i (some (.loc (.list xs)))),T):=rfl
@[simp] theorem Dj {i:Nat} {ρ:Rho} {T:Tp}:kj i ρ .none T=some ((.nx,ρ.set i (some (.d .none))),T):=rfl
@[simp] theorem Dx {m:FnM} {g:FA} {ρ:Rho} {T:Tp}:gA m g ρ T=bnd (g ρ T) fun ws T1=>bnd (m ws T1) mX:=rfl
@[simp] theorem C9 {xs:List PyData} {T:Tp}:mX (.list xs) T=some (.d (.list xs),T):=rfl
theorem wK {rs:List Str} (hs:Ns rs):SeqAt.shaped (.list (nm rs))=true∧(PyData.list (nm rs)).canLay0=true:=by
 have sp:Sp 1 (.list (nm rs)):=.lst fun d hd=>by
  obtain ⟨n,hn,rfl⟩:=List.mem_map.mp hd
  exact .str (hs n hn).2
 exact ⟨sp.sh (by decide),sp.1⟩
theorem sE (x:PyData):gJ x .none=some (.bool (!isNone x)):=by cases x <;> rfl
include q h1 in
theorem zr {rs:List Str} (hs:Ns rs) (hl:rs.length≤5) {xs:List PyData} {o9 o10 o11 o12:Option W}:∃ p10 p11 p12,f6 8 (aj (aD 10 (bf (aW (aw fw (ae (aa 6) (ae (aa 8) ai)))) (au (af inA (aa 0) (aa 7))) (aa 0))) (aj (aD 11 (fCB eW (ae (aa 8) ai))) (aj (ji 12 cD (ae (aa 6) (ae (aa 11) ai))) (aj (fIf (cW (au (af neG (aa 11) (aa 8))) (au (af eqD (af isD (aa 12) (fC .none)) (aw fD (ae (aa 6) (ae (aa 10) ai)))))) (aB (fC (.bool false))) aC) (fIf (au (af gJ (aa 12) (fC .none))) (aj (fIf (cj (a8 (eO du (ae (aa 6) (ae (aa 10) (ae (aa 12) ai)))))) (aB (fC (.bool false))) aC) (aj (bS 12 (fC .none)) (fIf (cj (a8 (aw du (ae (aa 6) (ae (aa 10) (ae (gA cD (ae (aa 6) (ae (aa 11) ai))) ai)))))) (aB (fC (.bool false))) aC))) aC))))) (ρW sc pk c3 c4 k5 l h (some (.loc (.list (nm rs)))) o9 o10 o11 o12) [xs]=some ((.nx,ρW sc pk c3 c4 k5 l h (some (.d (.list (nm rs)))) o9 p10 p11 p12),[xs]):=by
 obtain ⟨S,eS,I⟩:=vv q h1 (roots:=rs) (by omega) [xs]
 obtain ⟨K,nK,mK,hp⟩:=rN q h1 (roots:=rs) (by omega) [xs]
 obtain ⟨B,hB⟩:∃ B,B=S.filter fun n=>decide (n∈ky h):=⟨_,rfl⟩
 have mB:∀ x,x∈B↔(Reach h rs x∧x∈ky h):=fun x=>by rw [hB,List.mem_filter,I.done]; simp
 have nB:B.Nodup:=by rw [hB]; exact List.Nodup.sublist List.filter_sublist I.nd
 have kb:∀ x,x∈K↔x∈B:=fun x=>by rw [mK,mB]
 have lkb:K.length=B.length:=Nat.le_antisymm (eB nK fun x hx=>(kb x).mp hx) (eB nB fun x hx=>(kb x).mpr hx)
 have Bk7:∀ x∈B,x∈ky h:=fun x hx=>((mB x).mp hx).2
 have lB:B.length≤900:=by
  have:=eB nB Bk7
  have h2:(ky h).length=h.length:=by simp [ky]
  have:=q.len
  omega
 have mb:=Ah q Bk7 lB [xs]
 have pe:pln h K.length K=[]↔pln h B.length B=[]:=by
  rw [lkb]
  exact ⟨nil_of (mG _ kb),nil_of (mG _ fun x=>(kb x).symm)⟩
 have cf:a6 (au (af inA (aa 0) (aa 7))) (aa 0) [some (.d sc),some (.d (.list (nm l))),some (.d pk),some (.d c3),some (.d c4),some (.d k5),some (.d (.dict (aq h))),some (.tp 0),some (.d (.list (nm rs))),o9,o10,o11,o12] (nm S) [xs]=some (nm B,[xs]):=by
  have c:=iM (c:=au (af inA (aa 0) (aa 7))) (ρ:=[some (.d sc),some (.d (.list (nm l))),some (.d pk),some (.d c3),some (.d c4),some (.d k5),some (.d (.dict (aq h))),some (.tp 0),some (.d (.list (nm rs))),o9,o10,o11,o12]) (T:=[xs]) (p:=fun d=>match d with | .str n=>decide (n∈ky h) | _=>false) (ds:=nm S) fun d hd=>by
   obtain ⟨n,_,rfl⟩:=List.mem_map.mp hd
   simp [d8]
  rw [c,hB]
  congr 2
  unfold nm
  rw [List.filter_map]
  rfl
 obtain ⟨sh,cl⟩:=wK hs
 have ng:neG (.list (nm rs)) (.list (nm rs))=some (.bool false):=by
  unfold neG
  rw [if_pos ⟨sh,sh⟩,SeqAt.eqv_refl _ cl]
  rfl
 have fz:∀ f:FS,f6 8 f (ρW sc pk c3 c4 k5 l h (some (.loc (.list (nm rs)))) o9 o10 o11 o12) [xs]=f [some (.d sc),some (.d (.list (nm l))),some (.d pk),some (.d c3),some (.d c4),some (.d k5),some (.d (.dict (aq h))),some (.tp 0),some (.d (.list (nm rs))),o9,o10,o11,o12] [xs]:=fun _=>rfl
 rw [fz]
 rcases hp with ⟨Q,eQ,e2,KQ⟩ | ⟨eQ,e2⟩
 ·have pB:=pe.mp e2
  rw [pB,decide_eq_true (rfl:([]:List Str)=[])] at mb
  have nQ:Q.Nodup:=by have:=KQ.nd; rwa [List.append_nil] at this
  have mQ:∀ x,x∈Q↔x∈K:=fun x=>by have:=KQ.mem x; rwa [List.append_nil] at this
  have QB:∀ x∈Q,x∈B:=fun x hx=>(kb x).mp ((mQ x).mp hx)
  have lQ:Q.length=B.length:=Nat.le_antisymm (eB nQ QB) (eB nB fun x hx=>(mQ x).mpr ((kb x).mpr hx))
  have rt:=fun T=>Af q nQ QB (fun x hx=>Bk7 x (QB x hx)) KQ.od (by omega) lQ T
  have cF:js du [.d (.dict (aq h)),.d (.list (nm B)),.loc (.list (Q.map (ln h)))] [xs]=some (.d (.bool true),[xs]):=pZ rfl (rt []) rfl
  have z:Q.length < sizeLine:=by rw [sz]; omega
  refine ⟨some (.d (.list (nm B))),some (.d (.list (nm rs))),some (.loc (.list (Q.map (ln h)++[.none]))),?_⟩
  have in1:isNone (.list (Q.map (ln h)))=false:=rfl
  simp [ρW,eS,cf,eQ,ng,nW,mb,in1,sE,cF,z,rt]
 ·have pB:¬ pln h B.length B=[]:=fun z=>e2 (pe.mpr z)
  rw [decide_eq_false pB] at mb
  refine ⟨some (.d (.list (nm B))),some (.d (.list (nm rs))),some (.d .none),?_⟩
  have in1:isNone .none=true:=rfl
  simp [ρW,eS,cf,eQ,ng,mb,in1,sE]
include hn h1 q in
theorem zt {xs:List PyData} (hf:Fr xs) {o8 o9 o10 o11 o12:Option W}:∃ p8 p9 p10 p11 p12 xs',jY (ρW sc pk c3 c4 k5 l h o8 o9 o10 o11 o12) [xs]=some ((.nx,ρW sc pk c3 c4 k5 l h p8 p9 p10 p11 p12),[xs']):=by
 obtain ⟨r,x1,e1,f1,r0,r1⟩:=bi hf (m:=4) (by decide) (by decide)
 obtain ⟨rs,x2,p9,e2,hs,hl⟩:=yK hn h1 (h:=h) (sc:=sc) (pk:=pk) (c3:=c3) (c4:=c4) (k5:=k5) f1 (n:=(1 + r).toNat) (by omega) (o9:=o9) (o10:=o10) (o11:=o11) (o12:=o12)
 obtain ⟨p10,p11,p12,e3⟩:=zr h1 q hs hl (xs:=x2) (sc:=sc) (pk:=pk) (c3:=c3) (c4:=c4) (k5:=k5) (o9:=p9) (o10:=o10) (o11:=o11) (o12:=o12)
 refine ⟨some (.d (.list (nm rs))),p9,p10,p11,p12,x2,?_⟩
 ·unfold jY
  have ro:dm (1 + r)=true:=rng_ok (by omega) (by omega)
  have s1:bB 8 ai (ρW sc pk c3 c4 k5 l h o8 o9 o10 o11 o12) [xs]=some ((.nx,ρW sc pk c3 c4 k5 l h (some (.loc (.list []))) o9 o10 o11 o12),[xs]):=by simp [ρW]
  have s2:bp 9 (bR (af aO (fC (.int 1)) (aw aI (ae (aa 7) (ae (fC (.int 4)) ai))))) iW (ρW sc pk c3 c4 k5 l h (some (.loc (.list []))) o9 o10 o11 o12) [xs]=some ((.nx,ρW sc pk c3 c4 k5 l h (some (.loc (.list (nm rs)))) p9 o10 o11 o12),[x2]):=by
   have it:bR (af aO (fC (.int 1)) (aw aI (ae (aa 7) (ae (fC (.int 4)) ai)))) (ρW sc pk c3 c4 k5 l h (some (.loc (.list []))) o9 o10 o11 o12) [xs]=some (bL 0 (1 + r).toNat,[x1]):=by
    simp [ρW,e1,ro]
   rw [jq,it]
   exact e2
  rw [aQ s1,aQ s2]
  exact e3
end
def ρV (sc pk c3 c4:PyData) (l:List Str) (h:Dl) (o5 o8 o9 o10 o11 o12:Option W):Rho:=[some (.d sc),some (.d (.list (nm l))),some (.d pk),some (.d c3),some (.d c4),o5,some (.d (.dict (aq h))),none,o8,o9,o10,o11,o12]
def ρU (sc pk c3:PyData) (l:List Str) (b:PyData) (o5:Option W):Rho:=[some (.d sc),some (.d (.list (nm l))),some (.d pk),some (.d c3),some (.loc (.list [b])),o5,none,none,none,none,none,none,none]
theorem wB {h:Dl} {x:Str} (r:Reach h [] x):False:=by
 induction r with
 | root z=>cases z
 | step _ _ ih=>exact ih
theorem xZ:∀ ns:List Int,ns.length≤63→∃ T',kX [.d (.list (ns.map PyData.int))] []=some (.bool true,T'):=by
 intro ns _
 have scE:PyData.list (ns.map PyData.int)=scr ns:=rfl
 obtain ⟨f1,hf1,ef1⟩:=fO ns 1 (by decide)
 obtain ⟨r1,f1',e1,_,r10,r11⟩:=bi hf1 (m:=5) (by decide) (by decide)
 obtain ⟨f0,hf0,ef0⟩:=fO ns 0 (by decide)
 obtain ⟨l,f0',e0,hn,hlen⟩:=Ag hf0 (m:=3 + r1) (by omega) (by omega)
 have h0:0 < l.length:=by omega
 have h7:l.length≤7:=by omega
 have h20:l.length≤20:=by omega
 obtain ⟨f2,hf2,ef2⟩:=fO ns 2 (by decide)
 obtain ⟨r2,f2',e2,_,r20,r21⟩:=bi hf2 (m:=4) (by decide) (by decide)
 obtain ⟨d0,q0,eb,hb⟩:=Bx hn h0 h20 ns (ba:=3) (by decide) (decide (r2=0))
 obtain ⟨f3,hf3,ef3⟩:=fO ns 10 (by decide)
 obtain ⟨r3,f3',e3,_,r30,r31⟩:=bi hf3 (m:=4) (by decide) (by decide)
 have pkE:∃ pk,pk=PyData.bool (decide (r2=0)):=⟨_,rfl⟩
 have o1:∀ ρ:Rho,bQ aI bj (ae (aa 0) (ae (fC (.int 1)) ai)) (ae (fC (.int 5)) ai) (some (.d (scr ns))::ρ) []=some (.d (.int r1),[]):=fun ρ=>iQ (ws:=[.d (scr ns),.d (.int 1)]) (ws2:=[.d (.int 5)]) (by simp) (ef1 []) (by simp) rfl e1
 have o0:∀ ρ:Rho,bQ fF bj (ae (aa 0) (ae (fC (.int 0)) ai)) (ae (af aO (fC (.int 3)) (bQ aI bj (ae (aa 0) (ae (fC (.int 1)) ai)) (ae (fC (.int 5)) ai))) ai) (some (.d (scr ns))::ρ) []=some (.d (.list (nm l)),[]):=fun ρ=>iQ (ws:=[.d (scr ns),.d (.int 0)]) (ws2:=[.d (.int (3 + r1))]) (by simp) (ef0 []) (by simp [o1]) rfl e0
 have o2:∀ ρ:Rho,bQ aI bj (ae (aa 0) (ae (fC (.int 2)) ai)) (ae (fC (.int 4)) ai) (some (.d (scr ns))::ρ) []=some (.d (.int r2),[]):=fun ρ=>iQ (ws:=[.d (scr ns),.d (.int 2)]) (ws2:=[.d (.int 4)]) (by simp) (ef2 []) (by simp) rfl e2
 have o3:∀ ρ:Rho,bQ aI bj (ae (aa 0) (ae (fC (.int 10)) ai)) (ae (fC (.int 4)) ai) (some (.d (scr ns))::ρ) []=some (.d (.int r3),[]):=fun ρ=>iQ (ws:=[.d (scr ns),.d (.int 10)]) (ws2:=[.d (.int 4)]) (by simp) (ef3 []) (by simp) rfl e3
 have lp:=dY (i:=5) (body:=ms) (N:=10) (I:=fun _ ρ T=>∃ d r o5,ρ=ρU (scr ns) (.bool (decide (r2=0))) (bkD d r) l (bkD d0 q0) o5∧T=[]∧Bk l d r) (bL 0 (1 + r3).toNat) 0 (ρU (scr ns) (.bool (decide (r2=0))) (bkD d0 q0) l (bkD d0 q0) none) [] (by rw [dX]; omega) ⟨d0,q0,none,rfl,rfl,hb⟩ (fun k d ρ T hd _ hI=>by
  obtain ⟨dd,rr,o5,rfl,rfl,hb'⟩:=hI
  obtain ⟨j,rfl,j0,j1⟩:=jU hd
  obtain ⟨xs,hf,ef⟩:=fO ns (11 + j) (by omega)
  obtain ⟨d2,r2',xs',e,hb2⟩:=yw hn h0 h20 hb' hf (decide (r2=0))
  have oc:bQ fB bj (ae (aa 0) (ae (af aO (fC (.int 11)) (aa 5)) ai)) (ae (aa 3) (ae (aa 1) (ae (aa 2) ai))) (ρU (scr ns) (.bool (decide (r2=0))) (bkD dd rr) l (bkD d0 q0) (some (.d (.int j)))) []=some (.d (bkD d2 r2'),[]):=iQ (ws:=[.d (scr ns),.d (.int (11 + j))]) (ws2:=[.d (bkD dd rr),.d (.list (nm l)),.d (.bool (decide (r2=0)))]) (by simp [ρU]) (ef []) (by simp [ρU]) rfl e
  refine ⟨ρU (scr ns) (.bool (decide (r2=0))) (bkD d2 r2') l (bkD d0 q0) (some (.d (.int j))),[],?_,d2,r2',_,rfl,rfl,hb2⟩
  unfold ms
  have st:(ρU (scr ns) (.bool (decide (r2=0))) (bkD dd rr) l (bkD d0 q0) o5).set 5 (some (.d (.int j)))=ρU (scr ns) (.bool (decide (r2=0))) (bkD dd rr) l (bkD d0 q0) (some (.d (.int j))):=rfl
  rw [st,jm,oc]
  rfl)
 obtain ⟨ρ',T',elp,d1,q1,o5,rfl,rfl,hb1⟩:=lp
 obtain ⟨h,eh,hq⟩:=Bw hn h0 h20 ns (b:=16) (by decide) hb hb1
 have lq:=dY (i:=5) (body:=mr) (N:=10) (I:=fun _ ρ T=>∃ o5 o8 o9 o10 o11 o12,ρ=ρV (scr ns) (.bool (decide (r2=0))) (bkD d1 q1) (.list [bkD d0 q0,bkD d1 q1]) l h o5 o8 o9 o10 o11 o12∧T=[]) (bL 0 4) 0 (ρV (scr ns) (.bool (decide (r2=0))) (bkD d1 q1) (.list [bkD d0 q0,bkD d1 q1]) l h o5 none none none none none) [] (by rw [dX]; omega) ⟨_,_,_,_,_,_,rfl,rfl⟩ (fun k d ρ T hd _ hI=>by
  obtain ⟨o5,o8,o9,o10,o11,o12,rfl,rfl⟩:=hI
  obtain ⟨j,rfl,j0,j1⟩:=jU hd
  obtain ⟨xs,hf,ef⟩:=fO ns (30 + j) (by omega)
  obtain ⟨p8,p9,p10,p11,p12,xs',e⟩:=zt hn h7 hq hf (sc:=scr ns) (pk:=.bool (decide (r2=0))) (c3:=bkD d1 q1) (c4:=.list [bkD d0 q0,bkD d1 q1]) (k5:=.int j) (o8:=o8) (o9:=o9) (o10:=o10) (o11:=o11) (o12:=o12)
  refine ⟨ρV (scr ns) (.bool (decide (r2=0))) (bkD d1 q1) (.list [bkD d0 q0,bkD d1 q1]) l h (some (.d (.int j))) (p8.bind (dS 0)) (p9.bind (dS 0)) (p10.bind (dS 0)) (p11.bind (dS 0)) (p12.bind (dS 0)),[],?_,_,_,_,_,_,_,rfl,rfl⟩
  have oo:=l7 (i:=7) (fr:=jY) (ρ:=ρV (scr ns) (.bool (decide (r2=0))) (bkD d1 q1) (.list [bkD d0 q0,bkD d1 q1]) l h (some (.d (.int j))) o8 o9 o10 o11 o12) e
  have ef':=ef []
  unfold mr
  unfold scr ρV at oo ⊢
  simp only [mj,List.set_cons_succ,List.set_cons_zero,i8,oy,i7,i6,i5,i4,kc,ka,dO,iS,jr,i9,jn,mS,jp,jo,ef',oo]
  rfl)
 obtain ⟨ρ2,T2,elq,o5',o8,o9,o10,o11,o12,rfl,rfl⟩:=lq
 have ep:cD [.d (.dict (aq h)),.d (.list [])] []=some (.list [],[]):=by
  obtain ⟨K,nK,mK,hp⟩:=rN hq h7 (roots:=[]) (by simp) []
  have k0:K=[]:=by
   cases K with
   | nil=>rfl
   | cons a r=>exact absurd ((mK a).mp List.mem_cons_self).1 wB
  subst k0
  rcases hp with ⟨Q,eQ,_,KQ⟩ | ⟨_,z⟩
  ·have q0:Q=[]:=by
    cases Q with
    | nil=>rfl
    | cons a r=>exact absurd ((KQ.mem a).mp (List.mem_append_left _ List.mem_cons_self)) (fun z=>nomatch z)
   subst q0
   exact eQ
  ·exact absurd rfl z
 have eg:eqG (.list []) (.list [])=some (.bool true):=by
  have s0:SeqAt.shaped (.list [])=true:=by decide +kernel
  unfold eqG
  rw [if_pos ⟨s0,s0⟩]
  rfl
 refine ⟨[],?_⟩
 rw [scE,xQ,eE]
 simp only [dg,dh,if_true]
 show cg (aj _ _ [some (.d (scr ns)),none,none,none,none,none,none,none,none,none,none,none,none] [])=_
 rw [aQ (ρ1:=[some (.d (scr ns)),some (.d (.list (nm l))),none,none,none,none,none,none,none,none,none,none,none]) (T1:=[]) (by rw [jm,o0]; rfl)]
 rw [aQ (ρ1:=[some (.d (scr ns)),some (.d (.list (nm l))),some (.d (.bool (decide (r2=0)))),none,none,none,none,none,none,none,none,none,none]) (T1:=[]) (by simp [o2])]
 rw [aQ (ρ1:=[some (.d (scr ns)),some (.d (.list (nm l))),some (.d (.bool (decide (r2=0)))),some (.d (bkD d0 q0)),none,none,none,none,none,none,none,none,none]) (T1:=[]) (by simp [eb])]
 rw [aQ (ρ1:=ρU (scr ns) (.bool (decide (r2=0))) (bkD d0 q0) l (bkD d0 q0) none) (T1:=[]) (by simp [ρU])]
 have ro:dm (1 + r3)=true:=rng_ok (by omega) (by omega)
 have it:bR (af aO (fC (.int 1)) (bQ aI bj (ae (aa 0) (ae (fC (.int 10)) ai)) (ae (fC (.int 4)) ai))) (ρU (scr ns) (.bool (decide (r2=0))) (bkD d0 q0) l (bkD d0 q0) none) []=some (bL 0 (1 + r3).toNat,[]):=by
  unfold ρU
  simp [o3,ro]
 rw [aQ (a:=bp 5 _ _) (by rw [jq,it]; exact elp)]
 have z1:1 < sizeLine:=by rw [sz]; decide
 rw [aQ (ρ1:=[some (.d (scr ns)),some (.d (.list (nm l))),some (.d (.bool (decide (r2=0)))),some (.d (bkD d1 q1)),some (.loc (.list [bkD d0 q0,bkD d1 q1])),o5,none,none,none,none,none,none,none]) (T1:=[]) (by unfold ρU; simp [z1])]
 have fz:∀ f:FS,f6 4 f [some (.d (scr ns)),some (.d (.list (nm l))),some (.d (.bool (decide (r2=0)))),some (.d (bkD d1 q1)),some (.loc (.list [bkD d0 q0,bkD d1 q1])),o5,none,none,none,none,none,none,none] []=f [some (.d (scr ns)),some (.d (.list (nm l))),some (.d (.bool (decide (r2=0)))),some (.d (bkD d1 q1)),some (.d (.list [bkD d0 q0,bkD d1 q1])),o5,none,none,none,none,none,none,none] []:=fun _=>rfl
 rw [fz]
 rw [aQ (ρ1:=ρV (scr ns) (.bool (decide (r2=0))) (bkD d1 q1) (.list [bkD d0 q0,bkD d1 q1]) l h o5 none none none none none) (T1:=[]) (by unfold ρV; simp [eh])]
 have it4:bR (fC (.int 4)) (ρV (scr ns) (.bool (decide (r2=0))) (bkD d1 q1) (.list [bkD d0 q0,bkD d1 q1]) l h o5 none none none none none) []=some (bL 0 4,[]):=by
  have ro4:dm 4=true:=rng_ok (by decide) (by decide)
  simp [ro4]
 rw [aQ (a:=bp 5 _ _) (by rw [jq,it4]; exact elq)]
 unfold ρV
 simp [bW,ep,eg]
def top (i:Nat):Stmt:=PySem.Challenge.pw_redo_k39_papers_in_held.main.body.getD i (.Pass ⟨0,0,0,0⟩)
def Bt:Expr→Scope
 | .ListComp _ _ s _=>{ s with names:=s.names.map fun p=>if p.2 == .free then (p.1,.cell) else p }
 | _=>aM (top 0)
def B6:Expr:=match (c7 (top 33)).getD 1 (.Pass ⟨0,0,0,0⟩) with
 | .For _ _ (.Assign _ e _::_) _ _=>e
 | _=>.Name "" ⟨0,0,0,0⟩
structure Bi (K:Frag) (mg:Str→Option Value):Prop where
 b_abs:mg "abs" = none
 b_all:mg "all" = none
 b_any:mg "any" = none
 b_dict:mg "dict" = none
 b_int:mg "int" = none
 b_isinstance:mg "isinstance" = none
 b_len:mg "len" = none
 b_list:mg "list" = none
 b_max:mg "max" = none
 b_range:mg "range" = none
 b_sorted:mg "sorted" = none
 b_str:mg "str" = none
 b_sum:mg "sum" = none
 b_tuple:mg "tuple" = none
variable {P:Program} {w:World} {K:Frag} {mg:Str→Option Value} {base:Heap} {f:Addr} {fd:FuncData}
theorem rm {j k:Nat} {A:Around} (r:Room k A) (h:j≤k:=by omega):Room j A:=r.mono h
theorem sc_names_in:FnScope ["line","wanted"] ["line"] (aM (top 3)):=⟨rfl,rfl,rfl,by decide +kernel,rfl,by decide +kernel,by decide +kernel⟩
theorem vA (B:Bi K mg) (F:Fun K "names_in" "names_in" (top 3) f fd)  : FnOk P w K mg base CX0 1 f fd ["line"] (spM K 1 (fG)):=dfn F sc_names_in fun _ _ _ _ _ _ hr=>(av (aU (i:=1) sc_names_in.nd (dE (aH aY (ax aA (ax aA (ag 0) ak) ak) aE) (cw (ah (ax aA (ax aA (ag 0) ak) ak) ao)) (cw ao))) (az (aL (aT bc (c8 (osc:=aM (top 3)) (N:=["line","wanted"]) (N':=["line","wanted"]) (x:="read") ⟨rfl,by decide +kernel,by decide +kernel,rfl,by decide +kernel,by decide +kernel,by decide +kernel,by decide +kernel,rfl,by decide +kernel⟩ (bE (ax aA (ag 0) ak)) (fun C s0 H0 ex=>(ax aA (ag 0) ak)) (fun C s0 H0 ex=>dA)) (ag 1)))))
theorem sc_names_reached:FnScope ["lines","names","reached","left","name"] ["lines","names"] (aM (top 2)):=⟨rfl,rfl,rfl,by decide +kernel,rfl,by decide +kernel,by decide +kernel⟩
theorem uA (B:Bi K mg) (F:Fun K "names_reached" "names_reached" (top 2) f fd) (Qbe:Fn P w K mg base "names_in" ["line"] 1 (spM K 1 fG)):FnOk P w K mg base CX0 2 f fd ["lines","names"] (spM K 2 (gh)):=dfn F sc_names_reached fun _ _ _ _ _ _ hr=>(av (gB (i:=2) sc_names_reached.nd) (av (qu (i:=3) B.b_list sc_names_reached.nd (ag 1)) (av (iT 100000 (aH ff (bh bC rfl B.b_len boot_len (ah (ag 3) ao)) ak) (av (zV (i:=3) (j:=4) sc_names_reached.nd) (az (aN (aH (l8 hr) (ag 4) (ag 2)) (av (d3 (i:=2) hr (ag 4) da) (az (Bo (i:=3) (by exact (dE (aH (gP hr) (ag 4) (ag 0)) (aJ Qbe (rm hr) rfl (ah (ax (dC hr) (ag 0) (ag 4)) ao) (ar aF)) (cw ao)))))) aS)))) (az (aL (qA B.b_sorted (ag 2)))))))
theorem sc_lines_reached:FnScope ["lines","names","found","name"] ["lines","names"] (aM (top 1)):=⟨rfl,rfl,rfl,by decide +kernel,rfl,by decide +kernel,by decide +kernel⟩
theorem uB (B:Bi K mg) (F:Fun K "lines_reached" "lines_reached" (top 1) f fd) (Qao:Fn P w K mg base "names_reached" ["lines","names"] 2 (spM K 2 gh)):FnOk P w K mg base CX0 3 f fd ["lines","names"] (spM K 2 (g8)):=dfn F sc_lines_reached fun _ _ _ _ _ _ hr=>(av (gB (i:=2) sc_lines_reached.nd) (av (dk (i:=3) sc_lines_reached.nd (bE (aJ Qao (rm hr) rfl (ah (ag 0) (ah (ag 1) ao)) (ar (ar aF)))) (az (aN (aH (gP hr) (ag 3) (ag 0)) (az (d3 (i:=2) hr (ag 3) (ax (dC hr) (ag 0) (ag 3)))) aS))) (az (aL (ag 2)))))
theorem uy:FnScope ["lines","line"] ["lines","line"] (aM (top 5)):=⟨rfl,rfl,rfl,by decide +kernel,rfl,by decide +kernel,by decide +kernel⟩
theorem uz (B:Bi K mg) (F:Fun K "reads_none_of" "reads_none_of" (top 5) f fd)  : FnOk P w K mg base CX0 1 f fd ["lines","line"] (spM K 2 (eJ)):=dfn F uy fun _ _ _ _ _ _ hr=>(az (aL (Br (bh tH rfl B.b_any boot_any (ah (c8 (osc:=aM (top 5)) (N:=["lines","line"]) (N':=["lines","line"]) (x:="read") ⟨rfl,by decide +kernel,by decide +kernel,rfl,by decide +kernel,by decide +kernel,by decide +kernel,by decide +kernel,rfl,by decide +kernel⟩ (bE (ax aA (ag 1) ak)) (fun C s0 H0 ex=>(dP (gP hr) (ax aA (ag 0) ak) (ag 1))) (fun C s0 H0 ex=>dA)) ao)))))
theorem sc_in_order:FnScope ["lines","paper","left","free","name"] ["lines"] (aM (top 4)):=⟨rfl,rfl,rfl,by decide +kernel,rfl,by decide +kernel,by decide +kernel⟩
theorem vB (B:Bi K mg) (F:Fun K "in_order" "in_order" (top 4) f fd) (Qap:Fn P w K mg base "reads_none_of" ["lines","line"] 1 (spM K 2 eJ)):FnOk P w K mg base CX0 2 f fd ["lines"] (spO K 1 (gn)):=oz F sc_in_order fun _ _ _ _ _ _ hr=>(av (dZ (i:=1) sc_in_order.nd ao) (av (qw (i:=2) B.b_dict sc_in_order.nd (ag 0)) (av (iT 100000 (aH ff (bh bC rfl B.b_len boot_len (ah (ag 2) ao)) ak) (av (mT (i:=3) (osc:=aM (top 4)) (N:=["lines","paper","left","free","name"]) (N':=["lines","paper","left","free",".4."]) (x:="name") ⟨rfl,by decide +kernel,by decide +kernel,rfl,by decide +kernel,by decide +kernel,by decide +kernel,by decide +kernel,rfl,by decide +kernel⟩ sc_in_order.nd (bE (qA B.b_sorted (ag 2))) (fun C s0 H0 ex=>(ag 0)) (fun C s0 H0 ex=>ic rfl (b7 (mV (aJ Qap (rm hr) rfl (ah (ag 3) (ah (ax (dC hr) (ag 3) (ag 0)) ao)) (ar (ar aF))))))) (av (aN (aH aY (bh bC rfl B.b_len boot_len (ah (ag 3) ao)) ak) (az yg) aS) (az (dk (i:=4) sc_in_order.nd (bE (ag 3)) (az (Bp (i:=1) (j:=2) (by exact (ag 4))))))))) (az (yi (i:=1))))))
theorem sc_held_lines:FnScope ["held","lines","name","kept"] ["held"] (aM (top 8)):=⟨rfl,rfl,rfl,by decide +kernel,rfl,by decide +kernel,by decide +kernel⟩
theorem uW (B:Bi K mg) (F:Fun K "held_lines" "held_lines" (top 8) f fd)  : FnOk P w K mg base CX0 1 f fd ["held"] (spM K 1 (fE)):=dfn F sc_held_lines fun _ _ _ _ _ _ hr=>(av (gB (i:=1) sc_held_lines.nd) (av (zY (i:=2) (j:=3) sc_held_lines.nd (ag 0) (az (d3 (i:=1) hr (ag 2) (ax aA (ag 3) ak)))) (az (aL (ag 1)))))
theorem vx:FnScope ["held","names"] ["held","names"] (aM (top 7)):=⟨rfl,rfl,rfl,by decide +kernel,rfl,by decide +kernel,by decide +kernel⟩
theorem vz (B:Bi K mg) (F:Fun K "paper_in" "paper_in" (top 7) f fd) (Qaz:Fn P w K mg base "held_lines" ["held"] 1 (spM K 1 fE)) (Qaq:Fn P w K mg base "lines_reached" ["lines","names"] 3 (spM K 2 g8)) (Qbf:Fn P w K mg base "in_order" ["lines"] 2 (spO K 1 gn)):FnOk P w K mg base CX0 4 f fd ["held","names"] (spO K 2 (cD)):=oz F vx fun _ _ _ _ _ _ hr=>(az (yh Qbf (rm hr) rfl (ah (aJ Qaq (rm hr) rfl (ah (aJ Qaz (rm hr) rfl (ah (ag 0) ao) (ar aF)) (ah (ag 1) ao)) (ar (ar aF))) ao) (ar aF)))
theorem u9:FnScope ["_law_script","_law_k"] ["_law_script","_law_k"] (aM (top 10)):=⟨rfl,rfl,rfl,by decide +kernel,rfl,by decide +kernel,by decide +kernel⟩
theorem vi (B:Bi K mg) (F:Fun K "_law_feed" "_law_feed" (top 10) f fd)  : FnOk P w K mg base CX0 1 f fd ["_law_script","_law_k"] (spO K 2 (bj)):=oz F u9 fun _ _ _ _ _ _ hr=>(av (aN (aH aY (bh bC rfl B.b_len boot_len (ah (ag 0) ao)) ak) (az (qx (ah ak (ah ak (ah (ag 1) ao))))) aS) (az (qx (ah (ax aA (ag 0) (aT gO (ag 1) (bh bC rfl B.b_len boot_len (ah (ag 0) ao)))) (ah ak (ah (ag 1) ao))))))
theorem sc__law_next:FnScope ["_law_feed_here","_law_many","_law_digit","_law_seed"] ["_law_feed_here","_law_many"] (aM (top 11)):=⟨rfl,rfl,rfl,by decide +kernel,rfl,by decide +kernel,by decide +kernel⟩
theorem ve (B:Bi K mg) (F:Fun K "_law_next" "_law_next" (top 11) f fd)  : FnOk P w K mg base CX0 1 f fd ["_law_feed_here","_law_many"] (spM K 2 (aI)):=dfn F sc__law_next fun _ _ _ _ _ _ hr=>(av (sN (ag 0) ak (aT bc (ax aA (ag 0) ak) ak)) (av (aN (aH CQ (ax aA (ag 0) ak) (aT ju ak ak)) (av (aU (i:=2) sc__law_next.nd (aT gO (ax aA (ag 0) ak) (ag 1))) (av (sN (ag 0) ak (aT zk (ax aA (ag 0) ak) (ag 1))) (az (aL (ag 2))))) aS) (av (aU (i:=3) sc__law_next.nd (aT bc (aT bc (aT gO (ax aA (ag 0) ak) ak) (aT iy ak (ax aA (ag 0) ak))) (aT iy ak (ax aA (ag 0) ak)))) (av (aU (i:=3) sc__law_next.nd (aT gO (aT iy (aT bc (ag 3) ak) ak) ak)) (az (aL (aT gO (aT gO (aT iy (aT gO (aT bc (aT iy (ag 3) ak) (ax aA (ag 0) ak)) ak) ak) ak) (ag 1))))))))
theorem sc__law_names:FnScope ["_law_feed_here","_law_many","_law_words","_law_letters","_law_names_here","_law_k","_law_way","_law_name"] ["_law_feed_here","_law_many"] (aM (top 12)):=⟨rfl,rfl,rfl,by decide +kernel,rfl,by decide +kernel,by decide +kernel⟩
theorem u3 (B:Bi K mg) (F:Fun K "_law_names" "_law_names" (top 12) f fd) (Qaa:Fn P w K mg base "_law_next" ["_law_feed_here","_law_many"] 1 (spM K 2 aI)):FnOk P w K mg base CX0 2 f fd ["_law_feed_here","_law_many"] (spM K 2 (fF)):=dfn F sc__law_names fun _ _ _ _ _ _ hr=>(av (aU (i:=2) sc__law_names.nd (cw (ah aE (ah aE (ah aE (ah aE (ah aE (ah aE (ah aE (ah aE ao)))))))))) (av (aU (i:=3) sc__law_names.nd aE) (av (dZ (i:=4) sc__law_names.nd ao) (av (dk (i:=5) sc__law_names.nd (gC rfl B.b_range (ag 1)) (av (aU (i:=6) sc__law_names.nd (aJ Qaa (rm hr) rfl (ah (ag 0) (ah ak ao)) (ar (ar aF)))) (av (aU (i:=7) sc__law_names.nd (ax aA (ag 3) (aJ Qaa (rm hr) rfl (ah (ag 0) (ah ak ao)) (ar (ar aF))))) (av (aN (aH aY (ag 6) ak) (az (aU (i:=7) sc__law_names.nd (ax aA (ag 2) (aJ Qaa (rm hr) rfl (ah (ag 0) (ah ak ao)) (ar (ar aF)))))) aS) (av (aN (cL (d9 (aH aY (ag 6) ak) (eM (aH ff (bh bC rfl B.b_len boot_len (ah (ag 4) ao)) ak)))) (az (aU (i:=7) sc__law_names.nd (fV (aT bc (ax aA (ag 4) (nL ak)) (ag 7)) fK (fJ ak)))) aS) (av (aN (aH aY (ag 6) ak) (az (aU (i:=7) sc__law_names.nd (aT iy (aT bc (ag 7) (ax aA (ag 3) (aJ Qaa (rm hr) rfl (ah (ag 0) (ah ak ao)) (ar (ar aF))))) ak))) aS) (av (aN (aH iI (ag 7) (ag 4)) (az (aU (i:=7) sc__law_names.nd (ax aA (c8 (osc:=aM (top 12)) (N:=["_law_feed_here","_law_many","_law_words","_law_letters","_law_names_here","_law_k","_law_way","_law_name"]) (N':=["_law_feed_here","_law_many","_law_words","_law_letters","_law_names_here","_law_k","_law_way","_law_name"]) (x:="_law_letter") ⟨rfl,by decide +kernel,by decide +kernel,rfl,by decide +kernel,by decide +kernel,by decide +kernel,by decide +kernel,rfl,by decide +kernel⟩ (bE (ag 3)) (fun C s0 H0 ex=>(ag 0)) (fun C s0 H0 ex=>ic rfl (aH j5 (ag 0) (ag 5)))) ak))) aS) (az (Bn (i:=4) (by exact (aJ Qaa (rm hr) rfl (ah (ag 0) (ah (aT bc (bh bC rfl B.b_len boot_len (ah (ag 4) ao)) ak) ao)) (ar (ar aF)))) (by exact (ag 7))))))))))) (az (aL (ag 4)))))))
theorem sc__law_value:FnScope ["_law_feed_here","_law_names_here","_law_some","_law_k"] ["_law_feed_here","_law_names_here"] (aM (top 13)):=⟨rfl,rfl,rfl,by decide +kernel,rfl,by decide +kernel,by decide +kernel⟩
theorem uX (B:Bi K mg) (F:Fun K "_law_value" "_law_value" (top 13) f fd) (Qaa:Fn P w K mg base "_law_next" ["_law_feed_here","_law_many"] 1 (spM K 2 aI)):FnOk P w K mg base CX0 2 f fd ["_law_feed_here","_law_names_here"] (spM K 2 (cZ)):=dfn F sc__law_value fun _ _ _ _ _ _ hr=>(av (aU (i:=2) sc__law_value.nd (cw (ah ak (ah ak (ah aE (ah (aP ao) (ah ak (ah aE (ah (aP (ah ak ao)) (ah (aP (ah ak (ah aE ao))) (ah (nL ak) (ah (aT ju ak ak) (ah aE (ah (aP (ah (aP ao) (ah (aP (ah aE (ah ak ao))) ao))) (ah (aP (ah ak (ah ak (ah ak ao)))) (ah (aT ix ak (aT ju ak ak)) ao)))))))))))))))) (av (aU (i:=3) sc__law_value.nd (aJ Qaa (rm hr) rfl (ah (ag 0) (ah ak ao)) (ar (ar aF)))) (av (aN (aH dF (ag 3) ak) (az (aL (ax aA (ag 2) (ag 3)))) aS) (av (aN (aH aY (ag 3) ak) (az (aL (aJ Qaa (rm hr) rfl (ah (ag 0) (ah (aT ju ak ak) ao)) (ar (ar aF))))) aS) (az (aL (ax aA (ag 1) (aJ Qaa (rm hr) rfl (ah (ag 0) (ah (bh bC rfl B.b_len boot_len (ah (ag 1) ao)) ao)) (ar (ar aF))))))))))
theorem sc__law_weight:FnScope ["_law_value_here","_law_some","_law_deep"] ["_law_value_here"] (aM (top 14)):=⟨rfl,rfl,rfl,by decide +kernel,rfl,by decide +kernel,by decide +kernel⟩
theorem uK (n:Nat) (B:Bi K mg) (F:Fun K "_law_weight" "_law_weight" (top 14) f fd) (Qak:Fn P w K mg base "_law_weight" ["_law_value_here"] (0 + n) (spM K 1 (bT n))):FnOk P w K mg base CX0 (0 + n + 1) f fd ["_law_value_here"] (spM K 1 (bT (n + 1))):=dfn F sc__law_weight fun _ _ _ _ _ _ hr=>(av (aU (i:=1) sc__law_weight.nd (dE (b7 (cJ .tup B.b_isinstance (ag 0) B.b_tuple boot_tuple)) (c8 (osc:=aM (top 14)) (N:=["_law_value_here","_law_some","_law_deep"]) (N':=["_law_value_here","_law_some","_law_deep"]) (x:="_law_part") ⟨rfl,by decide +kernel,by decide +kernel,rfl,by decide +kernel,by decide +kernel,by decide +kernel,by decide +kernel,rfl,by decide +kernel⟩ (bE (ag 0)) (fun C s0 H0 ex=>(aJ Qak (rm hr) rfl (ah (ag 0) ao) (ar aF))) (fun C s0 H0 ex=>dA)) (cw ao))) (av (aU (i:=2) sc__law_weight.nd (aT bc (cE lc rfl B.b_int boot_int (ah (cJ .tup B.b_isinstance (ag 0) B.b_tuple boot_tuple) ao)) (z5 B.b_max (c8 (osc:=aM (top 14)) (N:=["_law_value_here","_law_some","_law_deep"]) (N':=["_law_value_here","_law_some","_law_deep"]) (x:="_law_one") ⟨rfl,by decide +kernel,by decide +kernel,rfl,by decide +kernel,by decide +kernel,by decide +kernel,by decide +kernel,rfl,by decide +kernel⟩ (bE (ag 1)) (fun C s0 H0 ex=>(ax aA (ag 0) ak)) (fun C s0 H0 ex=>dA)) ak))) (az (aL (aP (ah (ag 2) (ah (aT bc ak (bh Cu rfl B.b_sum boot_sum (ah (c8 (osc:=aM (top 14)) (N:=["_law_value_here","_law_some","_law_deep"]) (N':=["_law_value_here","_law_some","_law_deep"]) (x:="_law_one") ⟨rfl,by decide +kernel,by decide +kernel,rfl,by decide +kernel,by decide +kernel,by decide +kernel,by decide +kernel,rfl,by decide +kernel⟩ (bE (ag 1)) (fun C s0 H0 ex=>(ax aA (ag 0) ak)) (fun C s0 H0 ex=>dA)) ao))) ao)))))))
theorem sc__law_kept:FnScope ["_law_value_here","_law_deep","_law_many","_law_good_here"] ["_law_value_here"] (aM (top 15)):=⟨rfl,rfl,rfl,by decide +kernel,rfl,by decide +kernel,by decide +kernel⟩
theorem vf (B:Bi K mg) (F:Fun K "_law_kept" "_law_kept" (top 15) f fd) (Qak:Fn P w K mg base "_law_weight" ["_law_value_here"] 25 (spM K 1 (bT 25))):FnOk P w K mg base CX0 26 f fd ["_law_value_here"] (spM K 1 (bU)):=dfn F sc__law_kept fun _ _ _ _ _ _ hr=>(av (sM (i:=1) (j:=2) sc__law_kept.nd (aJ Qak (rm hr) rfl (ah (ag 0) ao) (ar aF))) (av (aN (b7 (cJ .int B.b_isinstance (ag 0) B.b_int boot_int)) (az (aL (dE (aH gX (bh Cw rfl B.b_abs boot_abs (ah (ag 0) ao)) (aT ju ak ak)) (aP (ah aE (ah (ag 0) ao))) (aP (ah aE (ah aE ao)))))) aS) (av (aU (i:=3) sc__law_kept.nd (dP gX (bh bC rfl B.b_len boot_len (ah (ag 0) ao)) (dE (b7 (cJ .str B.b_isinstance (ag 0) B.b_str boot_str)) ak ak))) (az (aL (dE (cL (d9 (b7 (ag 3)) (d9 (aH gX (ag 1) ak) (eM (aH gX (ag 2) ak))))) (aP (ah aE (ah (ag 0) ao))) (aP (ah aE (ah aE ao)))))))))
theorem uU:FnScope ["_law_value_here"] ["_law_value_here"] (aM (top 16)):=⟨rfl,rfl,rfl,by decide +kernel,rfl,by decide +kernel,by decide +kernel⟩
theorem uY (n:Nat) (B:Bi K mg) (F:Fun K "_law_stamp" "_law_stamp" (top 16) f fd) (Qae:Fn P w K mg base "_law_stamp" ["_law_value_here"] (0 + n) (spM K 1 (cC n))):FnOk P w K mg base CX0 (0 + n + 1) f fd ["_law_value_here"] (spM K 1 (cC (n + 1))):=dfn F uU fun _ _ _ _ _ _ hr=>(av (aN (b7 (cJ .int B.b_isinstance (ag 0) B.b_int boot_int)) (az (aL (cE og rfl B.b_str boot_str (ah (ag 0) ao)))) aS) (av (aN (b7 (cJ .str B.b_isinstance (ag 0) B.b_str boot_str)) (az (aL (aT bc aE (ag 0)))) aS) (az (aL (aT bc (aT bc aE (z6 aE (c8 (osc:=aM (top 16)) (N:=["_law_value_here"]) (N':=["_law_value_here"]) (x:="_law_part") ⟨rfl,by decide +kernel,by decide +kernel,rfl,by decide +kernel,by decide +kernel,by decide +kernel,by decide +kernel,rfl,by decide +kernel⟩ (bE (ag 0)) (fun C s0 H0 ex=>(aJ Qae (rm hr) rfl (ah (ag 0) ao) (ar aF))) (fun C s0 H0 ex=>dA)))) aE)))))
theorem sc__law_of_two:FnScope ["_law_word","_law_one","_law_other","_law_kinds"] ["_law_word","_law_one","_law_other"] (aM (top 17)):=⟨rfl,rfl,rfl,by decide +kernel,rfl,by decide +kernel,by decide +kernel⟩
theorem uO (B:Bi K mg) (F:Fun K "_law_of_two" "_law_of_two" (top 17) f fd) (Qaj:Fn P w K mg base "_law_kept" ["_law_value_here"] 26 (spM K 1 bU)):FnOk P w K mg base CX0 27 f fd ["_law_word","_law_one","_law_other"] (spM K 3 (bg)):=dfn F sc__law_of_two fun _ _ _ _ _ _ hr=>(av (aN (aH aY (ag 0) aE) (az (aL (aP (ah aE (ah (cE lc rfl B.b_int boot_int (ah (dP (nX hr) (ag 1) (ag 2)) ao)) ao))))) aS) (av (aN (aH aY (ag 0) aE) (av (aN (cL (fU (eP (b7 (cJ .tup B.b_isinstance (ag 1) B.b_tuple boot_tuple))) (gM (eP (b7 (cJ .int B.b_isinstance (ag 2) B.b_int boot_int)))))) (az (aL (aP (ah aE (ah aE ao))))) aS) (az (aL (dE (qt gX dF ak (ag 2) (bh bC rfl B.b_len boot_len (ah (ag 1) ao))) (aP (ah aE (ah (ax aA (ag 1) (ag 2)) ao))) (aP (ah aE (ah aE ao))))))) aS) (av (aU (i:=3) sc__law_of_two.nd (cw (ah (cJ .int B.b_isinstance (ag 1) B.b_int boot_int) (ah (cJ .int B.b_isinstance (ag 2) B.b_int boot_int) (ah (cJ .str B.b_isinstance (ag 1) B.b_str boot_str) (ah (cJ .str B.b_isinstance (ag 2) B.b_str boot_str) ao)))))) (av (aN (aH aY (ag 0) aE) (av (aN (cL (fU (aH (kW hr) (fV (ag 3) fK (fJ ak)) (cw (ah da (ah da ao)))) (gM (aH lu (ax aA (ag 3) ak) (ax aA (ag 3) ak))))) (az (aL (aP (ah aE (ah aE ao))))) aS) (az (aL (aJ Qaj (rm hr) rfl (ah (aT bc (ag 1) (ag 2)) ao) (ar aF))))) aS) (av (aN (aH (kW hr) (fV (ag 3) fK (fJ ak)) (cw (ah da (ah da ao)))) (az (aL (aP (ah aE (ah aE ao))))) aS) (az (aL (dE (aH aY (ag 0) aE) (aJ Qaj (rm hr) rfl (ah (aT bc (ag 1) (ag 2)) ao) (ar aF)) (aP (ah aE (ah (cE lc rfl B.b_int boot_int (ah (dP dF (ag 1) (ag 2)) ao)) ao)))))))))))
theorem sc__law_told:FnScope ["_law_expr_here","_law_got","_law_some","_law_one","_law_told_here"] ["_law_expr_here","_law_got"] (aM (top 18)):=⟨rfl,rfl,rfl,by decide +kernel,rfl,by decide +kernel,by decide +kernel⟩
theorem vc (n:Nat) (B:Bi K mg) (F:Fun K "_law_told" "_law_told" (top 18) f fd) (Qal:Fn P w K mg base "_law_told" ["_law_expr_here","_law_got"] (27 + n) (spM K 2 (bI n))) (Qaj:Fn P w K mg base "_law_kept" ["_law_value_here"] 26 (spM K 1 bU)) (Qav:Fn P w K mg base "_law_of_two" ["_law_word","_law_one","_law_other"] 27 (spM K 3 bg)):FnOk P w K mg base CX0 (27 + n + 1) f fd ["_law_expr_here","_law_got"] (spM K 2 (bI (n + 1))):=dfn F sc__law_told fun _ _ _ _ _ _ hr=>(av (aN (aH aY (ax aA (ag 0) ak) aE) (az (aL (aP (ah aE (ah (ax aA (ag 0) ak) ao))))) aS) (av (aN (aH aY (ax aA (ag 0) ak) aE) (az (aL (aP (ah aE (ah (ax aA (ag 1) (ax aA (ag 0) ak)) ao))))) aS) (av (dZ (i:=2) sc__law_told.nd ao) (av (dk (i:=3) sc__law_told.nd (bE (dE (aH aY (ax aA (ag 0) ak) aE) (ax aA (ag 0) ak) (fV (ag 0) (fJ ak) fK))) (av (aU (i:=4) sc__law_told.nd (aJ Qal (rm hr) rfl (ah (ag 3) (ah (ag 1) ao)) (ar (ar aF)))) (av (aN (aH aY (ax aA (ag 4) ak) aE) (az (aL (ag 4))) aS) (az (eR (i:=2) (by exact (ax aA (ag 4) ak))))))) (av (aN (aH aY (ax aA (ag 0) ak) aE) (az (aL (aJ Qaj (rm hr) rfl (ah (cE gE rfl B.b_tuple boot_tuple (ah (ag 2) ao)) ao) (ar aF)))) aS) (av (aN (aH aY (ax aA (ag 0) ak) aE) (az (aL (dE (b7 (cJ .int B.b_isinstance (ax aA (ag 2) ak) B.b_int boot_int)) (aP (ah aE (ah aE ao))) (aP (ah aE (ah (bh bC rfl B.b_len boot_len (ah (ax aA (ag 2) ak) ao)) ao)))))) aS) (az (aL (aJ Qav (rm hr) rfl (ah (ax aA (ag 0) ak) (ah (ax aA (ag 2) ak) (ah (ax aA (ag 2) ak) ao))) (ar (ar (ar aF))))))))))))
theorem uD:FnScope ["_law_thing"] ["_law_thing"] (aM (top 19)):=⟨rfl,rfl,rfl,by decide +kernel,rfl,by decide +kernel,by decide +kernel⟩
theorem uG (B:Bi K mg) (F:Fun K "_law_is_name" "_law_is_name" (top 19) f fd)  : FnOk P w K mg base CX0 1 f fd ["_law_thing"] (spM K 1 (cY)):=dfn F uD fun _ _ _ _ _ _ hr=>(av (aN (cL (fU (eP (b7 (cJ .str B.b_isinstance (ag 0) B.b_str boot_str))) (gM (eP (qt gX gX ak (bh bC rfl B.b_len boot_len (ah (ag 0) ao)) ak))))) (az (aL da)) aS) (az (aL (bh Cv rfl B.b_all boot_all (ah (c8 (osc:=aM (top 19)) (N:=["_law_thing"]) (N':=["_law_thing"]) (x:="_law_sign") ⟨rfl,by decide +kernel,by decide +kernel,rfl,by decide +kernel,by decide +kernel,by decide +kernel,by decide +kernel,rfl,by decide +kernel⟩ (bE (ag 0)) (fun C s0 H0 ex=>(dP iI (ag 0) aE)) (fun C s0 H0 ex=>dA)) ao)))))
theorem sc__law_follow:FnScope ["_law_recipe_here","_law_known","_law_got","_law_reads","_law_told_here"] ["_law_recipe_here","_law_known"] (aM (top 20)):=⟨rfl,rfl,rfl,by decide +kernel,rfl,by decide +kernel,by decide +kernel⟩
theorem uQ (B:Bi K mg) (F:Fun K "_law_follow" "_law_follow" (top 20) f fd) (Qal:Fn P w K mg base "_law_told" ["_law_expr_here","_law_got"] 52 (spM K 2 (bI 25))) (Qat:Fn P w K mg base "_law_is_name" ["_law_thing"] 1 (spM K 1 cY)) (Qae:Fn P w K mg base "_law_stamp" ["_law_value_here"] 25 (spM K 1 (cC 25))):FnOk P w K mg base CX0 53 f fd ["_law_recipe_here","_law_known"] (spM K 2 (dH)):=dfn F sc__law_follow fun _ _ _ _ _ _ hr=>(av (dZ (i:=2) sc__law_follow.nd ao) (av (dZ (i:=3) sc__law_follow.nd ao) (av (iT 100000 (aH iI (ax aA (ag 0) ak) (aP (ah aE (ah aE (ah aE ao))))) (av (aU (i:=4) sc__law_follow.nd (ml Qal (rm hr) rfl (ah (ax aA (ag 0) ak) (ah (ag 2) ao)) (ar (ar aF)))) (av (aN (aH aY (ax aA (ag 4) ak) aE) (az (aL (aP (ah (cE gE rfl B.b_tuple boot_tuple (ah (ag 3) ao)) (ah (ag 4) ao))))) aS) (az (aN (aH aY (ax aA (ag 0) ak) aE) (az (aU (i:=0) sc__law_follow.nd (dE (aH (B4 hr) (ax aA (ag 4) ak) (aP (ah ak (ah aE (ah (aP ao) ao))))) (ax aA (ag 0) ak) (ax aA (ag 0) ak)))) (az (aN (eP (b7 (aJ Qat (rm hr) rfl (ah (ax aA (ag 4) ak) ao) (ar aF)))) (az (aL (aP (ah (cE gE rfl B.b_tuple boot_tuple (ah (ag 3) ao)) (ah (aP (ah aE (ah aE ao))) ao))))) (az (aN (aH (l8 hr) (ax aA (ag 4) ak) (ag 1)) (az (aL (aP (ah (cE gE rfl B.b_tuple boot_tuple (ah (ag 3) ao)) (ah (aP (ah aE (ah (ax aA (ag 4) ak) ao))) ao))))) (av (eR (i:=2) (by exact (ax (dC hr) (ag 1) (ax aA (ag 4) ak)))) (av (aN (aH aY (ax aA (ag 0) ak) aE) (az (eR (i:=3) (by exact (aP (ah (ax aA (ag 4) ak) (ah (aJ Qae (rm hr) rfl (ah (ax (dC hr) (ag 1) (ax aA (ag 4) ak)) ao) (ar aF)) ao)))))) aS) (az (aU (i:=0) sc__law_follow.nd (ax aA (ag 0) ak)))))))))))))) (av (aN (aH aY (ax aA (ag 0) ak) aE) (az (aL (aP (ah (cE gE rfl B.b_tuple boot_tuple (ah (ag 3) ao)) (ah (aP (ah aE (ah (ax aA (ag 0) ak) ao))) ao))))) aS) (av (aU (i:=4) sc__law_follow.nd (ml Qal (rm hr) rfl (ah (ax aA (ag 0) ak) (ah (ag 2) ao)) (ar (ar aF)))) (av (aN (aH aY (ax aA (ag 4) ak) aE) (az (aL (aP (ah (cE gE rfl B.b_tuple boot_tuple (ah (ag 3) ao)) (ah (ag 4) ao))))) aS) (az (aL (aP (ah (cE gE rfl B.b_tuple boot_tuple (ah (ag 3) ao)) (ah (aP (ah aE (ah (aJ Qae (rm hr) rfl (ah (ax aA (ag 4) ak) ao) (ar aF)) ao))) (ah (ax aA (ag 4) ak) ao))))))))))))
theorem sc__law_good:FnScope ["_law_book_here","_law_good_here","_law_many","_law_name","_law_found"] ["_law_book_here"] (aM (top 21)):=⟨rfl,rfl,rfl,by decide +kernel,rfl,by decide +kernel,by decide +kernel⟩
theorem vh (B:Bi K mg) (F:Fun K "_law_good" "_law_good" (top 21) f fd) (Qai:Fn P w K mg base "_law_follow" ["_law_recipe_here","_law_known"] 53 (spM K 2 dH)):FnOk P w K mg base CX0 54 f fd ["_law_book_here"] (spM K 1 (gk)):=dfn F sc__law_good fun _ _ _ _ _ _ hr=>(av (qw (i:=1) B.b_dict sc__law_good.nd (ax aA (ag 0) ak)) (av (aU (i:=2) sc__law_good.nd (nL ak)) (av (iT 100000 (aH dF (ag 2) (bh bC rfl B.b_len boot_len (ah (ag 1) ao))) (av (aU (i:=2) sc__law_good.nd (bh bC rfl B.b_len boot_len (ah (ag 1) ao))) (az (dk (i:=3) sc__law_good.nd (bE (ax aA (ag 0) ak)) (az (aN (aH (l8 hr) (ag 3) (ag 1)) (av (aU (i:=4) sc__law_good.nd (mV (aJ Qai (rm hr) rfl (ah (ax (dC hr) (ax aA (ag 0) ak) (ag 3)) (ah (ag 1) ao)) (ar (ar aF))))) (az (aN (aH aY (ax aA (ax aA (ag 4) ak) ak) aE) (az (d3 (i:=1) hr (ag 3) (ax aA (ag 4) ak))) aS))) aS)))))) (az (aL (ag 1))))))
theorem sc__law_show_expr:FnScope ["_law_expr_here","_law_words","_law_inner"] ["_law_expr_here"] (aM (top 22)):=⟨rfl,rfl,rfl,by decide +kernel,rfl,by decide +kernel,by decide +kernel⟩
theorem uw (n:Nat) (B:Bi K mg) (F:Fun K "_law_show_expr" "_law_show_expr" (top 22) f fd) (Qae:Fn P w K mg base "_law_stamp" ["_law_value_here"] 25 (spM K 1 (cC 25))) (Qah:Fn P w K mg base "_law_show_expr" ["_law_expr_here"] (25 + n) (spM K 1 (cP n))):FnOk P w K mg base CX0 (25 + n + 1) f fd ["_law_expr_here"] (spM K 1 (cP (n + 1))):=dfn F sc__law_show_expr fun _ _ _ _ _ _ hr=>(av (aN (aH aY (ax aA (ag 0) ak) aE) (az (aL (aT bc aE (aJ Qae (rm hr) rfl (ah (ax aA (ag 0) ak) ao) (ar aF))))) aS) (av (aN (aH aY (ax aA (ag 0) ak) aE) (az (aL (aT bc aE (cE og rfl B.b_str boot_str (ah (ax aA (ag 0) ak) ao))))) aS) (av (dZ (i:=1) sc__law_show_expr.nd (ah (ax aA (ag 0) ak) ao)) (av (aU (i:=2) sc__law_show_expr.nd (fV (ag 0) (fJ ak) fK)) (av (aN (aH aY (ax aA (ag 0) ak) aE) (av (eR (i:=1) (by exact (cE og rfl B.b_str boot_str (ah (bh bC rfl B.b_len boot_len (ah (ax aA (ag 0) ak) ao)) ao)))) (az (aU (i:=2) sc__law_show_expr.nd (ax aA (ag 0) ak)))) aS) (az (aL (qB aE (aT bc (ag 1) (c8 (osc:=aM (top 22)) (N:=["_law_expr_here","_law_words","_law_inner"]) (N':=["_law_expr_here","_law_words","_law_inner"]) (x:="_law_one") ⟨rfl,by decide +kernel,by decide +kernel,rfl,by decide +kernel,by decide +kernel,by decide +kernel,by decide +kernel,rfl,by decide +kernel⟩ (bE (ag 2)) (fun C s0 H0 ex=>(aJ Qah (rm hr) rfl (ah (ag 0) ao) (ar aF))) (fun C s0 H0 ex=>dA)))))))))))
theorem sc__law_show:FnScope ["_law_recipe_here","_law_words"] ["_law_recipe_here"] (aM (top 23)):=⟨rfl,rfl,rfl,by decide +kernel,rfl,by decide +kernel,by decide +kernel⟩
theorem vd (n:Nat) (B:Bi K mg) (F:Fun K "_law_show" "_law_show" (top 23) f fd) (Qah:Fn P w K mg base "_law_show_expr" ["_law_expr_here"] 50 (spM K 1 (cP 25))) (Qam:Fn P w K mg base "_law_show" ["_law_recipe_here"] (50 + n) (spM K 1 (df n))):FnOk P w K mg base CX0 (50 + n + 1) f fd ["_law_recipe_here"] (spM K 1 (df (n + 1))):=dfn F sc__law_show fun _ _ _ _ _ _ hr=>(av (aN (aH aY (ax aA (ag 0) ak) aE) (az (aL (aT bc aE (ax aA (ag 0) ak)))) aS) (av (aU (i:=1) sc__law_show.nd (cw (ah (ax aA (ag 0) ak) (ah (aJ Qah (rm hr) rfl (ah (ax aA (ag 0) ak) ao) (ar aF)) ao)))) (az (aL (qB aE (aT bc (ag 1) (c8 (osc:=aM (top 23)) (N:=["_law_recipe_here","_law_words"]) (N':=["_law_recipe_here","_law_words"]) (x:="_law_one") ⟨rfl,by decide +kernel,by decide +kernel,rfl,by decide +kernel,by decide +kernel,by decide +kernel,by decide +kernel,rfl,by decide +kernel⟩ (bE (fV (ag 0) (fJ ak) fK)) (fun C s0 H0 ex=>(aJ Qam (rm hr) rfl (ah (ag 0) ao) (ar aF))) (fun C s0 H0 ex=>dA))))))))
theorem sc__law_expr:FnScope ["_law_feed_here","_law_got","_law_names_here","_law_deep","_law_way","_law_one","_law_other"] ["_law_feed_here","_law_got","_law_names_here","_law_deep"] (aM (top 24)):=⟨rfl,rfl,rfl,by decide +kernel,rfl,by decide +kernel,by decide +kernel⟩
theorem vj (n:Nat) (B:Bi K mg) (F:Fun K "_law_expr" "_law_expr" (top 24) f fd) (Qaa:Fn P w K mg base "_law_next" ["_law_feed_here","_law_many"] 1 (spM K 2 aI)) (Qac:Fn P w K mg base "_law_value" ["_law_feed_here","_law_names_here"] 2 (spM K 2 cZ)) (Qad:Fn P w K mg base "_law_expr" ["_law_feed_here","_law_got","_law_names_here","_law_deep"] (2 + n) (spM K 4 (bO n))):FnOk P w K mg base CX0 (2 + n + 1) f fd ["_law_feed_here","_law_got","_law_names_here","_law_deep"] (spM K 4 (bO (n + 1))):=dfn F sc__law_expr fun _ _ _ _ _ _ hr=>(av (aU (i:=4) sc__law_expr.nd (aJ Qaa (rm hr) rfl (ah (ag 0) (ah ak ao)) (ar (ar aF)))) (av (aN (cL (d9 (aH dF (ag 4) ak) (eM (aH ff (ag 1) ak)))) (az (aL (aP (ah aE (ah (aJ Qaa (rm hr) rfl (ah (ag 0) (ah (ag 1) ao)) (ar (ar aF))) ao))))) aS) (av (aN (cL (fU (aH aY (ag 3) ak) (gM (aH dF (ag 4) ak)))) (az (aL (aP (ah aE (ah (aJ Qac (rm hr) rfl (ah (ag 0) (ah (ag 2) ao)) (ar (ar aF))) ao))))) aS) (av (aU (i:=5) sc__law_expr.nd (aJ Qad (rm hr) rfl (ah (ag 0) (ah (ag 1) (ah (ag 2) (ah (aT ix (ag 3) ak) ao)))) (ar (ar (ar (ar aF)))))) (av (aN (aH aY (ag 4) ak) (az (aL (aP (ah aE (ah (ag 5) ao))))) aS) (av (aU (i:=6) sc__law_expr.nd (aJ Qad (rm hr) rfl (ah (ag 0) (ah (ag 1) (ah (ag 2) (ah (aT ix (ag 3) ak) ao)))) (ar (ar (ar (ar aF)))))) (av (aN (aH aY (ag 4) ak) (az (aL (aP (ah aE (ah (fV (aP (ah (ag 5) (ah (ag 6) ao))) fK (fJ (aJ Qaa (rm hr) rfl (ah (ag 0) (ah ak ao)) (ar (ar aF))))) ao))))) aS) (az (aL (aP (ah (ax aA (cw (ah aE (ah aE (ah aE (ah aE (ah aE ao)))))) (aJ Qaa (rm hr) rfl (ah (ag 0) (ah ak ao)) (ar (ar aF)))) (ah (ag 5) (ah (ag 6) ao)))))))))))))
theorem sc__law_wanted:FnScope ["_law_feed_here","_law_got","_law_names_here","_law_way"] ["_law_feed_here","_law_got","_law_names_here"] (aM (top 25)):=⟨rfl,rfl,rfl,by decide +kernel,rfl,by decide +kernel,by decide +kernel⟩
theorem uL (B:Bi K mg) (F:Fun K "_law_wanted" "_law_wanted" (top 25) f fd) (Qaa:Fn P w K mg base "_law_next" ["_law_feed_here","_law_many"] 1 (spM K 2 aI)) (Qad:Fn P w K mg base "_law_expr" ["_law_feed_here","_law_got","_law_names_here","_law_deep"] 27 (spM K 4 (bO 25))):FnOk P w K mg base CX0 28 f fd ["_law_feed_here","_law_got","_law_names_here"] (spM K 3 (fA)):=dfn F sc__law_wanted fun _ _ _ _ _ _ hr=>(av (aU (i:=3) sc__law_wanted.nd (aJ Qaa (rm hr) rfl (ah (ag 0) (ah ak ao)) (ar (ar aF)))) (av (aN (aH dF (ag 3) ak) (az (aL (aP (ah aE (ah (ax aA (ag 2) (aJ Qaa (rm hr) rfl (ah (ag 0) (ah (bh bC rfl B.b_len boot_len (ah (ag 2) ao)) ao)) (ar (ar aF)))) ao))))) aS) (av (aN (aH aY (ag 3) ak) (az (aL (aP (ah aE (ah (aP (ah aE (ah (ax aA (ag 2) (aJ Qaa (rm hr) rfl (ah (ag 0) (ah (bh bC rfl B.b_len boot_len (ah (ag 2) ao)) ao)) (ar (ar aF)))) ao))) (ah (aP (ah aE (ah aE ao))) ao)))))) aS) (az (aL (aJ Qad (rm hr) rfl (ah (ag 0) (ah (ag 1) (ah (ag 2) (ah ak ao)))) (ar (ar (ar (ar aF))))))))))
theorem sc__law_recipe:FnScope ["_law_feed_here","_law_got","_law_names_here","_law_wants","_law_whens","_law_peeks","_law_way","_law_word","_law_one","_law_first"] ["_law_feed_here","_law_got","_law_names_here","_law_wants","_law_whens","_law_peeks"] (aM (top 26)):=⟨rfl,rfl,rfl,by decide +kernel,rfl,by decide +kernel,by decide +kernel⟩
theorem uN (n:Nat) (B:Bi K mg) (F:Fun K "_law_recipe" "_law_recipe" (top 26) f fd) (Qaa:Fn P w K mg base "_law_next" ["_law_feed_here","_law_many"] 1 (spM K 2 aI)) (Qaw:Fn P w K mg base "_law_wanted" ["_law_feed_here","_law_got","_law_names_here"] 28 (spM K 3 fA)) (Qag:Fn P w K mg base "_law_recipe" ["_law_feed_here","_law_got","_law_names_here","_law_wants","_law_whens","_law_peeks"] (28 + n) (spM K 6 (bZ n))) (Qad:Fn P w K mg base "_law_expr" ["_law_feed_here","_law_got","_law_names_here","_law_deep"] 27 (spM K 4 (bO 25))):FnOk P w K mg base CX0 (28 + n + 1) f fd ["_law_feed_here","_law_got","_law_names_here","_law_wants","_law_whens","_law_peeks"] (spM K 6 (bZ (n + 1))):=dfn F sc__law_recipe fun _ _ _ _ _ _ hr=>(av (aU (i:=6) sc__law_recipe.nd (aJ Qaa (rm hr) rfl (ah (ag 0) (ah ak ao)) (ar (ar aF)))) (av (aN (cL (d9 (aH dF (ag 6) ak) (eM (aH ff (ag 3) ak)))) (av (aU (i:=7) sc__law_recipe.nd (dE (cL (d9 (b7 (ag 5)) (eM (aH aY (aJ Qaa (rm hr) rfl (ah (ag 0) (ah ak ao)) (ar (ar aF))) ak)))) aE aE)) (av (aU (i:=8) sc__law_recipe.nd (aJ Qaw (rm hr) rfl (ah (ag 0) (ah (ag 1) (ah (ag 2) ao))) (ar (ar (ar aF))))) (az (aL (aP (ah (ag 7) (ah (ag 8) (ah (aJ Qag (rm hr) rfl (ah (ag 0) (ah (aT bc (ag 1) ak) (ah (ag 2) (ah (aT ix (ag 3) ak) (ah (ag 4) (ah (ag 5) ao)))))) (ar (ar (ar (ar (ar (ar aF))))))) ao)))))))) aS) (av (aN (cL (d9 (aH iI (ag 6) (aP (ah ak (ah ak ao)))) (eM (aH ff (ag 4) ak)))) (av (aU (i:=8) sc__law_recipe.nd (aJ Qad (rm hr) rfl (ah (ag 0) (ah (ag 1) (ah (ag 2) (ah ak ao)))) (ar (ar (ar (ar aF)))))) (av (aU (i:=9) sc__law_recipe.nd (aJ Qag (rm hr) rfl (ah (ag 0) (ah (ag 1) (ah (ag 2) (ah (ag 3) (ah (aT ix (ag 4) ak) (ah (ag 5) ao)))))) (ar (ar (ar (ar (ar (ar aF)))))))) (az (aL (aP (ah aE (ah (ag 8) (ah (ag 9) (ah (aJ Qag (rm hr) rfl (ah (ag 0) (ah (ag 1) (ah (ag 2) (ah (ag 3) (ah (aT ix (ag 4) ak) (ah (ag 5) ao)))))) (ar (ar (ar (ar (ar (ar aF))))))) ao))))))))) aS) (av (aN (cL (d9 (aH aY (ag 6) ak) (eM (aH aY (aJ Qaa (rm hr) rfl (ah (ag 0) (ah ak ao)) (ar (ar aF))) ak)))) (az (aL (aP (ah aE (ah (ax aA (ag 2) (aJ Qaa (rm hr) rfl (ah (ag 0) (ah (bh bC rfl B.b_len boot_len (ah (ag 2) ao)) ao)) (ar (ar aF)))) ao))))) aS) (az (aL (aP (ah aE (ah (aJ Qad (rm hr) rfl (ah (ag 0) (ah (ag 1) (ah (ag 2) (ah ak ao)))) (ar (ar (ar (ar aF))))) ao)))))))))
theorem sc__law_any_recipe:FnScope ["_law_feed_here","_law_names_here","_law_peeks","_law_wants","_law_whens"] ["_law_feed_here","_law_names_here","_law_peeks"] (aM (top 27)):=⟨rfl,rfl,rfl,by decide +kernel,rfl,by decide +kernel,by decide +kernel⟩
theorem ut (B:Bi K mg) (F:Fun K "_law_any_recipe" "_law_any_recipe" (top 27) f fd) (Qaa:Fn P w K mg base "_law_next" ["_law_feed_here","_law_many"] 1 (spM K 2 aI)) (Qag:Fn P w K mg base "_law_recipe" ["_law_feed_here","_law_got","_law_names_here","_law_wants","_law_whens","_law_peeks"] 53 (spM K 6 (bZ 25))):FnOk P w K mg base CX0 54 f fd ["_law_feed_here","_law_names_here","_law_peeks"] (spM K 3 (de)):=dfn F sc__law_any_recipe fun _ _ _ _ _ _ hr=>(av (sM (i:=3) (j:=4) sc__law_any_recipe.nd (ax aA (cw (ah (aP (ah ak (ah ak ao))) (ah (aP (ah ak (ah ak ao))) (ah (aP (ah ak (ah ak ao))) (ah (aP (ah ak (ah ak ao))) (ah (aP (ah ak (ah ak ao))) ao)))))) (aJ Qaa (rm hr) rfl (ah (ag 0) (ah ak ao)) (ar (ar aF))))) (az (aL (aJ Qag (rm hr) rfl (ah (ag 0) (ah ak (ah (ag 1) (ah (ag 3) (ah (ag 4) (ah (ag 2) ao)))))) (ar (ar (ar (ar (ar (ar aF))))))))))
theorem sc__law_book:FnScope ["_law_script","_law_base","_law_names_here","_law_peeks","_law_told_here","_law_recipes","_law_k","_law_feed_here","_law_way"] ["_law_script","_law_base","_law_names_here","_law_peeks"] (aM (top 28)):=⟨rfl,rfl,rfl,by decide +kernel,rfl,by decide +kernel,by decide +kernel⟩
theorem vm (B:Bi K mg) (F:Fun K "_law_book" "_law_book" (top 28) f fd) (Qaa:Fn P w K mg base "_law_next" ["_law_feed_here","_law_many"] 1 (spM K 2 aI)) (Qac:Fn P w K mg base "_law_value" ["_law_feed_here","_law_names_here"] 2 (spM K 2 cZ)) (Qaf:Fn P w K mg base "_law_any_recipe" ["_law_feed_here","_law_names_here","_law_peeks"] 54 (spM K 3 de)) (Qab:Fn P w K mg base "_law_feed" ["_law_script","_law_k"] 1 (spO K 2 bj)):FnOk P w K mg base CX0 55 f fd ["_law_script","_law_base","_law_names_here","_law_peeks"] (spM K 4 (gm)):=dfn F sc__law_book fun _ _ _ _ _ _ hr=>(av (gB (i:=4) sc__law_book.nd) (av (gB (i:=5) sc__law_book.nd) (av (dk (i:=6) sc__law_book.nd (gC rfl B.b_range (bh bC rfl B.b_len boot_len (ah (ag 2) ao))) (lR (i:=7) Qab (rm hr) rfl sc__law_book.nd (ah (ag 0) (ah (aT bc (ag 1) (ag 6)) ao)) (ar (ar aF)) (av (aU (i:=8) sc__law_book.nd (aJ Qaa (rm hr) rfl (ah (ag 7) (ah ak ao)) (ar (ar aF)))) (az (aN (aH dF (ag 8) ak) (az (d3 (i:=4) hr (ax aA (ag 2) (ag 6)) (aJ Qac (rm hr) rfl (ah (ag 7) (ah (ag 2) ao)) (ar (ar aF))))) (az (aN (aH dF (ag 8) ak) (az (d3 (i:=5) hr (ax aA (ag 2) (ag 6)) (aJ Qaf (rm hr) rfl (ah (ag 7) (ah (ag 2) (ah (ag 3) ao))) (ar (ar (ar aF)))))) aS))))))) (az (aL (aP (ah (ag 4) (ah (ag 5) ao))))))))
theorem sc__law_turned:FnScope ["_law_feed_here","_law_book_here","_law_names_here","_law_peeks","_law_name","_law_told_here","_law_recipes","_law_way"] ["_law_feed_here","_law_book_here","_law_names_here","_law_peeks"] (aM (top 29)):=⟨rfl,rfl,rfl,by decide +kernel,rfl,by decide +kernel,by decide +kernel⟩
theorem uM (B:Bi K mg) (F:Fun K "_law_turned" "_law_turned" (top 29) f fd) (Qaa:Fn P w K mg base "_law_next" ["_law_feed_here","_law_many"] 1 (spM K 2 aI)) (Qac:Fn P w K mg base "_law_value" ["_law_feed_here","_law_names_here"] 2 (spM K 2 cZ)) (Qaf:Fn P w K mg base "_law_any_recipe" ["_law_feed_here","_law_names_here","_law_peeks"] 54 (spM K 3 de)):FnOk P w K mg base CX0 55 f fd ["_law_feed_here","_law_book_here","_law_names_here","_law_peeks"] (spM K 4 (fB)):=dfn F sc__law_turned fun _ _ _ _ _ _ hr=>(av (aU (i:=4) sc__law_turned.nd (ax aA (ag 2) (aJ Qaa (rm hr) rfl (ah (ag 0) (ah (bh bC rfl B.b_len boot_len (ah (ag 2) ao)) ao)) (ar (ar aF))))) (av (qv (i:=5) B.b_dict sc__law_turned.nd (c8 (osc:=aM (top 29)) (N:=["_law_feed_here","_law_book_here","_law_names_here","_law_peeks","_law_name","_law_told_here","_law_recipes","_law_way"]) (N':=["_law_feed_here","_law_book_here","_law_names_here","_law_peeks","_law_name","_law_told_here","_law_recipes","_law_way"]) (x:="_law_other") ⟨rfl,by decide +kernel,by decide +kernel,rfl,by decide +kernel,by decide +kernel,by decide +kernel,by decide +kernel,rfl,by decide +kernel⟩ (bE (ax aA (ag 1) ak)) (fun C s0 H0 ex=>(aP (ah (ag 0) (ah (ax (dC hr) (ax aA (ag 2) ak) (ag 0)) ao)))) (fun C s0 H0 ex=>ic rfl (aH lu (ag 0) (ag 5))))) (av (qv (i:=6) B.b_dict sc__law_turned.nd (c8 (osc:=aM (top 29)) (N:=["_law_feed_here","_law_book_here","_law_names_here","_law_peeks","_law_name","_law_told_here","_law_recipes","_law_way"]) (N':=["_law_feed_here","_law_book_here","_law_names_here","_law_peeks","_law_name","_law_told_here","_law_recipes","_law_way"]) (x:="_law_other") ⟨rfl,by decide +kernel,by decide +kernel,rfl,by decide +kernel,by decide +kernel,by decide +kernel,by decide +kernel,rfl,by decide +kernel⟩ (bE (ax aA (ag 1) ak)) (fun C s0 H0 ex=>(aP (ah (ag 0) (ah (ax (dC hr) (ax aA (ag 2) ak) (ag 0)) ao)))) (fun C s0 H0 ex=>ic rfl (aH lu (ag 0) (ag 5))))) (av (aU (i:=7) sc__law_turned.nd (aJ Qaa (rm hr) rfl (ah (ag 0) (ah ak ao)) (ar (ar aF)))) (av (aN (aH dF (ag 7) ak) (az (d3 (i:=5) hr (ag 4) (aJ Qac (rm hr) rfl (ah (ag 0) (ah (ag 2) ao)) (ar (ar aF))))) (az (aN (aH dF (ag 7) ak) (az (d3 (i:=6) hr (ag 4) (aJ Qaf (rm hr) rfl (ah (ag 0) (ah (ag 2) (ah (ag 3) ao))) (ar (ar (ar aF)))))) aS))) (az (aL (aP (ah (ag 5) (ah (ag 6) ao))))))))))
theorem sc__law_held:FnScope ["_law_script","_law_base","_law_books","_law_names_here","_law_held_here","_law_goods","_law_k","_law_feed_here","_law_which","_law_known","_law_name","_law_recipe_here"] ["_law_script","_law_base","_law_books","_law_names_here"] (aM (top 30)):=⟨rfl,rfl,rfl,by decide +kernel,rfl,by decide +kernel,by decide +kernel⟩
theorem vg (B:Bi K mg) (F:Fun K "_law_held" "_law_held" (top 30) f fd) (Qbb:Fn P w K mg base "_law_good" ["_law_book_here"] 54 (spM K 1 gk)) (Qaa:Fn P w K mg base "_law_next" ["_law_feed_here","_law_many"] 1 (spM K 2 aI)) (Qac:Fn P w K mg base "_law_value" ["_law_feed_here","_law_names_here"] 2 (spM K 2 cZ)) (Qai:Fn P w K mg base "_law_follow" ["_law_recipe_here","_law_known"] 53 (spM K 2 dH)) (Qam:Fn P w K mg base "_law_show" ["_law_recipe_here"] 75 (spM K 1 (df 25))) (Qab:Fn P w K mg base "_law_feed" ["_law_script","_law_k"] 1 (spO K 2 bj)):FnOk P w K mg base CX0 76 f fd ["_law_script","_law_base","_law_books","_law_names_here"] (spM K 4 (gj)):=dfn F sc__law_held fun _ _ _ _ _ _ hr=>(av (gB (i:=4) sc__law_held.nd) (av (mT (i:=5) (osc:=aM (top 30)) (N:=["_law_script","_law_base","_law_books","_law_names_here","_law_held_here","_law_goods","_law_k","_law_feed_here","_law_which","_law_known","_law_name","_law_recipe_here"]) (N':=["_law_script","_law_base","_law_books","_law_names_here","_law_held_here","_law_goods","_law_k","_law_feed_here","_law_which","_law_known","_law_name","_law_recipe_here"]) (x:="_law_book_here") ⟨rfl,by decide +kernel,by decide +kernel,rfl,by decide +kernel,by decide +kernel,by decide +kernel,by decide +kernel,rfl,by decide +kernel⟩ sc__law_held.nd (bE (ag 2)) (fun C s0 H0 ex=>(aJ Qbb (rm hr) rfl (ah (ag 0) ao) (ar aF))) (fun C s0 H0 ex=>dA)) (av (dk (i:=6) sc__law_held.nd (gC rfl B.b_range (bh bC rfl B.b_len boot_len (ah (ag 3) ao))) (lR (i:=7) Qab (rm hr) rfl sc__law_held.nd (ah (ag 0) (ah (aT bc (ag 1) (ag 6)) ao)) (ar (ar aF)) (av (aU (i:=8) sc__law_held.nd (aJ Qaa (rm hr) rfl (ah (ag 7) (ah (bh bC rfl B.b_len boot_len (ah (ag 2) ao)) ao)) (ar (ar aF)))) (av (aU (i:=9) sc__law_held.nd (ax aA (ag 5) (ag 8))) (av (aN (aH aY (aJ Qaa (rm hr) rfl (ah (ag 7) (ah ak ao)) (ar (ar aF))) ak) (av (gB (i:=9) sc__law_held.nd) (az (dk (i:=10) sc__law_held.nd (bE (ag 3)) (az (aN (aH ff (aJ Qaa (rm hr) rfl (ah (ag 7) (ah ak ao)) (ar (ar aF))) ak) (az (d3 (i:=9) hr (ag 10) (aJ Qac (rm hr) rfl (ah (ag 7) (ah (ag 3) ao)) (ar (ar aF))))) aS))))) aS) (az (aN (cL (d9 (aH (gP hr) (ax aA (ag 3) (ag 6)) (ax aA (ax aA (ag 2) (ag 8)) ak)) (eM (aH ff (aJ Qaa (rm hr) rfl (ah (ag 7) (ah ak ao)) (ar (ar aF))) ak)))) (av (aU (i:=11) sc__law_held.nd (ax (dC hr) (ax aA (ax aA (ag 2) (ag 8)) ak) (ax aA (ag 3) (ag 6)))) (az (d3 (i:=4) hr (ax aA (ag 3) (ag 6)) (mV (aP (ah (aJ Qam (rm hr) rfl (ah (ag 11) ao) (ar aF)) (ah (aT bc (aP (ah (ax aA (ag 3) (ag 6)) ao)) (fV (aJ Qai (rm hr) rfl (ah (ag 11) (ah (ag 9) ao)) (ar (ar aF))) fK (fJ ak))) ao))))))) aS))))))) (az (aL (ag 4))))))
theorem uu:FnScope ["_law_line"] ["_law_line"] (aM (top 31)):=⟨rfl,rfl,rfl,by decide +kernel,rfl,by decide +kernel,by decide +kernel⟩
theorem uv (B:Bi K mg) (F:Fun K "_law_wanted_in" "_law_wanted_in" (top 31) f fd)  : FnOk P w K mg base CX0 1 f fd ["_law_line"] (spM K 1 (fu)):=dfn F uu fun _ _ _ _ _ _ hr=>(az (aL (aT bc (ym (osc:=aM (top 31)) (N:=["_law_line"]) (N':=["_law_line"]) (x:="_law_name") (y:="_law_stamp_here") ⟨rfl,by decide +kernel,by decide +kernel,by decide +kernel,by decide +kernel,by decide +kernel,by decide +kernel,by decide +kernel,rfl,by decide +kernel⟩ (bE (ax aA (ag 0) ak)) (fun C s0 H0 ex=>(ag 0)) (fun C s0 H0 ex=>dA)) (aT AY (cw (ah (ax aA (ax aA (ag 0) ak) ak) ao)) (cE lc rfl B.b_int boot_int (ah (dP aY (ax aA (ax aA (ag 0) ak) ak) aE) ao))))))
theorem sc__law_reached:FnScope ["_law_kept_here","_law_roots","_law_seen","_law_row","_law_name"] ["_law_kept_here","_law_roots"] (aM (top 32)):=⟨rfl,rfl,rfl,by decide +kernel,rfl,by decide +kernel,by decide +kernel⟩
theorem uF (B:Bi K mg) (F:Fun K "_law_reached" "_law_reached" (top 32) f fd) (Qan:Fn P w K mg base "_law_wanted_in" ["_law_line"] 1 (spM K 1 fu)):FnOk P w K mg base CX0 2 f fd ["_law_kept_here","_law_roots"] (spM K 2 (fw)):=dfn F sc__law_reached fun _ _ _ _ _ _ hr=>(av (dZ (i:=2) sc__law_reached.nd ao) (av (qu (i:=3) B.b_list sc__law_reached.nd (ag 1)) (av (iT 100000 (aH ff (bh bC rfl B.b_len boot_len (ah (ag 3) ao)) ak) (av (zW (i:=3) (j:=4) sc__law_reached.nd) (az (aN (aH j5 (ag 4) (ag 2)) (av (eR (i:=2) (by exact (ag 4))) (az (aN (aH (gP hr) (ag 4) (ag 0)) (az (zU (i:=3) sc__law_reached.nd (ag 3) (aJ Qan (rm hr) rfl (ah (ax aA (ax (dC hr) (ag 0) (ag 4)) ak) ao) (ar aF)))) aS))) aS)))) (az (aL (ag 2))))))
theorem sc__law_may_be:FnScope ["_law_kept_here","_law_some","_law_left","_law_k"] ["_law_kept_here","_law_some"] (aM (top 33)):=⟨rfl,rfl,rfl,by decide +kernel,rfl,by decide +kernel,by decide +kernel⟩
theorem uP (B:Bi K mg) (F:Fun K "_law_may_be" "_law_may_be" (top 33) f fd)  : FnOk P w K mg base CX0 1 f fd ["_law_kept_here","_law_some"] (spM K 2 (fD)):=dfn F sc__law_may_be fun _ _ _ _ _ _ hr=>(av (aU (i:=2) sc__law_may_be.nd (cE sR rfl B.b_list boot_list (ah (ag 1) ao))) (av (dk (i:=3) sc__law_may_be.nd (gC rfl B.b_range (bh bC rfl B.b_len boot_len (ah (ag 1) ao))) (az (aU (i:=2) sc__law_may_be.nd (c8 (osc:=aM (top 33)) (N:=["_law_kept_here","_law_some","_law_left","_law_k"]) (N':=["_law_kept_here","_law_some","_law_left","_law_k"]) (x:="_law_name") ⟨rfl,by decide +kernel,by decide +kernel,rfl,by decide +kernel,by decide +kernel,by decide +kernel,by decide +kernel,rfl,by decide +kernel⟩ (bE (ag 2)) (fun C s0 H0 ex=>(ag 0)) (fun C s0 H0 ex=>ic rfl (b7 (bh tH rfl B.b_any boot_any (ah (c8 (osc:=Bt B6) (N:=["_law_name","_law_kept_here","_law_some","_law_left","_law_k"]) (N':=["_law_name","_law_kept_here","_law_some","_law_left","_law_k"]) (x:="_law_read") ⟨rfl,by decide +kernel,by decide +kernel,rfl,by decide +kernel,by decide +kernel,by decide +kernel,by decide +kernel,rfl,by decide +kernel⟩ (bE (ax aA (ax aA (ax (dC hr) (ag 1) (ag 0)) ak) ak)) (fun C s0 H0 ex=>(dP iI (ax aA (ag 0) ak) (ag 4))) (fun C s0 H0 ex=>dA)) ao)))))))) (az (aL (dP (nX hr) (ag 2) (cw ao))))))
theorem sc__law_right:FnScope ["_law_kept_here","_law_some","_law_paper","_law_laid","_law_line","_law_name","_law_stamp_here"] ["_law_kept_here","_law_some","_law_paper"] (aM (top 34)):=⟨rfl,rfl,rfl,by decide +kernel,rfl,by decide +kernel,by decide +kernel⟩
theorem uZ (B:Bi K mg) (F:Fun K "_law_right" "_law_right" (top 34) f fd)  : FnOk P w K mg base CX0 1 f fd ["_law_kept_here","_law_some","_law_paper"] (spM K 3 (du)):=dfn F sc__law_right fun _ _ _ _ _ _ hr=>(av (aN (cL (fU (eP (b7 (cJ .lst B.b_isinstance (ag 2) B.b_list boot_list))) (gM (aH lu (bh bC rfl B.b_len boot_len (ah (ag 2) ao)) (bh bC rfl B.b_len boot_len (ah (ag 1) ao)))))) (az (aL da)) aS) (av (dZ (i:=3) sc__law_right.nd ao) (av (dk (i:=4) sc__law_right.nd (bE (ag 2)) (av (aN (cL (fU (eP (b7 (cJ .tup B.b_isinstance (ag 4) B.b_tuple boot_tuple))) (fU (aH j5 (ax aA (ag 4) ak) (ag 1)) (gM (aH iI (ax aA (ag 4) ak) (ag 3)))))) (az (aL da)) aS) (av (aN (aH (kW hr) (ag 4) (ax aA (ax (dC hr) (ag 0) (ax aA (ag 4) ak)) ak)) (az (aL da)) aS) (av (zX (i:=5) (j:=6) sc__law_right.nd (bE (ax aA (ag 4) ak)) (az (aN (cL (d9 (aH (gP hr) (ag 5) (ag 0)) (eM (aH j5 (ag 5) (ag 3))))) (az (aL da)) aS))) (az (eR (i:=3) (by exact (ax aA (ag 4) ak)))))))) (az (aL da)))))
theorem sc_law:FnScope ["_law_script","_law_names_here","_law_peeks","_law_tome","_law_books","_law_k","_law_kept_here","_law_feed_here","_law_roots","_law_j","_law_some","_law_handed","_law_paper"] ["_law_script"] (aM (top 35)):=⟨rfl,rfl,rfl,by decide +kernel,rfl,by decide +kernel,by decide +kernel⟩
theorem AX (B:Bi K mg) (F:Fun K "law" "law" (top 35) f fd) (Qaa:Fn P w K mg base "_law_next" ["_law_feed_here","_law_many"] 1 (spM K 2 aI)) (Qab:Fn P w K mg base "_law_feed" ["_law_script","_law_k"] 1 (spO K 2 bj)) (Qba:Fn P w K mg base "_law_names" ["_law_feed_here","_law_many"] 2 (spM K 2 fF)) (Qbc:Fn P w K mg base "_law_book" ["_law_script","_law_base","_law_names_here","_law_peeks"] 55 (spM K 4 gm)) (Qax:Fn P w K mg base "_law_turned" ["_law_feed_here","_law_book_here","_law_names_here","_law_peeks"] 55 (spM K 4 fB)) (Qbd:Fn P w K mg base "_law_held" ["_law_script","_law_base","_law_books","_law_names_here"] 76 (spM K 4 gj)) (Qau:Fn P w K mg base "_law_reached" ["_law_kept_here","_law_roots"] 2 (spM K 2 fw)) (Qar:Fn P w K mg base "paper_in" ["held","names"] 4 (spO K 2 cD)) (Qay:Fn P w K mg base "_law_may_be" ["_law_kept_here","_law_some"] 1 (spM K 2 fD)) (Qas:Fn P w K mg base "_law_right" ["_law_kept_here","_law_some","_law_paper"] 1 (spM K 3 du)):FnOk P w K mg base CX0 77 f fd ["_law_script"] (spM K 1 (kX)):=dfn F sc_law fun _ _ _ _ _ _ hr=>(av (aU (i:=1) sc_law.nd (iU Qba Qab (rm hr) (rm hr) rfl rfl (ah (ag 0) (ah ak ao)) (ar (ar aF)) (ah (aT bc ak (iU Qaa Qab (rm hr) (rm hr) rfl rfl (ah (ag 0) (ah ak ao)) (ar (ar aF)) (ah ak ao) (ar (ar aF)))) ao) (ar (ar aF)))) (av (aU (i:=2) sc_law.nd (dP aY (iU Qaa Qab (rm hr) (rm hr) rfl rfl (ah (ag 0) (ah ak ao)) (ar (ar aF)) (ah ak ao) (ar (ar aF))) ak)) (av (aU (i:=3) sc_law.nd (aJ Qbc (rm hr) rfl (ah (ag 0) (ah ak (ah (ag 1) (ah (ag 2) ao)))) (ar (ar (ar (ar aF)))))) (av (dZ (i:=4) sc_law.nd (ah (ag 3) ao)) (av (dk (i:=5) sc_law.nd (gC rfl B.b_range (aT bc ak (iU Qaa Qab (rm hr) (rm hr) rfl rfl (ah (ag 0) (ah ak ao)) (ar (ar aF)) (ah ak ao) (ar (ar aF))))) (az (aU (i:=3) sc_law.nd (iU Qax Qab (rm hr) (rm hr) rfl rfl (ah (ag 0) (ah (aT bc ak (ag 5)) ao)) (ar (ar aF)) (ah (ag 3) (ah (ag 1) (ah (ag 2) ao))) (ar (ar (ar (ar aF)))))))) (av (eR (i:=4) (by exact (ag 3))) (rD 4 (av (aU (i:=6) sc_law.nd (aJ Qbd (rm hr) rfl (ah (ag 0) (ah ak (ah (ag 4) (ah (ag 1) ao)))) (ar (ar (ar (ar aF)))))) (av (dk (i:=5) sc_law.nd (gC rfl B.b_range ak) (lR (i:=7) Qab (rm hr) rfl sc_law.nd (ah (ag 0) (ah (aT bc ak (ag 5)) ao)) (ar (ar aF)) (av (dZ (i:=8) sc_law.nd ao) (av (dk (i:=9) sc_law.nd (gC rfl B.b_range (aT bc ak (aJ Qaa (rm hr) rfl (ah (ag 7) (ah ak ao)) (ar (ar aF))))) (az (eR (i:=8) (by exact (ax aA (aT bc (ag 1) (cw (ah aE ao))) (aJ Qaa (rm hr) rfl (ah (ag 7) (ah (aT bc (bh bC rfl B.b_len boot_len (ah (ag 1) ao)) ak) ao)) (ar (ar aF)))))))) (rD 8 (av (mT (i:=10) (osc:=aM (top 35)) (N:=["_law_script","_law_names_here","_law_peeks","_law_tome","_law_books","_law_k","_law_kept_here","_law_feed_here","_law_roots","_law_j","_law_some","_law_handed","_law_paper"]) (N':=["_law_script","_law_names_here","_law_peeks","_law_tome","_law_books","_law_k","_law_kept_here","_law_feed_here","_law_roots","_law_j","_law_some","_law_handed","_law_paper"]) (x:="_law_name") ⟨rfl,by decide +kernel,by decide +kernel,rfl,by decide +kernel,by decide +kernel,by decide +kernel,by decide +kernel,rfl,by decide +kernel⟩ sc_law.nd (bE (aJ Qau (rm hr) rfl (ah (ag 6) (ah (ag 8) ao)) (ar (ar aF)))) (fun C s0 H0 ex=>(ag 0)) (fun C s0 H0 ex=>ic rfl (aH (gP hr) (ag 0) (ag 7)))) (av (aU (i:=11) sc_law.nd (cE sR rfl B.b_list boot_list (ah (ag 8) ao))) (av (yf (i:=12) Qar (rm hr) rfl sc_law.nd (ah (ag 6) (ah (ag 11) ao)) (ar (ar aF))) (av (aN (cL (fU (aH (kW hr) (ag 11) (ag 8)) (gM (aH aY (dP CP (ag 12) nJ) (aJ Qay (rm hr) rfl (ah (ag 6) (ah (ag 10) ao)) (ar (ar aF))))))) (az (aL da)) aS) (az (aN (aH zj (ag 12) nJ) (av (aN (eP (b7 (ml Qas (rm hr) rfl (ah (ag 6) (ah (ag 10) (ah (ag 12) ao))) (ar (ar (ar aF)))))) (az (aL da)) aS) (av (eR (i:=12) (by exact nJ)) (az (aN (eP (b7 (aJ Qas (rm hr) rfl (ah (ag 6) (ah (ag 10) (ah (pV Qar (rm hr) rfl (ah (ag 6) (ah (ag 11) ao)) (ar (ar aF))) ao))) (ar (ar (ar aF)))))) (az (aL da)) aS)))) aS))))))))))) (az (aL (dP (nX hr) (pV Qar (rm hr) rfl (ah (ag 6) (ah (cw ao) ao)) (ar (ar aF))) (cw ao)))))))))))))
theorem cU {α:Type} {us:List α} (h:us.length=1):∃ a,us=[a]:=List.length_eq_one_iff.mp h
theorem dt {α:Type}:∀ {us:List α},us.length=2→∃ a b,us=[a,b]
 | [a,b],_=>⟨a,b,rfl⟩
theorem lw {α:Type}:∀ {us:List α},us.length=3→∃ a b c,us=[a,b,c]
 | [a,b,c],_=>⟨a,b,c,rfl⟩
theorem jE {α:Type}:∀ {us:List α},us.length=4→∃ a b c d,us=[a,b,c,d]
 | [a,b,c,d],_=>⟨a,b,c,d,rfl⟩
theorem t7 {α:Type}:∀ {us:List α},us.length=6→∃ a b c d e f,us=[a,b,c,d,e,f]
 | [a,b,c,d,e,f],_=>⟨a,b,c,d,e,f,rfl⟩
theorem all_mk {l:PySem.W.OpenLaw} {w:World} {K:Frag} {h:Heap} {mg:Str→Option Value} {fa:Addr} (X:K.In h) (G:h.Ns mainGlobals mg) (hfa:mg "law" = some (.ref fa)) (d_names_in:Df K "names_in" (top 3)) (d_names_reached:Df K "names_reached" (top 2)) (d_lines_reached:Df K "lines_reached" (top 1)) (d_reads_none_of:Df K "reads_none_of" (top 5)) (d_in_order:Df K "in_order" (top 4)) (d_held_lines:Df K "held_lines" (top 8)) (d_paper_in:Df K "paper_in" (top 7)) (d__law_feed:Df K "_law_feed" (top 10)) (d__law_next:Df K "_law_next" (top 11)) (d__law_names:Df K "_law_names" (top 12)) (d__law_value:Df K "_law_value" (top 13)) (d__law_weight:Df K "_law_weight" (top 14)) (d__law_kept:Df K "_law_kept" (top 15)) (d__law_stamp:Df K "_law_stamp" (top 16)) (d__law_of_two:Df K "_law_of_two" (top 17)) (d__law_told:Df K "_law_told" (top 18)) (d__law_is_name:Df K "_law_is_name" (top 19)) (d__law_follow:Df K "_law_follow" (top 20)) (d__law_good:Df K "_law_good" (top 21)) (d__law_show_expr:Df K "_law_show_expr" (top 22)) (d__law_show:Df K "_law_show" (top 23)) (d__law_expr:Df K "_law_expr" (top 24)) (d__law_wanted:Df K "_law_wanted" (top 25)) (d__law_recipe:Df K "_law_recipe" (top 26)) (d__law_any_recipe:Df K "_law_any_recipe" (top 27)) (d__law_book:Df K "_law_book" (top 28)) (d__law_turned:Df K "_law_turned" (top 29)) (d__law_held:Df K "_law_held" (top 30)) (d__law_wanted_in:Df K "_law_wanted_in" (top 31)) (d__law_reached:Df K "_law_reached" (top 32)) (d__law_may_be:Df K "_law_may_be" (top 33)) (d__law_right:Df K "_law_right" (top 34)) (d_law:Df K "law" (top 35)) (Qbm:PySem.W.nsIn K mainGlobals "abs" = some none) (Qbn:PySem.W.nsIn K mainGlobals "all" = some none) (Qbo:PySem.W.nsIn K mainGlobals "any" = some none) (Qbk:PySem.W.nsIn K mainGlobals "dict" = some none) (Qbp:PySem.W.nsIn K mainGlobals "int" = some none) (Qbg:PySem.W.nsIn K mainGlobals "isinstance" = some none) (Qbq:PySem.W.nsIn K mainGlobals "len" = some none) (Qbl:PySem.W.nsIn K mainGlobals "list" = some none) (Qbr:PySem.W.nsIn K mainGlobals "max" = some none) (Qbi:PySem.W.nsIn K mainGlobals "range" = some none) (Qbh:PySem.W.nsIn K mainGlobals "sorted" = some none) (Qbs:PySem.W.nsIn K mainGlobals "str" = some none) (Qbt:PySem.W.nsIn K mainGlobals "sum" = some none) (Qbj:PySem.W.nsIn K mainGlobals "tuple" = some none)
  (hm:∀ ns:List Int,ns.length≤63→∃ T',kX [.d (ko ns)] []=some (.bool true,T')) :
  ∃ fd:FuncData,(∀ (s:Shared) (v:Value),BindsTo s fd ⟨[v],[]⟩ [("_law_script",v)])∧∀ base:Heap,K.In base→base.Ns mainGlobals mg→FnOk l.prog w K mg base CX0 77 fa fd ["_law_script"] (kO K):=by
 have B:Bi K mg:=⟨PySem.W.mg_none_of X G Qbm,PySem.W.mg_none_of X G Qbn,PySem.W.mg_none_of X G Qbo,PySem.W.mg_none_of X G Qbk,PySem.W.mg_none_of X G Qbp,PySem.W.mg_none_of X G Qbg,PySem.W.mg_none_of X G Qbq,PySem.W.mg_none_of X G Qbl,PySem.W.mg_none_of X G Qbr,PySem.W.mg_none_of X G Qbi,PySem.W.mg_none_of X G Qbh,PySem.W.mg_none_of X G Qbs,PySem.W.mg_none_of X G Qbt,PySem.W.mg_none_of X G Qbj⟩
 obtain ⟨f0,oc,od,an,sl,kV,dc,pm,cd,ct,a,lk,c,kp⟩:=d_law.ex
 have e:=hfa.symm.trans (PySem.W.mg_of X G a)
 cases e
 have FL:=sH (st:=top 35) lk c kp
 refine ⟨PySem.W.fnOf "law" "law" (d4 (top 35)) (c7 (top 35)) (aM (top 35)) .none kV dc pm an cd ct,fun s v=>.of_eq rfl,fun base _ _=>?_⟩
 have Qbe:Fn l.prog w K mg base "names_in" ["line"] 1 (spM K 1 fG):=d_names_in.fn X G (fun _ _ _ _ _ _ _ h=>by obtain ⟨_,rfl⟩:=cU h; rfl) fun f fd F=>vA B F
 have Qao:Fn l.prog w K mg base "names_reached" ["lines","names"] 2 (spM K 2 gh):=d_names_reached.fn X G (fun _ _ _ _ _ _ _ h=>by obtain ⟨_,_,rfl⟩:=dt h; rfl) fun f fd F=>uA B F Qbe
 have Qaq:Fn l.prog w K mg base "lines_reached" ["lines","names"] 3 (spM K 2 g8):=d_lines_reached.fn X G (fun _ _ _ _ _ _ _ h=>by obtain ⟨_,_,rfl⟩:=dt h; rfl) fun f fd F=>uB B F Qao
 have Qap:Fn l.prog w K mg base "reads_none_of" ["lines","line"] 1 (spM K 2 eJ):=d_reads_none_of.fn X G (fun _ _ _ _ _ _ _ h=>by obtain ⟨_,_,rfl⟩:=dt h; rfl) fun f fd F=>uz B F
 have Qbf:Fn l.prog w K mg base "in_order" ["lines"] 2 (spO K 1 gn):=d_in_order.fn X G (fun _ _ _ _ _ _ _ h=>by obtain ⟨_,rfl⟩:=cU h; rfl) fun f fd F=>vB B F Qap
 have Qaz:Fn l.prog w K mg base "held_lines" ["held"] 1 (spM K 1 fE):=d_held_lines.fn X G (fun _ _ _ _ _ _ _ h=>by obtain ⟨_,rfl⟩:=cU h; rfl) fun f fd F=>uW B F
 have Qar:Fn l.prog w K mg base "paper_in" ["held","names"] 4 (spO K 2 cD):=d_paper_in.fn X G (fun _ _ _ _ _ _ _ h=>by obtain ⟨_,_,rfl⟩:=dt h; rfl) fun f fd F=>vz B F Qaz Qaq Qbf
 have Qab:Fn l.prog w K mg base "_law_feed" ["_law_script","_law_k"] 1 (spO K 2 bj):=d__law_feed.fn X G (fun _ _ _ _ _ _ _ h=>by obtain ⟨_,_,rfl⟩:=dt h; rfl) fun f fd F=>vi B F
 have Qaa:Fn l.prog w K mg base "_law_next" ["_law_feed_here","_law_many"] 1 (spM K 2 aI):=d__law_next.fn X G (fun _ _ _ _ _ _ _ h=>by obtain ⟨_,_,rfl⟩:=dt h; rfl) fun f fd F=>ve B F
 have Qba:Fn l.prog w K mg base "_law_names" ["_law_feed_here","_law_many"] 2 (spM K 2 fF):=d__law_names.fn X G (fun _ _ _ _ _ _ _ h=>by obtain ⟨_,_,rfl⟩:=dt h; rfl) fun f fd F=>u3 B F Qaa
 have Qac:Fn l.prog w K mg base "_law_value" ["_law_feed_here","_law_names_here"] 2 (spM K 2 cZ):=d__law_value.fn X G (fun _ _ _ _ _ _ _ h=>by obtain ⟨_,_,rfl⟩:=dt h; rfl) fun f fd F=>uX B F Qaa
 have R__law_weight:∀ n:Nat,Fn l.prog w K mg base "_law_weight" ["_law_value_here"] (0 + n) (spM K 1 (bT n)):=by
  intro n
  induction n with
  | zero=>exact d__law_weight.fn X G (fun _ _ _ _ _ _ _ h=>by obtain ⟨_,rfl⟩:=cU h; rfl) fun f fd F=>gz
  | succ n ih=>exact d__law_weight.fn X G (fun _ _ _ _ _ _ _ h=>by obtain ⟨_,rfl⟩:=cU h; rfl) fun f fd F=>uK n B F ih
 have Qak:=R__law_weight 25
 have Qaj:Fn l.prog w K mg base "_law_kept" ["_law_value_here"] 26 (spM K 1 bU):=d__law_kept.fn X G (fun _ _ _ _ _ _ _ h=>by obtain ⟨_,rfl⟩:=cU h; rfl) fun f fd F=>vf B F Qak
 have R__law_stamp:∀ n:Nat,Fn l.prog w K mg base "_law_stamp" ["_law_value_here"] (0 + n) (spM K 1 (cC n)):=by
  intro n
  induction n with
  | zero=>exact d__law_stamp.fn X G (fun _ _ _ _ _ _ _ h=>by obtain ⟨_,rfl⟩:=cU h; rfl) fun f fd F=>gz
  | succ n ih=>exact d__law_stamp.fn X G (fun _ _ _ _ _ _ _ h=>by obtain ⟨_,rfl⟩:=cU h; rfl) fun f fd F=>uY n B F ih
 have Qae:=R__law_stamp 25
 have Qav:Fn l.prog w K mg base "_law_of_two" ["_law_word","_law_one","_law_other"] 27 (spM K 3 bg):=d__law_of_two.fn X G (fun _ _ _ _ _ _ _ h=>by obtain ⟨_,_,_,rfl⟩:=lw h; rfl) fun f fd F=>uO B F Qaj
 have R__law_told:∀ n:Nat,Fn l.prog w K mg base "_law_told" ["_law_expr_here","_law_got"] (27 + n) (spM K 2 (bI n)):=by
  intro n
  induction n with
  | zero=>exact d__law_told.fn X G (fun _ _ _ _ _ _ _ h=>by obtain ⟨_,_,rfl⟩:=dt h; rfl) fun f fd F=>gz
  | succ n ih=>exact d__law_told.fn X G (fun _ _ _ _ _ _ _ h=>by obtain ⟨_,_,rfl⟩:=dt h; rfl) fun f fd F=>vc n B F ih Qaj Qav
 have Qal:=R__law_told 25
 have Qat:Fn l.prog w K mg base "_law_is_name" ["_law_thing"] 1 (spM K 1 cY):=d__law_is_name.fn X G (fun _ _ _ _ _ _ _ h=>by obtain ⟨_,rfl⟩:=cU h; rfl) fun f fd F=>uG B F
 have Qai:Fn l.prog w K mg base "_law_follow" ["_law_recipe_here","_law_known"] 53 (spM K 2 dH):=d__law_follow.fn X G (fun _ _ _ _ _ _ _ h=>by obtain ⟨_,_,rfl⟩:=dt h; rfl) fun f fd F=>uQ B F Qal Qat Qae
 have Qbb:Fn l.prog w K mg base "_law_good" ["_law_book_here"] 54 (spM K 1 gk):=d__law_good.fn X G (fun _ _ _ _ _ _ _ h=>by obtain ⟨_,rfl⟩:=cU h; rfl) fun f fd F=>vh B F Qai
 have R__law_show_expr:∀ n:Nat,Fn l.prog w K mg base "_law_show_expr" ["_law_expr_here"] (25 + n) (spM K 1 (cP n)):=by
  intro n
  induction n with
  | zero=>exact d__law_show_expr.fn X G (fun _ _ _ _ _ _ _ h=>by obtain ⟨_,rfl⟩:=cU h; rfl) fun f fd F=>gz
  | succ n ih=>exact d__law_show_expr.fn X G (fun _ _ _ _ _ _ _ h=>by obtain ⟨_,rfl⟩:=cU h; rfl) fun f fd F=>uw n B F Qae ih
 have Qah:=R__law_show_expr 25
 have R__law_show:∀ n:Nat,Fn l.prog w K mg base "_law_show" ["_law_recipe_here"] (50 + n) (spM K 1 (df n)):=by
  intro n
  induction n with
  | zero=>exact d__law_show.fn X G (fun _ _ _ _ _ _ _ h=>by obtain ⟨_,rfl⟩:=cU h; rfl) fun f fd F=>gz
  | succ n ih=>exact d__law_show.fn X G (fun _ _ _ _ _ _ _ h=>by obtain ⟨_,rfl⟩:=cU h; rfl) fun f fd F=>vd n B F Qah ih
 have Qam:=R__law_show 25
 have R__law_expr:∀ n:Nat,Fn l.prog w K mg base "_law_expr" ["_law_feed_here","_law_got","_law_names_here","_law_deep"] (2 + n) (spM K 4 (bO n)):=by
  intro n
  induction n with
  | zero=>exact d__law_expr.fn X G (fun _ _ _ _ _ _ _ h=>by obtain ⟨_,_,_,_,rfl⟩:=jE h; rfl) fun f fd F=>gz
  | succ n ih=>exact d__law_expr.fn X G (fun _ _ _ _ _ _ _ h=>by obtain ⟨_,_,_,_,rfl⟩:=jE h; rfl) fun f fd F=>vj n B F Qaa Qac ih
 have Qad:=R__law_expr 25
 have Qaw:Fn l.prog w K mg base "_law_wanted" ["_law_feed_here","_law_got","_law_names_here"] 28 (spM K 3 fA):=d__law_wanted.fn X G (fun _ _ _ _ _ _ _ h=>by obtain ⟨_,_,_,rfl⟩:=lw h; rfl) fun f fd F=>uL B F Qaa Qad
 have R__law_recipe:∀ n:Nat,Fn l.prog w K mg base "_law_recipe" ["_law_feed_here","_law_got","_law_names_here","_law_wants","_law_whens","_law_peeks"] (28 + n) (spM K 6 (bZ n)):=by
  intro n
  induction n with
  | zero=>exact d__law_recipe.fn X G (fun _ _ _ _ _ _ _ h=>by obtain ⟨_,_,_,_,_,_,rfl⟩:=t7 h; rfl) fun f fd F=>gz
  | succ n ih=>exact d__law_recipe.fn X G (fun _ _ _ _ _ _ _ h=>by obtain ⟨_,_,_,_,_,_,rfl⟩:=t7 h; rfl) fun f fd F=>uN n B F Qaa Qaw ih Qad
 have Qag:=R__law_recipe 25
 have Qaf:Fn l.prog w K mg base "_law_any_recipe" ["_law_feed_here","_law_names_here","_law_peeks"] 54 (spM K 3 de):=d__law_any_recipe.fn X G (fun _ _ _ _ _ _ _ h=>by obtain ⟨_,_,_,rfl⟩:=lw h; rfl) fun f fd F=>ut B F Qaa Qag
 have Qbc:Fn l.prog w K mg base "_law_book" ["_law_script","_law_base","_law_names_here","_law_peeks"] 55 (spM K 4 gm):=d__law_book.fn X G (fun _ _ _ _ _ _ _ h=>by obtain ⟨_,_,_,_,rfl⟩:=jE h; rfl) fun f fd F=>vm B F Qaa Qac Qaf Qab
 have Qax:Fn l.prog w K mg base "_law_turned" ["_law_feed_here","_law_book_here","_law_names_here","_law_peeks"] 55 (spM K 4 fB):=d__law_turned.fn X G (fun _ _ _ _ _ _ _ h=>by obtain ⟨_,_,_,_,rfl⟩:=jE h; rfl) fun f fd F=>uM B F Qaa Qac Qaf
 have Qbd:Fn l.prog w K mg base "_law_held" ["_law_script","_law_base","_law_books","_law_names_here"] 76 (spM K 4 gj):=d__law_held.fn X G (fun _ _ _ _ _ _ _ h=>by obtain ⟨_,_,_,_,rfl⟩:=jE h; rfl) fun f fd F=>vg B F Qbb Qaa Qac Qai Qam Qab
 have Qan:Fn l.prog w K mg base "_law_wanted_in" ["_law_line"] 1 (spM K 1 fu):=d__law_wanted_in.fn X G (fun _ _ _ _ _ _ _ h=>by obtain ⟨_,rfl⟩:=cU h; rfl) fun f fd F=>uv B F
 have Qau:Fn l.prog w K mg base "_law_reached" ["_law_kept_here","_law_roots"] 2 (spM K 2 fw):=d__law_reached.fn X G (fun _ _ _ _ _ _ _ h=>by obtain ⟨_,_,rfl⟩:=dt h; rfl) fun f fd F=>uF B F Qan
 have Qay:Fn l.prog w K mg base "_law_may_be" ["_law_kept_here","_law_some"] 1 (spM K 2 fD):=d__law_may_be.fn X G (fun _ _ _ _ _ _ _ h=>by obtain ⟨_,_,rfl⟩:=dt h; rfl) fun f fd F=>uP B F
 have Qas:Fn l.prog w K mg base "_law_right" ["_law_kept_here","_law_some","_law_paper"] 1 (spM K 3 du):=d__law_right.fn X G (fun _ _ _ _ _ _ _ h=>by obtain ⟨_,_,_,rfl⟩:=lw h; rfl) fun f fd F=>uZ B F
 exact yc (AX B FL Qaa Qab Qba Qbc Qax Qbd Qau Qar Qay Qas) (wU hm)
theorem walk {l:PySem.W.OpenLaw} {q:Program} {loose:List Str} {XP:(Str→Option Value)→Heap→Prop} {YP:World→Heap→Prop} {d:DefRec} {K:Params→Frag} (hn:l.most=some 63) (hdf:d.params.defaults=[])
  (hY:∀ (w:World) (h:Heap),YP w h→(K w.params).In h)
  (F:∀ (w:World) (mg:Str→Option Value) (fa:Addr) (h:Heap),(K w.params).In h→h.Ns mainGlobals mg→mg d.name=some (.ref fa) →
   ∃ fd:FuncData,(∀ (s:Shared) (u:Value),BindsTo s fd ⟨[u],[]⟩ [("_law_script",u)])∧∀ base:Heap,(K w.params).In base→base.Ns mainGlobals mg→FnOk l.prog w (K w.params) mg base CX0 77 fa fd ["_law_script"] (kO (K w.params))) :
  PySem.W.WalkO q loose XP YP l.row.toRowW d [] (fun f vs=>PySem.call f vs):=L2.yC (n:=63) (k:=77) (x:="_law_script") (CX:=fun _=>CX0) (sp:=fun w=>kO (K w.params)) hn (by decide) hdf ⟨rfl,by decide,by decide,rfl⟩ hY F (fun _ _ a ns hl _ hS=>⟨a,ns,rfl,hS,hl,fun _=>rfl⟩) fun _ _ _ _ _ z=>z
open PySem PySem.Spec PySem.Calls PySem.W PyProof.Rows PySem.W.X PySem.W.ZRun
theorem walkZ {q:Program} {loose:List Str} {XP:(Str→Option Value)→Heap→Prop} {K:Params→Frag} {r:RowW} {d:DefRec} {kwd:List (Str×Expr)}
  {w:World} {s₀ s₁:Shared} {mg mb:Str→Option Value} {a:Addr} {o:Obj} {pm cd doc dV kV:Value} {args:List WData} {vals:List Value} {as:List Addr}
  (KX:(K w.params).In s₁.heap) (GR:Ground q loose r.records XP w s₀ mg mb s₁.heap) (ho:s₁.heap.get? a=some o)
  (hd:o.data=.func { docDef d.name d.params d.body d.scope pm cd doc with defaults:=dV,kwdefaults:=kV }) (hcd:s₁.heap.CodeRec cd d.name) (hD:Dflts mg s₁.heap d.params kwd dV kV) (hmg:mg d.name=some (.ref a)) (hg:s₁.gens = #[])
  (hpre:r.claim.pre args=true) (hlay:WData.layableAll args=true) (hrd:ReadsAllW r.records (classAt s₀.heap) s₁.heap vals args as) (hwl:WellAll w.params s₁.heap vals args) (hlo:∀ a∈as,(a == sysModules)=false)
  (W:PySem.W.WalkO q loose XP (fun w h=>(K w.params).In h) r d kwd fun f vs=>PySem.call f vs) :
  wpAny (model r.prog w) callerA (PySem.call (.ref a) vals) (fun v s'=>GoodWG r.claim (classAt s₀.heap) (ExcName.means s₀.heap) args s₁ (.ok (.ret v)) s')
    (fun e s'=>GoodWG r.claim (classAt s₀.heap) (ExcName.means s₀.heap) args s₁ (.error e) s') s₁:=W w s₀ s₁ mg mb GR KX a o pm cd doc dV kV ho hd hcd hD hmg hg args vals as hpre hlay hrd hwl hlo
end G
def PySem.W.Fast.tw8140820733453645272:Unit:=()
def PySem.W.Fast.tw2561575316518042706:Unit:=()
def PySem.W.Fast.tw11173556684027555289:Unit:=()
def PySem.W.Fast.tw6885473066150077965:Unit:=()
def PySem.W.Fast.tw5433764927084330177:Unit:=()
def PySem.W.Fast.tw7536826075050028200:Unit:=()
def PySem.W.Fast.tw14124562453846329744:Unit:=()
def PySem.W.Fast.tw9102982670810363960:Unit:=()
def PySem.W.Fast.tw14211809873967725293:Unit:=()
def PySem.W.Fast.tw11276936268620801916:Unit:=()
def PySem.W.Fast.tw18079079850696872211:Unit:=()
def PySem.W.Fast.tw13919367428412492538:Unit:=()
def PySem.W.Fast.tw7121618368132316983:Unit:=()
def PySem.W.Fast.tw15838294872932612472:Unit:=()
def PySem.W.Fast.tw3322275055146388770:Unit:=()
def PySem.W.Fast.tw2705766601274974440:Unit:=()
def PySem.W.Fast.tw3918389449369551514:Unit:=()
def PySem.W.Fast.tw13330975403692218931:Unit:=()
def PySem.W.Fast.tw7097195444093944893:Unit:=()
def PySem.W.Fast.tw7460418333758823533:Unit:=()
def PySem.W.Fast.tw11655259920900654771:Unit:=()
def PySem.W.Fast.tw7993104197655192558:Unit:=()
def PySem.W.Fast.tw9843111963143467758:Unit:=()
def PySem.W.Fast.tw14754590283097131633:Unit:=()
def PySem.W.Fast.tw11659557754613811086:Unit:=()
def PySem.W.Fast.tw11067378391753089896:Unit:=()
def PySem.W.Fast.tw5788890610101671376:Unit:=()
def PySem.W.Fast.tw2546305703147039057:Unit:=()
def PySem.W.Fast.tw15911923474004915695:Unit:=()
def PySem.W.Fast.tw16272924620370401945:Unit:=()
def PySem.W.Fast.tw14459031877821641044:Unit:=()
def PySem.W.Fast.tw10641836851929939953:Unit:=()
def PySem.W.Fast.tw10010132914146099821:Unit:=()
def PySem.W.Fast.tw5972143223091954884:Unit:=()
def PySem.W.Fast.tw4354885595729435682:Unit:=()
def PySem.W.Fast.tw2897763879574751911:Unit:=()
def PySem.W.Fast.tw14377443412496544915:Unit:=()
def PySem.W.Fast.tw4984976963743756964:Unit:=()
def PySem.W.Fast.tw7939713046238789488:Unit:=()
def PySem.W.Fast.tw9414408175554611443:Unit:=()
def PySem.W.Fast.tw2252293900287134610:Unit:=()
def PySem.W.Fast.tw6035884268180289832:Unit:=()
def PySem.W.Fast.tw7169138752602055452:Unit:=()
def PySem.W.Fast.tw2092110961477980927:Unit:=()
def PySem.W.Fast.tw2536868953602593108:Unit:=()
def PySem.W.Fast.tw14616451283601067603:Unit:=()
def PySem.W.Fast.tw8964623248752811418:Unit:=()
def PySem.W.Fast.tw4354931704484845637:Unit:=()
def PySem.W.Fast.tw409389442772857221:Unit:=()
def PySem.W.Fast.tw4716744003687658582:Unit:=()
def PySem.W.Fast.tw18383941183248925767:Unit:=()
def PySem.W.Fast.tw6175935773651397237:Unit:=()
def PySem.W.Fast.tw17813927250487050623:Unit:=()
def PySem.W.Fast.tw9156841450814760974:Unit:=()
def PySem.W.Fast.tw15493645249176910986:Unit:=()
def PySem.W.Fast.tw18053907685338471137:Unit:=()
def PySem.W.Fast.tw17753947041934515783:Unit:=()
def PySem.W.Fast.tw16908831173960084456:Unit:=()
def PySem.W.Fast.tw508329888774464080:Unit:=()
def PySem.W.Fast.tw11877602099130462980:Unit:=()
def PySem.W.Fast.tw1140323057902225236:Unit:=()
def PySem.W.Fast.tw17717730552883863412:Unit:=()
def PySem.W.Fast.tw15588026060691900093:Unit:=()
def PySem.W.Fast.tw8646193812027133280:Unit:=()
def PySem.W.Fast.tw6570962097487920058:Unit:=()
def PySem.W.Fast.tw5887488628174930641:Unit:=()
def PySem.W.Fast.tw11384233486099238521:Unit:=()
def PySem.W.Fast.tw2400095518363440570:Unit:=()
def PySem.W.Fast.tw6816384015060321161:Unit:=()
def PySem.W.Fast.tw5406892150403442802:Unit:=()
def PySem.W.Fast.tw16908545324839355035:Unit:=()
def PySem.W.Fast.tw770392827075201737:Unit:=()
def PySem.W.Fast.tw2494911573527074780:Unit:=()
def PySem.W.Fast.tw13617667006334779097:Unit:=()
def PySem.W.Fast.tw17721129283792691823:Unit:=()
def PySem.W.Fast.tw6885326828589278086:Unit:=()
def PySem.W.Fast.tw3163787937864635019:Unit:=()
def PySem.W.Fast.tw14221257477832087805:Unit:=()
def PySem.W.Fast.tw4505276073447686833:PySem.Program:=PySem.Challenge.pw_redo_k39_papers_in_held
theorem PySem.W.Fast.te4505276073447686833:PySem.Challenge.pw_redo_k39_papers_in_held=PySem.W.Fast.tw4505276073447686833:=rfl
open PySem PySem.W PyProof.Rows PySem.W.X PySem.W.ZRun
set_option maxRecDepth 100000 in
set_option maxHeartbeats 0 in
theorem PySem.Challenge.cw_redo_k39_papers_in_held_holds : PySem.Challenge.rw_redo_k39_papers_in_held.Holds := by
 w_on; o_law; z_head; (case hw=>w_witness2)
 k_fill
 intro w s₀ s₁ mg mb GR y fa o pm cd doc dV kV ho hd hcd hD hmg hg args vals as L hpre hlay hrd hwl hlo
 z_open y L KX ZH ZN ZT
 clear ZH ZN ZT
 refine G.walkZ KX GR ho hd hcd hD hmg hg hpre hlay hrd hwl hlo ?W
 clear KX GR ho hd hcd hD hmg hg hpre hlay hrd hwl hlo L y
 refine G.walk (l:=PySem.Challenge.rw_redo_k39_papers_in_held) rfl rfl (fun w h Y=>Y) ?F
 case F=>
  intro w mg fa h KX GG hmg
  refine' G.all_mk KX GG hmg ?_ ?_ ?_ ?_ ?_ ?_ ?_ ?_ ?_ ?_ ?_ ?_ ?_ ?_ ?_ ?_ ?_ ?_ ?_ ?_ ?_ ?_ ?_ ?_ ?_ ?_ ?_ ?_ ?_ ?_ ?_ ?_ ?_ ?_ ?_ ?_ ?_ ?_ ?_ ?_ ?_ ?_ ?_ ?_ ?_ ?_ ?_ G.xZ
  any_goals first | (refine' D.Cq ?a ?l ?c ?k; (case a=>k_is); (case l=>k_is); (case c=>k_is); (case k=>k_is)) | (refine' D.Bq ?a ?l ?c ?k ?n; (case a=>k_is); (case l=>k_is); (case c=>k_is); (case k=>k_is); (case n=>k_is)) | k_is
  all_goals first | rfl | decide +kernel
