import PyProof.Rows.All
import Wide.All
import OpenK.AllK
import Wide.FinOn
import Lean
import PyProof.EqAt
import PyProof.EqKinds
import PyProof.TupleCall
import PySem.Challenge.RW_redo_k47_deeds_refused
noncomputable section
open PySem.W (Frag)
set_option Elab.async false
set_option linter.all false
set_option maxRecDepth 100000
namespace L2
open PySem PySem.Spec PyProof.Rows
abbrev Key:=Sum Int Str
def dg:Key→Value→Bool
 | .inl k,v=>Value.isInt k v
 | .inr x,v=>Value.isStrOf x v
def ow (w:World):Key→Int
 | .inl k=>hashInt k
 | .inr x=>hashStr w x
theorem cQ:∀ {k:Key} {v:Value},dg k v=true→(∃ i t,k=Sum.inl i∧v=Value.int i t)∨(∃ x t,k=Sum.inr x∧v=Value.str x t)
 | .inl i,v,h=>by
  obtain ⟨t,e⟩:=Value.isInt_shape (k:=i) (v:=v) h
  exact .inl ⟨i,t,rfl,e⟩
 | .inr x,v,h=>by
  obtain ⟨t,e⟩:=Value.isStrOf_shape (x:=x) (v:=v) h
  exact .inr ⟨x,t,rfl,e⟩
theorem yv (i:Int) (t:Tok):dg (.inl i) (.int i t)=true:=by simp [dg,Value.isInt]
theorem yu (x:Str) (t:Tok):dg (.inr x) (.str x t)=true:=by simp [dg,Value.isStrOf]
theorem ni (a b:Int):decide ((Sum.inl a:Key)=Sum.inl b)=(a == b):=by
 by_cases e:a=b
 ·subst e; simp
 ·have h:¬ (Sum.inl a:Key)=Sum.inl b:=fun q=>e (Sum.inl.inj q)
  rw [decide_eq_false h]
  exact (beq_eq_false_iff_ne.mpr e).symm
theorem nh (a b:Str):decide ((Sum.inr a:Key)=Sum.inr b)=decide (a=b):=by
 by_cases e:a=b
 ·subst e; simp
 ·have h:¬ (Sum.inr a:Key)=Sum.inr b:=fun q=>e (Sum.inr.inj q)
  rw [decide_eq_false h,decide_eq_false e]
theorem kL (a:Int) (b:Str):decide ((Sum.inl a:Key)=Sum.inr b)=false:=decide_eq_false (fun q=>nomatch q)
theorem kJ (a:Str) (b:Int):decide ((Sum.inr a:Key)=Sum.inl b)=false:=decide_eq_false (fun q=>nomatch q)
def bh (prog:Program) (w:World):PySem.KeyKind prog w Key where
 is:=dg
 hash:=ow w
 inj:=fun v a b ha hb=>by
  rcases cQ ha with ⟨i,t,rfl,rfl⟩ | ⟨x,t,rfl,rfl⟩
  ·rcases cQ hb with ⟨j,u,rfl,e⟩ | ⟨y,u,rfl,e⟩
   ·injection e with e1 _; rw [e1]
   ·exact nomatch e
  ·rcases cQ hb with ⟨j,u,rfl,e⟩ | ⟨y,u,rfl,e⟩
   ·exact nomatch e
   ·injection e with e1 _; rw [e1]
 byValue:=fun k v h=>by
  rcases cQ h with ⟨i,t,rfl,rfl⟩ | ⟨x,t,rfl,rfl⟩ <;> rfl
 pyHash:=fun hv h=>by
  rcases cQ hv with ⟨i,t,rfl,rfl⟩ | ⟨x,t,rfl,rfl⟩
  ·exact wpAny_pyHash_int h
  ·exact wpAny_pyHash_str h
 eqBool:=fun hu hv h=>by
  rcases cQ hu with ⟨i,t,rfl,rfl⟩ | ⟨x,t,rfl,rfl⟩
  ·rcases cQ hv with ⟨j,u,rfl,rfl⟩ | ⟨y,u,rfl,rfl⟩
   ·rw [ni] at h; exact wpAny_eqBool_int h
   ·rw [kL] at h; exact SeqAt.EqAt.int_str i t y u _ _ _ _ h
  ·rcases cQ hv with ⟨j,u,rfl,rfl⟩ | ⟨y,u,rfl,rfl⟩
   ·rw [kJ] at h; exact SeqAt.EqAt.str_int x t j u _ _ _ _ h
   ·rw [nh] at h; exact wpAny_eqBool_str h
 «strs»:=fun k x t v h=>by
  rcases cQ h with ⟨i,u,rfl,e⟩ | ⟨y,u,rfl,e⟩
  ·exact nomatch e
  ·injection e with e1 _
   subst e1
   cases v <;> rfl
theorem wU (prog:Program) (w:World) (i:Int) (t:Tok):(bh prog w).is (.inl i) (.int i t)=true:=yv i t
theorem wR (prog:Program) (w:World) (x:Str) (t:Tok):(bh prog w).is (.inr x) (.str x t)=true:=yu x t
inductive V where
 | non | bl (b:Bool) | int (i:Int) | str (x:Str) | byt (b:Array UInt8) | flt (b:UInt64) | ref (a:Addr) | ty (n:String)
 deriving DecidableEq
def RelV:V→Value→Prop
 | .non,u=>u=Value.none
 | .bl b,u=>u=Value.bool b
 | .int i,u=>∃ t,u=Value.int i t
 | .str x,u=>∃ t,u=Value.str x t
 | .byt b,u=>∃ t,u=Value.bytes b t
 | .flt b,u=>∃ t,u=Value.float b t
 | .ref a,u=>u=Value.ref a
 | .ty n,u=>u=Value.type n
abbrev Vals:List V→List Value→Prop:=Paired RelV
theorem Vals.length {xs:List V} {us:List Value} (r:Vals xs us):xs.length=us.length:=Paired.length r
theorem Vals.get:∀ {xs:List V} {us:List Value} {i:Nat} {x:V},Vals xs us→xs[i]? = some x→∃ u,us[i]? = some u∧RelV x u
 | _,_,_,_,.nil,e=>by simp at e
 | _,_,0,_,.cons r _,e=>by simp at e; subst e; exact ⟨_,rfl,r⟩
 | _,_,i + 1,x,.cons _ t,e=>by
  obtain ⟨u,h1,h2⟩:=Vals.get (i:=i) (x:=x) t (by simpa using e)
  exact ⟨u,by simpa using h1,h2⟩
theorem Vals.set {x:V} {u:Value} (r:RelV x u):∀ {xs:List V} {us:List Value} (i:Nat),Vals xs us→Vals (xs.set i x) (us.set i u)
 | _,_,_,.nil=>.nil
 | _,_,0,.cons _ t=>.cons r t
 | _,_,i + 1,.cons q t=>.cons q (Vals.set r i t)
theorem Vals.append:∀ {xs ys:List V} {us ws:List Value},Vals xs us→Vals ys ws→Vals (xs++ys) (us++ws)
 | _,_,_,_,.nil,s=>s
 | _,_,_,_,.cons r t,s=>.cons r (Vals.append t s)
theorem Vals.take:∀ {xs:List V} {us:List Value} (n:Nat),Vals xs us→Vals (xs.take n) (us.take n)
 | _,_,0,_=>.nil
 | _,_,_ + 1,.nil=>.nil
 | _,_,n + 1,.cons r t=>.cons r (Vals.take n t)
theorem Vals.drop:∀ {xs:List V} {us:List Value} (n:Nat),Vals xs us→Vals (xs.drop n) (us.drop n)
 | _,_,0,r=>r
 | _,_,_ + 1,.nil=>.nil
 | _,_,n + 1,.cons _ t=>Vals.drop n t
def RelO:Option V→Option Value→Prop
 | some v,some u=>RelV v u
 | none,none=>True
 | _,_=>False
def KV {κ:Type}:List (κ×V)→List (κ×Value)→Prop:=Paired fun (p:κ×V) (q:κ×Value)=>p.1=q.1∧RelV p.2 q.2
def kV:Key→V
 | .inl i=>.int i
 | .inr x=>.str x
inductive HO where
  | lst (xs:List V)
  | tup (xs:List V)
  | dK (kvs:List (Key×V)) | dT (kvs:List (List Key×V))
  | set (S:Int→Bool) (n:Nat)
  | ins (C dx:Addr) (fs:List (Str×V))
  | own (x:Addr)
  | xd (fs:List (Str×V))
  | met (f x:Addr)
  | rng (lo hi:Int)
  | frz (o:Obj) (u:HO)
  | tbl (ps:Array Value)
  | ext (φ:Heap→Prop)
abbrev Hp:=Addr→Option HO
def upd (H:Hp) (a:Addr) (o:HO):Hp:=fun b=>if b=a then some o else H b
theorem aR {H:Hp} {a:Addr} {o:HO}:upd H a o a=some o:=by unfold upd; rw [if_pos rfl]
theorem aD {H:Hp} {a b:Addr} {o:HO} (h:b≠a):upd H a o b=H b:=by unfold upd; rw [if_neg h]
theorem jW {H:Hp} {a:Addr} {o u:HO}:upd (upd H a o) a u=upd H a u:=by funext b; unfold upd; split <;> rfl
theorem Dr {H:Hp} {a b:Addr} {o u:HO} (h:H a=some o) (h':H b=some u) (d:o≠u):a≠b:=by intro e; subst e; rw [h] at h'; exact d (Option.some.inj h')
theorem bA {H:Hp} {a b:Addr} {o:HO} (h:H a=some o) (h':H b=none):a≠b:=by intro e; subst e; rw [h] at h'; cases h'
section
variable (P:Program) (w:World)
def ObjOk (H:Hp) (h:Heap) (a:Addr):HO→Prop
 | .lst xs=>xs.length≤sizeLine∧∃ (its:List Value) (n:Nat),Vals xs its∧h.get? a=some { cls:=.type "list",data:=.seq its.toArray n }
 | .tup xs=>xs.length≤sizeLine∧∃ its:List Value,Vals xs its∧IsTup h a its.toArray
 | .dK kvs=>kvs.length≤sizeLine∧(a == sysModules)=false∧∃ vs,KV kvs vs∧h.DictOf (bh P w) a vs
 | .dT kvs=>kvs.length≤sizeLine∧(a == sysModules)=false∧∃ xs:List (List Key×Addr×Value),
   Paired (fun (p:List Key×V) (q:List Key×Addr×Value)=>p.1=q.1∧H q.2.1=some (.tup (p.1.map kV))∧RelV p.2 q.2.2) kvs xs ∧
   ∃ o es ep,h.get? a=some o∧o.ExactDict∧o.data=.dict es ep∧es.toList=xs.map (entryOfKey (tupleKind (bh P w)))∧(xs.map (·.1)).Nodup
 | .set S n=>h.SetOf (intKind P w) a S n
 | .ins C dx fs=>H dx=some (.own a)∧fs.length≤1000∧dx≠a∧h.get? a=some (PySem.W.instObj C dx) ∧
   ∃ mA,h.Ns1 dx mA∧(∀ f,RelO (fs.lookup f) (mA f))∧PySem.Within mA (fs.map (·.1))
 | .own _=>∃ o,h.get? a=some o
 | .xd fs=>∃ mA,h.Ns1 a mA∧∀ f,RelO (fs.lookup f) (mA f)
 | .rng lo hi=>∃ t u v,h.get? a=some { cls:=.type "range",data:=.fields #[.int lo t,.int hi u,.int 1 v] }
 | .frz o u=>h.get? a=some o∧ObjOk H h a u
 | .tbl ps=>h.get? a=some { cls:=.none,data:=.fields ps }
 | .met f x=>h.get? a=some (PySem.W.methodObj (.ref f) (.ref x))
 | .ext φ=>φ h∧(∃ o,h.get? a=some o)∧∀ h1 h2:Heap,φ h1→(∀ o,h1.get? a=some o→h2.get? a=some o)→φ h2
def HOk (H:Hp) (h:Heap):Prop:=∀ a o,H a=some o→ObjOk P w H h a o
end
section
variable {P:Program} {w:World} {H H':Hp} {h h':Heap} {a:Addr} {o:HO}
theorem ObjOk.lt (x:ObjOk P w H h a o):a < h.objs.size:=by
 cases o with
 | lst xs=>obtain ⟨_,_,_,_,e⟩:=x; exact Heap.lt_size e
 | tup xs=>obtain ⟨_,_,_,p⟩:=x; exact p.lt
 | dK kvs=>obtain ⟨_,_,_,_,o,_,_,e,_⟩:=x; exact Heap.lt_size e
 | dT kvs=>obtain ⟨_,_,_,_,o,_,_,e,_⟩:=x; exact Heap.lt_size e
 | set S n=>obtain ⟨o,_,_,_,e,_⟩:=x; exact Heap.lt_size e
 | ins C dx fs=>obtain ⟨_,_,_,e,_⟩:=x; exact Heap.lt_size e
 | own y=>obtain ⟨_,e⟩:=x; exact Heap.lt_size e
 | xd fs=>obtain ⟨_,⟨_,_,_,e,_⟩,_⟩:=x; exact Heap.lt_size e
 | rng lo hi=>obtain ⟨_,_,_,e⟩:=x; exact Heap.lt_size e
 | frz ob u=>obtain ⟨e,_⟩:=x; exact Heap.lt_size e
 | tbl ps=>exact Heap.lt_size (show h.get? a=some _ from x)
 | met f y=>exact Heap.lt_size (show h.get? a=some _ from x)
 | ext φ=>obtain ⟨_,⟨_,e⟩,_⟩:=x; exact Heap.lt_size e
theorem Paired.mapP {α β:Type} {F G:α→β→Prop}:∀ {l₁:List α} {l₂:List β},Paired F l₁ l₂→(∀ a b,F a b→G a b)→Paired G l₁ l₂
 | _,_,.nil,_=>.nil
 | _,_,.cons r t,f=>.cons (f _ _ r) (Paired.mapP t f)
theorem ObjOk.stay (x:ObjOk P w H h a o) (k:∀ b u,(b=a∨H b=some (.own a))→h.get? b=some u→h'.get? b=some u)
  (ho:∀ b,H b=some (.own a)→H' b=some (.own a)) (ht:∀ b xs,H b=some (.tup xs)→H' b=some (.tup xs)):ObjOk P w H' h' a o:=by
 induction o with
 | lst xs=>obtain ⟨z,its,n,r,e⟩:=x; exact ⟨z,its,n,r,k _ _ (.inl rfl) e⟩
 | tup xs=>obtain ⟨z,its,r,ob,e,c⟩:=x; exact ⟨z,its,r,ob,k _ _ (.inl rfl) e,c⟩
 | dK kvs=>obtain ⟨z,y,vs,r,ob,es,ep,e,c⟩:=x; exact ⟨z,y,vs,r,ob,es,ep,k _ _ (.inl rfl) e,c⟩
 | dT kvs=>
  obtain ⟨z,y,xs,r,ob,es,ep,e,c⟩:=x
  exact ⟨z,y,xs,Paired.mapP r fun p q z=>⟨z.1,ht _ _ z.2.1,z.2.2⟩,ob,es,ep,k _ _ (.inl rfl) e,c⟩
 | set S n=>obtain ⟨ob,es,ep,t,e,c⟩:=x; exact ⟨ob,es,ep,t,k _ _ (.inl rfl) e,c⟩
 | ins C dx fs=>
  obtain ⟨d,z,ne,e,mA,⟨od,es,ep,e2,c⟩,r⟩:=x
  exact ⟨ho _ d,z,ne,k _ _ (.inl rfl) e,mA,⟨od,es,ep,k _ _ (.inr d) e2,c⟩,r⟩
 | own y=>obtain ⟨ob,e⟩:=x; exact ⟨ob,k _ _ (.inl rfl) e⟩
 | xd fs=>obtain ⟨mA,⟨od,es,ep,e,c⟩,r⟩:=x; exact ⟨mA,⟨od,es,ep,k _ _ (.inl rfl) e,c⟩,r⟩
 | rng lo hi=>obtain ⟨t,u,v,e⟩:=x; exact ⟨t,u,v,k _ _ (.inl rfl) e⟩
 | frz ob u ih=>obtain ⟨e,q⟩:=x; exact ⟨k _ _ (.inl rfl) e,ih q⟩
 | tbl ps=>
  have e:h.get? a=some { cls:=.none,data:=.fields ps }:=x
  show h'.get? a=some { cls:=.none,data:=.fields ps }
  exact k a _ (.inl rfl) e
 | met f y=>
  have e:h.get? a=some (PySem.W.methodObj (.ref f) (.ref y)):=x
  show h'.get? a=some (PySem.W.methodObj (.ref f) (.ref y))
  exact k a _ (.inl rfl) e
 | ext φ=>obtain ⟨p,⟨o,e⟩,st⟩:=x; exact ⟨st _ _ p fun o q=>k _ _ (.inl rfl) q,⟨o,k _ _ (.inl rfl) e⟩,st⟩
theorem HOk.lt (x:HOk P w H h) (e:H a=some o):a < h.objs.size:=(x a o e).lt
theorem HOk.fresh (x:HOk P w H h) (e:h.objs.size≤a):H a=none:=by
 cases q:H a with
 | none=>rfl
 | some u=>exact absurd (Nat.lt_of_lt_of_le (x.lt q) e) (Nat.lt_irrefl _)
theorem HOk.kept (x:HOk P w H h) (k:∀ b u,h.get? b=some u→h'.get? b=some u):HOk P w H h':=fun a o e=>
 (x a o e).stay (fun b u _ q=>k b u q) (fun _ q=>q) fun _ _ q=>q
theorem HOk.laid (x:HOk P w H h) (k:∀ b u,h.get? b=some u→h'.get? b=some u) (hp:h.objs.size≤a) (new:ObjOk P w (upd H a o) h' a o):HOk P w (upd H a o) h':=fun b u e=>by
 have hn:=x.fresh hp
 by_cases hb:b=a
 ·subst hb; rw [aR] at e; cases e; exact new
 ·rw [aD hb] at e
  exact (x b u e).stay (fun c v _ q=>k c v q) (fun c q=>by rw [aD (bA q hn)]; exact q) fun c xs q=>by rw [aD (bA q hn)]; exact q
end
def Rd (H:Hp) (a:Addr) (u:HO):Prop:=H a=some u∨∃ o,H a=some (.frz o u)
theorem Rd.ok {P:Program} {w:World} {H:Hp} {h:Heap} {a:Addr} {u:HO} (r:Rd H a u) (x:HOk P w H h):ObjOk P w H h a u:=by
 rcases r with r | ⟨o,r⟩
 ·exact x a u r
 ·obtain ⟨_,q⟩:=x a _ r
  exact q
def Mut:Option HO→Prop
 | some (.lst _)=>True
 | some (.dK _)=>True
 | some (.dT _)=>True
 | some (.set _ _)=>True
 | some (.ins _ _ _)=>True
 | some (.ext _)=>True
 | _=>False
section
variable {P:Program} {w:World} {H:Hp} {h h':Heap} {x e:Addr} {o':HO}
theorem HOk.write (ok:HOk P w H h) (mu:Mut (H x)) (he:e=x∨H e=some (.own x)) (k:∀ b u,b≠e→h.get? b=some u→h'.get? b=some u) (heo:∃ u,h'.get? e=some u)
  (new:ObjOk P w (upd H x o') h' x o'):HOk P w (upd H x o') h':=fun b u q=>by
 have nown:∀ c y,H c=some (.own y)→c≠x:=fun c y r z=>by subst z; rw [r] at mu; exact mu
 have ntup:∀ c xs,H c=some (.tup xs)→c≠x:=fun c xs r z=>by subst z; rw [r] at mu; exact mu
 by_cases hb:b=x
 ·subst hb; rw [aR] at q; cases q; exact new
 ·rw [aD hb] at q
  by_cases hbe:b=e
  ·have q':H b=some (.own x):=by
    rcases he with z | z
    ·exact absurd (hbe.trans z) hb
    ·rw [hbe]; exact z
   rw [q] at q'; cases q'
   obtain ⟨v,hv⟩:=heo
   exact ⟨v,by rw [hbe]; exact hv⟩
  ·refine (ok b u q).stay (fun c v hc r=>k c v ?_ r) (fun c r=>by rw [aD (nown c b r)]; exact r) fun c xs r=>by rw [aD (ntup c xs r)]; exact r
   rcases hc with rfl | hc
   ·exact hbe
   ·rintro rfl
    rcases he with z | z
    ·exact nown c b hc z
    ·rw [hc] at z; cases z; exact hb rfl
end
structure Un (fs ex:List Addr) (H H':Hp) (h h':Heap):Prop where
 keep:∀ b o,h.get? b=some o→H b=none→b∉fs→b∉ex→h'.get? b=some o
 slot:∀ b o,h.get? b=some o→H b=none→b∈fs→b∉ex→∃ sl,h'.get? b=some { o with slots:=sl }
 free:∀ b o,h.get? b=some o→H b=none→b∉ex→H' b=none
 there:∀ b o,h.get? b=some o→b∉ex→∃ o',h'.get? b=some o'
 tups:∀ b xs,H b=some (.tup xs)→H' b=some (.tup xs)
 frzs:∀ b o u,H b=some (.frz o u)→H' b=some (.frz o u)
 tbls:∀ b ps,H b=some (.tbl ps)→∃ more,H' b=some (.tbl (ps++more))
section
variable {fs fs' ex ex':List Addr} {H H1 H2:Hp} {h h1 h2 h':Heap} {a x e:Addr} {o:HO}
theorem Un.any (u:Un fs ex H H1 h h1) {b:Addr} {ob:Obj} (q:h.get? b=some ob) (n:H b=none) (hx:b∉ex):∃ sl,h1.get? b=some { ob with slots:=sl }:=by
 by_cases hb:b∈fs
 ·exact u.slot b ob q n hb hx
 ·exact ⟨ob.slots,u.keep b ob q n hb hx⟩
theorem Un.kept (k:∀ b u,h.get? b=some u→h'.get? b=some u):Un fs ex H H h h':=⟨fun b ob q _ _ _=>k b ob q,fun b ob q _ _ _=>⟨ob.slots,k b ob q⟩,fun _ _ _ n _=>n,fun b ob q _=>⟨ob,k b ob q⟩,fun _ _ q=>q,fun _ _ _ q=>q,fun _ ps q=>⟨#[],by rw [q]; simp⟩⟩
theorem Un.refl:Un fs ex H H h h:=Un.kept fun _ _ q=>q
theorem Un.laid (k:∀ b u,h.get? b=some u→h'.get? b=some u) (hp:h.objs.size≤a) (hn:H a=none):Un fs ex H (upd H a o) h h' where
 keep:=fun b u q _ _ _=>k b u q
 slot:=fun b u q _ _ _=>⟨u.slots,k b u q⟩
 free:=fun b u q n _=>by rw [aD (Nat.ne_of_lt (Nat.lt_of_lt_of_le (Heap.lt_size q) hp))]; exact n
 there:=fun b u q _=>⟨u,k b u q⟩
 tups:=fun b xs q=>by rw [aD (bA q hn)]; exact q
 frzs:=fun b u xs q=>by rw [aD (bA q hn)]; exact q
 tbls:=fun b ps q=>⟨#[],by rw [aD (bA q hn),q]; simp⟩
theorem Un.write (mu:Mut (H x)) (he:e=x∨H e=some (.own x)) (k:∀ b u,b≠e→h.get? b=some u→h'.get? b=some u) (heo:∃ u,h'.get? e=some u):Un fs ex H (upd H x o) h h':=by
 have hx:∀ b,H b=none→b≠x:=fun b n z=>by subst z; rw [n] at mu; exact mu
 have hb:∀ b,H b=none→b≠e:=fun b n z=>by
  subst z
  rcases he with r | r
  ·exact hx b n r
  ·rw [n] at r; cases r
 have hm:∀ b u,H b=some u→¬ Mut (some u)→b≠x:=fun b u q nm z=>by subst z; rw [q] at mu; exact nm mu
 refine ⟨fun b u q n _ _=>k b u (hb b n) q,fun b u q n _ _=>⟨u.slots,k b u (hb b n) q⟩,fun b u q n _=>by rw [aD (hx b n)]; exact n,fun b u q _=>?_,
  fun b xs q=>by rw [aD (hm b _ q fun z=>z)]; exact q,fun b u xs q=>by rw [aD (hm b _ q fun z=>z)]; exact q,fun b ps q=>⟨#[],by rw [aD (hm b _ q fun z=>z),q]; simp⟩⟩
 by_cases hbe:b=e
 ·subst hbe; exact heo
 ·exact ⟨u,k b u hbe q⟩
end
def trk (h:Heap) (H:Hp):List Addr:=(List.range h.objs.size).filter fun a=>(H a).isSome
def fG (h:Heap) (H:Hp):Heap:=PySem.W.hideAll h (trk h H)
theorem yy (h:Heap) (H:Hp):(fG h H).objs.size=h.objs.size:=PySem.W.hideAll_size _ _
theorem zB {h:Heap} {H:Hp} {b:Addr} {o:Obj} (e:h.get? b=some o) (n:H b=none):(fG h H).get? b=some o:=
 PySem.W.hideAll_get _ e fun hm=>by
  have q:(H b).isSome=true:=(List.mem_filter.mp hm).2
  rw [n] at q; simp at q
theorem AE {h:Heap} {H:Hp} {b:Addr} {o:Obj} (e:(fG h H).get? b=some o):h.get? b=some o∧H b=none:=by
 have e':h.get? b=some o:=PySem.W.of_hideAll (trk h H) e
 refine ⟨e',?_⟩
 cases q:H b with
 | none=>rfl
 | some x=>
  have hm:b∈trk h H:=List.mem_filter.mpr ⟨List.mem_range.mpr (Heap.lt_size e'),by simp [q]⟩
  have z:(fG h H).get? b=none:=PySem.W.hideAll_none (trk h H) hm
  rw [z] at e; cases e
def Bh (g h:Heap) (L:Addr):List (Addr×Obj):=(List.range h.objs.size).filterMap fun a=>if a=L∨(g.get? a).isSome=true then none else (h.get? a).map fun o=>(a,o)
def rest (g h:Heap) (L d:Addr):List (Addr×Obj):=(Bh g h L).filter fun p=>decide (p.1≠d)
structure Mod (K:Frag) (mg:Str→Option Value) (base:Heap):Prop where
 kin:K.In base
 glob:base.Ns mainGlobals mg
 blt:∃ mb,base.Ns builtinsNs mb∧∀ x:Str,x≠"__name__"→mb x=bootBuiltins x
 nolimit:base.NoLimit
structure Cx where
 prog:Program
 w:World
 K:Frag
 mg:Str→Option Value
 base:Heap
 A:Around
 N:List Str
 s₀:Shared
 H₀:Hp
 env:Env
 outer:List Env
 stack:List Env
 ex:List Addr
 fn:Str→Bool
 calm:Bool
 pn:List (Addr×Obj)
 xe:Value→Shared→Prop
def frs (l:List Env):List Addr:=l.filterMap (·.frame)
abbrev Cx.fs (X:Cx):List Addr:=frs X.outer
def Vis (sc:Scope) (x:Str):Prop:=sc.names.lookup x=some .local∨sc.names.lookup x=some .cell∨sc.names.lookup x=some .free
def Loc (sc:Scope) (x:Str):Prop:=sc.names.lookup x=some .local∨sc.names.lookup x=some .cell
def Look (env:Env) (h:Heap) (m:Str→Option Value) (x:Str) (u:Value):Prop:=(env.kindOf x=some .local∧m x=some u)∨((env.kindOf x=some .cell∨env.kindOf x=some .free)∧∃ c,env.cells.lookup x=some c∧h.IsCell c (some u))
structure Cx.Ok (X:Cx):Prop where
 mod:Mod X.K X.mg X.base
 kind:X.env.scope.kind=.function
 glob:X.env.globals=mainGlobals
 blt:X.env.builtins=builtinsNs
 above:X.s₀.heap.objs.size≤X.env.locals
 inj:∀ x y c,X.env.cells.lookup x=some c→X.env.cells.lookup y=some c→x=y
 has:∀ x,(X.env.kindOf x=some .cell∨X.env.kindOf x=some .free)→∃ c,X.env.cells.lookup x=some c
 cab:∀ x c,X.fn x=true→X.env.cells.lookup x=some c→X.s₀.heap.objs.size≤c
 hd:X.calm=true→X.A.handled=none
 frames:X.A.frames=some X.stack
 stk:X.stack=X.outer∨(X.stack=X.env::X.outer∧X.env.frame=some X.env.locals)
 exf:∀ b∈X.ex,b≠X.env.locals∧∀ x c,X.env.cells.lookup x=some c→c≠b
 bs:∀ b o,X.base.get? b=some o→X.s₀.heap.get? b=some o∧X.H₀ b=none
 bsz:X.base.objs.size≤X.s₀.heap.objs.size
 noex:∀ b o,X.base.get? b=some o→b∉X.ex
 exfs:∀ b∈X.ex,b∉X.fs
 funs:X.s₀.heap.FunFrames X.base X.outer
 frf:∀ b∈X.fs,X.H₀ b=none
structure Inv (X:Cx) (pins:List (Addr×Obj)) (σ:List (Option V)) (H:Hp) (s:Shared):Prop where
 ok:X.Ok
 os:s.os=X.s₀.os
 bare:AllBare s.gens
 base:Un X.fs X.ex X.H₀ H X.s₀.heap s.heap
 loc:∃ m,s.heap.Ns X.env.locals m∧∀ (i:Nat) (x:Str) (v:V),X.N[i]? = some x→σ[i]? = some (some v)→Vis X.env.scope x→∃ u,RelV v u∧Look X.env s.heap m x u
 cell:∀ x c,X.env.cells.lookup x=some c→∃ v,s.heap.IsCell c v
 free:H X.env.locals=none
 freeC:∀ x c,X.env.cells.lookup x=some c→H c=none
 pin:∀ p∈X.pn++pins,s.heap.get? p.1=some p.2∧H p.1=none∧p.1≠X.env.locals∧p.1∉X.fs∧∀ v,p.2.data≠.cell v
 hok:HOk X.prog X.w H s.heap
 len:σ.length=X.N.length
section
variable {X:Cx} {pins:List (Addr×Obj)} {σ:List (Option V)} {H H':Hp} {s:Shared} {h':Heap}
theorem Cx.Ok.nofr (ok:X.Ok) {b:Addr} {o:Obj} (e:X.base.get? b=some o):b∉X.fs:=fun hb=>by
 have:=(ok.funs.mem hb).1
 rw [e] at this; cases this
theorem Inv.bs (I:Inv X pins σ H s):∀ b o,X.base.get? b=some o→s.heap.get? b=some o∧H b=none:=fun b o e=>
 ⟨I.base.keep b o (I.ok.bs b o e).1 (I.ok.bs b o e).2 (I.ok.nofr e) (I.ok.noex b o e),I.base.free b o (I.ok.bs b o e).1 (I.ok.bs b o e).2 (I.ok.noex b o e)⟩
theorem Inv.bk (I:Inv X pins σ H s):∀ b o,X.base.get? b=some o→s.heap.get? b=some o:=fun b o e=>(I.bs b o e).1
theorem Inv.mod (I:Inv X pins σ H s):Mod X.K X.mg X.base:=I.ok.mod
theorem Inv.kIn (I:Inv X pins σ H s):X.K.In s.heap:=I.ok.mod.kin.keeps I.bk
theorem Inv.lt (I:Inv X pins σ H s):X.env.locals < s.heap.objs.size:=let ⟨_,hn,_⟩:=I.loc; hn.lt
theorem Inv.sz (I:Inv X pins σ H s):X.s₀.heap.objs.size≤s.heap.objs.size:=Nat.le_trans I.ok.above (Nat.le_of_lt I.lt)
theorem Inv.nofs (I:Inv X pins σ H s) {a:Addr} (h:s.heap.objs.size≤a):a∉X.fs:=fun hb=>by
 obtain ⟨_,o,ho,_⟩:=I.ok.funs.mem hb
 exact absurd (Nat.lt_of_lt_of_le (Heap.lt_size ho) (Nat.le_trans I.sz h)) (Nat.lt_irrefl _)
theorem Inv.cne (I:Inv X pins σ H s):∀ x c,X.env.cells.lookup x=some c→c≠X.env.locals:=fun x c e z=>by
 obtain ⟨v,o,ho,hd⟩:=I.cell x c e
 obtain ⟨m,⟨o',es,ep,ho',hd',_⟩,_⟩:=I.loc
 rw [z,ho'] at ho; cases ho; rw [hd'] at hd; cases hd
theorem Inv.funs (I:Inv X pins σ H s):s.heap.FunFrames X.base X.outer:=by
 have all:∀ (l:List Env),(∀ b∈frs l,b∈X.fs)→X.s₀.heap.FunFrames X.base l→s.heap.FunFrames X.base l:=by
  intro l
  induction l with
  | nil=>intro _ _; trivial
  | cons env r ih=>
   intro hs hl
   obtain ⟨hk,⟨L,o,hf,hn,ho,hd⟩,hr⟩:=hl
   have hL:L∈X.fs:=hs L (by unfold frs; rw [List.filterMap_cons,hf]; exact List.mem_cons_self)
   obtain ⟨sl,e⟩:=I.base.slot L o ho (I.ok.frf L hL) hL fun z=>I.ok.exfs L z hL
   exact ⟨hk,⟨L,_,hf,hn,e,hd⟩,ih (fun b hb=>hs b (by unfold frs; rw [List.filterMap_cons,hf]; exact List.mem_cons_of_mem _ hb)) hr⟩
 exact all X.outer (fun _ hb=>hb) I.ok.funs
theorem Inv.stack (I:Inv X pins σ H s):s.heap.FunFrames X.base X.stack:=by
 rcases I.ok.stk with e | ⟨e,hf⟩
 ·rw [e]; exact I.funs
 ·rw [e]
  obtain ⟨m,hn,_⟩:=I.loc
  refine .cons (by rw [I.ok.kind]; decide) hf hn ?_ I.funs
  exact Heap.get?_none_of_le (Nat.le_trans I.ok.bsz I.ok.above)
theorem Inv.stkSub (I:Inv X pins σ H s):∀ b∈frs X.stack,b∈X.env.locals::X.fs:=fun b hb=>by
 rcases I.ok.stk with e | ⟨e,hf⟩
 ·rw [e] at hb; exact List.mem_cons_of_mem _ hb
 ·rw [e] at hb
  unfold frs at hb
  rw [List.filterMap_cons,hf] at hb
  exact hb
theorem Inv.stkFree (I:Inv X pins σ H s):∀ b∈frs X.stack,H b=none:=fun b hb=>by
 rcases List.mem_cons.mp (I.stkSub b hb) with e | hb
 ·rw [e]; exact I.free
 ·obtain ⟨_,o,ho,_⟩:=I.ok.funs.mem hb
  exact I.base.free b o ho (I.ok.frf b hb) fun z=>I.ok.exfs b z hb
theorem Inv.step {g':Array GenState} {t':Nat} {d':Drawn} {ch:List Addr} (I:Inv X pins σ H s)
  (hch:∀ b∈ch,(b∈X.ex∨X.s₀.heap.objs.size≤b)∧b≠X.env.locals∧(∀ x c,X.env.cells.lookup x=some c→c≠b)∧∀ p∈X.pn++pins,p.1≠b)
  (keep:∀ b o,b≠X.env.locals→b∉X.fs→b∉ch→s.heap.get? b=some o→H b=none→h'.get? b=some o)
  (slot:∀ b o,b≠X.env.locals→b∈X.fs→b∉ch→s.heap.get? b=some o→H b=none→∃ sl,h'.get? b=some { o with slots:=sl }) (free:∀ b o,b∉ch→s.heap.get? b=some o→H b=none→H' b=none)
  (there:∀ b o,b∉ch→s.heap.get? b=some o→∃ o',h'.get? b=some o')
  (tups:∀ b xs,H b=some (.tup xs)→H' b=some (.tup xs)) (frzs:∀ b o u,H b=some (.frz o u)→H' b=some (.frz o u)) (tbls:∀ b ps,H b=some (.tbl ps)→∃ more,H' b=some (.tbl (ps++more)))
  (ns:∀ m,s.heap.Ns X.env.locals m→h'.Ns X.env.locals m) (hok:HOk X.prog X.w H' h') (hg:AllBare g') :
  Inv X pins σ H' { s with heap:=h',gens:=g',drawn:=d',toks:=t' }:=by
 have neL:∀ b o,X.s₀.heap.get? b=some o→b≠X.env.locals:=fun b o e=>Nat.ne_of_lt (Nat.lt_of_lt_of_le (Heap.lt_size e) I.ok.above)
 have neC:∀ b o,X.s₀.heap.get? b=some o→b∉X.ex→b∉ch:=fun b o e hx hb=>by
  rcases (hch b hb).1 with z | z
  ·exact hx z
  ·exact absurd (Nat.lt_of_lt_of_le (Heap.lt_size e) z) (Nat.lt_irrefl _)
 have cellK:∀ x c,X.env.cells.lookup x=some c→∀ v,s.heap.IsCell c v→h'.IsCell c v:=fun x c e v ⟨o,ho,hd⟩=>by
  have nch:c∉ch:=fun z=>(hch c z).2.2.1 x c e rfl
  by_cases hc:c∈X.fs
  ·obtain ⟨sl,q⟩:=slot c o (I.cne x c e) hc nch ho (I.freeC x c e)
   exact ⟨_,q,hd⟩
  ·exact ⟨o,keep c o (I.cne x c e) hc nch ho (I.freeC x c e),hd⟩
 refine ⟨I.ok,I.os,hg,⟨fun b o e n hb hx=>?_,fun b o e n hb hx=>?_,fun b o e n hx=>?_,fun b o e hx=>?_,fun b xs e=>tups b xs (I.base.tups b xs e),fun b o xs e=>frzs b o xs (I.base.frzs b o xs e),fun b ps e=>?_⟩,?_,fun x c e=>?_,?_,fun x c e=>?_,fun p hp=>?_,hok,I.len⟩
 ·exact keep b o (neL b o e) hb (neC b o e hx) (I.base.keep b o e n hb hx) (I.base.free b o e n hx)
 ·obtain ⟨sl,e1⟩:=I.base.slot b o e n hb hx
  obtain ⟨sl',e2⟩:=slot b _ (neL b o e) hb (neC b o e hx) e1 (I.base.free b o e n hx)
  exact ⟨sl',e2⟩
 ·obtain ⟨o',e1⟩:=I.base.there b o e hx
  exact free b o' (neC b o e hx) e1 (I.base.free b o e n hx)
 ·obtain ⟨o',e1⟩:=I.base.there b o e hx
  exact there b o' (neC b o e hx) e1
 ·obtain ⟨m1,e1⟩:=I.base.tbls b ps e
  obtain ⟨m2,e2⟩:=tbls b _ e1
  exact ⟨m1++m2,by rw [e2,Array.append_assoc]⟩
 ·obtain ⟨m,hn,hl⟩:=I.loc
  refine ⟨m,ns m hn,fun i x v e1 e2 e3=>?_⟩
  obtain ⟨u,r,l⟩:=hl i x v e1 e2 e3
  refine ⟨u,r,?_⟩
  rcases l with l | ⟨k,c,e,z⟩
  ·exact .inl l
  ·exact .inr ⟨k,c,e,cellK x c e _ z⟩
 ·obtain ⟨v,z⟩:=I.cell x c e
  exact ⟨v,cellK x c e v z⟩
 ·obtain ⟨m,⟨o,_,_,ho,_⟩,_⟩:=I.loc
  exact free _ o (fun z=>(hch _ z).2.1 rfl) ho I.free
 ·obtain ⟨v,o,ho,hd⟩:=I.cell x c e
  exact free c o (fun z=>(hch c z).2.2.1 x c e rfl) ho (I.freeC x c e)
 ·obtain ⟨e,n,ne,nf,d⟩:=I.pin p hp
  have nch:p.1∉ch:=fun z=>(hch p.1 z).2.2.2 p hp rfl
  exact ⟨keep p.1 p.2 ne nf nch e n,free p.1 p.2 nch e n,ne,nf,d⟩
theorem Inv.un {t':Nat} (I:Inv X pins σ H s) (u:Un X.fs [] H H' s.heap h') (hok:HOk X.prog X.w H' h'):Inv X pins σ H' { s with heap:=h',toks:=t' }:=by
 obtain ⟨m,⟨o,es,ep,ho,r⟩,_⟩:=id I.loc
 obtain ⟨sl,hL⟩:=u.any ho I.free (by simp)
 exact I.step (g':=s.gens) (d':=s.drawn) (ch:=[]) (fun _ z=>nomatch z) (fun b o _ hb _ e n=>u.keep b o e n hb (by simp)) (fun b o _ hb _ e n=>u.slot b o e n hb (by simp)) (fun b o _ e n=>u.free b o e n (by simp)) (fun b o _ e=>u.there b o e (by simp)) u.tups u.frzs u.tbls (fun m' hm=>by
  obtain ⟨o',es',ep',ho',r'⟩:=hm
  rw [ho] at ho'; cases ho'
  exact ⟨_,es',ep',hL,r'⟩) hok I.bare
theorem Inv.call {g':Array GenState} {t':Nat} {d':Drawn} {ch:List Addr} (I:Inv X pins σ H s) (u:Un (frs X.stack) ch H H' s.heap h') (hok:HOk X.prog X.w H' h') (hg:AllBare g')
  (hch:∀ b∈ch,(b∈X.ex∨X.s₀.heap.objs.size≤b)∧b≠X.env.locals∧(∀ x c,X.env.cells.lookup x=some c→c≠b)∧∀ p∈X.pn++pins,p.1≠b) :
  Inv X pins σ H' { s with heap:=h',gens:=g',drawn:=d',toks:=t' }:=by
 obtain ⟨m,⟨o,es,ep,ho,r⟩,_⟩:=id I.loc
 obtain ⟨sl,hL⟩:=u.any ho I.free fun z=>(hch _ z).2.1 rfl
 exact I.step (ch:=ch) hch (fun b o hL hb hc e n=>u.keep b o e n (fun z=>(List.mem_cons.mp (I.stkSub b z)).elim hL hb) hc) (fun b o _ _ hc e n=>u.any e n hc) (fun b o hc e n=>u.free b o e n hc) (fun b o hc e=>u.there b o e hc) u.tups u.frzs u.tbls (fun m' hm=>by
  obtain ⟨o',es',ep',ho',r'⟩:=hm
  rw [ho] at ho'; cases ho'
  exact ⟨_,es',ep',hL,r'⟩) hok hg
theorem Inv.turned {t':Nat} {it:Addr} (I:Inv X pins σ H s) (k:∀ b o,b≠it→s.heap.get? b=some o→h'.get? b=some o) (hn:H it=none) (hL:it≠X.env.locals)
  (h1:it∈X.ex∨X.s₀.heap.objs.size≤it) (h2:∀ x c,X.env.cells.lookup x=some c→c≠it) (h3:∀ p∈X.pn++pins,p.1≠it):Inv X pins σ H { s with heap:=h',toks:=t' }:=by
 have nit:∀ b u,H b=some u→b≠it:=fun b u e z=>by rw [z,hn] at e; cases e
 refine I.step (g':=s.gens) (d':=s.drawn) (ch:=[it]) (fun b hb=>?_) (fun b o _ _ hc e _=>k b o (fun z=>hc (by simp [z])) e) (fun b o _ _ hc e _=>⟨o.slots,k b o (fun z=>hc (by simp [z])) e⟩) (fun _ _ _ _ n=>n)
  (fun b o hc e=>⟨o,k b o (fun z=>hc (by simp [z])) e⟩) (fun _ _ e=>e) (fun _ _ _ e=>e) (fun b ps e=>⟨#[],by rw [e]; simp⟩) (fun m hm=>?_) (fun b u e=>?_) I.bare
 ·have e:b=it:=by simpa using hb
  subst e
  exact ⟨h1,hL,h2,h3⟩
 ·obtain ⟨o,es,ep,ho,r⟩:=hm
  exact ⟨o,es,ep,k _ o (Ne.symm hL) ho,r⟩
 ·refine (I.hok b u e).stay (fun c v hc q=>k c v ?_ q) (fun _ q=>q) fun _ _ q=>q
  rcases hc with z | z
  ·rw [z]; exact nit b u e
  ·exact nit c _ z
theorem Inv.tok (I:Inv X pins σ H s) (t:Nat):Inv X pins σ H { s with toks:=t }:=I.un (h':=s.heap) (t':=t) Un.refl I.hok
theorem Inv.kept {t':Nat} (I:Inv X pins σ H s) (k:∀ b u,s.heap.get? b=some u→h'.get? b=some u):Inv X pins σ H { s with heap:=h',toks:=t' }:=I.un (Un.kept k) (I.hok.kept k)
theorem Inv.laid {a:Addr} {o:HO} {t':Nat} (I:Inv X pins σ H s) (k:∀ b u,s.heap.get? b=some u→h'.get? b=some u) (hp:s.heap.objs.size≤a) (new:ObjOk X.prog X.w (upd H a o) h' a o) :
  Inv X pins σ (upd H a o) { s with heap:=h',toks:=t' }:=I.un (Un.laid k hp (I.hok.fresh hp)) (I.hok.laid k hp new)
theorem Inv.write {x e:Addr} {o:HO} {t':Nat} (I:Inv X pins σ H s) (mu:Mut (H x)) (he:e=x∨H e=some (.own x)) (k:∀ b u,b≠e→s.heap.get? b=some u→h'.get? b=some u) (heo:∃ u,h'.get? e=some u)
  (new:ObjOk X.prog X.w (upd H x o) h' x o):Inv X pins σ (upd H x o) { s with heap:=h',toks:=t' }:=I.un (Un.write mu he k heo) (I.hok.write mu he k heo new)
theorem Inv.pins_of {pins':List (Addr×Obj)} (I:Inv X pins σ H s) (h:∀ p∈pins',s.heap.get? p.1=some p.2∧H p.1=none∧p.1≠X.env.locals∧p.1∉X.fs∧∀ v,p.2.data≠.cell v):Inv X pins' σ H s:=⟨I.ok,I.os,I.bare,I.base,I.loc,I.cell,I.free,I.freeC,fun p hp=>(List.mem_append.mp hp).elim (fun z=>I.pin p (List.mem_append_left _ z)) (h p),I.hok,I.len⟩
theorem mi {N:List Str} (hN:N.Nodup) {i j:Nat} {x:Str} (a:N[i]? = some x) (b:N[j]? = some x):i=j:=by
 obtain ⟨h1,e1⟩:=List.getElem?_eq_some_iff.mp a
 obtain ⟨h2,e2⟩:=List.getElem?_eq_some_iff.mp b
 exact (List.getElem_inj hN).mp (e1.trans e2.symm)
theorem xZ {M:Model} {A:Around} {E:Value→Shared→Prop} {i:Nat} {x:Str} {v:V} {u:Value} {Q:Unit→Shared→Prop} (I:Inv X pins σ H s) (hN:X.N.Nodup) (hi:X.N[i]? = some x) (hx:Loc X.env.scope x) (r:RelV v u)
  (h:∀ s',Inv X pins (σ.set i (some v)) H s'→(∃ a,Heap.SameBut a s.heap s'.heap∧(a=X.env.locals∨X.env.cells.lookup x=some a))→Q () s') (hf:X.fn x=true∨X.env.scope.names.lookup x=some .local:=by first | exact .inl rfl | exact .inr rfl | assumption):wpAny M A (storeName X.env x u) Q E s:=by
 obtain ⟨m,hn,hl⟩:=id I.loc
 have hcls:(X.env.scope.kind == .class || (X.env.scope.kind == .module && X.env.locals != X.env.globals))=false:=by rw [I.ok.kind]; rfl
 have hiσ:i < σ.length:=by rw [I.len]; exact (List.getElem?_eq_some_iff.mp hi).1
 have cne:=I.cne
 have tracked:∀ {a:Addr} {h':Heap},(∃ o,s.heap.get? a=some o∧H a=none)→Heap.SameBut a s.heap h'→HOk X.prog X.w H h':=fun {a h'} ha hs b ob e=>by
  obtain ⟨_,_,hfree⟩:=ha
  refine (I.hok b ob e).stay (fun c w' hc q=>(hs.2 c ?_).trans q) (fun _ q=>q) fun _ _ q=>q
  rintro rfl
  rcases hc with rfl | hc
  ·rw [hfree] at e; cases e
  ·rw [hfree] at hc; cases hc
 rcases hx with hk | hk
 ·refine wpAny_storeName_local hk hn (fun h' hn' hs=>?_) hcls
  obtain ⟨oL,_,_,hoL,_⟩:=id hn
  refine h _ ⟨I.ok,I.os,I.bare,⟨fun b o e n hb hx=>?_,fun b o e n hb hx=>?_,I.base.free,fun b o e hx=>?_,I.base.tups,I.base.frzs,I.base.tbls⟩,⟨_,hn',fun j y v' e1 e2 e3=>?_⟩,fun y c e=>?_,I.free,I.freeC,fun p hp=>?_,tracked ⟨oL,hoL,I.free⟩ hs,by simpa using I.len⟩ ⟨_,hs,.inl rfl⟩
  ·exact (hs.2 b (Nat.ne_of_lt (Nat.lt_of_lt_of_le (Heap.lt_size e) I.ok.above))).trans (I.base.keep b o e n hb hx)
  ·obtain ⟨sl,e1⟩:=I.base.slot b o e n hb hx
   exact ⟨sl,(hs.2 b (Nat.ne_of_lt (Nat.lt_of_lt_of_le (Heap.lt_size e) I.ok.above))).trans e1⟩
  ·obtain ⟨o',e1⟩:=I.base.there b o e hx
   exact ⟨o',(hs.2 b (Nat.ne_of_lt (Nat.lt_of_lt_of_le (Heap.lt_size e) I.ok.above))).trans e1⟩
  ·by_cases hj:j=i
   ·subst hj
    rw [hi] at e1; cases e1
    rw [List.getElem?_set_self hiσ] at e2
    cases e2
    exact ⟨u,r,.inl ⟨hk,by simp⟩⟩
   ·rw [List.getElem?_set_ne (Ne.symm hj)] at e2
    obtain ⟨u',r',q⟩:=hl j y v' e1 e2 e3
    refine ⟨u',r',?_⟩
    rcases q with ⟨k,e⟩ | ⟨k,c,e,z⟩
    ·refine .inl ⟨k,?_⟩
     have:y≠x:=fun e=>hj (mi hN e1 (e ▸ hi))
     simp [this,e]
    ·exact .inr ⟨k,c,e,z.sameBut hs (cne y c e)⟩
  ·obtain ⟨w',z⟩:=I.cell y c e
   exact ⟨w',z.sameBut hs (cne y c e)⟩
  ·obtain ⟨e,n,ne,nf,d⟩:=I.pin p hp
   exact ⟨(hs.2 p.1 ne).trans e,n,ne,nf,d⟩
 ·have hfn:X.fn x=true:=by
   rcases hf with z | z
   ·exact z
   ·rw [z] at hk; cases hk
  obtain ⟨c,hc⟩:=I.ok.has x (.inl hk)
  obtain ⟨w',z⟩:=I.cell x c hc
  refine wpAny_storeName_cell I.ok.kind hk hc z (fun h' hc' hs=>?_)
  obtain ⟨oc,hoc,hocd⟩:=id z
  refine h { s with heap:=h' } ⟨I.ok,I.os,I.bare,⟨fun b o e n hb hx=>?_,fun b o e n hb hx=>?_,I.base.free,fun b o e hx=>?_,I.base.tups,I.base.frzs,I.base.tbls⟩,⟨m,hn.sameBut hs (Ne.symm (cne x c hc)),fun j y v' e1 e2 e3=>?_⟩,fun y c' e=>?_,I.free,I.freeC,fun p hp=>?_,tracked ⟨oc,hoc,I.freeC x c hc⟩ hs,by simpa using I.len⟩ ⟨c,hs,.inr hc⟩
  ·exact (hs.2 b (Nat.ne_of_lt (Nat.lt_of_lt_of_le (Heap.lt_size e) (I.ok.cab x c hfn hc)))).trans (I.base.keep b o e n hb hx)
  ·obtain ⟨sl,e1⟩:=I.base.slot b o e n hb hx
   exact ⟨sl,(hs.2 b (Nat.ne_of_lt (Nat.lt_of_lt_of_le (Heap.lt_size e) (I.ok.cab x c hfn hc)))).trans e1⟩
  ·obtain ⟨o',e1⟩:=I.base.there b o e hx
   exact ⟨o',(hs.2 b (Nat.ne_of_lt (Nat.lt_of_lt_of_le (Heap.lt_size e) (I.ok.cab x c hfn hc)))).trans e1⟩
  ·by_cases hj:j=i
   ·subst hj
    rw [hi] at e1; cases e1
    rw [List.getElem?_set_self hiσ] at e2
    cases e2
    exact ⟨u,r,.inr ⟨.inl hk,c,hc,hc'⟩⟩
   ·rw [List.getElem?_set_ne (Ne.symm hj)] at e2
    obtain ⟨u',r',q⟩:=hl j y v' e1 e2 e3
    refine ⟨u',r',?_⟩
    rcases q with q | ⟨k,c',e,z'⟩
    ·exact .inl q
    ·refine .inr ⟨k,c',e,z'.sameBut hs ?_⟩
     rintro rfl
     exact hj (mi hN e1 (I.ok.inj _ _ _ e hc ▸ hi))
  ·by_cases hcc:c'=c
   ·subst hcc; exact ⟨_,hc'⟩
   ·obtain ⟨w2,z2⟩:=I.cell y c' e
    exact ⟨w2,z2.sameBut hs hcc⟩
  ·obtain ⟨e,n,ne,nf,d⟩:=I.pin p hp
   refine ⟨(hs.2 p.1 ?_).trans e,n,ne,nf,d⟩
   intro q
   rw [q,hoc] at e
   have q':oc=p.2:=Option.some.inj e
   exact d w' (by rw [← q']; exact hocd)
theorem jQ {M:Model} {A:Around} {E:Value→Shared→Prop} {i:Nat} {x:Str} {v:V} {u:Value} {Q:Unit→Shared→Prop} (I:Inv X pins σ H s) (hN:X.N.Nodup) (hi:X.N[i]? = some x) (hx:Loc X.env.scope x) (r:RelV v u)
  (h:∀ s',Inv X pins (σ.set i (some v)) H s'→Q () s') (hf:X.fn x=true∨X.env.scope.names.lookup x=some .local:=by first | exact .inl rfl | exact .inr rfl | assumption):wpAny M A (storeName X.env x u) Q E s:=xZ I hN hi hx r (fun s' I' _=>h s' I') hf
theorem Inv.call' {s':Shared} {ch:List Addr} (I:Inv X pins σ H s) (ho:s'.os=s.os) (u:Un (frs X.stack) ch H H' s.heap s'.heap) (hok:HOk X.prog X.w H' s'.heap) (hg:AllBare s'.gens)
  (hch:∀ b∈ch,(b∈X.ex∨X.s₀.heap.objs.size≤b)∧b≠X.env.locals∧(∀ x c,X.env.cells.lookup x=some c→c≠b)∧∀ p∈X.pn++pins,p.1≠b):Inv X pins σ H' s':=by
 obtain ⟨h',g',d',t',o'⟩:=s'
 have e:o'=s.os:=ho
 subst e
 exact I.call (g':=g') (t':=t') (d':=d') u hok hg hch
end
abbrev XK:=Value→Option Addr→Hp→Prop
abbrev St:=List (Option V)
abbrev VK:=V→Hp→Prop
abbrev TE:=St→Hp→VK→Prop
abbrev TT:=St→Hp→(Bool→Hp→Prop)→Prop
abbrev TA:=St→Hp→(List V→Hp→Prop)→Prop
structure Ends where
 nx:St→Hp→Prop
 rt:VK
 bk:St→Hp→Prop:=fun _ _=>False
 ct:St→Hp→Prop:=fun _ _=>False
abbrev TS:=Ends→St→Hp→Prop
def EP (X:Cx) (pins:List (Addr×Obj)) (σ:St) (Q:VK) (u:Value) (s':Shared):Prop:=∃ v H',Inv X pins σ H' s'∧RelV v u∧Q v H'
def TP (X:Cx) (pins:List (Addr×Obj)) (σ:St) (Q:Bool→Hp→Prop) (b:Bool) (s':Shared):Prop:=∃ H',Inv X pins σ H' s'∧Q b H'
def AP (X:Cx) (pins:List (Addr×Obj)) (σ:St) (Q:List V→Hp→Prop) (us:List Value) (s':Shared):Prop:=∃ vs H',Inv X pins σ H' s'∧Vals vs us∧Q vs H'
def SP (X:Cx) (pins:List (Addr×Obj)) (D:Ends) (f:Flow) (s':Shared):Prop:=
 match f with
 | .next=>∃ σ' H',Inv X pins σ' H' s'∧D.nx σ' H'
 | .brk=>∃ σ' H',Inv X pins σ' H' s'∧D.bk σ' H'
 | .cont=>∃ σ' H',Inv X pins σ' H' s'∧D.ct σ' H'
 | .ret u=>∃ v σ' H',Inv X pins σ' H' s'∧RelV v u∧D.rt v H'
def PE (X:Cx) (e:Expr) (t:TE):Prop:=∀ (pins:List (Addr×Obj)) (s:Shared) (σ:St) (H:Hp) (Q:VK),Inv X pins σ H s→t σ H Q→wpAny (model X.prog X.w) X.A (eval e X.env) (EP X pins σ Q) X.xe s
def PT (X:Cx) (e:Expr) (t:TT):Prop:=∀ (pins:List (Addr×Obj)) (s:Shared) (σ:St) (H:Hp) (Q:Bool→Hp→Prop),Inv X pins σ H s→t σ H Q→wpAny (model X.prog X.w) X.A (isTrue e X.env (eval e X.env)) (TP X pins σ Q) X.xe s
def PW (X:Cx) (e:Expr) (t:TT):Prop:=∀ (whole:Sem Value) (pins:List (Addr×Obj)) (s:Shared) (σ:St) (H:Hp) (Q:Bool→Hp→Prop),Inv X pins σ H s→t σ H Q→wpAny (model X.prog X.w) X.A (isTrue e X.env whole) (TP X pins σ Q) X.xe s
theorem PW.pt {X:Cx} {e:Expr} {t:TT} (h:PW X e t):PT X e t:=h _
def PA (X:Cx) (es:List Expr) (t:TA):Prop:=∀ (pos:Pos) (pins:List (Addr×Obj)) (s:Shared) (σ:St) (H:Hp) (Q:List V→Hp→Prop),Inv X pins σ H s→t σ H Q→wpAny (model X.prog X.w) X.A (spliced (backTo pos (starEach es X.env))) (AP X pins σ Q) X.xe s
def PS (X:Cx) (st:Stmt) (t:TS):Prop:=∀ (pins:List (Addr×Obj)) (s:Shared) (σ:St) (H:Hp) (D:Ends),Inv X pins σ H s→t D σ H→wpAny (model X.prog X.w) X.A (exec st X.env) (SP X pins D) X.xe s
def PSs (X:Cx) (st:List Stmt) (t:TS):Prop:=∀ (pins:List (Addr×Obj)) (s:Shared) (σ:St) (H:Hp) (D:Ends),Inv X pins σ H s→t D σ H→wpAny (model X.prog X.w) X.A (execs st X.env) (SP X pins D) X.xe s
theorem thn {α:Type} {t:Sem α} {Q Q':α→Shared→Prop} {M:Model} {A:Around} {E:Value→Shared→Prop} {s:Shared} (h:wpAny M A t Q E s) (hQ:∀ a s,Q a s→Q' a s):wpAny M A t Q' E s:=wpAny_mono h hQ fun _ _ x=>x
section
variable {X:Cx}
def jy (i:Nat):TE:=fun σ H Q=>∃ v,σ[i]? = some (some v)∧Q v H
def tC (v:V):TE:=fun _ H Q=>Q v H
theorem BM {i:Nat} {x:Str} {pos:Pos} (hN:X.N[i]? = some x) (hv:Vis X.env.scope x) (hd:(x == ("__debug__" : Str))=false:=by decide) (hcd:(x == ("__classdict__" : Str))=false:=by decide):PE X (.Name x pos) (jy i):=by
 intro pins s σ H Q I h
 obtain ⟨v,e,h⟩:=h
 obtain ⟨m,hn,hl⟩:=I.loc
 obtain ⟨u,r,l⟩:=hl i x v hN e hv
 have fin:EP X pins σ Q u s:=⟨v,H,I,r,h⟩
 rcases l with ⟨hk,hm⟩ | ⟨hk,c,hc,hcell⟩
 ·exact wpAny_Name (wpAny_loadName_local I.ok.kind hk hn hm fin) hd
 ·rcases hk with hk | hk
  ·exact wpAny_Name (wpAny_loadName_cell I.ok.kind hk hc hcell fin) hd
  ·exact wpAny_Name (wpAny_loadName_free I.ok.kind hk hc hcell fin hcd) hd
theorem sX {i j pos}:PE X (.Constant (.int i) j pos) (tC (.int i)):=fun _ _ _ H _ I h=>wpAny_Constant_int ⟨.int i,H,I.tok _,⟨_,rfl⟩,h⟩
theorem C7 {b j pos}:PE X (.Constant (.bool b) j pos) (tC (.bl b)):=fun _ _ _ H _ I h=>Constant_bool ⟨.bl b,H,I,rfl,h⟩
theorem sW {j pos}:PE X (.Constant .none j pos) (tC .non):=fun _ _ _ H _ I h=>Constant_none ⟨.non,H,I,rfl,h⟩
theorem mZ {x j pos}:PE X (.Constant (.str x) j pos) (tC (.str x)):=fun _ _ _ H _ I h=>Calls.Constant_str ⟨.str x,H,I.tok _,⟨_,rfl⟩,h⟩
def Gl (X:Cx) (x:Str):Prop:=X.env.kindOf x=some .globalImplicit
theorem ic {E:Value→Shared→Prop} {pins:List (Addr×Obj)} {s:Shared} {σ:St} {H:Hp} {x:Str} {u:Value} {pos:Pos} {Q:Value→Shared→Prop} (I:Inv X pins σ H s) (hg:Gl X x) (hm:X.mg x=some u) (h:Q u s)
  (hd:(x == ("__debug__" : Str))=false:=by decide):wpAny (model X.prog X.w) X.A (eval (.Name x pos) X.env) Q E s:=Calls.Name_function_global I.ok.kind hg (Calls.loadGlobal_global (by rw [I.ok.glob]; exact I.mod.glob.keeps I.bk) hm h) hd
theorem kI {E:Value→Shared→Prop} {pins:List (Addr×Obj)} {s:Shared} {σ:St} {H:Hp} {x:Str} {u:Value} {pos:Pos} {Q:Value→Shared→Prop} (I:Inv X pins σ H s) (hg:Gl X x) (hm:X.mg x=none) (hv:bootBuiltins x=some u) (h:Q u s)
  (hn:x≠"__name__":=by decide) (hd:(x == ("__debug__" : Str))=false:=by decide):wpAny (model X.prog X.w) X.A (eval (.Name x pos) X.env) Q E s:=by
 obtain ⟨mb,h1,h2⟩:=I.mod.blt
 exact Calls.Name_function_global I.ok.kind hg (Calls.loadGlobal_builtin (by rw [I.ok.glob]; exact I.mod.glob.keeps I.bk) hm (by rw [I.ok.blt]; exact h1.keeps I.bk) ((h2 x hn).trans hv) h) hd
theorem cB {x:Str} {v:V} {u:Value} {pos:Pos} (hg:Gl X x) (hm:X.mg x=some u) (r:RelV v u) (hd:(x == ("__debug__" : Str))=false:=by decide):PE X (.Name x pos) (tC v):=fun _ _ _ H _ I h=>ic I hg hm ⟨v,H,I,r,h⟩ hd
theorem j7 {x:Str} {v:V} {u:Value} {pos:Pos} (hg:Gl X x) (hm:X.mg x=none) (hv:bootBuiltins x=some u) (r:RelV v u) (hn:x≠"__name__":=by decide) (hd:(x == ("__debug__" : Str))=false:=by decide):PE X (.Name x pos) (tC v):=fun _ _ _ H _ I h=>kI I hg hm hv ⟨v,H,I,r,h⟩ hn hd
variable {a b:Expr} {ta tb:TE} {pos:Pos}
variable {tA tB':TT} {rest:List Expr}
def Ep (t u:TT):TT:=fun σ H Q=>t σ H fun c H1=>if c=true then u σ H1 Q else Q false H1
def tOr (t u:TT):TT:=fun σ H Q=>t σ H fun c H1=>if c=true then Q true H1 else u σ H1 Q
def El (t:TT):TT:=fun σ H Q=>t σ H fun c H1=>Q (!c) H1
theorem Ak (ha:PT X a tA):PW X (.BoolOp .And [a] pos) tA:=by
 intro wh pins s σ H Q I h
 refine isTrue_and (thn (ha pins s σ H Q I h) fun c s1 e=>?_)
 cases c with
 | true=>exact isTrue_and_nil e
 | false=>exact e
theorem BC (ha:PT X a tA):PW X (.BoolOp .Or [a] pos) tA:=by
 intro wh pins s σ H Q I h
 refine isTrue_or (thn (ha pins s σ H Q I h) fun c s1 e=>?_)
 cases c with
 | false=>exact isTrue_or_nil e
 | true=>exact e
theorem BD (ha:PT X a tA) (hb:PW X (.BoolOp .And (b::rest) pos) tB'):PW X (.BoolOp .And (a::b::rest) pos) (Ep tA tB'):=by
 intro wh pins s σ H Q I h
 refine isTrue_and (thn (ha pins s σ H _ I h) fun c s1 ⟨H1,I1,q1⟩=>?_)
 cases c with
 | true=>exact hb wh pins s1 σ H1 Q I1 q1
 | false=>exact ⟨H1,I1,q1⟩
theorem C3 (ha:PT X a tA) (hb:PW X (.BoolOp .Or (b::rest) pos) tB'):PW X (.BoolOp .Or (a::b::rest) pos) (tOr tA tB'):=by
 intro wh pins s σ H Q I h
 refine isTrue_or (thn (ha pins s σ H _ I h) fun c s1 ⟨H1,I1,q1⟩=>?_)
 cases c with
 | true=>exact ⟨H1,I1,q1⟩
 | false=>exact hb wh pins s1 σ H1 Q I1 q1
theorem BG (ha:PT X a tA):PT X (.UnaryOp .Not a pos) (El tA):=by
 intro pins s σ H Q I h
 exact isTrue_not (ha pins s σ H (fun c H1=>Q (!c) H1) I h)
def CV (ta tb:TE):TE:=fun σ H Q=>ta σ H fun x H1=>∃ c,x=.bl c∧if c=true then tb σ H1 Q else Q (.bl false) H1
def Ek (ta tb:TE):TE:=fun σ H Q=>ta σ H fun x H1=>∃ c,x=.bl c∧if c=true then Q (.bl true) H1 else tb σ H1 Q
def CO (ta:TE):TE:=fun σ H Q=>ta σ H fun x H1=>∃ c,x=.bl c∧Q (.bl (!c)) H1
theorem BN {op} {t:TE} (h:PE X a t):PE X (.BoolOp op [a] pos) t:=fun pins s σ H Q I hw=>BoolOp_one (h pins s σ H Q I hw)
theorem BP (ha:PE X a ta) (hb:PE X (.BoolOp .And (b::rest) pos) tb):PE X (.BoolOp .And (a::b::rest) pos) (CV ta tb):=by
 intro pins s σ H Q I h
 refine BoolOp_and (thn (ha pins s σ H _ I h) fun v s1 ⟨x,H1,I1,r1,q1⟩=>?_)
 obtain ⟨c,rfl,q1⟩:=q1
 cases r1
 refine wpAny_truthy_bool ?_
 cases c with
 | true=>exact hb pins s1 σ H1 Q I1 q1
 | false=>exact ⟨.bl false,H1,I1,rfl,q1⟩
theorem C6 (ha:PE X a ta) (hb:PE X (.BoolOp .Or (b::rest) pos) tb):PE X (.BoolOp .Or (a::b::rest) pos) (Ek ta tb):=by
 intro pins s σ H Q I h
 refine BoolOp_or (thn (ha pins s σ H _ I h) fun v s1 ⟨x,H1,I1,r1,q1⟩=>?_)
 obtain ⟨c,rfl,q1⟩:=q1
 cases r1
 refine wpAny_truthy_bool ?_
 cases c with
 | false=>exact hb pins s1 σ H1 Q I1 q1
 | true=>exact ⟨.bl true,H1,I1,rfl,q1⟩
theorem sV (ha:PE X a ta):PE X (.UnaryOp .Not a pos) (CO ta):=by
 intro pins s σ H Q I h
 refine UnaryOp_ (thn (ha pins s σ H _ I h) fun v s1 ⟨x,H1,I1,r1,q1⟩=>?_)
 obtain ⟨c,rfl,q1⟩:=q1
 cases r1
 exact not_of (wpAny_truthy_bool ⟨.bl (!c),H1,I1,rfl,q1⟩)
def tIf (t:TT) (ta tb:TE):TE:=fun σ H Q=>t σ H fun c H1=>if c=true then ta σ H1 Q else tb σ H1 Q
theorem zd {c:Expr} (hc:PT X c tA) (ha:PE X a ta) (hb:PE X b tb):PE X (.IfExp c a b pos) (tIf tA ta tb):=by
 intro pins s σ H Q I h
 refine wpAny_IfExp (thn (hc pins s σ H _ I h) fun d s1 ⟨H1,I1,q1⟩=>?_)
 cases d with
 | true=>exact ha pins s1 σ H1 Q I1 q1
 | false=>exact hb pins s1 σ H1 Q I1 q1
end
def SqL (K:Frag) (H:Hp) (a:Addr) (xs:List V):Prop:=
 Rd H a (.lst xs) ∨
  ∃ (o:Obj) (its:Array Value) (n:Nat),K.lookup a=some o∧o.cls=.type "list"∧o.dict=none∧o.data=.seq its n∧its.size≤sizeLine∧Vals xs its.toList
def SqT (K:Frag) (H:Hp) (a:Addr) (xs:List V):Prop:=
 Rd H a (.tup xs) ∨
  ∃ (o:Obj) (its:Array Value) (n:Nat),K.lookup a=some o∧o.cls=.type "tuple"∧o.data=.seq its n∧its.size≤sizeLine∧Vals xs its.toList
def EI:Value→Option V
 | .none=>some .non
 | .bool b=>some (.bl b)
 | .int i _=>some (.int i)
 | .str x _=>some (.str x)
 | .bytes b _=>some (.byt b)
 | .float b _=>some (.flt b)
 | .ref a=>some (.ref a)
 | .type n=>some (.ty n)
 | _=>none
theorem RelV.abs {x:V} {u:Value} (r:RelV x u):EI u=some x:=by
 cases x with
 | non=>cases r; rfl
 | bl _=>cases r; rfl
 | int _=>obtain ⟨t,rfl⟩:=r; rfl
 | str _=>obtain ⟨t,rfl⟩:=r; rfl
 | byt _=>obtain ⟨t,rfl⟩:=r; rfl
 | flt _=>obtain ⟨t,rfl⟩:=r; rfl
 | ref _=>cases r; rfl
 | ty _=>cases r; rfl
theorem RelV.inj {x y:V} {u:Value} (r:RelV x u) (q:RelV y u):x=y:=Option.some.inj (r.abs.symm.trans q.abs)
theorem Vals.inj:∀ {xs ys:List V} {us:List Value},Vals xs us→Vals ys us→xs=ys
 | _,_,_,.nil,.nil=>rfl
 | _,_,_,.cons r t,.cons r' t'=>by rw [r.inj r',Vals.inj t t']
section
variable {X:Cx} {pins:List (Addr×Obj)} {σ:St} {H:Hp} {s:Shared} {a:Addr} {xs ys:List V}
theorem SqL.of {K:Frag} (h:H a=some (.lst xs)):SqL K H a xs:=.inl (.inl h)
theorem Inv.list (I:Inv X pins σ H s) (h:SqL X.K H a xs):∃ its:List Value,Vals xs its∧PlainL s.heap a its.toArray∧xs.length≤sizeLine:=by
 rcases h with h | ⟨o,its,n,hk,hc,hd,hs,hz,r⟩
 ·obtain ⟨z,its,n,r,e⟩:=h.ok I.hok
  exact ⟨its,r,⟨_,n,e,rfl,rfl,rfl⟩,z⟩
 ·refine ⟨its.toList,r,⟨o,n,I.kIn a o hk,hc,hd,by simpa using hs⟩,?_⟩
  have e:=r.length
  simp only [Array.length_toList] at e
  omega
theorem Inv.tuple (I:Inv X pins σ H s) (h:SqT X.K H a xs):∃ its:List Value,Vals xs its∧IsTup s.heap a its.toArray∧xs.length≤sizeLine:=by
 rcases h with h | ⟨o,its,n,hk,hc,hs,hz,r⟩
 ·obtain ⟨z,its,r,p⟩:=h.ok I.hok
  exact ⟨its,r,p,z⟩
 ·refine ⟨its.toList,r,⟨o,I.kIn a o hk,hc,n,by simpa using hs⟩,?_⟩
  have e:=r.length
  simp only [Array.length_toList] at e
  omega
theorem Inv.list_inj (I:Inv X pins σ H s) (h:SqL X.K H a xs) (h':SqL X.K H a ys):xs=ys:=by
 obtain ⟨its,r,⟨o,n,e,_,_,d⟩,_⟩:=I.list h
 obtain ⟨its',r',⟨o',n',e',_,_,d'⟩,_⟩:=I.list h'
 rw [e] at e'; cases e'
 rw [d] at d'
 injection d' with d1 _
 have:its=its':=by simpa using congrArg Array.toList d1
 subst this
 exact r.inj r'
theorem Inv.tuple_inj (I:Inv X pins σ H s) (h:SqT X.K H a xs) (h':SqT X.K H a ys):xs=ys:=by
 obtain ⟨its,r,⟨o,e,_,n,d⟩,_⟩:=I.tuple h
 obtain ⟨its',r',⟨o',e',_,n',d'⟩,_⟩:=I.tuple h'
 rw [e] at e'; cases e'
 rw [d] at d'
 injection d' with d1 _
 have:its=its':=by simpa using congrArg Array.toList d1
 subst this
 exact r.inj r'
end
abbrev Cx.wish (X:Cx) (E:Value→Shared→Prop):Cx:={ X with xe:=E }
abbrev Cx.nox (X:Cx):Cx:=X.wish fun _ _=>False
theorem Cx.Ok.wish {X:Cx} (ok:X.Ok) (E:Value→Shared→Prop):(X.wish E).Ok:=⟨ok.mod,ok.kind,ok.glob,ok.blt,ok.above,ok.inj,ok.has,ok.cab,ok.hd,ok.frames,ok.stk,ok.exf,ok.bs,ok.bsz,ok.noex,ok.exfs,ok.funs,ok.frf⟩
theorem Cx.Ok.unwish {X:Cx} {E:Value→Shared→Prop} (ok:(X.wish E).Ok):X.Ok:=⟨ok.mod,ok.kind,ok.glob,ok.blt,ok.above,ok.inj,ok.has,ok.cab,ok.hd,ok.frames,ok.stk,ok.exf,ok.bs,ok.bsz,ok.noex,ok.exfs,ok.funs,ok.frf⟩
section
variable {X:Cx} {pins:List (Addr×Obj)} {σ:St} {H:Hp} {s:Shared} {E:Value→Shared→Prop}
theorem Inv.wish (I:Inv X pins σ H s) (E:Value→Shared→Prop):Inv (X.wish E) pins σ H s:=⟨I.ok.wish E,I.os,I.bare,I.base,I.loc,I.cell,I.free,I.freeC,I.pin,I.hok,I.len⟩
theorem Inv.unwish (I:Inv (X.wish E) pins σ H s):Inv X pins σ H s:=⟨I.ok.unwish,I.os,I.bare,I.base,I.loc,I.cell,I.free,I.freeC,I.pin,I.hok,I.len⟩
theorem SP.unwish {D:Ends} {f:Flow} {s':Shared} (h:SP (X.wish E) pins D f s'):SP X pins D f s':=by
 cases f with
 | next=>obtain ⟨σ',H',I,q⟩:=h; exact ⟨σ',H',I.unwish,q⟩
 | brk=>obtain ⟨σ',H',I,q⟩:=h; exact ⟨σ',H',I.unwish,q⟩
 | cont=>obtain ⟨σ',H',I,q⟩:=h; exact ⟨σ',H',I.unwish,q⟩
 | ret u=>obtain ⟨v,σ',H',I,r,q⟩:=h; exact ⟨v,σ',H',I.unwish,r,q⟩
theorem PSs.nox {st:List Stmt} {t:TS} (h:PSs X.nox st t):PSs X st t:=fun pins s σ H D I hw=>
 wpAny_mono (h pins s σ H D (I.wish _) hw) (fun _ _ q=>q.unwish) fun _ _ z=>False.elim z
end
section
variable {X:Cx} {st:Stmt} {rest:List Stmt} {t u:TS} {e:Expr} {te:TE} {pos:Pos}
def CP:TS:=fun D σ H=>D.nx σ H
def Ei (t u:TS):TS:=fun D σ H=>t { D with nx:=u D } σ H
theorem rH:PSs X [] CP:=fun _ _ σ H _ I h=>wpAny_execs_nil ⟨σ,H,I,h⟩
theorem cH (h1:PS X st t) (h2:PSs X rest u):PSs X (st::rest) (Ei t u):=by
 intro pins s σ H D I h
 refine wpAny_execs_cons (thn (h1 pins s σ H { D with nx:=u D } I h) fun f s1 q=>?_)
 cases f with
 | next=>
  obtain ⟨σ',H',I',q⟩:=q
  exact h2 pins s1 σ' H' D I' q
 | ret v=>exact q
 | brk=>exact q
 | cont=>exact q
theorem ib (h1:PS X st t):PSs X [st] t:=by
 intro pins s σ H D I h
 refine wpAny_execs_cons (thn (h1 pins s σ H D I h) fun f s1 q=>?_)
 cases f with
 | next=>exact wpAny_execs_nil q
 | ret v=>exact q
 | brk=>exact q
 | cont=>exact q
theorem Inv.quiet {pins:List (Addr×Obj)} {σ:St} {H:Hp} {s:Shared} (I:Inv X pins σ H s):interactive X.env=false:=by simp [interactive,I.ok.kind]
def CT (te:TE):TS:=fun D σ H=>te σ H fun _ H1=>D.nx σ H1
theorem gE (he:PE X e te) (hs:swapsWith e none pos.line X.env=pure false:=by rfl):PS X (.Expr e pos) (CT te):=by
 intro pins s σ H D I h
 exact wpAny_Expr_any (thn (he pins s σ H _ I h) fun v s1 ⟨x,H1,I1,r1,q1⟩=>⟨σ,H1,I1,q1⟩) I.quiet hs
def Ej (te:TE):TS:=fun D σ H=>te σ H D.rt
theorem i6 (he:PE X e te):PS X (.Return (some e) pos) (Ej te):=by
 intro pins s σ H D I h
 exact wpAny_Return_some (thn (he pins s σ H _ I h) fun v s1 ⟨x,H1,I1,r1,q1⟩=>⟨x,σ,H1,I1,r1,q1⟩)
def En (c:TT) (t u:TS):TS:=fun D σ H=>c σ H fun b H1=>if b=true then t D σ H1 else u D σ H1
theorem t7 {c:Expr} {a b:List Stmt} {tc:TT} (hc:PT X c tc) (ha:PSs X a t) (hb:PSs X b u):PS X (.If c a b pos) (En tc t u):=by
 intro pins s σ H D I h
 refine wpAny_If (thn (hc pins s σ H _ I h) fun d s1 ⟨H1,I1,q1⟩=>?_)
 cases d with
 | true=>exact ha pins s1 σ H1 D I1 q1
 | false=>exact hb pins s1 σ H1 D I1 q1
end
abbrev TG:=V→St→Hp→(St→Hp→Prop)→Prop
abbrev TGs:=List V→St→Hp→(St→Hp→Prop)→Prop
def PG (X:Cx) (target:Expr) (t:TG):Prop:=
 ∀ (pins:List (Addr×Obj)) (s:Shared) (σ:St) (H:Hp) (v:V) (u:Value) (Q:St→Hp→Prop),Inv X pins σ H s→RelV v u→t v σ H Q →
  wpAny (model X.prog X.w) X.A (assign target X.env u) (fun _ s'=>∃ σ' H',Inv X pins σ' H' s'∧Q σ' H') X.xe s
def PGs (X:Cx) (ts:List Expr) (t:TGs):Prop:=
 ∀ (pins:List (Addr×Obj)) (s:Shared) (σ:St) (H:Hp) (vs:List V) (us:List Value) (Q:St→Hp→Prop),Inv X pins σ H s→Vals vs us→t vs σ H Q →
  wpAny (model X.prog X.w) X.A (assignInOrder ((assignEach ts X.env).map (·.2)) us) (fun _ s'=>∃ σ' H',Inv X pins σ' H' s'∧Q σ' H') X.xe s
abbrev oF:=V→V→V→Hp→(Hp→Prop)→Prop
def vh (X:Cx) (t:oF):Prop:=
 ∀ (pins:List (Addr×Obj)) (s:Shared) (σ:St) (H:Hp) (o i v:V) (ov iv u:Value) (Q:Hp→Prop),Inv X pins σ H s→RelV o ov→RelV i iv→RelV v u→t o i v H Q →
  wpAny (model X.prog X.w) X.A (setItem ov iv u) (fun _ s'=>∃ H',Inv X pins σ H' s'∧Q H') X.xe s
section
variable {X:Cx} {pos:Pos}
def uq (i:Nat):TG:=fun v σ H Q=>Q (σ.set i (some v)) H
theorem mD {i:Nat} {x:Str} (hN:X.N.Nodup) (hi:X.N[i]? = some x) (hx:Loc X.env.scope x) (hf:X.fn x=true∨X.env.scope.names.lookup x=some .local:=by first | exact .inl rfl | exact .inr rfl | assumption):PG X (.Name x pos) (uq i):=by
 intro pins s σ H v u Q I r h
 exact wpAny_assign_Name (jQ I hN hi hx r (fun s' I'=>⟨_,H,I',h⟩) hf)
def EB:TGs:=fun vs σ H Q=>vs=[]∧Q σ H
def DN (t:TG) (u:TGs):TGs:=fun vs σ H Q=>∃ v r,vs=v::r∧t v σ H fun σ' H'=>u r σ' H' Q
theorem Au:PGs X [] EB:=by
 intro pins s σ H vs us Q I r h
 obtain ⟨e,h⟩:=h
 subst e
 cases r
 exact assignInOrder_nil ⟨σ,H,I,h⟩
theorem qF {e:Expr} {es:List Expr} {t:TG} {u:TGs} (h1:PG X e t) (h2:PGs X es u)
  (hs:(assignEach (e::es) X.env).map (·.2)=assign e X.env::(assignEach es X.env).map (·.2):=by rfl):PGs X (e::es) (DN t u):=by
 intro pins s σ H vs us Q I r h
 obtain ⟨v,vr,e1,h⟩:=h
 subst e1
 cases r with
 | cons r rr=>
  rw [hs]
  refine assignInOrder_cons (thn (h1 pins s σ H _ _ _ I r h) fun _ s1 ⟨σ1,H1,I1,q1⟩=>?_)
  exact h2 pins s1 σ1 H1 _ _ Q I1 rr q1
def Ez (K:Frag) (n:Nat) (t:TGs):TG:=fun v σ H Q=>∃ a xs,v=.ref a∧SqT K H a xs∧xs.length=n∧t xs σ H Q
theorem BK {es:List Expr} {k:Nat} {t:TGs} {n:Nat} (hc:X.calm=true) (h:PGs X es t)
  (hn:(assignEach es X.env).length=n:=by rfl) (hst:(assignEach es X.env).findIdx? (·.1)=none:=by rfl):PG X (.Tuple es k pos) (Ez X.K n t):=by
 intro pins s σ H v u Q I r hw
 obtain ⟨a,xs,e1,hq,hl,hw⟩:=hw
 subst e1
 cases r
 obtain ⟨its,rv,ht,hz⟩:=I.tuple hq
 refine assign_Tuple_tuple (I.ok.hd hc) ht (by simp [hn,← hl,rv.length]) hst fun h' hx=>?_
 have I1:Inv X pins σ H { s with heap:=h' }:=I.kept (t':=s.toks) fun b o e=>hx b o (Nat.ne_of_lt (Heap.lt_size e)) e
 exact h pins _ σ H xs _ Q I1 (by simpa using rv) hw
def EA (to ti:TE) (t:oF):TG:=fun v σ H Q=>to σ H fun o H1=>ti σ H1 fun i H2=>t o i v H2 fun H3=>Q σ H3
theorem BL {o i:Expr} {to ti:TE} {t:oF} (ho:PE X o to) (hi:PE X i ti) (hs:vh X t)
  (ha:∀ v,assign (.Subscript o i pos) X.env v=(do
   let ov ← holding [v] (eval o X.env)
   let iv ← holding [v,ov] (eval i X.env)
   standAt pos
   holding [v,ov,iv] (setItem ov iv v)
   release [v,ov,iv] []):=by intro _; rfl):PG X (.Subscript o i pos) (EA to ti t):=by
 intro pins s σ H v u Q I r h
 rw [ha]
 refine wpAny_bind (wpAny_holding (thn (ho pins s σ H _ I h) fun ov s1 ⟨x,H1,I1,r1,q1⟩=>?_))
 refine wpAny_bind (wpAny_holding (thn (hi pins s1 σ H1 _ I1 q1) fun iv s2 ⟨y,H2,I2,r2,q2⟩=>?_))
 refine wpAny_bind (wpAny_standAt (wpAny_bind (wpAny_holding (thn (hs pins s2 σ H2 x y v ov iv u _ I2 r1 r2 r q2) fun _ s3 ⟨H3,I3,q3⟩=>?_))))
 exact wpAny_release ⟨σ,H3,I3,q3⟩
def uL (te:TE) (g:TG):TS:=fun D σ H=>te σ H fun x H1=>g x σ H1 D.nx
theorem sS {tg e:Expr} {te:TE} {g:TG} (he:PE X e te) (hg:PG X tg g) (hs:swapsWithSole [tg] e pos.line X.env=pure false:=by rfl) (hw:swappedStores [tg] e X.env=pure none:=by rfl)
  (h1:(assignEach [tg] X.env).map (·.2)=[assign tg X.env]:=by rfl):PS X (.Assign [tg] e pos) (uL te g):=by
 intro pins s σ H D I h
 refine wpAny_Assign_stores (thn (he pins s σ H _ I h) fun v s1 ⟨x,H1,I1,r1,q1⟩=>?_) hs hw
 rw [h1]
 exact thn (hg pins s1 σ H1 x v _ I1 r1 q1) fun _ s2 q=>q
theorem er {i:Nat} {x:Str} {e:Expr} {te:TE} {pos':Pos} (hN:X.N.Nodup) (hi:X.N[i]? = some x) (hx:Loc X.env.scope x) (he:PE X e te) (hs:swapsWith e (some (.Name x pos')) pos.line X.env=pure false:=by rfl) (hf:X.fn x=true∨X.env.scope.names.lookup x=some .local:=by first | exact .inl rfl | exact .inr rfl | assumption) :
  PS X (.Assign [.Name x pos'] e pos) (uL te (uq i)):=by
 intro pins s σ H D I h
 refine wpAny_Assign_Name (thn (he pins s σ H _ I h) fun v s1 ⟨y,H1,I1,r1,q1⟩=>?_) hs
 exact jQ I1 hN hi hx r1 (fun s2 I2=>⟨_,H1,I2,q1⟩) hf
end
structure It where
 go:Nat→Hp→Prop
 yld:Nat→Hp→V→Hp→Prop
 stop:Nat→Hp→Prop
def dI (X:Cx) (pins:List (Addr×Obj)) (H:Hp) (b:Addr):Prop:=H b=none∧b≠X.env.locals∧b∉X.fs∧(b∈X.ex∨X.s₀.heap.objs.size≤b)∧(∀ x c,X.env.cells.lookup x=some c→c≠b)∧∀ p∈X.pn++pins,p.1≠b
theorem Inv.fpOk {X:Cx} {pins:List (Addr×Obj)} {σ:St} {H H':Hp} {s:Shared} {b:Addr} (I:Inv X pins σ H s) (hb:s.heap.objs.size≤b) (hn:H' b=none):dI X pins H' b:=by
 refine ⟨hn,Nat.ne_of_gt (Nat.lt_of_lt_of_le I.lt hb),I.nofs hb,.inr (Nat.le_trans I.sz hb),fun x c e z=>?_,fun p hp z=>?_⟩
 ·obtain ⟨v,q⟩:=I.cell x c e
  exact absurd (Nat.lt_of_lt_of_le q.lt (by rw [z]; exact hb)) (Nat.lt_irrefl _)
 ·exact absurd (Nat.lt_of_lt_of_le (Heap.lt_size (I.pin p hp).1) (by rw [z]; exact hb)) (Nat.lt_irrefl _)
structure Turn (P:Program) (w:World) (K:Frag) (tg:Expr) (J:It) (fp:List Addr) (it:Addr) (tn:Nat→Heap→Prop):Prop where
 mem:it∈fp
 obj:∀ i h,tn i h→∀ b∈fp,∃ o,h.get? b=some o∧∀ v,o.data≠.cell v
 keep:∀ i h h',tn i h→(∀ b∈fp,∀ o,h.get? b=some o→h'.get? b=some o)→tn i h'
 item:∀ (X:Cx),X.prog=P→X.w=w→X.K=K→X.calm=true→∀ (i:Nat) (pins:List (Addr×Obj)) (s:Shared) (σ:St) (H:Hp) (E:Value→Shared→Prop),Inv X pins σ H s→(∀ b∈fp,dI X pins H b)→tn i s.heap→J.go i H →
  wpAny (model P w) X.A (pyNext (.ref it)) (fun r s1=>∃ u,r=some u ∧
   wpAny (model P w) X.A (letOwnedTupleGo tg (.ref it) u) (fun _ s2=>∃ x H',Inv X pins σ H' s2∧RelV x u∧J.yld i H x H'∧tn (i + 1) s2.heap∧∀ b∈fp,H' b=none) E s1) E s
 done:∀ (X:Cx),X.prog=P→X.w=w→X.K=K→X.calm=true→∀ (i:Nat) (pins:List (Addr×Obj)) (s:Shared) (σ:St) (H:Hp) (E:Value→Shared→Prop),Inv X pins σ H s→(∀ b∈fp,dI X pins H b)→tn i s.heap→J.stop i H →
  wpAny (model P w) X.A (pyNext (.ref it)) (fun r s1=>r=none∧Inv X pins σ H s1) E s
 self:∀ (A:Around) (i:Nat) (s:Shared) (Q:Value→Shared→Prop) (E:Value→Shared→Prop),tn i s.heap→Q (.ref it) s→wpAny (model P w) A (pyIter (.ref it)) Q E s
abbrev TI:=St→Hp→(It→Hp→Prop)→Prop
def PIE (X:Cx) (pins:List (Addr×Obj)) (σ:St) (tg:Expr) (R:It→Hp→Prop) (itv:Value) (s2:Shared):Prop:=∃ (it:Addr) (fp:List Addr) (tn:Nat→Heap→Prop) (J:It) (H':Hp),itv=.ref it∧Inv X pins σ H' s2∧Turn X.prog X.w X.K tg J fp it tn∧tn 0 s2.heap∧(∀ b∈fp,dI X pins H' b)∧R J H'
def PI (X:Cx) (tg iter:Expr) (wi:TI):Prop:=
 ∀ (pins:List (Addr×Obj)) (s:Shared) (σ:St) (H:Hp) (R:It→Hp→Prop),Inv X pins σ H s→wi σ H R →
  wpAny (model X.prog X.w) X.A (eval iter X.env) (fun v s1=>wpAny (model X.prog X.w) X.A (pyIter v) (PIE X pins σ tg R) X.xe s1) X.xe s
theorem jp {M:Model} {A:Around} {E:Value→Shared→Prop} {s:Shared} {tg:Expr} {it:Addr} {u:Value} {o:Obj} {n:String} {vs:Array Value} {Q:Unit→Shared→Prop} (ho:s.heap.get? it=some o) (hc:o.cls=.type n) (hd:o.data=.fields vs)
  (hn:["enumerate","zip","dict_itemiterator","dict_reverseitemiterator","odict_iterator","itertools.zip_longest","itertools.pairwise"].contains n=false) (hQ:Q () s):wpAny M A (letOwnedTupleGo tg (.ref it) u) Q E s:=by
 unfold letOwnedTupleGo
 cases tg <;> first
  | exact wpAny_pure hQ
  | (cases u <;> first
    | exact wpAny_pure hQ
    | (refine wpAny_bind (wpAny_load ho ?_)
       rw [hc,hd]
       show wpAny M A (if (["enumerate","zip","dict_itemiterator","dict_reverseitemiterator","odict_iterator","itertools.zip_longest","itertools.pairwise"].contains n && vs[0]? == some (rawInt _))=true then _ else _) Q E s
       rw [if_neg (by intro h; rw [hn,Bool.false_and] at h; cases h)]
       exact wpAny_pure hQ))
def Itl (K:Frag) (a:Addr):It:=⟨fun i H=>∃ xs x,SqL K H a xs∧xs[i]? = some x,fun i H x H'=>H'=H∧∀ xs,SqL K H a xs→xs[i]? = some x,fun i H=>∃ xs,SqL K H a xs∧xs.length≤i⟩
def Itt (K:Frag) (a:Addr):It:=⟨fun i H=>∃ xs x,SqT K H a xs∧xs[i]? = some x,fun i H x H'=>H'=H∧∀ xs,SqT K H a xs→xs[i]? = some x,fun i H=>∃ xs,SqT K H a xs∧xs.length≤i⟩
def Itr (lo:Int) (n:Nat):It:=⟨fun i _=>i < n,fun i H x H'=>H'=H∧x=.int (lo + i),fun i _=>n≤i⟩
theorem xV {P:Program} {w:World} {K:Frag} {tg:Expr} (a it:Addr):Turn P w K tg (Itl K a) [it] it (fun i h=>h.IsListIter it a i) where
 mem:=by simp
 obj:=fun i h st b hb=>by
  have e:b=it:=by simpa using hb
  subst e
  obtain ⟨o,e,c,d⟩:=st
  exact ⟨o,e,fun v z=>by rw [d] at z; cases z⟩
 keep:=fun i h h' st k=>st.at fun o e=>k it (by simp) o e
 item:=by
  intro X hP hw hK hc i pins s σ H E I hf st hg
  subst hP hw hK
  obtain ⟨xs,x,hq,hx⟩:=hg
  obtain ⟨its,rv,p,hz⟩:=I.list hq
  obtain ⟨u,hu,ru⟩:=rv.get hx
  obtain ⟨f0,f1,f2,f3,f4,f5⟩:=hf it (by simp)
  refine wpAny_pyNext_list_item st p.isList (x:=u) (by simpa using hu) fun h' st' sb=>?_
  have I1:Inv X pins σ H { s with heap:=h' }:=I.turned (t':=s.toks) (fun b o hb e=>(sb.2 b hb).trans e) f0 f1 f3 f4 f5
  obtain ⟨o,e,c,d⟩:=id st'
  exact ⟨u,rfl,jp (s:={ s with heap:=h' }) e c d (by decide) ⟨x,H,I1,ru,⟨rfl,fun ys hy=>by rw [I.list_inj hy hq]; exact hx⟩,st',fun b hb=>(hf b hb).1⟩⟩
 done:=by
  intro X hP hw hK hc i pins s σ H E I hf st hg
  subst hP hw hK
  obtain ⟨xs,hq,hx⟩:=hg
  obtain ⟨its,rv,p,hz⟩:=I.list hq
  obtain ⟨f0,f1,f2,f3,f4,f5⟩:=hf it (by simp)
  have hl:=rv.length
  exact wpAny_pyNext_list_end (I.ok.hd hc) st p.isList (by simp; omega) fun h' eb=>⟨rfl,I.turned (t':=s.toks) (fun b o hb e=>eb b o hb e) f0 f1 f3 f4 f5⟩
 self:=fun _ _ _ _ _ st h=>wpAny_pyIter_listiter st h
theorem w6 {P:Program} {w:World} {K:Frag} {tg:Expr} (a it:Addr):Turn P w K tg (Itt K a) [it] it (fun i h=>h.IsTupleIter it a i) where
 mem:=by simp
 obj:=fun i h st b hb=>by
  have e:b=it:=by simpa using hb
  subst e
  obtain ⟨o,e,c,d⟩:=st
  exact ⟨o,e,fun v z=>by rw [d] at z; cases z⟩
 keep:=fun i h h' st k=>st.at fun o e=>k it (by simp) o e
 item:=by
  intro X hP hw hK hc i pins s σ H E I hf st hg
  subst hP hw hK
  obtain ⟨xs,x,hq,hx⟩:=hg
  obtain ⟨its,rv,p,hz⟩:=I.tuple hq
  obtain ⟨u,hu,ru⟩:=rv.get hx
  obtain ⟨f0,f1,f2,f3,f4,f5⟩:=hf it (by simp)
  refine wpAny_pyNext_tuple_item st (show s.heap.IsTuple a its.toArray from p) (x:=u) (by simpa using hu) fun h' st' sb=>?_
  have I1:Inv X pins σ H { s with heap:=h' }:=I.turned (t':=s.toks) (fun b o hb e=>(sb.2 b hb).trans e) f0 f1 f3 f4 f5
  obtain ⟨o,e,c,d⟩:=id st'
  exact ⟨u,rfl,jp (s:={ s with heap:=h' }) e c d (by decide) ⟨x,H,I1,ru,⟨rfl,fun ys hy=>by rw [I.tuple_inj hy hq]; exact hx⟩,st',fun b hb=>(hf b hb).1⟩⟩
 done:=by
  intro X hP hw hK hc i pins s σ H E I hf st hg
  subst hP hw hK
  obtain ⟨xs,hq,hx⟩:=hg
  obtain ⟨its,rv,p,hz⟩:=I.tuple hq
  obtain ⟨f0,f1,f2,f3,f4,f5⟩:=hf it (by simp)
  have hl:=rv.length
  exact wpAny_pyNext_tuple_end (I.ok.hd hc) st (show s.heap.IsTuple a its.toArray from p) (by simp; omega) fun h' eb=>⟨rfl,I.turned (t':=s.toks) (fun b o hb e=>eb b o hb e) f0 f1 f3 f4 f5⟩
 self:=fun _ _ _ _ _ st h=>wpAny_pyIter_tupleiter st h
theorem xa {P:Program} {w:World} {K:Frag} {tg:Expr} (it:Addr) (lo:Int) (n:Nat):Turn P w K tg (Itr lo n) [it] it (fun i h=>IsRangeIter h it (lo + (i:Nat) * 1) ((n:Int) - (i:Nat)) 1) where
 mem:=by simp
 obj:=fun i h st b hb=>by
  have e:b=it:=by simpa using hb
  subst e
  exact ⟨_,st,fun v z=>by
   have z':Data.fields _=Data.cell v:=z
   cases z'⟩
 keep:=fun i h h' st k=>k it (by simp) _ st
 item:=by
  intro X hP hw hK hc i pins s σ H E I hf st hg
  subst hP hw hK
  obtain ⟨f0,f1,f2,f3,f4,f5⟩:=hf it (by simp)
  have W:=Walks.range (prog:=X.prog) (w:=X.w) (I.ok.hd hc) it lo 1 n
  refine W.item i s _ _ hg st fun v h' tk hv st' kk=>?_
  obtain ⟨t,rfl⟩:=hv
  have I1:Inv X pins σ H { s with heap:=h',toks:=tk }:=I.turned (fun b o hb e=>kk b o (by simpa using hb) e) f0 f1 f3 f4 f5
  refine ⟨_,rfl,jp (s:={ s with heap:=h',toks:=tk }) (n:="range_iterator") st' rfl rfl (by decide) ⟨.int (lo + i),H,I1,⟨t,?_⟩,⟨rfl,rfl⟩,st',fun b hb=>(hf b hb).1⟩⟩
  rw [Int.mul_one]
 done:=by
  intro X hP hw hK hc i pins s σ H E I hf st hg
  subst hP hw hK
  obtain ⟨f0,f1,f2,f3,f4,f5⟩:=hf it (by simp)
  exact wpAny_pyNext_range_end (I.ok.hd hc) st (by have:n≤i:=hg; omega) fun h' eb=>⟨rfl,I.turned (t':=s.toks) (fun b o hb e=>eb b o hb e) f0 f1 f3 f4 f5⟩
 self:=fun _ _ _ _ _ st h=>wpAny_pyIter_rangeiter st h
section
variable {X:Cx} {tg:Expr}
theorem yT {pins:List (Addr×Obj)} {σ:St} {H:Hp} {s:Shared} {R:It→Hp→Prop} {E:Value→Shared→Prop} {lo hi:Int} {t u v:Tok} {tk:Nat} (I:Inv X pins σ H s) (h1 : -(2 ^ 62)≤lo) (h2:lo < 2 ^ 62) (h3 : -(2 ^ 62)≤hi) (h4:hi < 2 ^ 62)
  (q:R (Itr lo (hi - lo).toNat) H):wpAny (model X.prog X.w) X.A (pyIter (.ref s.heap.objs.size)) (PIE X pins σ tg R) E { s with heap:=s.heap.push { cls:=.type "range",data:=.fields #[.int lo t,.int hi u,.int 1 v] },toks:=tk }:=by
 refine wpAny_pyIter_range (IsRange.new ..) (small_one h1 h2 h3 h4) ?_
 have I1:Inv X pins σ H { s with heap:=s.heap.push { cls:=.type "range",data:=.fields #[.int lo t,.int hi u,.int 1 v] },toks:=tk }:=I.kept fun b o e=>Heap.get?_push_of_some _ e
 refine ⟨(s.heap.push { cls:=.type "range",data:=.fields #[.int lo t,.int hi u,.int 1 v] }).objs.size,[(s.heap.push { cls:=.type "range",data:=.fields #[.int lo t,.int hi u,.int 1 v] }).objs.size],_,_,H,rfl,
  I1.kept (t':=tk) fun b o e=>Heap.get?_push_of_some _ e,xa _ lo (hi - lo).toNat,?_,fun b hb=>?_,q⟩
 ·have e1:lo + ((0:Nat):Int) * 1=lo:=by simp
  have e2:(((hi - lo).toNat:Nat):Int) - ((0:Nat):Int)=Builtin.Range.rangeSize lo hi 1:=by rw [rangeSize_one]; split <;> omega
  show IsRangeIter _ _ (lo + ((0:Nat):Int) * 1) ((((hi - lo).toNat:Nat):Int) - ((0:Nat):Int)) 1
  rw [e1,e2]
  exact Heap.get?_push_size _ rfl
 ·have e:b=(s.heap.push { cls:=.type "range",data:=.fields #[.int lo t,.int hi u,.int 1 v] }).objs.size:=by simpa using hb
  subst e
  exact I1.fpOk (Nat.le_refl _) (I1.hok.fresh (Nat.le_refl _))
def DM (ta:TA):TI:=fun σ H R=>ta σ H fun vs H1=>∃ j:Int,vs=[.int j]∧-(2 ^ 62)≤j∧j < 2 ^ 62∧R (Itr 0 j.toNat) H1
theorem ye {a:Expr} {ta:TA} {p pos:Pos} (hg:Gl X "range") (hm:X.mg "range" = none) (ha:PA X [a] ta) (hs:starEach [a] X.env=[(false,eval a X.env)]:=by rfl):PI X tg (.Call (.Name "range" p) [a] [] pos) (DM ta):=by
 intro pins s σ H R I h
 refine Call_ (kI I hg hm boot_range (PyProof.Rows.callWith_type1 (thn (ha pos pins s σ H _ I h) fun us s1 ⟨vs,H1,I1,r1,q1⟩=>?_) hs rfl))
 obtain ⟨j,e,q1,q2,q⟩:=q1
 subst e
 cases r1 with
 | cons r rr=>
  cases rr
  obtain ⟨t,rfl⟩:=r
  exact call_range_1 (yT I1 (by omega) (by omega) q1 q2 (by simpa using q))
def Eo (wi:TI) (g:TG) (tb:TS):TS:=fun D σ H=>wi σ H fun J H1=>∃ W:Nat→Nat→St→Hp→Prop,(∃ m,W 0 m σ H1)∧∀ i m σ H,W i m σ H →
 (J.stop i H∧D.nx σ H)∨(J.go i H∧∃ N:St→Hp→Prop,(∀ σ' H',N σ' H'→∃ m',m' < m∧W (i + 1) m' σ' H')∧∀ x H',J.yld i H x H'→g x σ H' fun σ2 H2=>tb { D with nx:=N,ct:=N,bk:=D.nx } σ2 H2)
def fV (fp:List Addr) (h:Heap):List (Addr×Obj):=fp.filterMap fun b=>(h.get? b).map fun o=>(b,o)
theorem jL {fp:List Addr} {h:Heap} {b:Addr} {o:Obj} (hb:b∈fp) (e:h.get? b=some o):(b,o)∈fV fp h:=List.mem_filterMap.mpr ⟨b,hb,by rw [e]; rfl⟩
theorem yj {fp:List Addr} {h:Heap} {p:Addr×Obj} (hp:p∈fV fp h):p.1∈fp∧h.get? p.1=some p.2:=by
 obtain ⟨b,hb,e⟩:=List.mem_filterMap.mp hp
 cases q:h.get? b with
 | none=>rw [q] at e; cases e
 | some o=>
  rw [q] at e
  have e':(b,o)=p:=Option.some.inj e
  subst e'
  exact ⟨hb,q⟩
theorem Inv.pinned {pins:List (Addr×Obj)} {σ:St} {H:Hp} {s:Shared} {fp:List Addr} (I:Inv X pins σ H s) (hf:∀ b∈fp,dI X pins H b) (ho:∀ b∈fp,∃ o,s.heap.get? b=some o∧∀ v,o.data≠.cell v):Inv X (pins++fV fp s.heap) σ H s:=
 I.pins_of fun p hp=>(List.mem_append.mp hp).elim (fun z=>I.pin p (List.mem_append_right _ z)) fun z=>by
  obtain ⟨hb,e⟩:=yj z
  obtain ⟨f0,f1,f2,_⟩:=hf p.1 hb
  obtain ⟨o,e',d⟩:=ho p.1 hb
  rw [e] at e'; cases e'
  exact ⟨e,f0,f1,f2,d⟩
theorem Inv.unpinned {pins pl:List (Addr×Obj)} {σ:St} {H:Hp} {s:Shared} (I:Inv X (pins++pl) σ H s):Inv X pins σ H s:=I.pins_of fun p hp=>I.pin p (List.mem_append_right _ (List.mem_append_left _ hp))
theorem BH {iter:Expr} {body:List Stmt} {wi:TI} {g:TG} {tb:TS} {pos:Pos} (hp:PassesOwn (model X.prog X.w) X.A X.env X.xe) (hc:X.calm=true) (hi:PI X tg iter wi) (hg:PG X tg g) (hb:PSs X body tb)
  (hs:∀ x,foldedSetIterable iter X.env x=pure x:=by intro _; rfl):PS X (.For tg iter body [] pos) (Eo wi g tb):=by
 intro pins s σ H D I h
 refine wpAny_For (thn (hi pins s σ H _ I h) fun v s1 h1=>thn h1 fun itv s2 h2=>?_) hs
 obtain ⟨it,fp,tn,J,H2,e,I2,T,st2,f2,W,⟨m0,w0⟩,turn⟩:=h2
 subst e
 have stat:∀ {H':Hp},(∀ b∈fp,H' b=none)→∀ b∈fp,dI X pins H' b:=fun hn b hb=>⟨hn b hb,(f2 b hb).2⟩
 refine codeAny_forLoop_any (fun n s'=>∃ i σ' H',Inv X pins σ' H' s'∧tn i s'.heap∧(∀ b∈fp,H' b=none)∧W i n σ' H') ?_ m0 ⟨0,σ,H2,I2,st2,fun b hb=>(f2 b hb).1,w0⟩
 rintro n s3 ⟨i,σ3,H3,I3,st3,fr3,w3⟩
 rcases turn i n σ3 H3 w3 with ⟨stop,qn⟩ | ⟨go,N,hN,step⟩
 ·refine wpAny_passesOwn hp (thn (T.done X rfl rfl rfl hc i pins s3 σ3 H3 X.xe I3 (stat fr3) st3 stop) fun r s4 ⟨hr,I4⟩=>?_)
  subst hr
  exact wpAny_execs_nil ⟨σ3,H3,I4,qn⟩
 ·refine wpAny_passesOwn hp (thn (T.item X rfl rfl rfl hc i pins s3 σ3 H3 X.xe I3 (stat fr3) st3 go) fun r s4 ⟨u,hr,h4⟩=>?_)
  subst hr
  refine wpAny_passesOwn hp (thn h4 fun _ s5 ⟨x,H5,I5,r5,y5,st5,fr5⟩=>?_)
  have I5':=I5.pinned (stat fr5) (T.obj _ _ st5)
  refine wpAny_passesOwn hp (thn (hg _ s5 σ3 H5 x u _ I5' r5 (step x H5 y5)) fun _ s6 ⟨σ6,H6,I6,q6⟩=>?_)
  refine wpAny_passesOwn hp (thn (hb _ s6 σ6 H6 _ I6 q6) fun f s7 q7=>?_)
  have again:∀ {σ7:St} {H7:Hp},Inv X (pins++fV fp s5.heap) σ7 H7 s7→N σ7 H7→∃ m,m < n∧∃ i σ' H',Inv X pins σ' H' s7∧tn i s7.heap∧(∀ b∈fp,H' b=none)∧W i m σ' H':=fun {σ7 H7} I7 n7=>by
   obtain ⟨m',hm,w7⟩:=hN σ7 H7 n7
   refine ⟨m',hm,i + 1,σ7,H7,I7.unpinned,T.keep _ _ _ st5 fun b hb o e=>(I7.pin (b,o) (List.mem_append_right _ (List.mem_append_right _ (jL hb e)))).1,fun b hb=>?_,w7⟩
   obtain ⟨o,e,d⟩:=T.obj _ _ st5 b hb
   exact (I7.pin (b,o) (List.mem_append_right _ (List.mem_append_right _ (jL hb e)))).2.1
  cases f with
  | next=>obtain ⟨σ7,H7,I7,n7⟩:=q7; exact again I7 n7
  | cont=>obtain ⟨σ7,H7,I7,n7⟩:=q7; exact again I7 n7
  | brk=>obtain ⟨σ7,H7,I7,q7⟩:=q7; exact ⟨σ7,H7,I7.unpinned,q7⟩
  | ret v=>obtain ⟨x7,σ7,H7,I7,r7,q7⟩:=q7; exact ⟨x7,σ7,H7,I7.unpinned,r7,q7⟩
end
abbrev R2:=V→V→Hp→VK→Prop
def OpR (X:Cx) (f:Value→Value→Sem Value) (r:R2):Prop:=
 ∀ (pins:List (Addr×Obj)) (s:Shared) (σ:St) (H:Hp) (x y:V) (v u:Value) (Q:VK),Inv X pins σ H s→RelV x v→RelV y u→r x y H Q →
  wpAny (model X.prog X.w) X.A (f v u) (EP X pins σ Q) X.xe s
def UnR (X:Cx) (f:Value→Sem Value) (r:V→Hp→VK→Prop):Prop:=
 ∀ (pins:List (Addr×Obj)) (s:Shared) (σ:St) (H:Hp) (x:V) (v:Value) (Q:VK),Inv X pins σ H s→RelV x v→r x H Q →
  wpAny (model X.prog X.w) X.A (f v) (EP X pins σ Q) X.xe s
def CallR (X:Cx) (f:Value) (r:List V→Hp→VK→Prop):Prop:=
 ∀ (pins:List (Addr×Obj)) (s:Shared) (σ:St) (H:Hp) (xs:List V) (us:List Value) (Q:VK),Inv X pins σ H s→Vals xs us→r xs H Q →
  wpAny (model X.prog X.w) X.A (call f us) (EP X pins σ Q) X.xe s
def EJ (X:Cx) (r:V→Hp→(Bool→Hp→Prop)→Prop):Prop:=
 ∀ (pins:List (Addr×Obj)) (s:Shared) (σ:St) (H:Hp) (x:V) (v:Value) (Q:Bool→Hp→Prop),Inv X pins σ H s→RelV x v→r x H Q →
  wpAny (model X.prog X.w) X.A (truthy v) (TP X pins σ Q) X.xe s
def tOp (r:R2) (ta tb:TE):TE:=fun σ H Q=>ta σ H fun x H1=>tb σ H1 fun y H2=>r x y H2 Q
def tUn (r:V→Hp→VK→Prop) (ta:TE):TE:=fun σ H Q=>ta σ H fun x H1=>r x H1 Q
def rI (C:Int→Int→Prop) (g:Int→Int→V):R2:=fun x y H Q=>∃ i j,x=.int i∧y=.int j∧C i j∧Q (g i j) H
def rI0 (g:Int→Int→V):R2:=fun x y H Q=>∃ i j,x=.int i∧y=.int j∧Q (g i j) H
def rU (g:Int→V):V→Hp→VK→Prop:=fun x H Q=>∃ i,x=.int i∧Q (g i) H
section
variable {X:Cx} {a b c:Expr} {ta tb tc:TE} {pos:Pos}
theorem oB (ha:PE X a ta) (hb:PE X b tb) {pins:List (Addr×Obj)} {s:Shared} {σ:St} {H:Hp} {R:V→V→Hp→Prop} (I:Inv X pins σ H s)
  (h:ta σ H fun x H1=>tb σ H1 fun y H2=>R x y H2) {Q:Value→Shared→Prop} {f:Value→Value→Sem Value}
  (hf:∀ v u s2 x y H2,Inv X pins σ H2 s2→RelV x v→RelV y u→R x y H2→wpAny (model X.prog X.w) X.A (f v u) Q X.xe s2) :
  wpAny (model X.prog X.w) X.A (eval a X.env) (fun v s₁=>wpAny (model X.prog X.w) X.A (eval b X.env) (fun u s₂=>wpAny (model X.prog X.w) X.A (f v u) Q X.xe s₂) X.xe s₁) X.xe s:=by
 refine thn (ha pins s σ H _ I h) fun v s1 ⟨x,H1,I1,r1,q1⟩=>?_
 refine thn (hb pins s1 σ H1 _ I1 q1) fun u s2 ⟨y,H2,I2,r2,q2⟩=>?_
 exact hf v u s2 x y H2 I2 r1 r2 q2
theorem uc {op:Operator} {r:R2} (ho:OpR X (binaryOp op) r) (ha:PE X a ta) (hb:PE X b tb):PE X (.BinOp a op b pos) (tOp r ta tb):=by
 intro pins s σ H Q I h
 exact wpAny_BinOp (oB ha hb I h fun v u s2 x y H2 I2 rx ry q=>ho pins s2 σ H2 x y v u Q I2 rx ry q)
theorem C5 {op:UnaryOp} {r:V→Hp→VK→Prop} (ho:UnR X (unaryOp op) r) (ha:PE X a ta):PE X (.UnaryOp op a pos) (tUn r ta):=by
 intro pins s σ H Q I h
 exact UnaryOp_ (thn (ha pins s σ H _ I h) fun v s1 ⟨x,H1,I1,r1,q1⟩=>ho pins s1 σ H1 x v Q I1 r1 q1)
theorem opI {f:Value→Value→Sem Value} {C:Int→Int→Prop} {g:Int→Int→Int}
  (rule:∀ (i j:Int) (t u:Tok) (s:Shared) (Q:Value→Shared→Prop) (E:Value→Shared→Prop),C i j→Q (.int (g i j) s.toks) { s with toks:=s.toks + 1 }→wpAny (model X.prog X.w) X.A (f (.int i t) (.int j u)) Q E s) :
  OpR X f (rI C fun i j=>.int (g i j)):=by
 intro pins s σ H x y v u Q I rx ry h
 obtain ⟨i,j,rfl,rfl,hc,q⟩:=h
 obtain ⟨t,rfl⟩:=rx
 obtain ⟨t',rfl⟩:=ry
 exact rule i j t t' s _ _ hc ⟨.int (g i j),H,I.tok _,⟨_,rfl⟩,q⟩
theorem uS {f:Value→Value→Sem Value} {g:Int→Int→Int}
  (rule:∀ (i j:Int) (t u:Tok) (s:Shared) (Q:Value→Shared→Prop) (E:Value→Shared→Prop),Q (.int (g i j) s.toks) { s with toks:=s.toks + 1 }→wpAny (model X.prog X.w) X.A (f (.int i t) (.int j u)) Q E s) :
  OpR X f (rI0 fun i j=>.int (g i j)):=by
 intro pins s σ H x y v u Q I rx ry h
 obtain ⟨i,j,rfl,rfl,q⟩:=h
 obtain ⟨t,rfl⟩:=rx
 obtain ⟨t',rfl⟩:=ry
 exact rule i j t t' s _ _ ⟨.int (g i j),H,I.tok _,⟨_,rfl⟩,q⟩
theorem lD {f:Value→Value→Sem Value} {g:Int→Int→Bool}
  (rule:∀ (i j:Int) (t u:Tok) (s:Shared) (Q:Value→Shared→Prop) (E:Value→Shared→Prop),Q (.bool (g i j)) s→wpAny (model X.prog X.w) X.A (f (.int i t) (.int j u)) Q E s) :
  OpR X f (rI0 fun i j=>.bl (g i j)):=by
 intro pins s σ H x y v u Q I rx ry h
 obtain ⟨i,j,rfl,rfl,q⟩:=h
 obtain ⟨t,rfl⟩:=rx
 obtain ⟨t',rfl⟩:=ry
 exact rule i j t t' s _ _ ⟨.bl (g i j),H,I,rfl,q⟩
def EL (i j:Int):Prop:=0≤j∧j≤1000000∧i.natAbs < 2 ^ 64
def CMul (i j:Int):Prop:=(-(2 ^ 64) < i∧i < 2 ^ 64)∨(-(2 ^ 64) < j∧j < 2 ^ 64)
theorem CMul.ok {i j:Int} (h:CMul i j):IntMulOk i j:=by
 rcases h with ⟨h1,h2⟩ | ⟨h1,h2⟩
 ·exact .of_left (intBits_le_64 h1 h2)
 ·exact .of_right (intBits_le_64 h1 h2)
theorem op_add:OpR X (binaryOp .Add) (rI0 fun i j=>.int (i + j)):=uS fun _ _ _ _ _ _ _ q=>add_int q
theorem BQ:OpR X (binaryOp .Sub) (rI0 fun i j=>.int (i - j)):=uS fun _ _ _ _ _ _ _ q=>sub_int q
theorem op_mul:OpR X (binaryOp .Mult) (rI CMul fun i j=>.int (i * j)):=opI fun _ _ _ _ _ _ _ hc q=>mul_int q hc.ok
theorem BU:OpR X (binaryOp .Mod) (rI (fun _ j=>0 < j) fun i j=>.int (i % j)):=opI fun i j _ _ _ _ _ hc q=>by
 have h1:(0:Int) < j:=hc
 exact mod_int' (by omega) (by rw [Int.fmod_eq_emod_of_nonneg i (by omega)]; exact q)
theorem BR:OpR X (binaryOp .Pow) (rI EL fun i j=>.int (i ^ j.toNat)):=opI fun _ _ _ _ _ _ _ hc q=>pow_int_small hc.1 hc.2.1 hc.2.2 q
theorem unI {f:Value→Sem Value} {g:Int→Int}
  (rule:∀ (i:Int) (t:Tok) (s:Shared) (Q:Value→Shared→Prop) (E:Value→Shared→Prop),Q (.int (g i) s.toks) { s with toks:=s.toks + 1 }→wpAny (model X.prog X.w) X.A (f (.int i t)) Q E s) :
  UnR X f (rU fun i=>.int (g i)):=by
 intro pins s σ H x v Q I rx h
 obtain ⟨i,rfl,q⟩:=h
 obtain ⟨t,rfl⟩:=rx
 exact rule i t s _ _ ⟨.int (g i),H,I.tok _,⟨_,rfl⟩,q⟩
theorem Bp:UnR X (unaryOp .USub) (rU fun i=>.int (-i)):=unI fun _ _ _ _ _ q=>neg_int q
end
def om:V→V→Bool
 | .non,.non=>true | .non,.int _=>true | .int _,.non=>true | .non,.bl _=>true | .bl _,.non=>true | .non,.str _=>true | .str _,.non=>true
 | .int _,.int _=>true | .bl _,.bl _=>true | .str _,.str _=>true | .byt _,.byt _=>true
 | .int _,.str _=>true | .str _,.int _=>true | .bl _,.str _=>true | .str _,.bl _=>true
 | _,_=>false
def rEq:R2:=fun x y H Q=>om x y=true∧Q (.bl (decide (x=y))) H
def rNe:R2:=fun x y H Q=>om x y=true∧Q (.bl (!decide (x=y))) H
theorem sC {i j:Int}:decide (V.int i=V.int j)=(i == j):=by
 rw [Bool.eq_iff_iff]
 simp
theorem tL {i j:Bool}:decide (V.bl i=V.bl j)=(i == j):=by
 rw [Bool.eq_iff_iff]
 simp
theorem sA {i j:Str}:decide (V.str i=V.str j)=(i == j):=by
 rw [Bool.eq_iff_iff]
 simp
theorem sD {i j:Array UInt8}:decide (V.byt i=V.byt j)=(i.toList == j.toList):=by
 rw [Bool.eq_iff_iff]
 cases i
 cases j
 simp
section
variable {X:Cx} {a b c:Expr} {ta tb tc:TE} {pos:Pos}
theorem bi {pins:List (Addr×Obj)} {σ:St} {H:Hp} {s:Shared} {Q:VK} {k k':Bool} (I:Inv X pins σ H s) (q:Q (.bl k) H) (e:k=k'):EP X pins σ Q (.bool k') s:=by
 subst e
 exact ⟨.bl k,H,I,rfl,q⟩
theorem Dh:OpR X (compareOp .Eq) rEq:=by
 intro pins s σ H x y v u Q I rx ry h
 obtain ⟨hs,q⟩:=h
 cases x with
 | non=>
  cases rx
  cases y with
  | non=>cases ry; exact PySem.EqNone.eq_none_none (bi I q (by simp))
  | bl j=>cases ry; exact PySem.EqNone.eq_none_bool (bi I q (by simp))
  | int j=>obtain ⟨t',rfl⟩:=ry; exact PySem.EqNone.eq_none_int (bi I q (by simp))
  | str j=>obtain ⟨t',rfl⟩:=ry; exact PySem.EqNone.eq_none_str (bi I q (by simp))
  | _=>exact absurd (show false=true from hs) Bool.false_ne_true
 | bl i=>
  cases rx
  cases y with
  | non=>cases ry; exact PySem.EqNone.eq_bool_none (bi I q (by simp))
  | bl j=>cases ry; exact eq_bool (bi I q tL)
  | str j=>obtain ⟨t',rfl⟩:=ry; exact PySem.EqMixed.eq_bool_str (bi I q (by simp))
  | _=>exact absurd (show false=true from hs) Bool.false_ne_true
 | int i=>
  obtain ⟨t,rfl⟩:=rx
  cases y with
  | non=>cases ry; exact PySem.EqNone.eq_int_none (bi I q (by simp))
  | int j=>obtain ⟨t',rfl⟩:=ry; exact eq_int (bi I q sC)
  | str j=>obtain ⟨t',rfl⟩:=ry; exact PySem.EqMixed.eq_int_str (bi I q (by simp))
  | _=>exact absurd (show false=true from hs) Bool.false_ne_true
 | str i=>
  obtain ⟨t,rfl⟩:=rx
  cases y with
  | non=>cases ry; exact PySem.EqNone.eq_str_none (bi I q (by simp))
  | bl j=>cases ry; exact PySem.EqMixed.eq_str_bool (bi I q (by simp))
  | int j=>obtain ⟨t',rfl⟩:=ry; exact PySem.EqMixed.eq_str_int (bi I q (by simp))
  | str j=>obtain ⟨t',rfl⟩:=ry; exact eq_str (bi I q sA)
  | _=>exact absurd (show false=true from hs) Bool.false_ne_true
 | byt i=>
  obtain ⟨t,rfl⟩:=rx
  cases y with
  | byt j=>obtain ⟨t',rfl⟩:=ry; exact PySem.W.eq_bytes (bi I q sD)
  | _=>exact absurd (show false=true from hs) Bool.false_ne_true
 | _=>cases y <;> exact absurd (show false=true from hs) Bool.false_ne_true
theorem C9:OpR X (compareOp .NotEq) rNe:=by
 intro pins s σ H x y v u Q I rx ry h
 obtain ⟨hs,q⟩:=h
 cases x with
 | non=>
  cases rx
  cases y with
  | non=>cases ry; exact PySem.EqNone.ne_none_none (bi I q (by simp))
  | bl j=>cases ry; exact PySem.EqNone.ne_none_bool (bi I q (by simp))
  | int j=>obtain ⟨t',rfl⟩:=ry; exact PySem.EqNone.ne_none_int (bi I q (by simp))
  | str j=>obtain ⟨t',rfl⟩:=ry; exact PySem.EqNone.ne_none_str (bi I q (by simp))
  | _=>exact absurd (show false=true from hs) Bool.false_ne_true
 | bl i=>
  cases rx
  cases y with
  | non=>cases ry; exact PySem.EqNone.ne_bool_none (bi I q (by simp))
  | bl j=>cases ry; exact ne_bool (bi I q (congrArg not tL))
  | str j=>obtain ⟨t',rfl⟩:=ry; exact PySem.EqMixed.ne_bool_str (bi I q (by simp))
  | _=>exact absurd (show false=true from hs) Bool.false_ne_true
 | int i=>
  obtain ⟨t,rfl⟩:=rx
  cases y with
  | non=>cases ry; exact PySem.EqNone.ne_int_none (bi I q (by simp))
  | int j=>obtain ⟨t',rfl⟩:=ry; exact ne_int (bi I q (congrArg not sC))
  | str j=>obtain ⟨t',rfl⟩:=ry; exact PySem.EqMixed.ne_int_str (bi I q (by simp))
  | _=>exact absurd (show false=true from hs) Bool.false_ne_true
 | str i=>
  obtain ⟨t,rfl⟩:=rx
  cases y with
  | non=>cases ry; exact PySem.EqNone.ne_str_none (bi I q (by simp))
  | bl j=>cases ry; exact PySem.EqMixed.ne_str_bool (bi I q (by simp))
  | int j=>obtain ⟨t',rfl⟩:=ry; exact PySem.EqMixed.ne_str_int (bi I q (by simp))
  | str j=>obtain ⟨t',rfl⟩:=ry; exact ne_str (bi I q (congrArg not sA))
  | _=>exact absurd (show false=true from hs) Bool.false_ne_true
 | byt i=>
  obtain ⟨t,rfl⟩:=rx
  cases y with
  | byt j=>obtain ⟨t',rfl⟩:=ry; exact PySem.W.ne_bytes (bi I q (congrArg not sD))
  | _=>exact absurd (show false=true from hs) Bool.false_ne_true
 | _=>cases y <;> exact absurd (show false=true from hs) Bool.false_ne_true
theorem Da:OpR X (compareOp .Lt) (rI0 fun i j=>.bl (decide (i < j))):=lD fun _ _ _ _ _ _ _ q=>lt_int q
theorem Dd:OpR X (compareOp .LtE) (rI0 fun i j=>.bl (decide (i≤j))):=lD fun _ _ _ _ _ _ _ q=>le_int q
theorem De:OpR X (compareOp .Gt) (rI0 fun i j=>.bl (decide (j < i))):=lD fun _ _ _ _ _ _ _ q=>gt_int q
theorem Dg:OpR X (compareOp .GtE) (rI0 fun i j=>.bl (decide (j≤i))):=lD fun _ _ _ _ _ _ _ q=>ge_int q
theorem op_in_str:OpR X (compareOp .In) (fun x y H Q=>∃ i j,x=.str i∧y=.str j∧Q (.bl (!(Builtin.Str.occurrences j i 0 j.length 1).isEmpty)) H):=by
 intro pins s σ H x y v u Q I rx ry h
 obtain ⟨i,j,rfl,rfl,q⟩:=h
 obtain ⟨t,rfl⟩:=rx
 obtain ⟨t',rfl⟩:=ry
 exact in_str (bi I q rfl)
theorem BV:OpR X (compareOp .Is) (fun x y H Q=>y=.non∧Q (.bl (decide (x=.non))) H):=by
 intro pins s σ H x y v u Q I rx ry h
 obtain ⟨rfl,q⟩:=h
 cases ry
 refine is_none_gen (bi I q ?_)
 cases x <;> first
  | (cases rx; rfl)
  | (obtain ⟨t,rfl⟩:=rx; rfl)
theorem op_notin_str:OpR X (compareOp .NotIn) (fun x y H Q=>∃ i j,x=.str i∧y=.str j∧Q (.bl (!(!(Builtin.Str.occurrences j i 0 j.length 1).isEmpty))) H):=by
 intro pins s σ H x y v u Q I rx ry h
 obtain ⟨i,j,rfl,rfl,q⟩:=h
 obtain ⟨t,rfl⟩:=rx
 obtain ⟨t',rfl⟩:=ry
 exact notIn_str (bi I q rfl)
theorem OpR.or {f:Value→Value→Sem Value} {r r':R2} (h:OpR X f r) (h':OpR X f r'):OpR X f (fun x y H Q=>r x y H Q∨r' x y H Q):=by
 intro pins s σ H x y v u Q I rx ry q
 rcases q with q | q
 ·exact h pins s σ H x y v u Q I rx ry q
 ·exact h' pins s σ H x y v u Q I rx ry q
theorem kF (b:Expr) {op:CmpOp} (h:op≠.In:=by decide) (h2:op≠.NotIn:=by decide):behindInMarks op b=false:=by
 have e1:(op == CmpOp.In)=false:=by cases op <;> first | rfl | exact absurd rfl h
 have e2:(op == CmpOp.NotIn)=false:=by cases op <;> first | rfl | exact absurd rfl h2
 cases b <;> simp [behindInMarks,e1,e2]
theorem Az {op:CmpOp} {r:R2} (ho:OpR X (compareOp op) r) (ha:PE X a ta) (hb:PE X b tb) (hm:behindInMarks op b=false):PE X (.Compare a [op] [b] pos) (tOp r ta tb):=by
 intro pins s σ H Q I h
 exact wpAny_Compare1 (oB ha hb I h fun v u s2 x y H2 I2 rx ry q=>ho pins s2 σ H2 x y v u Q I2 rx ry q) hm
def tU (t:TE):TT:=fun σ H Q=>t σ H fun x H'=>∃ k,x=.bl k∧Q k H'
theorem mC {op:CmpOp} {r:R2} (ho:OpR X (compareOp op) r) (ha:PE X a ta) (hb:PE X b tb) (hm:behindInMarks op b=false):PT X (.Compare a [op] [b] pos) (tU (tOp r ta tb)):=by
 intro pins s σ H Q I h
 refine wpAny_isTrue_Compare1 (thn (ha pins s σ H _ I h) fun v s1 ⟨x,H1,I1,r1,q1⟩=>thn (hb pins s1 σ H1 _ I1 q1) fun u s2 ⟨y,H2,I2,r2,q2⟩=>
  thn (ho pins s2 σ H2 x y v u _ I2 r1 r2 q2) fun c s3 ⟨z,H3,I3,r3,k,e,q3⟩=>?_) hm
 subst e
 cases r3
 exact wpAny_truthy_bool ⟨H3,I3,q3⟩
def mV (r r':R2) (ta tb tc:TE):TE:=fun σ H Q=>ta σ H fun x H1=>tb σ H1 fun y H2=>r x y H2 fun z H3=>∃ k,z=.bl k ∧
 (if k=true then tc σ H3 fun w' H4=>r' y w' H4 Q else Q (.bl false) H3)
theorem zf {op op':CmpOp} {r r':R2} (ho:OpR X (compareOp op) r) (ho':OpR X (compareOp op') r') (ha:PE X a ta) (hb:PE X b tb) (hc:PE X c tc)
  (hm:lastMarks [op,op'] [b,c]=false:=by with_unfolding_all rfl):PE X (.Compare a [op,op'] [b,c] pos) (mV r r' ta tb tc):=by
 intro pins s σ H Q I h
 refine Compare_chain (thn (ha pins s σ H _ I h) fun v s1 ⟨x,H1,I1,r1,q1⟩=>chain_link (thn (hb pins s1 σ H1 _ I1 q1) fun u s2 ⟨y,H2,I2,r2,q2⟩=>
  thn (ho pins s2 σ H2 x y v u _ I2 r1 r2 q2) fun d s3 ⟨z,H3,I3,r3,k,e,q3⟩=>?_)) hm
 subst e
 cases r3
 refine wpAny_truthy_bool ?_
 cases k with
 | false=>exact ite_ff ⟨.bl false,H3,I3,rfl,q3⟩
 | true=>exact ite_tt (chain_last (thn (hc pins s3 σ H3 _ I3 q3) fun w' s4 ⟨z',H4,I4,r4,q4⟩=>ho' pins s4 σ H4 y z' u w' Q I4 r2 r4 q4))
theorem yX {op op':CmpOp} {r r':R2} (ho:OpR X (compareOp op) r) (ho':OpR X (compareOp op') r') (ha:PE X a ta) (hb:PE X b tb) (hc:PE X c tc)
  (hm:lastMarks [op,op'] [b,c]=false:=by with_unfolding_all rfl):PT X (.Compare a [op,op'] [b,c] pos) (tU (mV r r' ta tb tc)):=by
 intro pins s σ H Q I h
 refine isTrue_chain (thn (ha pins s σ H _ I h) fun v s1 ⟨x,H1,I1,r1,q1⟩=>test_link (thn (hb pins s1 σ H1 _ I1 q1) fun u s2 ⟨y,H2,I2,r2,q2⟩=>
  thn (ho pins s2 σ H2 x y v u _ I2 r1 r2 q2) fun d s3 ⟨z,H3,I3,r3,k,e,q3⟩=>?_)) hm
 subst e
 cases r3
 refine wpAny_truthy_bool ?_
 cases k with
 | false=>
  obtain ⟨k',e',q'⟩:=q3
  cases e'
  exact ite_ff ⟨H3,I3,q'⟩
 | true=>
  refine ite_tt (test_last (thn (hc pins s3 σ H3 _ I3 q3) fun w' s4 ⟨z',H4,I4,r4,q4⟩=>thn (ho' pins s4 σ H4 y z' u w' _ I4 r2 r4 q4) fun d' s5 ⟨z2,H5,I5,r5,k2,e2,q5⟩=>?_))
  subst e2
  cases r5
  exact wpAny_truthy_bool ⟨H5,I5,q5⟩
def oE (K:Frag) (x:V) (H:Hp) (k:Bool):Prop:=
 match x with
 | .non=>k=false
 | .bl b=>k=b
 | .int i=>k=(i != 0)
 | .str y=>y.length≤sizeLine∧k=((y.length:Int) != 0)
 | .byt y=>y.size≤sizeLine∧k=((y.size:Int) != 0)
 | .ref p=>(∃ xs,SqL K H p xs∧k = !xs.isEmpty)∨(∃ xs,SqT K H p xs∧k = !xs.isEmpty)∨∃ kvs,H p=some (.dK kvs)∧k = !kvs.isEmpty
 | _=>False
theorem xH {κ:Type} {kvs:List (κ×V)} {vs:List (κ×Value)} (r:KV kvs vs):(!vs.isEmpty) = !kvs.isEmpty:=by cases r <;> rfl
theorem pq {xs:List V} {its:List Value} (r:Vals xs its):(!its.toArray.isEmpty) = !xs.isEmpty:=by cases r <;> simp
theorem gI:(sizeLine:Nat) < 2 ^ 63:=by rw [sizeLine_eq]; decide
theorem Br:EJ X (fun x H Q=>∃ k,oE X.K x H k∧Q k H):=by
 intro pins s σ H x v Q I rx h
 obtain ⟨k,e,q⟩:=h
 have hl:=gI
 have hs:sizeLine=16777216:=sizeLine_eq
 cases x with
 | non=>
  cases rx
  have e':k=false:=e
  subst e'
  exact truthy_none ⟨H,I,q⟩
 | bl b=>
  cases rx
  have e':k=b:=e
  subst e'
  exact wpAny_truthy_bool ⟨H,I,q⟩
 | int i=>
  obtain ⟨t,rfl⟩:=rx
  have e':k=(i != 0):=e
  subst e'
  exact PySem.P.truthy_int ⟨H,I,q⟩
 | str y=>
  obtain ⟨t,rfl⟩:=rx
  obtain ⟨hy,e'⟩:y.length≤sizeLine∧k=((y.length:Int) != 0):=e
  subst e'
  exact PySem.P.truthy_str (by omega) ⟨H,I.tok _,q⟩
 | byt y=>
  obtain ⟨t,rfl⟩:=rx
  obtain ⟨hy,e'⟩:y.size≤sizeLine∧k=((y.size:Int) != 0):=e
  subst e'
  exact PySem.W.truthy_bytes (by omega) ⟨H,I.tok _,q⟩
 | ref p=>
  cases rx
  have e':(∃ xs,SqL X.K H p xs∧k = !xs.isEmpty)∨(∃ xs,SqT X.K H p xs∧k = !xs.isEmpty)∨∃ kvs,H p=some (.dK kvs)∧k = !kvs.isEmpty:=e
  rcases e' with ⟨xs,hx,e'⟩ | ⟨xs,hx,e'⟩ | ⟨kvs,hx,e'⟩
  ·subst e'
   obtain ⟨its,r,pl,hz⟩:=I.list hx
   have hlen:=r.length
   exact wpAny_truthy_list pl.isList (by simp only [List.size_toArray]; omega) ⟨H,I.tok _,by rw [pq r]; exact q⟩
  ·subst e'
   obtain ⟨its,r,pl,hz⟩:=I.tuple hx
   have hlen:=r.length
   exact truthy_tuple pl (by simp only [List.size_toArray]; omega) ⟨H,I.tok _,by rw [pq r]; exact q⟩
  ·subst e'
   obtain ⟨hz,hS,vs,r,m⟩:kvs.length≤sizeLine∧(p == sysModules)=false∧∃ vs,KV kvs vs∧s.heap.DictOf (bh X.prog X.w) p vs:=I.hok p _ hx
   have hlen:kvs.length=vs.length:=Paired.length r
   exact wpAny_truthy_dict hS m (by omega) ⟨H,I.tok _,by rw [xH r]; exact q⟩
 | _=>exact (show False from e).elim
theorem yW (ha:PE X a ta) (he:∀ whole,isTrue a X.env whole=(do let v ← whole; standAt a.pos; holding [v] (truthy v))) :
  PT X a (fun σ H Q=>ta σ H fun x H'=>∃ k,oE X.K x H' k∧Q k H'):=by
 intro pins s σ H Q I h
 exact isTrue_plain (thn (ha pins s σ H _ I h) fun v s1 ⟨x,H1,I1,r1,q1⟩=>Br pins s1 σ H1 x v Q I1 r1 q1) (he _)
theorem op_add_str:OpR X (binaryOp .Add) (fun x y H Q=>∃ i j,x=.str i∧y=.str j∧i.length + j.length≤sizeLine∧Q (.str (i++j)) H):=by
 intro pins s σ H x y v u Q I rx ry h
 obtain ⟨i,j,rfl,rfl,hz,q⟩:=h
 obtain ⟨t,rfl⟩:=rx
 obtain ⟨t',rfl⟩:=ry
 exact add_str (fun t' tk=>⟨.str (i++j),H,I.tok _,⟨_,rfl⟩,q⟩) hz
theorem vals1 {x:V} {us:List Value} (r:Vals [x] us):∃ u,us=[u]∧RelV x u:=by
 cases r with
 | cons r1 r2=>cases r2; exact ⟨_,rfl,r1⟩
theorem vals2 {x y:V} {us:List Value} (r:Vals [x,y] us):∃ u w',us=[u,w']∧RelV x u∧RelV y w':=by
 cases r with
 | cons r1 r2=>
  cases r2 with
  | cons r3 r4=>cases r4; exact ⟨_,_,rfl,r1,r3⟩
theorem zU:CallR X (.builtin "abs") (fun xs H Q=>∃ i,xs=[.int i]∧Q (.int (if i < 0 then -i else i)) H):=by
 intro pins s σ H xs us Q I r h
 obtain ⟨i,rfl,q⟩:=h
 obtain ⟨u,rfl,t,rfl⟩:=vals1 r
 exact call_abs_int fun u tk=>⟨.int (if i < 0 then -i else i),H,I.tok _,⟨_,rfl⟩,q⟩
end
structure ObjM (h:Heap) (x dx C:Addr) (mA:Str→Option Value):Prop where
 obj:h.get? x=some (PySem.W.instObj C dx)
 ns:h.Ns1 dx mA
 ne:dx≠x
theorem yo {h:Heap} {dx:Addr} {mA:Str→Option Value} (n:h.Ns1 dx mA):∃ od,h.get? dx=some od∧∀ name,PySem.W.lookIn name od=some (mA name):=by
 obtain ⟨o,es,ep,ho,hd,hk,_,hm⟩:=n
 refine ⟨o,ho,fun name=>?_⟩
 have e:=hm name
 unfold nsFind findBy at e
 rw [← Array.find?_toList] at e
 unfold PySem.W.lookIn
 rw [hd]
 dsimp only
 split
 ·rename_i y q
  rw [q] at e
  exact congrArg some e
 ·rename_i q
  rw [q] at e
  have a:es.toList.any (·.refKey)=false:=by
   rw [List.any_eq_false]
   intro y hy
   obtain ⟨z,t,hkey⟩:=hk y (Array.mem_toList_iff.mp hy)
   simp [DictEntry.refKey,hkey]
  have a':¬ es.toList.any (·.refKey)=true:=by rw [a]; exact Bool.false_ne_true
  rw [if_neg a']
  exact congrArg some e
theorem ObjM.look {h:Heap} {x dx C:Addr} {mA:Str→Option Value} (I:ObjM h x dx C mA):∃ od,PySem.W.InstAt h x (PySem.W.instObj C dx) C (some od)∧∀ name,PySem.W.lookIn name od=some (mA name):=
 let ⟨od,ho,hl⟩:=yo I.ns
 ⟨od,⟨I.obj,rfl,rfl,ho⟩,hl⟩
section
variable {prog:Program} {w:World} {A:Around} {E:Value→Shared→Prop} {s:Shared} {K:Frag} {x dx C f:Addr} {mA:Str→Option Value} {name:Str} {v:Value}
end
theorem RelO.some_of {v:V} {o:Option Value} (r:RelO (some v) o):∃ u,o=some u∧RelV v u:=by
 cases o with
 | none=>exact (show False from r).elim
 | some u=>exact ⟨u,rfl,r⟩
theorem RelO.none_of {o:Option Value} (r:RelO none o):o=none:=by
 cases o with
 | none=>rfl
 | some u=>exact (show False from r).elim
section
variable {P:Program} {w:World} {H H':Hp} {h h':Heap} {a C dx:Addr} {fs fs':List (Str×V)}
theorem AX (hok:HOk P w H h) (e:H a=some (.ins C dx fs)):∃ mA,ObjM h a dx C mA∧(∀ f,RelO (fs.lookup f) (mA f))∧PySem.Within mA (fs.map (·.1))∧fs.length≤1000∧H dx=some (.own a):=by
 obtain ⟨d,z,ne,ob,mA,n,r,q⟩:=(show ObjOk P w H h a (.ins C dx fs) from hok a _ e)
 exact ⟨mA,⟨ob,n,ne⟩,r,q,z,d⟩
end
structure Cls (K:Frag) (C:Addr):Prop where
 pg:PySem.W.plainGet K C Str.empty=true
 hd:PySem.W.hasDictIn K C=true
 po:PySem.W.plainOver K C=true
 sa:PySem.W.findIn K (.ref C) "__setattr__" = some (some (.builtin "object.__setattr__"))
theorem Cls.get {K:Frag} {C:Addr} (c:Cls K C) (f:Str):PySem.W.plainGet K C f=true:=c.pg
structure Con (K:Frag) (C:Addr) (f:Str) (v:V) (u:Value):Prop where
 at_:PySem.W.findIn K (.ref C) f=some (some u)
 rel:RelV v u
 get:PySem.W.specialIn K u "__get__" = some none
 cp:PySem.W.copiedNames.contains f=false
structure Meth (K:Frag) (C:Addr) (m:Str) (f:Addr):Prop where
 at_:PySem.W.findIn K (.ref C) m=some (some (.ref f))
 fn:PySem.W.isFn K (.ref f)=true
 kp:PySem.W.keepIn K (.ref f)=true
section
variable {X:Cx} {pins:List (Addr×Obj)} {σ:St} {H:Hp} {s:Shared} {a C dx:Addr} {fs:List (Str×V)} {f:Str} {v:V} {A:Around} {E:Value→Shared→Prop}
end
section
variable {X:Cx} {o e value:Expr} {f:Str} {pos pos' tpos:Pos} {ta tv:TE}
end
section
variable {X:Cx} {pins:List (Addr×Obj)} {σ:St} {H:Hp} {s:Shared} {A:Around} {E:Value→Shared→Prop} {Q:Value→Shared→Prop} {c:Value} {b:Bool}
inductive TyOf (K:Frag) (H:Hp):V→Value→Prop where
 | non:TyOf K H .non (.type "NoneType")
 | bl (x:Bool):TyOf K H (.bl x) (.type "bool")
 | int (i:Int):TyOf K H (.int i) (.type "int")
 | str (x:Str):TyOf K H (.str x) (.type "str")
 | flt (x:UInt64):TyOf K H (.flt x) (.type "float")
 | lst {a:Addr} {xs:List V} (e:H a=some (.lst xs)):TyOf K H (.ref a) (.type "list")
 | frz {a:Addr} {o:Obj} {xs:List V} (e:H a=some (.frz o (.lst xs))):TyOf K H (.ref a) (.type "list")
 | tup {a:Addr} {xs:List V} (e:H a=some (.tup xs)):TyOf K H (.ref a) (.type "tuple")
 | dK {a:Addr} {kvs:List (Key×V)} (e:H a=some (.dK kvs)):TyOf K H (.ref a) (.type "dict")
 | dT {a:Addr} {kvs:List (List Key×V)} (e:H a=some (.dT kvs)):TyOf K H (.ref a) (.type "dict")
 | ins {a C dx:Addr} {fs:List (Str×V)} (e:H a=some (.ins C dx fs)) (cl:Cls K C) (ha:PySem.W.findIn K (.ref C) "__class__" = some (some (.builtin "object.__class__")))
   (hn:PySem.W.specialIn K (.builtin "object.__class__") "__get__" = some (some (.builtin "getset_descriptor.__get__"))) (htk:PySem.W.takesIn K (.builtin "object.__class__")=some true)
   (hm:PySem.W.mroIn K C (.type "object")=some true):TyOf K H (.ref a) (.ref C)
theorem jO {x:V} {u t:Value} (I:Inv X pins σ H s) (rx:RelV x u) (ty:TyOf X.K H x t) (e:PySem.W.kitOne X.K t c=some b) (h:∀ tk,Q (.bool b) { s with toks:=tk }) :
  wpAny (model X.prog X.w) A (call (.builtin "isinstance") [u,c]) Q E s:=by
 cases ty with
 | non=>cases (show u=Value.none from rx); exact PySem.W.kia_one PySem.W.kitx_none I.kIn True.intro e (fun z=>nomatch z) h
 | bl y=>cases (show u=Value.bool y from rx); exact PySem.W.kia_one PySem.W.kitx_bool I.kIn True.intro e (fun z=>nomatch z) h
 | int i=>obtain ⟨t,q⟩:=(show ∃ t,u=Value.int i t from rx); cases q; exact PySem.W.kia_one PySem.W.kitx_int I.kIn True.intro e (fun z=>nomatch z) h
 | str y=>obtain ⟨t,q⟩:=(show ∃ t,u=Value.str y t from rx); cases q; exact PySem.W.kia_one PySem.W.kitx_str I.kIn True.intro e (fun z=>nomatch z) h
 | flt y=>obtain ⟨t,q⟩:=(show ∃ t,u=Value.float y t from rx); cases q; exact PySem.W.kia_one PySem.W.kitx_float I.kIn True.intro e (fun z=>nomatch z) h
 | @lst a xs ea=>
  cases (show u=Value.ref a from rx)
  obtain ⟨_,_,n,_,h1⟩:=(show ObjOk X.prog X.w H s.heap a (.lst xs) from I.hok a _ ea)
  exact PySem.W.kia_one PySem.W.kitx_list I.kIn ⟨_,h1,rfl⟩ e (fun z=>nomatch z) h
 | @frz a ob xs ea=>
  cases (show u=Value.ref a from rx)
  obtain ⟨_,_,_,n,_,h1⟩:=(show ObjOk X.prog X.w H s.heap a (.frz ob (.lst xs)) from I.hok a _ ea)
  exact PySem.W.kia_one PySem.W.kitx_list I.kIn ⟨_,h1,rfl⟩ e (fun z=>nomatch z) h
 | @tup a xs ea=>
  cases (show u=Value.ref a from rx)
  obtain ⟨_,_,_,p⟩:=(show ObjOk X.prog X.w H s.heap a (.tup xs) from I.hok a _ ea)
  obtain ⟨o,h1,h2,_⟩:=p
  exact PySem.W.kia_one PySem.W.kitx_tuple I.kIn ⟨o,h1,h2⟩ e (fun z=>nomatch z) h
 | @dK a kvs ea=>
  cases (show u=Value.ref a from rx)
  obtain ⟨_,_,vs,_,p⟩:=(show ObjOk X.prog X.w H s.heap a (.dK kvs) from I.hok a _ ea)
  obtain ⟨o,es,ep,h1,h2,_⟩:=p
  exact PySem.W.kia_one PySem.W.kitx_dict I.kIn ⟨o,h1,h2.1⟩ e (fun z=>nomatch z) h
 | @dT a kvs ea=>
  cases (show u=Value.ref a from rx)
  obtain ⟨_,_,xs,_,o,es,ep,h1,h2,_⟩:=(show ObjOk X.prog X.w H s.heap a (.dT kvs) from I.hok a _ ea)
  exact PySem.W.kia_one PySem.W.kitx_dict I.kIn ⟨o,h1,h2.1⟩ e (fun z=>nomatch z) h
 | @ins a C dx fs ea cl ha hn htk hm=>
  cases (show u=Value.ref a from rx)
  obtain ⟨mA,O,_⟩:=AX I.hok ea
  obtain ⟨od,J,_⟩:=O.look
  exact PySem.W.kia_one (PySem.W.kitx_own (cl.get _) cl.hd ha hn htk hm) I.kIn J e (fun z=>nomatch z) h
end
structure Room (k:Nat) (A:Around):Prop where
 hd:A.handled=none
 dp:A.depth + 3 * k + 5 < recursionLimit
 un:A.units + 16 * k + 200 < cLine
 gd:A.guards=some []
theorem Room.mono {j k:Nat} {A:Around} (r:Room k A) (h:j≤k):Room j A:=⟨r.hd,by have:=r.dp; omega,by have:=r.un; omega,r.gd⟩
theorem Room.deeper {k:Nat} {A:Around} (r:Room (k + 1) A) (env:Env):Room k (A.deeper env):=⟨r.hd,by have:=r.dp; show A.depth + 1 + 3 * k + 5 < _; omega,by have:=r.un; show A.units + 3 + 16 * k + 200 < _; omega,r.gd⟩
theorem Room.depth {k:Nat} {A:Around} (r:Room k A):A.depth < recursionLimit:=by have:=r.dp; omega
def oj:TA:=fun _ H Q=>Q [] H
def nM (ta:TE) (tr:TA):TA:=fun σ H Q=>ta σ H fun x H1=>tr σ H1 fun xs H2=>Q (x::xs) H2
section
variable {X:Cx} {e:Expr} {es:List Expr} {te:TE} {t:TA} {pos:Pos}
theorem bx:PA X [] oj:=fun _ _ _ _ H Q I h=>Calls.spliced_nil ⟨[],H,I,.nil,h⟩
theorem aU (ha:PE X e te) (hr:PA X es t) (hs:starEach (e::es) X.env=(false,eval e X.env)::starEach es X.env:=by rfl):PA X (e::es) (nM te t):=by
 intro pos pins s σ H Q I h
 rw [hs]
 show wpAny _ _ (spliced ((false,eval e X.env)::backTo pos (starEach es X.env))) _ _ s
 refine Calls.spliced_cons (thn (ha pins s σ H _ I h) fun u s1 ⟨x,H1,I1,r1,q1⟩=>?_)
 exact thn (hr pos pins s1 σ H1 _ I1 q1) fun us s2 ⟨xs,H2,I2,r2,q2⟩=>⟨x::xs,H2,I2,.cons r1 r2,q2⟩
def Eg (t:TA):TE:=fun σ H Q=>t σ H fun xs H1=>xs.length≤sizeLine∧∀ p,H1 p=none→Q (.ref p) (upd H1 p (.tup xs))
def Em (t:TA):TE:=fun σ H Q=>t σ H fun xs H1=>xs.length≤sizeLine∧∀ p,H1 p=none→Q (.ref p) (upd H1 p (.lst xs))
theorem kB {x1} (h:PA X es t):PE X (.Tuple es x1 pos) (Eg t):=by
 intro pins s σ H Q I hq
 refine wpAny_Tuple_spliced (thn (h pos pins s σ H _ I hq) fun us s1 ⟨xs,H1,I1,r,z,q⟩=>⟨by rw [← r.length]; exact z,?_⟩)
 have hf:H1 s1.heap.objs.size=none:=I1.hok.fresh (Nat.le_refl _)
 refine ⟨.ref s1.heap.objs.size,upd H1 s1.heap.objs.size (.tup xs),I1.laid (t':=s1.toks) (fun b u e=>Heap.get?_push_of_some _ e) (Nat.le_refl _) ?_,rfl,q _ hf⟩
 exact ⟨z,us,r,⟨_,Heap.get?_push_size _ rfl,rfl,_,rfl⟩⟩
theorem i7 (h:PA X es t):PE X (.List es pos) (Em t):=by
 intro pins s σ H Q I hq
 refine wpAny_List_spliced (thn (h pos pins s σ H _ I hq) fun us s1 ⟨xs,H1,I1,r,z,q⟩=>⟨by rw [← r.length]; exact z,?_⟩)
 have hf:H1 s1.heap.objs.size=none:=I1.hok.fresh (Nat.le_refl _)
 refine ⟨.ref s1.heap.objs.size,upd H1 s1.heap.objs.size (.lst xs),I1.laid (t':=s1.toks) (fun b u e=>Heap.get?_push_of_some _ e) (Nat.le_refl _) ?_,rfl,q _ hf⟩
 exact ⟨z,us,0,r,Heap.get?_push_size _ rfl⟩
end
abbrev Sp:=List V→Hp→VK→XK→Prop
abbrev CXT:=List Env→Hp→Shared→XK→Value→Shared→Prop
structure Env0 (P:Program) (w:World) (K:Frag) (mg:Str→Option Value) (base:Heap) (A:Around) (outer:List Env) (s:Shared) (H:Hp):Prop where
 frames:A.frames=some outer
 mod:Mod K mg base
 bs:∀ b o,base.get? b=some o→s.heap.get? b=some o∧H b=none
 bsz:base.objs.size≤s.heap.objs.size
 funs:s.heap.FunFrames base outer
 frf:∀ b∈frs outer,H b=none
 hok:HOk P w H s.heap
 bare:AllBare s.gens
def CE (outer:List Env) (P:Program) (w:World) (H:Hp) (s:Shared) (Q:VK) (u:Value) (s':Shared):Prop:=∃ v H',s'.os=s.os∧AllBare s'.gens∧Un (frs outer) [] H H' s.heap s'.heap∧HOk P w H' s'.heap∧RelV v u∧Q v H'
def CR (CX:CXT) (outer:List Env) (P:Program) (w:World) (H:Hp) (s:Shared) (Q:VK) (E:XK) (r:Result) (s':Shared):Prop:=
 match r with
 | .ok (.ret u)=>CE outer P w H s Q u s'
 | .ok _=>False
 | .error e=>CX outer H s E e s'
structure FnOk (P:Program) (w:World) (K:Frag) (mg:Str→Option Value) (base:Heap) (CX:CXT) (k:Nat) (f:Addr) (fd:FuncData) (ps:List Str) (sp:Sp):Prop where
 len:∀ vs H Q E,sp vs H Q E→vs.length=ps.length
 run:∀ (A:Around) (outer:List Env) (s:Shared) (H:Hp) (args:Args) (us:List Value) (vs:List V) (Q:VK) (E:XK),Room k A→Env0 P w K mg base A outer s H→BindsTo s fd args (ps.zip us)→Vals vs us→sp vs H Q E →
  codeAny (model P w) A (.call (.ref f) args) (CR CX outer P w H s Q E) s
section
variable {X:Cx} {pins:List (Addr×Obj)} {σ:St} {H:Hp} {s s':Shared}
theorem Inv.env0 (I:Inv X pins σ H s):Env0 X.prog X.w X.K X.mg X.base X.A X.stack s H:=⟨I.ok.frames,I.ok.mod,I.bs,Nat.le_trans I.ok.bsz I.sz,I.stack,I.stkFree,I.hok,I.bare⟩
theorem Inv.after {Q:VK} {u:Value} (I:Inv X pins σ H s) (h:CE X.stack X.prog X.w H s Q u s'):EP X pins σ Q u s':=by
 obtain ⟨v,H',os,bare,un,hok,r,q⟩:=h
 obtain ⟨hh,g,d,t,os'⟩:=s'
 obtain rfl:os'=s.os:=os
 exact ⟨v,H',I.call (h':=hh) (g':=g) (d':=d) (t':=t) (ch:=[]) un hok bare (fun b z=>absurd z (by simp)),r,q⟩
end
def jh (sp:Sp) (dvs:List V) (E:XK) (t:TA):TE:=fun σ H Q=>t σ H fun vs H1=>sp (vs++dvs) H1 Q E
def Binds (K:Frag) (fd:FuncData) (ps:List Str) (ds:List Value):Prop:=∀ (s:Shared) (us:List Value),K.In s.heap→(us++ds).length=ps.length→BindsTo s fd ⟨us,[]⟩ (ps.zip (us++ds))
theorem Binds.all {K:Frag} {fd:FuncData} {ps:List Str} (h:∀ us:List Value,us.length=ps.length→bindArgs fd ⟨us,[]⟩=pure (ps.zip us)):Binds K fd ps []:=fun s us _ hl=>by
 rw [List.append_nil] at hl ⊢
 exact .of_eq (h us hl)
def iw (CX:CXT) (X:Cx) (E:XK):Prop:=∀ (pins:List (Addr×Obj)) (σ:St) (H:Hp) (s:Shared) (e:Value) (s':Shared),Inv X pins σ H s→CX X.stack H s E e s'→X.xe e s'
section
variable {X:Cx} {CX:CXT} {k:Nat} {f C:Addr} {fd:FuncData} {ps:List Str} {sp:Sp} {dvs:List V} {ds:List Value} {E:XK} {x m:Str} {p pos apos:Pos} {e o:Expr} {es:List Expr} {ta:TE} {t:TA}
theorem BB {pins:List (Addr×Obj)} {σ:St} {H:Hp} {s:Shared} {Q:VK} {us:List Value} {vs:List V} (F:FnOk X.prog X.w X.K X.mg X.base CX k f fd ps sp) (hr:Room k X.A) (hb:Binds X.K fd ps ds) (hd:Vals dvs ds) (hx:iw CX X E)
  (I:Inv X pins σ H s) (r:Vals vs us) (h:sp (vs++dvs) H Q E):wpAny (model X.prog X.w) X.A (call (.ref f) us) (EP X pins σ Q) X.xe s:=by
 have r2:Vals (vs++dvs) (us++ds):=r.append hd
 have hl:(us++ds).length=ps.length:=by rw [← r2.length]; exact F.len _ _ _ _ h
 refine wpAny_call (codeAny_mono (F.run X.A X.stack s H ⟨us,[]⟩ (us++ds) (vs++dvs) Q E hr I.env0 (hb s us I.kIn hl) r2 h) fun r s' hq=>?_)
 cases r with
 | error e=>exact hx pins σ H s e s' I hq
 | ok fl=>
  cases fl with
  | ret u=>exact I.after hq
  | next=>exact False.elim hq
  | brk=>exact False.elim hq
  | cont=>exact False.elim hq
theorem mE (F:FnOk X.prog X.w X.K X.mg X.base CX k f fd ps sp) (hr:Room k X.A) (hg:Gl X x) (hm:X.mg x=some (.ref f)) (hk:PySem.W.keepIn X.K (.ref f)=true) (hb:Binds X.K fd ps ds) (hd:Vals dvs ds) (hx:iw CX X E)
  (ha:PA X (e::es) t) (hdb:(x == ("__debug__" : Str))=false:=by decide) (he:starEach (e::es) X.env=(false,eval e X.env)::starEach es X.env:=by rfl) (hpl:(backTo pos (starEach es X.env)).any (·.1)=false:=by rfl) :
  PE X (.Call (.Name x p) (e::es) [] pos) (jh sp dvs E t):=by
 intro pins s σ H Q I h
 refine wpAny_Call_Name_kw (ic I hg hm ?_ hdb)
 refine PySem.W.callWith_K (h₀:=X.base) I.ok.mod.kin hk (thn (ha pos pins s σ H _ I h) fun us s1 ⟨vs,H1,I1,r,q⟩=>⟨I1.kIn,?_⟩) he hpl
 exact BB F hr hb hd hx I1 r q
structure Mk (K:Frag) (C f:Addr):Prop where
 makes:PySem.W.makesIn K C=true
 init:PySem.W.findIn K (.ref C) "__init__" = some (some (.ref f))
 fn:PySem.W.isFn K (.ref f)=true
 kp:PySem.W.keepIn K (.ref C)=true
end
section
variable {X:Cx} {CX:CXT} {k:Nat} {f C:Addr} {fd:FuncData} {ps ks:List Str} {sp:Sp} {E:XK} {x m:Str} {p pos apos kpos:Pos} {e o:Expr} {es:List Expr} {kws:List Keyword} {te ta:TE} {t tk:TA} {nm:Option Str}
structure KBinds (K:Frag) (fd:FuncData) (ps ks:List Str) (g:List Value→List Value→List Value) (gV:List V→List V→List V):Prop where
 to:∀ (s:Shared) (us ws:List Value),K.In s.heap→(g us ws).length=ps.length→BindsTo s fd ⟨us,ks.zip ws⟩ (ps.zip (g us ws))
 rel:∀ {vs:List V} {us:List Value} {zs:List V} {ws:List Value},Vals vs us→Vals zs ws→Vals (gV vs zs) (g us ws)
variable {g:List Value→List Value→List Value} {gV:List V→List V→List V}
end
structure FnScope (N P:List Str) (sc:Scope):Prop where
 kind:sc.kind=.function
 co:sc.isCoroutine=false
 gen:sc.isGenerator=false
 nd:N.Nodup
 pre:N.take P.length=P
 par:∀ x∈P,sc.names.lookup x=some .local∨sc.names.lookup x=some .cell
 nofree:∀ y∈sc.names,y.2≠.free
theorem qj {kindOf:Str→Option NameKind} {x:Str}:∀ {binds:List (Str×Value)} {m:Str→Option Value},(∀ v,(x,v)∉binds)→bindL kindOf binds m x=m x
 | [],_,_=>rfl
 | (n,v)::r,m,h=>by
  unfold bindL
  rw [qj fun w hw=>h w (List.mem_cons_of_mem _ hw)]
  split
  ·have:x≠n:=by rintro rfl; exact h v List.mem_cons_self
   simp [this]
  ·rfl
theorem ql {kindOf:Str→Option NameKind} {x:Str}:∀ {binds:List (Str×Value)} {m:Str→Option Value},(∀ v,(x,v)∉binds)→bindC kindOf binds m x=m x
 | [],_,_=>rfl
 | (n,v)::r,m,h=>by
  unfold bindC
  rw [ql fun w hw=>h w (List.mem_cons_of_mem _ hw)]
  split
  ·rfl
  ·have:x≠n:=by rintro rfl; exact h v List.mem_cons_self
   simp [this]
theorem qk {kindOf:Str→Option NameKind} {x:Str} {v:Value}:∀ {P:List Str} {vs:List Value} {i:Nat} {m:Str→Option Value},P.Nodup→P[i]? = some x→vs[i]? = some v→kindOf x=some .local →
  bindL kindOf (P.zip vs) m x=some v
 | [],_,_,_,_,h,_,_=>by simp at h
 | _::_,[],_,_,_,_,h,_=>by simp at h
 | p::P,w::vs,0,m,nd,h1,h2,hk=>by
  simp at h1 h2; subst h1; subst h2
  show bindL kindOf ((p,w)::P.zip vs) m p=_
  unfold bindL
  rw [qj fun v hv=>(List.nodup_cons.mp nd).1 (List.of_mem_zip hv).1,if_pos hk]
  simp
 | p::P,w::vs,i + 1,m,nd,h1,h2,hk=>by
  show bindL kindOf ((p,w)::P.zip vs) m x=_
  unfold bindL
  exact qk (i:=i) (List.nodup_cons.mp nd).2 (by simpa using h1) (by simpa using h2) hk
theorem qm {kindOf:Str→Option NameKind} {x:Str} {v:Value}:∀ {P:List Str} {vs:List Value} {i:Nat} {m:Str→Option Value},P.Nodup→P[i]? = some x→vs[i]? = some v→kindOf x≠some .local →
  bindC kindOf (P.zip vs) m x=some v
 | [],_,_,_,_,h,_,_=>by simp at h
 | _::_,[],_,_,_,_,h,_=>by simp at h
 | p::P,w::vs,0,m,nd,h1,h2,hk=>by
  simp at h1 h2; subst h1; subst h2
  show bindC kindOf ((p,w)::P.zip vs) m p=_
  unfold bindC
  rw [ql fun v hv=>(List.nodup_cons.mp nd).1 (List.of_mem_zip hv).1,if_neg hk]
  simp
 | p::P,w::vs,i + 1,m,nd,h1,h2,hk=>by
  show bindC kindOf ((p,w)::P.zip vs) m x=_
  unfold bindC
  exact qm (i:=i) (List.nodup_cons.mp nd).2 (by simpa using h1) (by simpa using h2) hk
def start (N:List Str) (vs:List V):St:=vs.map some++List.replicate (N.length - vs.length) none
def bM (CX:CXT) (P:Program) (w:World) (K:Frag) (mg:Str→Option Value) (base:Heap) (N:List Str) (qual:Str) (scope:Scope) (f:Addr) (cd:Value) (A:Around) (outer:List Env) (s:Shared) (H:Hp) (E:XK):Cx where
 prog:=P
 w:=w
 K:=K
 mg:=mg
 base:=base
 A:=A.deeper (envOfC qual scope s.heap.objs.size f cd)
 N:=N
 s₀:=s
 H₀:=H
 env:=envOfC qual scope s.heap.objs.size f cd
 outer:=outer
 stack:=envOfC qual scope s.heap.objs.size f cd::outer
 ex:=[]
 calm:=true
 fn:=fun _=>true
 pn:=[]
 xe:=fun e s'=>wpAny (model P w) (A.deeper (envOfC qual scope s.heap.objs.size f cd)) (leaving (envOfC qual scope s.heap.objs.size f cd) e) (fun _ s''=>CX outer H s E e s'') (fun e' s''=>CX outer H s E e' s'') s'
theorem rg {sc:Scope} {n:Nat} {x:Str} (h:sc.names.lookup x=some .cell):∃ c,(cellsFrom n sc.names []).lookup x=some c:=by
 have q:=PySem.W.cellsFrom_some sc.names n [] (.inl h)
 exact Option.isSome_iff_exists.mp q
theorem p7 {CX:CXT} {P:Program} {w:World} {K:Frag} {mg:Str→Option Value} {base:Heap} {N ps:List Str} {qual:Str} {scope:Scope} {f:Addr} {cd:Value} {A:Around} {outer:List Env} {s s1:Shared} {H:Hp} {E:XK} {us:List Value} {vs:List V}
  (S:FnScope N ps scope) (hd:A.handled=none) (e0:Env0 P w K mg base A outer s H) (hl:vs.length=ps.length) (r:Vals vs us)
  (x:InCallC s s.heap.objs.size (bindL (envOfC qual scope s.heap.objs.size f cd).kindOf (ps.zip us) fun _=>none) (cellsFrom (s.heap.objs.size + 1) scope.names []) (bindC (envOfC qual scope s.heap.objs.size f cd).kindOf (ps.zip us) fun _=>none) s1) :
  Inv (bM CX P w K mg base N qual scope f cd A outer s H E) [] (start N vs) H s1:=by
 have hpl:ps.length≤N.length:=by have:=congrArg List.length S.pre; rw [List.length_take] at this; omega
 obtain ⟨h1,tk,rfl,hk⟩:=x.done
 have noA:∀ b:Addr,b∉(bM CX P w K mg base N qual scope f cd A outer s H E).ex:=fun b z=>absurd (show b∈([]:List Addr) from z) (by simp)
 refine ⟨⟨e0.mod,S.kind,rfl,rfl,Nat.le_refl _,fun y z c h1 h2=>?_,fun y hy=>?_,fun y c _ h=>?_,fun _=>hd,Around.frames_deeper e0.frames,.inr ⟨rfl,rfl⟩,fun b z=>absurd z (noA b),e0.bs,e0.bsz,fun b _ _=>noA b,fun b z=>absurd z (noA b),e0.funs,e0.frf⟩,
  rfl,e0.bare,Un.kept hk,⟨_,x.toInCall.ns,fun i y v h1 h2 h3=>?_⟩,fun y c h=>⟨_,x.cell y c h⟩,e0.hok.fresh (Nat.le_refl _),fun y c h=>?_,fun p hp=>absurd (show p∈([]:List (Addr×Obj)) from hp) (by simp),e0.hok.kept hk,?_⟩
 ·exact name_of_addr x.apart (PySem.mem_of_lookup h1) (PySem.mem_of_lookup h2)
 ·have hy:scope.names.lookup y=some .cell∨scope.names.lookup y=some .free:=hy
  rcases hy with hy | hy
  ·exact rg hy
  ·exact absurd rfl (S.nofree _ (PySem.mem_of_lookup hy))
 ·exact Nat.le_of_lt (x.above y c (PySem.mem_of_lookup h))
 ·have hi:i < vs.length:=by
   unfold start at h2
   by_cases hi:i < vs.length
   ·exact hi
   ·rw [List.getElem?_append_right (by simpa using hi)] at h2
    rw [List.getElem?_replicate] at h2
    split at h2 <;> cases h2
  have ha:vs[i]? = some v:=by
   unfold start at h2
   rw [List.getElem?_append_left (by simpa using hi),List.getElem?_map] at h2
   cases e:vs[i]? with
   | none=>rw [e] at h2; cases h2
   | some a=>rw [e] at h2; cases h2; rfl
  obtain ⟨u,hu,rv⟩:=r.get ha
  have hp:ps[i]? = some y:=by
   rw [← S.pre,List.getElem?_take_of_lt (by omega)]; exact h1
  have ndP:ps.Nodup:=by rw [← S.pre]; exact S.nd.sublist (List.take_sublist _ _)
  refine ⟨u,rv,?_⟩
  rcases S.par y (List.mem_of_getElem? hp) with k | k
  ·exact .inl ⟨k,qk ndP hp hu k⟩
  ·obtain ⟨c,e⟩:=rg (n:=s.heap.objs.size + 1) k
   refine .inr ⟨.inl k,c,e,?_⟩
   have q:=x.cell y c e
   rw [qm ndP hp hu (by show scope.names.lookup y≠_; rw [k]; decide)] at q
   exact q
 ·exact e0.hok.fresh (Nat.le_of_lt (x.above y c (PySem.mem_of_lookup h)))
 ·unfold start
  show _=N.length
  rw [List.length_append,List.length_map,List.length_replicate]
  omega
theorem ur {CX:CXT} {P:Program} {w:World} {K:Frag} {mg:Str→Option Value} {base:Heap} {k:Nat} {f:Addr} {name qual:Str} {params:Arguments} {body:List Stmt} {scope:Scope} {dV kV doc pm cdv ct oc:Value} {an od:Option Addr}
  {osl:Array (Option Value)} {N ps:List Str} {sp:Sp} (lk:K.lookup f=some ⟨oc,od,.func (PySem.W.fnOf name qual params body scope dV kV doc pm an cdv ct),osl⟩) (hcd:PySem.W.codeIn K cdv qual=true) (S:FnScope N ps scope)
  (len:∀ vs H Q E,sp vs H Q E→vs.length=ps.length)
  (hbody:∀ (A:Around) (outer:List Env) (s:Shared) (H:Hp) (vs:List V) (Q:VK) (E:XK),Room k (A.deeper (envOfC qual scope s.heap.objs.size f cdv))→sp vs H Q E →
   ∃ t,PSs (bM CX P w K mg base N qual scope f cdv A outer s H E) body t∧t { nx:=fun _ H'=>Q .non H',rt:=Q } (start N vs) H) :
  FnOk P w K mg base CX (k + 1) f (PySem.W.fnOf name qual params body scope dV kV doc pm an cdv ct) ps sp:=by
 refine ⟨len,fun A outer s H args us vs Q E hr e0 hb r hsp=>?_⟩
 have hl:=len _ _ _ _ hsp
 have KX:K.In s.heap:=e0.mod.kin.keeps fun b o e=>(e0.bs b o e).1
 have lim:s.heap.NoLimit:=e0.mod.nolimit.keeps fun b o e=>(e0.bs b o e).1
 have hkind:∀ y∈ps.zip us,scope.names.lookup y.1=some .local∨(scope.names.lookup y.1=some .cell∧((cellsFrom (s.heap.objs.size + 1) scope.names []).lookup y.1).isSome=true):=fun ⟨n,v⟩ hy=>by
  rcases S.par n (List.of_mem_zip hy).1 with q | q
  ·exact .inl q
  ·exact .inr ⟨q,PySem.W.cellsFrom_some _ _ _ (.inl q)⟩
 refine codeAny_call_function hr.depth (KX _ _ lk) rfl S.co S.gen rfl (PySem.W.codeRec_of KX hcd) (hb _ _ _ _ ?_)
 refine wpAny_newFunctionEnv_cells S.kind hkind fun env he s1 x=>?_
 subst he
 refine ⟨lim.keeps x.toInCall.keep,codeAny_func ?_⟩
 obtain ⟨t,ht,hq⟩:=hbody A outer s H vs Q E (hr.deeper _) hsp
 have I:Inv (bM CX P w K mg base N qual scope f cdv A outer s H E) [] (start N vs) H s1:=p7 S hr.hd e0 hl r x
 refine wpAny_mono (ht [] s1 (start N vs) H _ I hq) (fun fl s' hs=>?_) fun e s' hs=>hs
 have fin:∀ {σ':St} {H':Hp} {v:V} {u:Value},Inv (bM CX P w K mg base N qual scope f cdv A outer s H E) [] σ' H' s'→RelV v u→Q v H'→CE outer P w H s Q u s':=
  fun {σ' H' v u} J rv q=>⟨v,H',J.os,J.bare,J.base,J.hok,rv,q⟩
 cases fl with
 | ret u=>
  obtain ⟨v,σ',H',J,rv,q⟩:=hs
  exact fin J rv q
 | next=>
  obtain ⟨σ',H',J,q⟩:=hs
  exact fin (v:=V.non) (u:=Value.none) J rfl q
 | brk=>
  obtain ⟨_,_,_,q⟩:=hs
  exact False.elim q
 | cont=>
  obtain ⟨_,_,_,q⟩:=hs
  exact False.elim q
section
variable {X:Cx} {x:Str} {p pos:Pos} {e:Expr} {es:List Expr} {t:TA} {id T:String} {r:List V→Hp→VK→Prop}
def tCB (r:List V→Hp→VK→Prop) (t:TA):TE:=fun σ H Q=>t σ H fun vs H1=>r vs H1 Q
theorem hV (hc:CallR X (.builtin id) r) (hg:Gl X x) (hm:X.mg x=none) (hv:bootBuiltins x=some (.builtin id)) (ha:PA X (e::es) t) (hn:x≠"__name__":=by decide) (hdb:(x == ("__debug__" : Str))=false:=by decide)
  (he:starEach (e::es) X.env=(false,eval e X.env)::starEach es X.env:=by rfl) (hpl:(backTo pos (starEach es X.env)).any (·.1)=false:=by rfl):PE X (.Call (.Name x p) (e::es) [] pos) (tCB r t):=by
 intro pins s σ H Q I h
 refine wpAny_Call_Name_kw (kI I hg hm hv ?_ hn hdb)
 exact PyProof.Rows.callWith_builtin1 (thn (ha pos pins s σ H _ I h) fun us s1 ⟨vs,H1,I1,r1,q1⟩=>hc pins s1 σ H1 vs us Q I1 r1 q1) he hpl
theorem jN (hc:CallR X (.type T) r) (hg:Gl X x) (hm:X.mg x=none) (hv:bootBuiltins x=some (.type T)) (ha:PA X (e::es) t) (hn:x≠"__name__":=by decide) (hdb:(x == ("__debug__" : Str))=false:=by decide)
  (he:starEach (e::es) X.env=(false,eval e X.env)::starEach es X.env:=by rfl) (hpl:(backTo pos (starEach es X.env)).any (·.1)=false:=by rfl):PE X (.Call (.Name x p) (e::es) [] pos) (tCB r t):=by
 intro pins s σ H Q I h
 refine wpAny_Call_Name_kw (kI I hg hm hv ?_ hn hdb)
 exact PyProof.Rows.callWith_type1 (thn (ha pos pins s σ H _ I h) fun us s1 ⟨vs,H1,I1,r1,q1⟩=>hc pins s1 σ H1 vs us Q I1 r1 q1) he hpl
end
end L2
namespace HT
open PySem PyProof.Rows
section
open PySem.SeqAt
open PySem.AutoSeq1 (wpAny_loadPart')
open PySem.MeetsSeq PySem.MeetsSeq2 PySem.MeetsSeq3
end
section
variable {prog:Program} {w:World} {A:Around} {E:Value→Shared→Prop} {s:Shared}
theorem Bc {t b:Addr} {vs ws:List Value} {Q:Value→Shared→Prop} (ht:IsTup s.heap t vs.toArray) (hb:IsTup s.heap b ws.toArray) (hv:vs≠[])
  (h1:ws=[]→Q (.ref t) s) (h2:ws≠[]→Q (.ref s.heap.objs.size) { s with heap:=s.heap.push { cls:=.type "tuple",data:=.seq (vs++ws).toArray } })
  (hsz:vs.length + ws.length≤sizeLine):wpAny (model prog w) A (binaryOp .Add (.ref t) (.ref b)) Q E s:=by
 obtain ⟨⟨cls,dd,data,sl⟩,ho,hc,n,hd⟩:=id ht
 obtain ⟨⟨cls2,dd2,data2,sl2⟩,ho2,hc2,n2,hd2⟩:=id hb
 simp only at hc hd hc2 hd2
 subst hc hd hc2 hd2
 have e:vs.toArray++ws.toArray=(vs++ws).toArray:=by simp
 by_cases hw:ws=[]
 ·exact concat_meets ⟨_,ho,rfl⟩ ⟨_,ho2,rfl⟩ noFill_tuple_add seq_tuple_add PySem.F.slot_tuple_add PySem.F.entry_tuple_add (PySem.F.args_tuple_add_2 _ _)
   (tuple_addW1 t b vs.toArray ws.toArray n n2 dd dd2 sl sl2 (by simpa using hv) (by simp [hw])) ⟨ho,ho2,h1 hw⟩
 ·refine concat_meets ⟨_,ho,rfl⟩ ⟨_,ho2,rfl⟩ noFill_tuple_add seq_tuple_add PySem.F.slot_tuple_add PySem.F.entry_tuple_add (PySem.F.args_tuple_add_2 _ _)
   (tuple_addW2 t b vs.toArray ws.toArray n n2 dd dd2 sl sl2 (by simpa using hv) (by simpa using hw) (by rw [List.size_toArray,List.size_toArray]; exact hsz)) ⟨ho,ho2,?_⟩
  rw [e]
  exact h2 hw
def sIx (n d:Nat):Option Int→Nat
 | none=>d
 | some v=>if v < 0 then (v + (n:Int)).toNat else min v.toNat n
theorem qz (n d:Nat):sIx n d none=d:=rfl
theorem rD (n d k:Nat):sIx n d (some (k:Int))=min k n:=by
 show (if (k:Int) < 0 then ((k:Int) + (n:Int)).toNat else min (k:Int).toNat n)=min k n
 rw [if_neg (by omega),Int.toNat_natCast]
theorem BA (n d:Nat) (hd:d≤n) (o:Option Int):sIx n d o≤n:=by
 cases o with
 | none=>exact hd
 | some v=>
  show (if v < 0 then (v + (n:Int)).toNat else min v.toNat n)≤n
  by_cases hv:v < 0
  ·rw [if_pos hv]; omega
  ·rw [if_neg hv]; exact Nat.min_le_right _ _
theorem sI (v:Int) (n d:Nat):(if v < 0 then max (v + (n:Int)) 0 else min v (n:Int))=((sIx n d (some v):Nat):Int):=by
 show (if v < 0 then max (v + (n:Int)) 0 else min v (n:Int))=(((if v < 0 then (v + (n:Int)).toNat else min v.toNat n):Nat):Int)
 by_cases hv:v < 0
 ·simp only [if_pos hv]; omega
 ·simp only [if_neg hv]; omega
theorem xU (lo hi:Option Int) (n:Nat):Builtin.Slice.sliceAdjust lo hi 1 (n:Int)=(((sIx n 0 lo:Nat):Int),((sIx n n hi:Nat):Int)):=by
 have h1:¬ ((1:Int) < 0):=by omega
 unfold Builtin.Slice.sliceAdjust
 simp only [h1,if_false]
 refine Prod.ext ?_ ?_
 ·cases lo with
  | none=>rfl
  | some v=>exact sI v n 0
 ·cases hi with
  | none=>rfl
  | some v=>exact sI v n n
theorem xj (i j:Nat):Builtin.Slice.slicePlaces (i:Int) (j:Int) 1=j - i:=by
 unfold Builtin.Slice.slicePlaces
 have h1:(1:Int) > 0:=by omega
 simp only [h1,if_true,Int.ediv_one]
 split <;> omega
theorem o9 {v:Value} {o:Option Int} {Q:Option Int→Shared→Prop} (p:IsPart v o) (h:Q o s):wpAny (model prog w) A (Builtin.Slice.slicePartIndex v) Q E s:=by
 cases p with
 | none=>exact slicePart_none h
 | int i t=>exact slicePart_int h
theorem oK {sl:Addr} {vl vu:Value} {lo hi:Option Int} {n:Nat} {Q:Int×Int×Nat→Shared→Prop} (hs:s.heap.IsSliceOf sl vl vu .none) (pl:IsPart vl lo) (pu:IsPart vu hi)
  (h:Q (((sIx n 0 lo:Nat):Int),1,sIx n n hi - sIx n 0 lo) s):wpAny (model prog w) A (Builtin.Slice.sliceApplied (.ref sl) (pure (n:Int))) Q E s:=by
 obtain ⟨os,hos,hcs,hds⟩:=id hs
 unfold Builtin.Slice.sliceApplied Builtin.Slice.sliceFields
 refine wpAny_bind (wpAny_bind (wpAny_field hos hds (x:=vl) rfl (wpAny_bind (wpAny_field hos hds (x:=vu) rfl (wpAny_bind (wpAny_field hos hds (x:=.none) rfl (wpAny_pure ?_)))))))
 refine wpAny_bind (slicePart_none ?_)
 show wpAny _ _ (if ((1:Int) == 0)=true then _ else _) _ _ s
 rw [if_neg (by decide)]
 refine wpAny_bind (o9 pl (wpAny_bind (o9 pu (wpAny_bind (wpAny_pure ?_)))))
 show wpAny _ _ (match Builtin.Slice.sliceAdjust lo hi 1 (n:Int) with | (lo,hi)=>pure (lo,(1:Int),Builtin.Slice.slicePlaces lo hi 1)) _ _ s
 rw [xU lo hi n]
 show wpAny _ _ (pure (((sIx n 0 lo:Nat):Int),(1:Int),Builtin.Slice.slicePlaces ((sIx n 0 lo:Nat):Int) ((sIx n n hi:Nat):Int) 1)) _ _ s
 rw [xj]
 exact wpAny_pure h
theorem y9 (xs:Array Value) (i k:Nat):((List.range k).filterMap fun (m:Nat)=>xs[((i:Int) + (m:Int) * 1).toNat]?).toArray=((xs.toList.drop i).take k).toArray:=by
 have e:(fun (m:Nat)=>xs[((i:Int) + (m:Int) * 1).toNat]?)=fun m=>xs[i + m]?:=by
  funext m
  have:((i:Int) + (m:Int) * 1).toNat=i + m:=by omega
  rw [this]
 rw [e]
 have:=pick_run xs i k
 rw [List.filterMap_map] at this
 have e2:((fun x=>xs[x]?) ∘ fun x=>i + x)=fun m=>xs[i + m]?:=rfl
 rw [e2] at this
 rw [this]
theorem vx {t sl:Addr} {items:Array Value} {vl vu:Value} {lo hi:Option Int} {Q:Value→Shared→Prop} (ht:IsTup s.heap t items) (hs:s.heap.IsSliceOf sl vl vu .none) (pl:IsPart vl lo) (pu:IsPart vu hi)
  (hw:¬ (sIx items.size 0 lo=0∧sIx items.size items.size hi=items.size))
  (h:Q (.ref s.heap.objs.size) { s with heap:=s.heap.push { cls:=.type "tuple",data:=.seq ((items.toList.drop (sIx items.size 0 lo)).take (sIx items.size items.size hi - sIx items.size 0 lo)).toArray } })
  (hsz:items.size≤sizeLine):wpAny (model prog w) A (getItem (.ref t) (.ref sl)) Q E s:=by
 have htake:sizeOk (.seq ((items.toList.drop (sIx items.size 0 lo)).take (sIx items.size items.size hi - sIx items.size 0 lo)).toArray):=by
  show ((items.toList.drop (sIx items.size 0 lo)).take (sIx items.size items.size hi - sIx items.size 0 lo)).toArray.size≤sizeLine
  rw [List.size_toArray,List.length_take,List.length_drop,Array.length_toList]
  omega
 have hj:sIx items.size items.size hi≤items.size:=BA _ _ (Nat.le_refl _) hi
 obtain ⟨os,hos,hcs,hds⟩:=id hs
 have hTs:s.TypeIs (.ref sl) "slice":=⟨os,hos,hcs⟩
 unfold getItem
 try with_reducible refine wpAny_holding ?_
 first | refine wpAny_bind (wpAny_pure ?_) | skip
 refine wpAny_bind (wpAny_sequenceKey ht.typeIs (by decide) ?_)
 refine wpAny_bind (wpAny_callSpecial?_slot (name:=Str.ofString "__getitem__") ht.typeIs PyProof.Rows.slot_tuple_getitem
  (wpAny_call_entry PyProof.Rows.slot_tuple_getitem ht.typeIs entry_tuple_getitem ?_ (args_tuple_getitem _ _)))
 show wpAny _ _ (Builtin.Tuple.tupleItemsOf (.ref t) >>= _) _ _ s
 refine wpAny_bind (tupleItemsOf_ ht ?_)
 refine wpAny_bind (wpAny_typeOf hTs ?_)
 rw [if_pos (by decide)]
 refine wpAny_bind (oK hs pl pu ?_)
 have hno:¬ ((((sIx items.size 0 lo:Nat):Int) == 0 && (1:Int) == 1 && (sIx items.size items.size hi - sIx items.size 0 lo) == items.size)=true):=by
  intro q
  rw [Bool.and_eq_true,Bool.and_eq_true] at q
  have q1:((sIx items.size 0 lo:Nat):Int)=0:=eq_of_beq q.1.1
  have q2:sIx items.size items.size hi - sIx items.size 0 lo=items.size:=eq_of_beq q.2
  exact hw ⟨by omega,by omega⟩
 show wpAny _ _ (if (((sIx items.size 0 lo:Nat):Int) == 0 && (1:Int) == 1 && (sIx items.size items.size hi - sIx items.size 0 lo) == items.size)=true then _ else _) _ _ s
 rw [if_neg hno,y9]
 first
  | exact wpAny_bind (m:=Builtin.Tuple.tupleExact _) (wpAny_newObj_type (wpAny_pure ⟨_,rfl,wpAny_pure h⟩) htake)
  | exact wpAny_bind (m:=Builtin.Tuple.tupleExact _) (wpAny_newObj_type (wpAny_bind (wpAny_pure (wpAny_pure ⟨_,rfl,wpAny_pure h⟩))) htake)
  | exact wpAny_bind (wpAny_bind (m:=Builtin.Tuple.tupleExact _) (wpAny_newObj_type (wpAny_pure (wpAny_pure ⟨_,rfl,wpAny_pure h⟩)) htake))
  | exact wpAny_bind (wpAny_bind (m:=Builtin.Tuple.tupleExact _) (wpAny_newObj_type (wpAny_pure ⟨_,rfl,wpAny_pure h⟩) htake))
end
end HT
namespace L2
open PySem PySem.Spec PyProof.Rows
abbrev TO:=St→Hp→(Option Int→Hp→Prop)→Prop
def PO (X:Cx) (e:Option Expr) (t:TO):Prop:=
 ∀ (pins:List (Addr×Obj)) (s:Shared) (σ:St) (H:Hp) (Q:Option Int→Hp→Prop),Inv X pins σ H s→t σ H Q →
  wpAny (model X.prog X.w) X.A (evalPart e X.env) (fun u s'=>∃ o H',Inv X pins σ H' s'∧IsPart u o∧Q o H') X.xe s
def Ac:TO:=fun _ H Q=>Q none H
def CN (t:TE):TO:=fun σ H Q=>t σ H fun x H1=>∃ i,x=.int i∧Q (some i) H1
section
variable {X:Cx} {e:Expr} {te:TE} {lo hi:Option Expr} {tl th:TO} {pos p2:Pos}
theorem Ar:PO X none Ac:=by
 intro pins s σ H Q I h
 rw [evalPart_none]
 exact wpAny_pure ⟨none,H,I,.none,h⟩
theorem Aq (h:PE X e te):PO X (some e) (CN te):=by
 intro pins s σ H Q I hw
 rw [evalPart_some]
 refine thn (h pins s σ H _ I hw) fun u s1 ⟨x,H1,I1,r1,q1⟩=>?_
 obtain ⟨i,rfl,q⟩:=q1
 obtain ⟨t,rfl⟩:=r1
 exact ⟨some i,H1,I1,.int i t,q⟩
def SlR (X:Cx) (r:V→Option Int→Option Int→Hp→VK→Prop):Prop:=
 ∀ (pins:List (Addr×Obj)) (s:Shared) (σ:St) (H:Hp) (x:V) (v vl vu:Value) (lo hi:Option Int) (sl:Addr) (Q:VK),Inv X pins σ H s→RelV x v→s.heap.IsSliceOf sl vl vu .none→IsPart vl lo→IsPart vu hi→r x lo hi H Q →
  ∃ T id,typeLookup (.type T) "__getitem__" = pure (some (.builtin id))∧s.TypeIs v T∧wpAny (model X.prog X.w) X.A (getItem v (.ref sl)) (EP X pins σ Q) X.xe s
theorem SlR.or {r r':V→Option Int→Option Int→Hp→VK→Prop} (h:SlR X r) (h':SlR X r'):SlR X (fun x lo hi H Q=>r x lo hi H Q∨r' x lo hi H Q):=by
 intro pins s σ H x v vl vu lo hi sl Q I rx hs pl pu q
 rcases q with q | q
 ·exact h pins s σ H x v vl vu lo hi sl Q I rx hs pl pu q
 ·exact h' pins s σ H x v vl vu lo hi sl Q I rx hs pl pu q
def tSl (r:V→Option Int→Option Int→Hp→VK→Prop) (te:TE) (tl th:TO):TE:=fun σ H Q=>te σ H fun x H1=>tl σ H1 fun l H2=>th σ H2 fun u H3=>r x l u H3 Q
theorem zc {r:V→Option Int→Option Int→Hp→VK→Prop} (hr:SlR X r) (he:PE X e te) (hl:PO X lo tl) (hu:PO X hi th):PE X (.Subscript e (.Slice lo hi none p2) pos) (tSl r te tl th):=by
 intro pins s σ H Q I h
 refine Subscript_ (thn (he pins s σ H _ I h) fun v s1 ⟨x,H1,I1,r1,q1⟩=>?_)
 refine wpAny_Slice (thn (hl pins s1 σ H1 _ I1 q1) fun vl s2 ⟨l,H2,I2,pl,q2⟩=>thn (hu pins s2 σ H2 _ I2 q2) fun vu s3 ⟨u,H3,I3,pu,q3⟩=>?_)
 rw [evalPart_none]
 refine wpAny_pure ?_
 have I4:Inv X pins σ H3 { s3 with heap:=s3.heap.push { cls:=.type "slice",data:=.fields #[vl,vu,.none] } }:=I3.kept (t':=s3.toks) fun b ob q=>Heap.get?_push_of_some _ q
 obtain ⟨T,id,hT,ht,hg⟩:=hr pins { s3 with heap:=s3.heap.push { cls:=.type "slice",data:=.fields #[vl,vu,.none] } } σ H3 x v vl vu l u s3.heap.objs.size Q I4 r1 (Heap.IsSliceOf.new ..) pl pu q3
 show wpAny (model X.prog X.w) X.A (subscriptTail e (.Slice lo hi none p2) v (.ref s3.heap.objs.size)) (EP X pins σ Q) X.xe { s3 with heap:=s3.heap.push { cls:=.type "slice",data:=.fields #[vl,vu,.none] } }
 exact tail_any (ops:=[.ref s3.heap.objs.size,v]) ht hT hg (by with_unfolding_all rfl)
def fK (xs:List V) (lo hi:Option Int):List V:=(xs.drop (HT.sIx xs.length 0 lo)).take (HT.sIx xs.length xs.length hi - HT.sIx xs.length 0 lo)
theorem oX (xs:List V) (lo hi:Option Int):(fK xs lo hi).length≤xs.length:=by
 unfold fK
 rw [List.length_take,List.length_drop]
 omega
def Es (K:Frag):V→Option Int→Option Int→Hp→VK→Prop:=fun x lo hi H Q=>∃ a xs,x=.ref a∧SqT K H a xs ∧
 ¬ (HT.sIx xs.length 0 lo=0∧HT.sIx xs.length xs.length hi=xs.length)∧∀ p,H p=none→Q (.ref p) (upd H p (.tup (fK xs lo hi)))
theorem By:SlR X (Es X.K):=by
 intro pins s σ H x v vl vu lo hi sl Q I rx hs pl pu h
 obtain ⟨a,xs,rfl,hx,hw,q⟩:=h
 cases rx
 obtain ⟨its,r,ht,hz⟩:=I.tuple hx
 have hlen:its.toArray.size=xs.length:=by rw [List.size_toArray]; exact r.length.symm
 refine ⟨"tuple",_,PyProof.Rows.slot_tuple_getitem.lookup,ht.typeIs,?_⟩
 refine HT.vx ht hs pl pu (by rw [hlen]; exact hw) ?_ (by rw [hlen]; exact hz)
 rw [hlen]
 refine ⟨.ref s.heap.objs.size,_,I.laid (t':=s.toks) (o:=.tup (fK xs lo hi)) (fun b ob q=>Heap.get?_push_of_some _ q) (Nat.le_refl _) ?_,rfl,q _ (I.hok.fresh (Nat.le_refl _))⟩
 exact ⟨Nat.le_trans (oX xs lo hi) hz,_,(r.drop (HT.sIx xs.length 0 lo)).take (HT.sIx xs.length xs.length hi - HT.sIx xs.length 0 lo),IsTup.new _ _⟩
def C1 (K:Frag):R2:=fun x y H Q=>∃ a b xs ys,x=.ref a∧y=.ref b∧SqT K H a xs∧SqT K H b ys∧xs≠[]∧xs.length + ys.length≤sizeLine ∧
 (ys=[]→Q (.ref a) H)∧(ys≠[]→∀ p,H p=none→Q (.ref p) (upd H p (.tup (xs++ys))))
theorem Vals.nil_iff {xs:List V} {us:List Value} (r:Vals xs us):us=[]↔xs=[]:=by
 cases r with
 | nil=>simp
 | cons _ _=>simp
theorem AD:OpR X (binaryOp .Add) (C1 X.K):=by
 intro pins s σ H x y v u Q I rx ry h
 obtain ⟨a,b,xs,ys,rfl,rfl,ha,hb,hx,hz,q1,q2⟩:=h
 cases rx
 cases ry
 obtain ⟨its,r1,p1,_⟩:=I.tuple ha
 obtain ⟨its2,r2,p2,_⟩:=I.tuple hb
 refine HT.Bc p1 p2 (fun z=>hx (r1.nil_iff.mp z)) (fun z=>⟨.ref a,H,I,rfl,q1 (r2.nil_iff.mp z)⟩) (fun z=>?_) (by rw [← r1.length,← r2.length]; exact hz)
 refine ⟨.ref s.heap.objs.size,_,I.laid (t':=s.toks) (o:=.tup (xs++ys)) (fun b ob q=>Heap.get?_push_of_some _ q) (Nat.le_refl _) ?_,rfl,q2 (fun w=>z (r2.nil_iff.mpr w)) _ (I.hok.fresh (Nat.le_refl _))⟩
 exact ⟨by rw [List.length_append]; exact hz,_,r1.append r2,IsTup.new _ _⟩
end
def ixN (n:Nat) (i:Int):Option Nat:=if 0≤i then (if i < n then some i.toNat else none) else if -(n:Int)≤i then some (i + n).toNat else none
def atI {α:Type} (xs:List α) (i:Int):Option α:=(ixN xs.length i).bind fun j=>xs[j]?
theorem rV {n:Nat} {i:Int} {j:Nat} (h:ixN n i=some j):seqIndex? i n=some j∧j < n∧-(n:Int)≤i∧i < n:=by
 unfold ixN at h
 by_cases h0:0≤i
 ·rw [if_pos h0] at h
  by_cases h1:i < n
  ·rw [if_pos h1] at h
   have e:i.toNat=j:=Option.some.inj h
   exact ⟨by rw [seqIndex_of h0 h1,e],by omega,by omega,h1⟩
  ·rw [if_neg h1] at h; cases h
 ·rw [if_neg h0] at h
  by_cases h1 : -(n:Int)≤i
  ·rw [if_pos h1] at h
   have e:(i + n).toNat=j:=Option.some.inj h
   exact ⟨by rw [seqIndex_neg (by omega) h1,e],by omega,h1,by omega⟩
  ·rw [if_neg h1] at h; cases h
theorem mQ {α:Type} {xs:List α} {i:Int} {v:α} (h:atI xs i=some v):∃ j,seqIndex? i xs.length=some j∧xs[j]? = some v∧j < xs.length∧-(xs.length:Int)≤i∧i < xs.length:=by
 unfold atI at h
 cases e:ixN xs.length i with
 | none=>rw [e] at h; cases h
 | some j=>
  rw [e] at h
  obtain ⟨h1,h2,h3,h4⟩:=rV e
  exact ⟨j,h1,h,h2,h3,h4⟩
theorem Bg {α:Type} {xs:List α} {j:Nat} {v:α} (h:xs[j]? = some v):atI xs (j:Int)=some v:=by
 have hj:j < xs.length:=(List.getElem?_eq_some_iff.mp h).1
 have e:ixN xs.length (j:Int)=some j:=by
  unfold ixN
  rw [if_pos (by omega),if_pos (by omega)]; simp
 unfold atI; rw [e]; exact h
def mS (b:Expr):Prop:=∀ o i,subscripted b false o i=operate [o,i] (getItem o i)
def IxR (X:Cx) (r:R2):Prop:=
 ∀ (value slice:Expr) (pins:List (Addr×Obj)) (s:Shared) (σ:St) (H:Hp) (x y:V) (v u:Value) (Q:VK),Inv X pins σ H s→RelV x v→RelV y u→r x y H Q →
  subscripted slice false v u=operate [v,u] (getItem v u)→wpAny (model X.prog X.w) X.A (subscriptTail value slice v u) (EP X pins σ Q) X.xe s
def MtR (X:Cx) (id:String) (r:V→List V→Hp→VK→Prop):Prop:=
 ∀ (pins:List (Addr×Obj)) (s:Shared) (σ:St) (H:Hp) (x:V) (xs:List V) (v:Value) (us:List Value) (Q:VK),Inv X pins σ H s→RelV x v→Vals xs us→r x xs H Q →
  wpAny (model X.prog X.w) X.A (call (.builtin id) (v::us)) (EP X pins σ Q) X.xe s
section
variable {X:Cx} {a b:Expr} {ta tb:TE} {pos:Pos}
theorem IxR.or {r r':R2} (h:IxR X r) (h':IxR X r'):IxR X (fun x y H Q=>r x y H Q∨r' x y H Q):=by
 intro value slice pins s σ H x y v u Q I rx ry q hs
 rcases q with q | q
 ·exact h value slice pins s σ H x y v u Q I rx ry q hs
 ·exact h' value slice pins s σ H x y v u Q I rx ry q hs
theorem nU {r:R2} (hr:IxR X r) (ha:PE X a ta) (hb:PE X b tb) (hs:mS b):PE X (.Subscript a b pos) (tOp r ta tb):=by
 intro pins s σ H Q I h
 exact Subscript_ (oB ha hb I h fun v u s2 x y H2 I2 rx ry q=>hr a b pins s2 σ H2 x y v u Q I2 rx ry q (hs _ _))
def uQ (K:Frag):R2:=fun x y H Q=>∃ p xs i v,x=.ref p∧y=.int i∧SqL K H p xs∧atI xs i=some v∧Q v H
def uO (K:Frag):R2:=fun x y H Q=>∃ p xs i v,x=.ref p∧y=.int i∧SqT K H p xs∧atI xs i=some v∧Q v H
def uP:R2:=fun x y H Q=>∃ z i c,x=.str z∧y=.int i∧z.length≤sizeLine∧atI z.cps.toList i=some c∧Q (.str ⟨#[c]⟩) H
theorem ix_list:IxR X (uQ X.K):=by
 intro value slice pins s σ H x y v u Q I rx ry h hs
 obtain ⟨p,xs,i,z,rfl,rfl,hq,he,q⟩:=h
 cases rx
 obtain ⟨t,rfl⟩:=ry
 obtain ⟨its,r,pl,hz⟩:=I.list hq
 obtain ⟨j,h1,h2,h3,h4,h5⟩:=mQ he
 obtain ⟨w,ew,rw'⟩:=r.get h2
 have hl:=r.length
 have hn:=gI
 have fin:EP X pins σ Q w s:=⟨z,H,I,rw',q⟩
 by_cases h0:0≤i
 ·have hj:i.toNat=j:=by
   rw [seqIndex_of h0 h5] at h1
   exact Option.some.inj h1
  exact item_listR pl.isList h0 (by omega) (by rw [hj]; simpa using ew) fin hs
 ·have hj:(i + (its.toArray.size:Int)).toNat=j:=by
   rw [seqIndex_neg (by omega) h4] at h1
   rw [List.size_toArray,← hl]
   exact Option.some.inj h1
  exact subscriptTail_builtinR (x:=w) pl.isList.typeIs slot_list_getitem.lookup
   (wpAny_getItem_list_neg (Q:=fun r s'=>r=w∧EP X pins σ Q r s') pl.isList (by omega) (by rw [List.size_toArray] <;> omega) (by omega) (by rw [hj]; simpa using ew) ⟨rfl,fin⟩) hs
theorem ix_tup:IxR X (uO X.K):=by
 intro value slice pins s σ H x y v u Q I rx ry h hs
 obtain ⟨p,xs,i,z,rfl,rfl,hq,he,q⟩:=h
 cases rx
 obtain ⟨t,rfl⟩:=ry
 obtain ⟨its,r,pl,hz⟩:=I.tuple hq
 obtain ⟨j,h1,h2,h3,h4,h5⟩:=mQ he
 obtain ⟨w,ew,rw'⟩:=r.get h2
 have hl:=r.length
 have hn:=gI
 have fin:EP X pins σ Q w s:=⟨z,H,I,rw',q⟩
 exact subscriptTail_builtinR (x:=w) pl.typeIs slot_tuple_getitem.lookup
  (getItem_tuple (j:=j) (Q:=fun r s'=>r=w∧EP X pins σ Q r s') pl (by omega) (by omega) (by rw [List.size_toArray,← hl]; exact h1) (by simpa using ew) ⟨rfl,fin⟩) hs
theorem Cb:IxR X uP:=by
 intro value slice pins s σ H x y v u Q I rx ry h hs
 obtain ⟨z,i,c,rfl,rfl,hz,he,q⟩:=h
 obtain ⟨t,rfl⟩:=rx
 obtain ⟨t',rfl⟩:=ry
 obtain ⟨j,h1,h2,h3,h4,h5⟩:=mQ he
 have hl:z.cps.toList.length=z.length:=by simp [Str.length]
 rw [hl] at h1 h4 h5
 have hn:=gI
 exact tail_any (typeIs_str s z t) slot_str_getitem.lookup (getItem_str (c:=c) (by
  have e1:decide (i < -(2 ^ 63:Int))=false:=decide_eq_false (by omega)
  have e2:decide (i≥2 ^ 63)=false:=decide_eq_false (by omega)
  rw [e1,e2,Bool.or_false]) (by rw [h1]; simpa using h2) ⟨.str ⟨#[c]⟩,H,I.tok _,⟨_,rfl⟩,q⟩) hs
def rIx (K:Frag):R2:=fun x y H Q=>uQ K x y H Q∨uO K x y H Q∨uP x y H Q
theorem tw:IxR X (rIx X.K):=ix_list.or (ix_tup.or Cb)
theorem xD (its:List Value) (n j:Nat) (u:Value):Obj.mapSeq (·.setIfInBounds j u) { cls:=.type "list",data:=.seq its.toArray n } = { cls:=.type "list",data:=.seq (its.set j u).toArray n }:=by simp [Obj.mapSeq]
theorem Inv.lst {pins:List (Addr×Obj)} {σ:St} {H:Hp} {s:Shared} {p:Addr} {xs:List V} (I:Inv X pins σ H s) (h:H p=some (.lst xs)) :
  ∃ (its:List Value) (n:Nat),Vals xs its∧s.heap.get? p=some { cls:=.type "list",data:=.seq its.toArray n }∧xs.length≤sizeLine:=by
 obtain ⟨z,its,n,r,e⟩:=I.hok p _ h
 exact ⟨its,n,r,e,z⟩
theorem Inv.lstUpd {pins:List (Addr×Obj)} {σ:St} {H:Hp} {s:Shared} {p:Addr} {xs ys:List V} {its its':List Value} {n n':Nat} {f:Obj→Obj} (I:Inv X pins σ H s) (h:H p=some (.lst xs))
  (ho:s.heap.get? p=some { cls:=.type "list",data:=.seq its.toArray n }) (hf:f { cls:=.type "list",data:=.seq its.toArray n } = { cls:=.type "list",data:=.seq its'.toArray n' }) (r:Vals ys its') (hz:ys.length≤sizeLine) (t:Nat) :
  Inv X pins σ (upd H p (.lst ys)) { s with heap:=s.heap.update p f,toks:=t }:=by
 have e:(s.heap.update p f).get? p=some { cls:=.type "list",data:=.seq its'.toArray n' }:=by
  rw [Heap.get?_update_self f ho (by rw [hf] <;> rfl),hf]
 refine I.write (x:=p) (e:=p) (by rw [h]; trivial) (.inl rfl) (fun b u hb q=>(Heap.get?_update_other _ _ (Ne.symm hb)).trans q) ⟨_,e⟩ ?_
 exact ⟨hz,its',n',r,e⟩
def C0:V→V→V→Hp→(Hp→Prop)→Prop:=fun o i v H Q=>∃ p xs k j,o=.ref p∧i=.int k∧H p=some (.lst xs)∧ixN xs.length k=some j∧Q (upd H p (.lst (xs.set j v)))
theorem set_list:vh X C0:=by
 intro pins s σ H o i v ov iv u Q I ro ri rv h
 obtain ⟨p,xs,k,j,rfl,rfl,hp,hj,q⟩:=h
 cases ro
 obtain ⟨t,rfl⟩:=ri
 obtain ⟨its,n,r,ho,hz⟩:=I.lst hp
 obtain ⟨h1,h2,h3,h4⟩:=rV hj
 have hl:=r.length
 have hn:=gI
 have I':Inv X pins σ (upd H p (.lst (xs.set j v))) { s with heap:=s.heap.update p (Obj.mapSeq (·.setIfInBounds j u)) }:=
  I.lstUpd hp ho (xD its n j u) (r.set rv j) (by rw [List.length_set]; exact hz) s.toks
 by_cases h0:0≤k
 ·have hk:k.toNat=j:=by
   rw [seqIndex_of h0 h4] at h1
   exact Option.some.inj h1
  exact PySem.W.ki_setAt ho h0 (by omega) (by rw [List.size_toArray,← hl]; exact h4) (by rw [hk]; exact ⟨_,I',q⟩)
 ·have hk:(k + (its.toArray.size:Int)).toNat=j:=by
   rw [seqIndex_neg (by omega) h3] at h1
   rw [List.size_toArray,← hl]
   exact Option.some.inj h1
  exact PySem.W.ki_setBack ho (by omega) (by rw [List.size_toArray,← hl]; exact h3) (by omega) (by rw [hk]; exact ⟨_,I',q⟩)
theorem vZ (lo hi:Option Int) (n:Nat):(sliceBounds lo hi none n).1=((HT.sIx n 0 lo:Nat):Int)∧(sliceBounds lo hi none n).2.1=((HT.sIx n n hi:Nat):Int)∧(sliceBounds lo hi none n).2.2=1:=by
 refine ⟨?_,?_,rfl⟩
 ·cases lo with
  | none=>simp [sliceBounds,HT.sIx]
  | some i=>
   simp only [sliceBounds,HT.sIx,Option.getD_none,show (1:Int) > 0 by decide,if_true]
   by_cases h:i < 0
   ·simp only [h,if_true] <;> omega
   ·simp only [h,if_false] <;> omega
 ·cases hi with
  | none=>simp [sliceBounds,HT.sIx]
  | some i=>
   simp only [sliceBounds,HT.sIx,Option.getD_none,show (1:Int) > 0 by decide,if_true]
   by_cases h:i < 0
   ·simp only [h,if_true] <;> omega
   ·simp only [h,if_false] <;> omega
theorem vQ (its:List Value) (lo hi:Option Int):slicePick its.toArray lo hi none=((its.drop (HT.sIx its.length 0 lo)).take (HT.sIx its.length its.length hi - HT.sIx its.length 0 lo)).toArray:=by
 obtain ⟨h1,h2,h3⟩:=vZ lo hi its.toArray.size
 unfold slicePick
 rw [h1,h2,h3]
 simp only [sliceRange_one,pick_run,List.size_toArray] <;> rfl
def Et (K:Frag):V→Option Int→Option Int→Hp→VK→Prop:=fun x lo hi H Q=>∃ a xs,x=.ref a∧SqL K H a xs∧∀ p,H p=none→Q (.ref p) (upd H p (.lst (fK xs lo hi)))
theorem sl_list:SlR X (Et X.K):=by
 intro pins s σ H x v vl vu lo hi sl Q I rx hs pl pu h
 obtain ⟨a,xs,rfl,hx,q⟩:=h
 cases rx
 obtain ⟨its,r,ht,hz⟩:=I.list hx
 have hlen:=r.length
 refine ⟨"list",_,slot_list_getitem.lookup,ht.isList.typeIs,?_⟩
 refine wpAny_getItem_list_slice ht.isList hs pl pu .none (by simp) ?_ (by rw [List.size_toArray] <;> omega)
 rw [vQ,← hlen]
 refine ⟨.ref s.heap.objs.size,_,I.laid (t':=s.toks) (o:=.lst (fK xs lo hi)) (fun b ob q=>Heap.get?_push_of_some _ q) (Nat.le_refl _) ?_,rfl,q _ (I.hok.fresh (Nat.le_refl _))⟩
 exact ⟨Nat.le_trans (oX xs lo hi) hz,_,0,(r.drop (HT.sIx xs.length 0 lo)).take (HT.sIx xs.length xs.length hi - HT.sIx xs.length 0 lo),Heap.get?_push_size _ rfl⟩
def eI:V→Bool
 | .non=>true
 | .bl _=>true
 | .int _=>true
 | .str _=>true
 | _=>false
def eqV:V→V→Bool
 | .non,.non=>true
 | .bl a,.bl b=>a == b
 | .bl a,.int b=>(if a then 1 else 0) == b
 | .int a,.bl b=>a == (if b then 1 else 0)
 | .int a,.int b=>a == b
 | .str a,.str b=>a == b
 | _,_=>false
theorem Cr {A:Around} {s:Shared} {y x:V} {u v:Value} (ry:RelV y u) (rx:RelV x v) (fy:eI y=true) (fx:eI x=true):SeqAt.EqAt A s u v (eqV y x):=by
 cases y with
 | non=>
  cases ry
  cases x with
  | non=>cases rx; exact SeqAt.EqAt.same _
  | bl b=>cases rx; exact SeqAt.EqAt.none_bool b
  | int b=>obtain ⟨t,rfl⟩:=rx; exact SeqAt.EqAt.none_int b t
  | str b=>obtain ⟨t,rfl⟩:=rx; exact SeqAt.EqAt.none_str b t
  | _=>exact absurd (show false=true from fx) Bool.false_ne_true
 | bl a=>
  cases ry
  cases x with
  | non=>cases rx; exact SeqAt.EqAt.bool_none a
  | bl b=>cases rx; exact SeqAt.EqAt.bool_bool a b
  | int b=>obtain ⟨t,rfl⟩:=rx; exact SeqAt.EqAt.bool_int a b t
  | str b=>obtain ⟨t,rfl⟩:=rx; exact SeqAt.EqAt.bool_str a b t
  | _=>exact absurd (show false=true from fx) Bool.false_ne_true
 | int a=>
  obtain ⟨t',rfl⟩:=ry
  cases x with
  | non=>cases rx; exact SeqAt.EqAt.int_none a t'
  | bl b=>cases rx; exact SeqAt.EqAt.int_bool a t' b
  | int b=>obtain ⟨t,rfl⟩:=rx; exact SeqAt.EqAt.int_int a t' b t
  | str b=>obtain ⟨t,rfl⟩:=rx; exact SeqAt.EqAt.int_str a t' b t
  | _=>exact absurd (show false=true from fx) Bool.false_ne_true
 | str a=>
  obtain ⟨t',rfl⟩:=ry
  cases x with
  | non=>cases rx; exact SeqAt.EqAt.str_none a t'
  | bl b=>cases rx; exact SeqAt.EqAt.str_bool a t' b
  | int b=>obtain ⟨t,rfl⟩:=rx; exact SeqAt.EqAt.str_int a t' b t
  | str b=>obtain ⟨t,rfl⟩:=rx; exact SeqAt.EqAt.str_str a t' b t
  | _=>exact absurd (show false=true from fx) Bool.false_ne_true
 | _=>exact absurd (show false=true from fy) Bool.false_ne_true
def eqU (x:V) (u:Value):Bool:=match u with
 | .none=>eqV .non x
 | .bool b=>eqV (.bl b) x
 | .int i _=>eqV (.int i) x
 | .str z _=>eqV (.str z) x
 | _=>false
theorem tH {x y:V} {u:Value} (r:RelV y u) (f:eI y=true):eqU x u=eqV y x:=by
 cases y with
 | non=>cases r; rfl
 | bl b=>cases r; rfl
 | int i=>obtain ⟨t,rfl⟩:=r; rfl
 | str z=>obtain ⟨t,rfl⟩:=r; rfl
 | _=>exact absurd (show false=true from f) Bool.false_ne_true
theorem i3 {x:V}:∀ {xs:List V} {us:List Value},Vals xs us→xs.all eI=true→us.any (eqU x)=xs.any fun y=>eqV y x
 | _,_,.nil,_=>rfl
 | y::xs,u::us,.cons r t,f=>by
  rw [List.all_cons,Bool.and_eq_true] at f
  rw [List.any_cons,List.any_cons,tH r f.1,i3 t f.2]
theorem iQ {A:Around} {s:Shared} {x:V} {v:Value} (rx:RelV x v) (fx:eI x=true):∀ {xs:List V} {us:List Value},Vals xs us→xs.all eI=true→∀ u∈us,SeqAt.EqAt A s u v (eqU x u)
 | _,_,.nil,_=>fun u hu=>by cases hu
 | y::xs,u::us,.cons r t,f=>fun u' hu=>by
  rw [List.all_cons,Bool.and_eq_true] at f
  rcases List.mem_cons.mp hu with rfl | hu
  ·rw [tH r f.1]; exact Cr r rx f.1 fx
  ·exact iQ rx fx t f.2 u' hu
def inV (x:V) (xs:List V):Bool:=xs.any fun y=>eqV y x
def rIn (K:Frag) (neg:Bool):R2:=fun x y H Q=>∃ p xs,y=.ref p∧(SqL K H p xs∨SqT K H p xs)∧eI x=true∧xs.all eI=true∧Q (.bl (if neg then !inV x xs else inV x xs)) H
theorem pW:OpR X (compareOp .In) (rIn X.K false):=by
 intro pins s σ H x y v u Q I rx ry h
 obtain ⟨p,xs,rfl,hq,fx,fs,q⟩:=h
 cases ry
 rcases hq with hq | hq
 ·obtain ⟨its,r,pl,hz⟩:=I.list hq
  refine SeqAt.in_listAt (eqU x) pl.isList (fun w hw=>iQ rx fx r fs w (by simpa using hw)) ⟨.bl _,H,I,rfl,?_⟩
  rw [show its.toArray.any (eqU x)=its.any (eqU x) by simp,i3 r fs]
  exact q
 ·obtain ⟨its,r,pl,hz⟩:=I.tuple hq
  refine SeqAt.in_tupleAt (eqU x) pl (fun w hw=>iQ rx fx r fs w (by simpa using hw)) ⟨.bl _,H,I,rfl,?_⟩
  rw [show its.toArray.any (eqU x)=its.any (eqU x) by simp,i3 r fs]
  exact q
theorem oP:OpR X (compareOp .NotIn) (rIn X.K true):=by
 intro pins s σ H x y v u Q I rx ry h
 obtain ⟨p,xs,rfl,hq,fx,fs,q⟩:=h
 cases ry
 rcases hq with hq | hq
 ·obtain ⟨its,r,pl,hz⟩:=I.list hq
  refine SeqAt.notIn_listAt (eqU x) pl.isList (fun w hw=>iQ rx fx r fs w (by simpa using hw)) ⟨.bl _,H,I,rfl,?_⟩
  rw [show its.toArray.any (eqU x)=its.any (eqU x) by simp,i3 r fs]
  exact q
 ·obtain ⟨its,r,pl,hz⟩:=I.tuple hq
  refine SeqAt.notIn_tupleAt (eqU x) pl (fun w hw=>iQ rx fx r fs w (by simpa using hw)) ⟨.bl _,H,I,rfl,?_⟩
  rw [show its.toArray.any (eqU x)=its.any (eqU x) by simp,i3 r fs]
  exact q
theorem call_len_seq:CallR X (.builtin "len") (fun xs H Q=>∃ p ys,xs=[.ref p]∧(SqL X.K H p ys∨SqT X.K H p ys)∧Q (.int ys.length) H):=by
 intro pins s σ H xs us Q I r h
 obtain ⟨p,ys,rfl,hq,q⟩:=h
 obtain ⟨u,rfl,rx⟩:=vals1 r
 cases rx
 have hn:=gI
 rcases hq with hq | hq
 ·obtain ⟨its,r',pl,hz⟩:=I.list hq
  have hlen:=r'.length
  exact Calls.call_len_list pl.isList (by simp only [List.size_toArray] <;> omega) ⟨.int ys.length,H,I.tok _,⟨s.toks + 1,by rw [List.size_toArray,hlen]⟩,q⟩
 ·obtain ⟨its,r',pl,hz⟩:=I.tuple hq
  have hlen:=r'.length
  exact len_tuple pl (by simp only [List.size_toArray] <;> omega) ⟨.int ys.length,H,I.tok _,⟨s.toks + 1,by rw [List.size_toArray,hlen]⟩,q⟩
theorem call_len_str:CallR X (.builtin "len") (fun xs H Q=>∃ z,xs=[.str z]∧z.length≤sizeLine∧Q (.int z.length) H):=by
 intro pins s σ H xs us Q I r h
 obtain ⟨z,rfl,hz,q⟩:=h
 obtain ⟨u,rfl,t,rfl⟩:=vals1 r
 have hn:=gI
 exact len_str (by omega) ⟨.int z.length,H,I.tok _,⟨_,rfl⟩,q⟩
theorem CallR.or {f:Value} {r r':List V→Hp→VK→Prop} (h:CallR X f r) (h':CallR X f r'):CallR X f (fun xs H Q=>r xs H Q∨r' xs H Q):=by
 intro pins s σ H xs us Q I rs q
 rcases q with q | q
 ·exact h pins s σ H xs us Q I rs q
 ·exact h' pins s σ H xs us Q I rs q
theorem call_list_of:CallR X (.type "list") (fun xs H Q=>∃ p ys,xs=[.ref p]∧(SqL X.K H p ys∨SqT X.K H p ys)∧∀ l,H l=none→Q (.ref l) (upd H l (.lst ys))):=by
 intro pins s σ H xs us Q I r h
 obtain ⟨p,ys,rfl,hq,q⟩:=h
 obtain ⟨u,rfl,rx⟩:=vals1 r
 cases rx
 have fin:∀ (its:List Value),Vals ys its→ys.length≤sizeLine→∀ (h':Heap) (c':Nat),(∀ b o',s.heap.get? b=some o'→h'.get? b=some o') →
   h'.get? s.heap.objs.size=some { cls:=.type "list",dict:=none,data:=.seq its.toArray c',slots:=#[] }→EP X pins σ Q (.ref s.heap.objs.size) { s with heap:=h' }:=fun its r' hz h' c' kp e=>
  ⟨.ref s.heap.objs.size,_,I.laid (t':=s.toks) kp (Nat.le_refl _) (show ObjOk X.prog X.w _ h' _ (.lst ys) from ⟨hz,its,c',r',e⟩),rfl,q _ (I.hok.fresh (Nat.le_refl _))⟩
 rcases hq with hq | hq
 ·obtain ⟨its,r',pl,hz⟩:=I.list hq
  have hlen:=r'.length
  obtain ⟨o,ho,hc,n,hd⟩:=pl.isList
  exact call_list_seq p (.inl rfl) ho hc hd (fun h' c' kp e=>fin its r' hz h' c' kp e) (by simp only [List.size_toArray] <;> omega)
 ·obtain ⟨its,r',pl,hz⟩:=I.tuple hq
  have hlen:=r'.length
  obtain ⟨o,ho,hc,n,hd⟩:=pl
  exact call_list_seq p (.inr rfl) ho hc hd (fun h' c' kp e=>fin its r' hz h' c' kp e) (by simp only [List.size_toArray] <;> omega)
def tyV (K:Frag) (T:String) (x:V) (H:Hp):Prop:=match x with
 | .str _=>T = "str"
 | .int _=>T = "int"
 | .ref p=>(T = "list"∧∃ xs,SqL K H p xs)∨(T = "tuple"∧∃ o,K.lookup p=some o∧o.cls=.type "tuple"∧o.dict=none) ∨
   (T = "dict"∧((∃ kvs,H p=some (.dK kvs))∨∃ kvs,H p=some (.dT kvs)))∨(T = "set"∧∃ S n,H p=some (.set S n))
 | _=>False
theorem Bq {pins:List (Addr×Obj)} {σ:St} {H:Hp} {s:Shared} {T:String} {x:V} {v:Value} (I:Inv X pins σ H s) (r:RelV x v) (ty:tyV X.K T x H) :
  s.TypeIs v T∧∀ a,v=.ref a→∃ ob,s.heap.get? a=some ob∧ob.dict=none:=by
 cases x with
 | str z=>
  obtain ⟨t,rfl⟩:=r
  cases (show T = "str" from ty)
  exact ⟨typeIs_str s z t,fun _ e=>nomatch e⟩
 | int i=>
  obtain ⟨t,rfl⟩:=r
  cases (show T = "int" from ty)
  exact ⟨typeIs_int s i t,fun _ e=>nomatch e⟩
 | ref p=>
  cases r
  rcases ty with ⟨rfl,xs,hq⟩ | ⟨rfl,o,hk,hc,hd⟩ | ⟨rfl,hk⟩ | ⟨rfl,S,n,hk⟩
  ·obtain ⟨its,_,pl,_⟩:=I.list hq
   refine ⟨pl.isList.typeIs,fun a e=>?_⟩
   cases e
   obtain ⟨o,n,e,c,hd,_⟩:=pl
   exact ⟨o,e,hd⟩
  ·refine ⟨⟨o,I.kIn p o hk,hc⟩,fun a e=>?_⟩
   cases e
   exact ⟨o,I.kIn _ o hk,hd⟩
  ·have z:∃ o,s.heap.get? p=some o∧o.ExactDict:=by
    rcases hk with ⟨kvs,hk⟩ | ⟨kvs,hk⟩
    ·obtain ⟨_,_,_,_,o,_,_,e,ex,_⟩:=I.hok p _ hk
     exact ⟨o,e,ex⟩
    ·obtain ⟨_,_,_,_,o,_,_,e,ex,_⟩:=I.hok p _ hk
     exact ⟨o,e,ex⟩
   obtain ⟨o,e,ex⟩:=z
   refine ⟨⟨o,e,ex.1⟩,fun a e2=>?_⟩
   cases e2
   exact ⟨o,e,ex.2.1⟩
  ·obtain ⟨o,_,_,_,e,ex,_⟩:=I.hok p _ hk
   refine ⟨⟨o,e,ex.1⟩,fun a e2=>?_⟩
   cases e2
   exact ⟨o,e,ex.2.1⟩
 | _=>exact False.elim ty
def tBM (K:Frag) (T:String) (r:V→List V→Hp→VK→Prop) (to:TE) (t:TA):TE:=fun σ H Q=>to σ H fun x H1=>tyV K T x H1∧t σ H1 fun xs H2=>r x xs H2 Q
variable {o e:Expr} {es:List Expr} {to:TE} {t:TA} {name:Str} {apos cpos:Pos} {T id:String} {r:V→List V→Hp→VK→Prop}
theorem gR (pa:PlainAttrs T) (slot:Slot T name id) (hty:typeOf (.builtin id)=pure (.type "method_descriptor")) (hm:MtR X id r) (ho:PE X o to) (ha:PA X (e::es) t)
  (hbase:attributeBase o name X.env (eval o X.env)=eval o X.env:=by rfl)
  (hfew:((backTo cpos (starEach (e::es) X.env)).all (fun x=>!x.1) && (backToKw cpos (keywordEach [] X.env)).all (fun x=>x.1.isSome)
   && decide ((e::es).length + ([]:List Keyword).length + (if ([]:List Keyword).isEmpty then 0 else 1) < 30))=true:=by rfl)
  (hline:(apos.endLine == cpos.line)=true:=by rfl) (hs:starEach (e::es) X.env=(false,eval e X.env)::starEach es X.env:=by rfl) (hplain:(backTo cpos (starEach es X.env)).any (·.1)=false:=by rfl) :
  PE X (.Call (.Attribute o name apos) (e::es) [] cpos) (tBM X.K T r to t):=by
 intro pins s σ H Q I h
 refine wpAny_Call_method_late hbase hfew hline rfl (thn (ho pins s σ H _ I h) fun v s1 ⟨x,H1,I1,r1,ty,q1⟩=>?_)
 obtain ⟨h1,h2⟩:=Bq I1 r1 ty
 refine ⟨T,id,pa,slot,hty,h1,h2,?_⟩
 have hA:=ha cpos pins s1 σ H1 _ I1 q1
 rw [hs] at hA ⊢
 refine Calls.callWith_builtin (by show (false || (backTo cpos (starEach es X.env)).any (·.1))=false; rw [hplain] <;> rfl) (Calls.evalArgs_plain ?_)
 exact thn hA fun us s2 ⟨vs,H2,I2,r2,q2⟩=>hm pins s2 σ H2 x vs v us Q I2 r1 r2 q2
end
def MtM (X:Cx) (id:String) (r:V→List V→Hp→VK→Prop):Prop:=
 ∀ (pins:List (Addr×Obj)) (s:Shared) (σ:St) (H:Hp) (x:V) (xs:List V) (v:Value) (us:List Value) (Q:VK),Inv X pins σ H s→RelV x v→Vals xs us→r x xs H Q →
  wpAny (model X.prog X.w) X.A (call (.builtin id) (v::us)) (EP X pins σ Q) X.xe s
theorem Vals.one:∀ {x:V} {us:List Value},Vals [x] us→∃ u,us=[u]∧RelV x u
 | _,_,.cons r .nil=>⟨_,rfl,r⟩
theorem Vals.rep {xs:List V} {us:List Value} (h:Vals xs us):∀ k:Nat,Vals (List.replicate k xs).flatten (List.replicate k us).flatten
 | 0=>.nil
 | k + 1=>by
  rw [List.replicate_succ,List.replicate_succ,List.flatten_cons,List.flatten_cons]
  exact Vals.append h (Vals.rep h k)
theorem foldl_rep (its:List Value):∀ (k:Nat) (acc:List Value),
  List.foldl (fun x1 x2=>x1++x2) acc.toArray (List.replicate k its.toArray)=(acc++(List.replicate k its).flatten).toArray
 | 0,acc=>by simp
 | k + 1,acc=>by
  have e:acc.toArray++its.toArray=(acc++its).toArray:=by simp
  have e2:(acc++its)++(List.replicate k its).flatten=acc++(List.replicate (k + 1) its).flatten:=by
   rw [List.replicate_succ,List.flatten_cons,List.append_assoc]
  rw [← e2,← foldl_rep its k (acc++its),← e,List.replicate_succ,List.foldl_cons]
section
variable {X:Cx} {pins:List (Addr×Obj)} {σ:St} {H:Hp} {s:Shared} {l b:Addr} {xs ys zs:List V}
theorem Inv.lset {its its':List Value} {n:Nat} {f:Array Value→Array Value} {t':Nat} (I:Inv X pins σ H s) (hH:H l=some (.lst xs))
  (e:s.heap.get? l=some { cls:=.type "list",data:=.seq its.toArray n }) (hf:f its.toArray=its'.toArray) (hv:Vals ys its') (hz:ys.length≤sizeLine) :
  Inv X pins σ (upd H l (.lst ys)) { s with heap:=s.heap.update l (Obj.mapSeq f),toks:=t' }:=by
 have q:=PySem.IsL.update e f
 rw [hf] at q
 refine I.write (x:=l) (e:=l) (by rw [hH]; exact trivial) (.inl rfl) (fun b' u hb hu=>(Heap.get?_update_other s.heap (Obj.mapSeq f) (Ne.symm hb)).trans hu) ⟨_,q⟩ ?_
 exact ⟨hz,its',_,hv,q⟩
theorem Inv.lnew {its:List Value} {t':Nat} (I:Inv X pins σ H s) (hv:Vals ys its) (hz:ys.length≤sizeLine) :
  Inv X pins σ (upd H s.heap.objs.size (.lst ys)) { s with heap:=s.heap.push { cls:=.type "list",data:=.seq its.toArray },toks:=t' }:=I.laid (fun _ _ q=>Heap.get?_push_of_some _ q) (Nat.le_refl _) ⟨hz,its,0,hv,Heap.get?_push_size _ rfl⟩
theorem Inv.fresh (I:Inv X pins σ H s):H s.heap.objs.size=none:=I.hok.fresh (Nat.le_refl _)
theorem Inv.lstM (I:Inv X pins σ H s) (hH:H l=some (.lst xs)):xs.length≤sizeLine∧∃ (its:List Value) (n:Nat),Vals xs its∧xs.length=its.length∧s.heap.get? l=some { cls:=.type "list",data:=.seq its.toArray n }:=by
 obtain ⟨z,its,n,r,e⟩:=I.hok l _ hH
 exact ⟨z,its,n,r,r.length,e⟩
theorem zq {n:Nat} (h:n≤sizeLine):Builtin.List.listTooLong n=false:=by
 unfold Builtin.List.listTooLong
 exact decide_eq_false (by omega)
end
section
variable {X:Cx}
def Aj:V→List V→Hp→VK→Prop:=fun x vs H Q=>∃ l xs y,x=.ref l∧vs=[y]∧H l=some (.lst xs)∧xs.length < sizeLine∧Q .non (upd H l (.lst (xs++[y])))
theorem pX:MtM X "list.append" Aj:=by
 intro pins s σ H x vs v us Q I rx rv h
 obtain ⟨l,xs,y,rfl,rfl,hH,hz,q⟩:=h
 cases rx
 obtain ⟨u,rfl,ru⟩:=rv.one
 obtain ⟨z,its,n,r,hl,e⟩:=I.lstM hH
 refine call_meets F.slot_list_append ⟨_,e,rfl⟩ F.entry_list_append (F.args_list_append_2 _ _) (PySem.list_append l its.toArray n u (by rw [List.size_toArray]; omega)) ⟨e,?_⟩
 refine ⟨.non,_,I.lset (its':=its++[u]) hH e (by simp) (r.append (.cons ru .nil)) ?_,rfl,q⟩
 rw [List.length_append,List.length_singleton]
 omega
theorem len_rep {α:Type} (xs:List α) (k:Nat):(List.replicate k xs).flatten.length=k * xs.length:=by
 induction k with
 | zero=>simp
 | succ k ih=>rw [List.replicate_succ,List.flatten_cons,List.length_append,ih,Nat.succ_mul,Nat.add_comm]
end
section
variable {prog:Program} {w:World} {A:Around} {E:Value→Shared→Prop} {s:Shared}
end
section
variable {X:Cx}
end
section
variable {κ:Type} [DecidableEq κ]
def aZ (kvs:List (κ×V)) (k:κ):Option V:=(kvs.find? fun kv=>decide (kv.1=k)).map (·.2)
def putK (kvs:List (κ×V)) (k:κ) (v:V):List (κ×V):=if (kvs.any fun kv=>decide (kv.1=k))=true then kvs.map (fun kv=>if kv.1=k then (kv.1,v) else kv) else kvs++[(k,v)]
def cF (kvs:List (κ×V)) (k:κ):List (κ×V):=kvs.filter fun kv=>decide (kv.1≠k)
theorem l4 {p:κ×V} {r:List (κ×V)} {k:κ} (e:p.1=k):aZ (p::r) k=some p.2:=by simp [aZ,List.find?_cons,e]
theorem l7 {p:κ×V} {r:List (κ×V)} {k:κ} (e:¬ p.1=k):aZ (p::r) k=aZ r k:=by simp [aZ,List.find?_cons,e]
theorem l8 (k:κ):∀ kvs:List (κ×V),(kvs.any fun kv=>decide (kv.1=k))=(aZ kvs k).isSome
 | []=>rfl
 | p::r=>by
  rw [List.any_cons]
  by_cases e:p.1=k
  ·simp only [l4 e,decide_eq_true e,Bool.true_or,Option.isSome_some]
  ·rw [l7 e,decide_eq_false e,Bool.false_or]; exact l8 k r
theorem lN (kvs:List (κ×V)) (k:κ) (v:V):(putK kvs k v).length≤kvs.length + 1:=by
 unfold putK
 split
 ·rw [List.length_map]; omega
 ·rw [List.length_append,List.length_cons,List.length_nil]; omega
theorem yV {kvs:List (κ×V)} {k:κ} (v:V) (h:aZ kvs k=none):putK kvs k v=kvs++[(k,v)]:=by
 unfold putK
 rw [l8,h]
 exact if_neg (by decide)
theorem RelO.isSome_eq {o:Option V} {u:Option Value} (r:RelO o u):o.isSome=u.isSome:=by
 cases o with
 | none=>cases u with
  | none=>rfl
  | some _=>exact (show False from r).elim
 | some _=>cases u with
  | none=>exact (show False from r).elim
  | some _=>rfl
theorem KV.val {kvs:List (κ×V)} {vs:List (κ×Value)} (r:KV kvs vs) (k:κ):RelO (aZ kvs k) (valueAt vs k):=by
 unfold KV at r
 induction r with
 | nil=>exact True.intro
 | @cons p q ps qs h t ih=>
  obtain ⟨h1,h2⟩:=h
  by_cases e:p.1=k
  ·have e':q.1=k:=h1.symm.trans e
   have b:valueAt (q::qs) k=some q.2:=by simp [valueAt,List.find?_cons,e']
   rw [l4 e,b]; exact h2
  ·have e':¬ q.1=k:=fun z=>e (h1.trans z)
   have b:valueAt (q::qs) k=valueAt qs k:=by simp [valueAt,List.find?_cons,e']
   rw [l7 e,b]; exact ih
theorem KV.any {kvs:List (κ×V)} {vs:List (κ×Value)} (r:KV kvs vs) (k:κ):(kvs.any fun kv=>decide (kv.1=k))=vs.any fun kv=>decide (kv.1=k):=by
 unfold KV at r
 induction r with
 | nil=>rfl
 | cons h t ih=>rw [List.any_cons,List.any_cons,ih,h.1]
theorem KV.repl {kvs:List (κ×V)} {vs:List (κ×Value)} (r:KV kvs vs) (k:κ) {y:V} {u:Value} (ry:RelV y u) :
  KV (kvs.map fun kv=>if kv.1=k then (kv.1,y) else kv) (vs.map fun kv=>if kv.1=k then (kv.1,u) else kv):=by
 unfold KV at r ⊢
 induction r with
 | nil=>exact .nil
 | @cons p q ps qs h t ih=>
  rw [List.map_cons,List.map_cons]
  refine .cons ?_ ih
  obtain ⟨h1,h2⟩:=h
  by_cases e:p.1=k
  ·rw [if_pos e,if_pos (h1.symm.trans e)]; exact ⟨h1,ry⟩
  ·rw [if_neg e,if_neg (fun z=>e (h1.trans z))]; exact ⟨h1,h2⟩
theorem KV.put {kvs:List (κ×V)} {vs:List (κ×Value)} (r:KV kvs vs) (k:κ) {y:V} {u:Value} (ry:RelV y u):KV (putK kvs k y) (stored vs k u):=by
 unfold putK stored
 rw [r.any k]
 by_cases e:(vs.any fun kv=>decide (kv.1=k))=true
 ·rw [if_pos e,if_pos e]; exact r.repl k ry
 ·rw [if_neg e,if_neg e]; exact Paired.snoc r ⟨rfl,ry⟩
theorem KV.drop {kvs:List (κ×V)} {vs:List (κ×Value)} (r:KV kvs vs) (k:κ):KV (cF kvs k) (without vs k):=by
 unfold KV at r ⊢
 unfold cF without
 induction r with
 | nil=>exact .nil
 | @cons p q ps qs h t ih=>
  obtain ⟨h1,h2⟩:=h
  rw [List.filter_cons,List.filter_cons]
  by_cases e:p.1=k
  ·have a:¬ decide (p.1≠k)=true:=by simp [e]
   have b:¬ decide (q.1≠k)=true:=by simp [h1.symm.trans e]
   rw [if_neg a,if_neg b]; exact ih
  ·have e':¬ q.1=k:=fun z=>e (h1.trans z)
   have a:decide (p.1≠k)=true:=by simp [e]
   have b:decide (q.1≠k)=true:=by simp [e']
   rw [if_pos a,if_pos b]; exact .cons ⟨h1,h2⟩ ih
theorem KV.keys {kvs:List (κ×V)} {vs:List (κ×Value)} (r:KV kvs vs):kvs.map (·.1)=vs.map (·.1):=by
 unfold KV at r
 induction r with
 | nil=>rfl
 | cons h t ih=>rw [List.map_cons,List.map_cons,ih,h.1]
theorem KV.length {kvs:List (κ×V)} {vs:List (κ×Value)} (r:KV kvs vs):kvs.length=vs.length:=Paired.length r
theorem zL (kvs:List (κ×V)) (k:κ):(cF kvs k).length≤kvs.length:=List.length_filter_le _ _
end
theorem f6 {P:Program} {w:World} {k:Key} {u:Value} (r:RelV (kV k) u):(bh P w).is k u=true:=by
 cases k with
 | inl i=>obtain ⟨t,e⟩:=(show ∃ t,u=Value.int i t from r); subst e; exact wU P w i t
 | inr x=>obtain ⟨t,e⟩:=(show ∃ t,u=Value.str x t from r); subst e; exact wR P w x t
theorem p6 {P:Program} {w:World}:∀ {ks:List Key} {us:List Value},Vals (ks.map kV) us→ItemsAre (bh P w) ks us
 | [],_,r=>by rw [List.map_nil] at r; cases r; exact .nil
 | k::ks,_,r=>by
  rw [List.map_cons] at r
  cases r with
  | cons h t=>exact .cons (f6 h) (p6 t)
abbrev KT (H:Hp):List (List Key×V)→List (List Key×Addr×Value)→Prop:=Paired fun p q=>p.1=q.1∧H q.2.1=some (.tup (p.1.map kV))∧RelV p.2 q.2.2
theorem KT.val {H:Hp} {kvs:List (List Key×V)} {xs:List (List Key×Addr×Value)} (r:KT H kvs xs) (k:List Key):RelO (aZ kvs k) ((atKey xs k).map (·.2)):=by
 induction r with
 | nil=>exact True.intro
 | @cons p q ps qs h t ih=>
  obtain ⟨h1,_,h2⟩:=h
  by_cases e:p.1=k
  ·have e':q.1=k:=h1.symm.trans e
   have b:atKey (q::qs) k=some q.2:=by simp [atKey,List.find?_cons,e']
   rw [l4 e,b]; exact h2
  ·have e':¬ q.1=k:=fun z=>e (h1.trans z)
   have b:atKey (q::qs) k=atKey qs k:=by simp [atKey,List.find?_cons,e']
   rw [l7 e,b]; exact ih
theorem KT.repl {H:Hp} {kvs:List (List Key×V)} {xs:List (List Key×Addr×Value)} (r:KT H kvs xs) (k:List Key) {y:V} {u:Value} (ry:RelV y u) :
  KT H (kvs.map fun kv=>if kv.1=k then (kv.1,y) else kv) (xs.map (putAt k u)):=by
 induction r with
 | nil=>exact .nil
 | @cons p q ps qs h t ih=>
  rw [List.map_cons,List.map_cons]
  refine .cons ?_ ih
  obtain ⟨h1,h2,h3⟩:=h
  unfold putAt
  by_cases e:p.1=k
  ·rw [if_pos e,if_pos (h1.symm.trans e)]; exact ⟨h1,h2,ry⟩
  ·rw [if_neg e,if_neg (fun z=>e (h1.trans z))]; exact ⟨h1,h2,h3⟩
theorem KT.put {H:Hp} {kvs:List (List Key×V)} {xs:List (List Key×Addr×Value)} (r:KT H kvs xs) (k:List Key) {b:Addr} {y:V} {u:Value} (hb:H b=some (.tup (k.map kV))) (ry:RelV y u) :
  KT H (putK kvs k y) (storedH xs k b u):=by
 have e:(kvs.any fun kv=>decide (kv.1=k))=(atKey xs k).isSome:=by
  rw [l8,(r.val k).isSome_eq,Option.isSome_map]
 unfold putK storedH
 rw [e]
 by_cases q:(atKey xs k).isSome=true
 ·rw [if_pos q,if_pos q]; exact r.repl k ry
 ·rw [if_neg q,if_neg q]; exact Paired.snoc r ⟨rfl,hb,ry⟩
theorem KT.keeps {H H':Hp} {kvs:List (List Key×V)} {xs:List (List Key×Addr×Value)} (r:KT H kvs xs) (ht:∀ b ys,H b=some (.tup ys)→H' b=some (.tup ys)):KT H' kvs xs:=Paired.mapP r fun _ _ z=>⟨z.1,ht _ _ z.2.1,z.2.2⟩
section
variable {P:Program} {w:World} {H:Hp} {h:Heap} {a:Addr}
theorem t6 {u:HO} (ok:HOk P w H h) (e:Rd H a u):ObjOk P w H h a u:=e.ok ok
theorem dD {kvs:List (Key×V)} (ok:HOk P w H h) (e:Rd H a (.dK kvs)):kvs.length≤sizeLine∧(a == sysModules)=false∧∃ vs,KV kvs vs∧h.DictOf (bh P w) a vs:=show ObjOk P w H h a (.dK kvs) from t6 ok e
theorem lj {kvs:List (Key×V)} (ok:HOk P w H h) (e:H a=some (.dK kvs)):kvs.length≤sizeLine∧(a == sysModules)=false∧∃ vs,KV kvs vs∧h.DictOf (bh P w) a vs:=dD ok (.inl e)
theorem kK {ks:List Key} (ok:HOk P w H h) (e:H a=some (.tup (ks.map kV))):(tupleKind (bh P w)).is h ks a:=by
 obtain ⟨_,its,r,o,h1,h2,n,h3⟩:=(show ObjOk P w H h a (.tup (ks.map kV)) from ok a _ e)
 exact ⟨o,its.toArray,n,h1,h2,h3,by simpa using p6 r⟩
theorem n9 {kvs:List (List Key×V)} (ok:HOk P w H h) (e:Rd H a (.dT kvs)):kvs.length≤sizeLine∧(a == sysModules)=false ∧
  ∃ xs,KT H kvs xs∧h.DictOfH (tupleKind (bh P w)) a xs:=by
 obtain ⟨z,y,xs,r,o,es,ep,h1,h2,h3,h4,h5⟩:=(show ObjOk P w H h a (.dT kvs) from t6 ok e)
 refine ⟨z,y,xs,r,o,es,ep,h1,h2,h3,h4,fun x hx=>?_,h5⟩
 have all:∀ {l:List (List Key×V)} {m:List (List Key×Addr×Value)},KT H l m→∀ x∈m,(tupleKind (bh P w)).is h x.1 x.2.1:=by
  intro l m q
  induction q with
  | nil=>intro x hx; exact nomatch hx
  | @cons p q ps qs hq t ih=>
   intro x hx
   rcases List.mem_cons.mp hx with e | hx
   ·subst e
    exact kK ok (by rw [← hq.1]; exact hq.2.1)
   ·exact ih x hx
 exact all r x hx
theorem DV {kvs:List (List Key×V)} (ok:HOk P w H h) (e:H a=some (.dT kvs)):kvs.length≤sizeLine∧(a == sysModules)=false ∧
  ∃ xs,KT H kvs xs∧h.DictOfH (tupleKind (bh P w)) a xs:=n9 ok (.inl e)
end
def DGet (H:Hp) (a:Addr) (y:V) (r:Option V):Prop:=(∃ kvs k,Rd H a (.dK kvs)∧y=kV k∧r=aZ kvs k)∨∃ kvs k b,Rd H a (.dT kvs)∧y=.ref b∧H b=some (.tup (k.map kV))∧r=aZ kvs k
def DPut (H:Hp) (a:Addr) (y v:V) (H':Hp):Prop:=
 (∃ kvs k,H a=some (.dK kvs)∧y=kV k∧kvs.length < sizeLine∧H'=upd H a (.dK (putK kvs k v))) ∨
 ∃ kvs k b,H a=some (.dT kvs)∧y=.ref b∧H b=some (.tup (k.map kV))∧kvs.length < sizeLine∧H'=upd H a (.dT (putK kvs k v))
theorem DPut.k {H:Hp} {a:Addr} {kvs:List (Key×V)} {k:Key} {v:V} (e:H a=some (.dK kvs)) (hl:kvs.length < sizeLine):DPut H a (kV k) v (upd H a (.dK (putK kvs k v))):=.inl ⟨kvs,k,e,rfl,hl,rfl⟩
section
variable {X:Cx} {pins:List (Addr×Obj)} {σ:St} {H:Hp} {s:Shared} {a:Addr} {y v:V} {u r:Value} {o:Option V} {A:Around} {E:Value→Shared→Prop}
theorem Inv.big (I:Inv X pins σ H s):sysModules < s.heap.objs.size:=by
 have h:mainGlobals < s.heap.objs.size:=(I.mod.glob.keeps I.bk).lt
 exact Nat.lt_trans (by decide) h
theorem EF {Q:Value→Shared→Prop} (hu:A.units + 1 < cLine) (I:Inv X pins σ H s) (g:DGet H a y o) (ry:RelV y u) (h:∀ s',Inv X pins σ H s'→Q (.bool o.isSome) s') :
  wpAny (model X.prog X.w) A (compareOp .In u (.ref a)) Q E s:=by
 rcases g with ⟨kvs,k,e,ey,l⟩ | ⟨kvs,k,b,e,ey,eb,l⟩
 ·subst ey
  obtain ⟨z,hd,vs,rel,dd⟩:=dD I.hok e
  refine wpAny_in_of (f6 ry) hd dd.mapOf ?_
  rw [← (rel.val k).isSome_eq,← l]
  exact h _ (I.tok _)
 ·subst ey
  cases (show u=Value.ref b from ry)
  obtain ⟨z,hd,xs,rel,dd⟩:=n9 I.hok e
  refine wpAny_in_heap (tupleKind_room_in1 hu) (kK I.hok eb) hd dd ?_
  have q:=(rel.val k).isSome_eq
  rw [Option.isSome_map] at q
  rw [← q,← l]
  exact h _ (I.tok _)
theorem sH {Q:Value→Shared→Prop} (hu:A.units + 1 < cLine) (I:Inv X pins σ H s) (g:DGet H a y o) (ry:RelV y u) (h:∀ s',Inv X pins σ H s'→Q (.bool (!o.isSome)) s') :
  wpAny (model X.prog X.w) A (compareOp .NotIn u (.ref a)) Q E s:=by
 rcases g with ⟨kvs,k,e,ey,l⟩ | ⟨kvs,k,b,e,ey,eb,l⟩
 ·subst ey
  obtain ⟨z,hd,vs,rel,dd⟩:=dD I.hok e
  refine wpAny_notIn_of (f6 ry) hd dd.mapOf ?_
  rw [← (rel.val k).isSome_eq,← l]
  exact h _ (I.tok _)
 ·subst ey
  cases (show u=Value.ref b from ry)
  obtain ⟨z,hd,xs,rel,dd⟩:=n9 I.hok e
  refine wpAny_notIn_heap (tupleKind_room_in1 hu) (kK I.hok eb) hd dd ?_
  have q:=(rel.val k).isSome_eq
  rw [Option.isSome_map] at q
  rw [← q,← l]
  exact h _ (I.tok _)
theorem kj {h':Heap} {t':Nat} {ob:HO} (I:Inv X pins σ H s) (mu:Mut (H a)) (hs:Heap.SameBut a s.heap h') (he:∃ q,h'.get? a=some q) (new:ObjOk X.prog X.w (upd H a ob) h' a ob) :
  Inv X pins σ (upd H a ob) { s with heap:=h',toks:=t' }:=I.write (x:=a) (e:=a) mu (.inl rfl) (fun b q hb z=>(hs.2 b hb).trans z) he new
theorem jd {P:Program} {w:World} {H':Hp} {h':Heap} {kvs:List (Key×V)} {vs:List (Key×Value)} (z:kvs.length≤sizeLine) (hd:(a == sysModules)=false) (rel:KV kvs vs) (dd:h'.DictOf (bh P w) a vs) :
  ObjOk P w H' h' a (.dK kvs):=⟨z,hd,vs,rel,dd⟩
theorem yE {H':Hp} {Q:Unit→Shared→Prop} (hu:A.units + 1 < cLine) (I:Inv X pins σ H s) (g:DPut H a y v H') (ry:RelV y u) (rv:RelV v r) (h:∀ s',Inv X pins σ H' s'→Q () s') :
  wpAny (model X.prog X.w) A (setItem (.ref a) u r) Q E s:=by
 rcases g with ⟨kvs,k,e,ey,l,eH⟩ | ⟨kvs,k,b,e,ey,eb,l,eH⟩
 ·subst ey eH
  obtain ⟨z,hd,vs,rel,dd⟩:=lj I.hok e
  have hz:vs.length≤sizeLine:=by rw [← rel.length]; exact z
  have hl:(putK kvs k v).length≤sizeLine:=by have:=lN kvs k v; omega
  refine wpAny_setItem_pairs (hsz:=hz) (f6 ry) dd fun h' dd' hs=>h _ ?_
  have he:∃ q,h'.get? a=some q:=let ⟨q,_,_,hq,_⟩:=dd'; ⟨q,hq⟩
  exact kj I (by rw [e]; exact True.intro) hs he (jd hl hd (rel.put k rv) dd')
 ·subst ey eH
  cases (show u=Value.ref b from ry)
  obtain ⟨z,hd,xs,rel,dd⟩:=DV I.hok e
  have hz:xs.length≤sizeLine:=by rw [← Paired.length rel]; exact z
  have hl:(putK kvs k v).length≤sizeLine:=by have:=lN kvs k v; omega
  refine wpAny_setItem_heap (hsz:=hz) (tupleKind_room_in1 hu) (kK I.hok eb) dd fun h' dd' hs=>h _ ?_
  obtain ⟨q,es,ep,hq,h2,h3,h4,_,h5⟩:=dd'
  refine kj I (by rw [e]; exact True.intro) hs ⟨q,hq⟩ ⟨hl,hd,_,(rel.put k eb rv).keeps fun c ys ec=>?_,q,es,ep,hq,h2,h3,h4,h5⟩
  rw [aD (Dr ec e (fun z=>nomatch z))]
  exact ec
end
section
variable {X:Cx} {pins:List (Addr×Obj)} {σ:St} {H:Hp} {s:Shared} {a:Addr} {kvs:List (Key×V)} {k:Key} {u:Value} {A:Around} {E:Value→Shared→Prop}
theorem D3 {v:V} {more:List Value} {Q:Value→Shared→Prop} (I:Inv X pins σ H s) (e:H a=some (.dK kvs)) (ry:RelV (kV k) u) (l:aZ kvs k=some v) (hm:more=[]∨∃ x,more=[x])
  (h:∀ w' s',Inv X pins σ (upd H a (.dK (cF kvs k))) s'→RelV v w'→Q w' s'):wpAny (model X.prog X.w) A (call (.builtin "dict.pop") (.ref a::u::more)) Q E s:=by
 obtain ⟨z,hd,vs,rel,dd⟩:=lj I.hok e
 obtain ⟨w',hw,rw'⟩:=RelO.some_of (v:=v) (o:=valueAt vs k) (by rw [← l]; exact rel.val k)
 have hp:(keyPart u).isSome=true:=by
  cases k with
  | inl i=>obtain ⟨t,q⟩:=(show ∃ t,u=Value.int i t from ry); subst q; rfl
  | inr x=>obtain ⟨t,q⟩:=(show ∃ t,u=Value.str x t from ry); subst q; rfl
 have ha:argsOk "dict.pop" ⟨.ref a::u::more,[]⟩:=by
  rcases hm with q | ⟨x,q⟩
  ·subst q; exact PySem.F.args_dict_pop_2 _ _
  ·subst q; exact PySem.F.args_dict_pop_3 _ _ _
 refine call_meetsIn PySem.F.slot_dict_pop dd.typeIs PySem.F.entry_dict_pop ha (meets_dict_pop_there (bh X.prog X.w) a (f6 ry) more hm hp)
  ⟨vs,w',dd,by rw [← rel.length]; exact z,hw,fun h' dd' hs=>h w' _ ?_ rw'⟩
 have he:∃ q,h'.get? a=some q:=let ⟨q,_,_,hq,_⟩:=dd'; ⟨q,hq⟩
 exact kj I (by rw [e]; exact True.intro) hs he (jd (Nat.le_trans (zL kvs k) z) hd (rel.drop k) dd')
theorem CA {r:Value} {Q:Value→Shared→Prop} (I:Inv X pins σ H s) (e:H a=some (.dK kvs)) (ry:RelV (kV k) u) (l:aZ kvs k=none) (h:∀ s',Inv X pins σ H s'→Q r s') :
  wpAny (model X.prog X.w) A (call (.builtin "dict.pop") [.ref a,u,r]) Q E s:=by
 obtain ⟨z,hd,vs,rel,dd⟩:=lj I.hok e
 have hn:valueAt vs k=none:=RelO.none_of (by rw [← l]; exact rel.val k)
 have hp:(keyPart u).isSome=true:=by
  cases k with
  | inl i=>obtain ⟨t,q⟩:=(show ∃ t,u=Value.int i t from ry); subst q; rfl
  | inr x=>obtain ⟨t,q⟩:=(show ∃ t,u=Value.str x t from ry); subst q; rfl
 exact call_meetsIn PySem.F.slot_dict_pop dd.typeIs PySem.F.entry_dict_pop (PySem.F.args_dict_pop_3 _ _ _) (meets_dict_pop_default (bh X.prog X.w) a (f6 ry) hd hp r) ⟨vs,dd,hn,h _ (I.tok _)⟩
theorem D4 {Q:Value→Shared→Prop} (I:Inv X pins σ H s) (e:Rd H a (.dK kvs)) (h:∀ t s',Inv X pins σ H s'→Q (.int kvs.length t) s'):wpAny (model X.prog X.w) A (call (.builtin "len") [.ref a]) Q E s:=by
 obtain ⟨z,hd,vs,rel,dd⟩:=dD I.hok e
 refine call_len_dict hd dd (by rw [← rel.length]; rw [sizeLine_eq] at z; omega) ?_
 rw [← rel.length]
 exact h _ _ (I.tok _)
end
def CY (td ty tv:TE):TS:=fun D σ H=>tv σ H fun v H1=>td σ H1 fun x H2=>ty σ H2 fun y H3=>∃ a H4,x=.ref a∧DPut H3 a y v H4∧D.nx σ H4
section
variable {X:Cx} {o i e value:Expr} {pos pos' tpos:Pos} {td ty tv:TE}
theorem rJ (hu:X.A.units + 1 < cLine) (ho:PE X o td) (hi:PE X i ty) (hv:PE X value tv) (hs:swapsWith value (some (.Subscript o i pos')) pos.line X.env=pure false) :
  PS X (.Assign [.Subscript o i pos'] value pos) (CY td ty tv):=by
 intro pins s σ H D I h
 refine wpAny_Assign_Subscript (thn (hv pins s σ H _ I h) fun r s1 ⟨v,H1,I1,rv,q1⟩=>thn (ho pins s1 σ H1 _ I1 q1) fun u s2 ⟨x,H2,I2,rx,q2⟩=>thn (hi pins s2 σ H2 _ I2 q2) fun iv s3 ⟨y,H3,I3,ry,a,H4,ex,g,q3⟩=>?_) hs
 subst ex
 obtain rfl:u=Value.ref a:=rx
 exact yE hu I3 g ry rv fun s4 I4=>⟨σ,H4,I4,q3⟩
end
theorem qX {P:Program} {w:World} {H:Hp} (h:Heap) (hb:sysModules < h.objs.size):ObjOk P w H (h.push { cls:=.type "dict",data:=.dict #[] }) h.objs.size (.dK []):=⟨Nat.zero_le _,beq_eq_false_iff_ne.mpr (Ne.symm (Nat.ne_of_lt hb)),[],.nil,Heap.DictOf.new h⟩
def Bv:TE:=fun _ H Q=>∀ p,H p=none→Q (.ref p) (upd H p (.dK []))
section
variable {X:Cx} {pos:Pos}
theorem qG:PE X (.Dict [] [] pos) Bv:=fun pins s σ H Q I h=>
 wpAny_Dict_empty ⟨.ref s.heap.objs.size,_,I.laid (a:=s.heap.objs.size) (o:=.dK []) (t':=s.toks) (fun _ _ q=>Heap.get?_push_of_some _ q) (Nat.le_refl _) (qX s.heap I.big),rfl,h _ (I.hok.fresh (Nat.le_refl _))⟩
end
def kn:List (TE×TE)→St→Hp→(List (V×V)→Hp→Prop)→Prop
 | [],_,H,Q=>Q [] H
 | (tk,tv)::r,σ,H,Q=>tk σ H fun x H1=>tv σ H1 fun y H2=>kn r σ H2 fun ps H3=>Q ((x,y)::ps) H3
abbrev VV:List (V×V)→List (Value×Value)→Prop:=Paired fun p q=>RelV p.1 q.1∧RelV p.2 q.2
def PPs (X:Cx) (pos:Pos) (keys:List (Option Expr)) (values:List Expr) (trs:List (TE×TE)):Prop:=
 ∀ (pins:List (Addr×Obj)) (s:Shared) (σ:St) (H:Hp) (Q:List (V×V)→Hp→Prop),Inv X pins σ H s→kn trs σ H Q →
  wpAny (model X.prog X.w) X.A (evalPairs (pairTrees keys values X.env pos)) (fun vs s'=>∃ ps H',Inv X pins σ H' s'∧VV ps vs∧Q ps H') X.xe s
theorem Ap {X:Cx} {pos:Pos}:PPs X pos [] [] []:=fun pins s σ H Q I h=>pairTrees_nil_walk ⟨[],H,I,.nil,h⟩
theorem yZ {X:Cx} {pos:Pos} {k v:Expr} {ks:List (Option Expr)} {vs:List Expr} {tk tv:TE} {trs:List (TE×TE)} (hk:PE X k tk) (hv:PE X v tv) (hr:PPs X pos ks vs trs) :
  PPs X pos (some k::ks) (v::vs) ((tk,tv)::trs):=fun pins s σ H Q I h=>
 pairTrees_cons_walk (thn (hk pins s σ H _ I h) fun u s1 ⟨x,H1,I1,rx,q1⟩=>thn (hv pins s1 σ H1 _ I1 q1) fun w2 s2 ⟨y,H2,I2,ry,q2⟩=>
  thn (hr pins s2 σ H2 _ I2 q2) fun ws s3 ⟨ps,H3,I3,rel,q3⟩=>⟨(x,y)::ps,H3,I3,.cons ⟨rx,ry⟩ rel,q3⟩)
def c9 (kvs more:List (Key×V)):List (Key×V):=more.foldl (fun acc kv=>putK acc kv.1 kv.2) kvs
theorem KV.merge:∀ {more:List (Key×V)} {rs:List (Key×Value)} {kvs:List (Key×V)} {vs:List (Key×Value)},KV more rs→KV kvs vs→KV (c9 kvs more) (merged vs rs):=by
 intro more rs kvs vs r
 unfold KV at r
 induction r generalizing kvs vs with
 | nil=>intro q; exact q
 | @cons p q ps qs h t ih=>
  intro r0
  have e:KV (putK kvs p.1 p.2) (stored vs q.1 q.2):=by
   have:=r0.put p.1 h.2
   rw [← h.1]; exact this
  exact ih e
theorem lL:∀ (more kvs:List (Key×V)),(c9 kvs more).length≤kvs.length + more.length
 | [],kvs=>by show kvs.length≤kvs.length + 0; omega
 | p::r,kvs=>by
  have h1:=lL r (putK kvs p.1 p.2)
  have h2:=lN kvs p.1 p.2
  show (c9 (putK kvs p.1 p.2) r).length≤_
  rw [List.length_cons]; omega
theorem pB {P:Program} {w:World}:∀ {kvs:List (Key×V)} {ws:List (Value×Value)},VV (kvs.map fun kv=>(kV kv.1,kv.2)) ws→∃ rs,Carries (bh P w) ws rs∧KV kvs rs
 | [],_,r=>by rw [List.map_nil] at r; cases r; exact ⟨[],True.intro,.nil⟩
 | p::kvs,_,r=>by
  rw [List.map_cons] at r
  cases r with
  | @cons a b as bs h t=>
   obtain ⟨rs,c,q⟩:=pB (P:=P) (w:=w) t
   obtain ⟨b1,b2⟩:=b
   exact ⟨(p.1,b2)::rs,⟨f6 h.1,rfl,c⟩,.cons ⟨rfl,h.2⟩ q⟩
def CU (trs:List (TE×TE)):TE:=fun σ H Q=>∀ p,H p=none→kn trs σ (upd H p (.dK [])) fun ps H2=>H2 p=some (.dK [])∧∃ kvs:List (Key×V),ps=kvs.map (fun kv=>(kV kv.1,kv.2))∧kvs.length≤15∧Q (.ref p) (upd H2 p (.dK (c9 [] kvs)))
theorem Ax {X:Cx} {pos:Pos} {keys:List (Option Expr)} {values:List Expr} {trs:List (TE×TE)} (h:PPs X pos keys values trs) (hall:keys.all (·.isSome)=true) (hl:keys.length=values.length) (h0:keys≠[])
  (h15:keys.length≤15):PE X (.Dict keys values pos) (CU trs):=by
 intro pins s σ H Q I q
 have hn:=I.hok.fresh (Nat.le_refl s.heap.objs.size)
 have I1:=I.laid (a:=s.heap.objs.size) (o:=.dK []) (h':=s.heap.push { cls:=.type "dict",data:=.dict #[] }) (t':=s.toks) (fun _ _ q=>Heap.get?_push_of_some _ q) (Nat.le_refl _) (qX s.heap I.big)
 refine wpAny_Dict_walk (knd:=bh X.prog X.w) hall hl h0 h15 (thn (h pins _ σ _ _ I1 (q _ hn)) fun ws s2 ⟨ps,H2,I2,rel,e,kvs,ep,lk,q2⟩=>?_)
 subst ep
 obtain ⟨rs,c,rk⟩:=pB (P:=X.prog) (w:=X.w) rel
 obtain ⟨z,hd,vs0,r0,dd⟩:=lj I2.hok e
 cases r0
 refine ⟨rs,c,dd,fun h' dd' hs=>⟨.ref s.heap.objs.size,_,?_,rfl,q2⟩⟩
 have hz:(c9 [] kvs).length≤sizeLine:=by
  have h1:=lL kvs []
  rw [List.length_nil] at h1
  rw [sizeLine_eq]; omega
 have he:∃ q,h'.get? s.heap.objs.size=some q:=let ⟨q,_,_,hq,_⟩:=dd'; ⟨q,hq⟩
 exact kj I2 (by rw [e]; exact True.intro) hs he (jd hz hd (rk.merge .nil) dd')
structure M1 (X:Cx) (o:Expr) (m:Str) (apos:Pos) (e:Expr) (cpos:Pos):Prop where
 base:attributeBase o m X.env (eval o X.env)=eval o X.env
 few:((backTo cpos (starEach [e] X.env)).all (fun x=>!x.1) && (backToKw cpos (keywordEach [] X.env)).all (fun x=>x.1.isSome)
  && decide (([e]:List Expr).length + ([]:List Keyword).length + (if ([]:List Keyword).isEmpty then 0 else 1) < 30))=true
 line:(apos.endLine == cpos.line)=true
 trees:backTo cpos (starEach [e] X.env)=[(false,eval e X.env)]
structure M2 (X:Cx) (o:Expr) (m:Str) (apos:Pos) (e f:Expr) (cpos:Pos):Prop where
 base:attributeBase o m X.env (eval o X.env)=eval o X.env
 few:((backTo cpos (starEach [e,f] X.env)).all (fun x=>!x.1) && (backToKw cpos (keywordEach [] X.env)).all (fun x=>x.1.isSome)
  && decide (([e,f]:List Expr).length + ([]:List Keyword).length + (if ([]:List Keyword).isEmpty then 0 else 1) < 30))=true
 line:(apos.endLine == cpos.line)=true
 trees:backTo cpos (starEach [e,f] X.env)=[(false,eval e X.env),(false,eval f X.env)]
section
variable {X:Cx} {pins:List (Addr×Obj)} {σ:St} {H:Hp} {s:Shared} {a:Addr} {y d:V} {u r:Value} {o:Option V} {A:Around} {E:Value→Shared→Prop}
end
section
variable {X:Cx} {o e f:Expr} {apos cpos:Pos} {td ty tx:TE}
end
section
variable {X:Cx} {pins:List (Addr×Obj)} {σ:St} {H:Hp} {s:Shared} {a:Addr} {kvs:List (Key×V)} {A:Around} {E:Value→Shared→Prop}
theorem zQ {Q:Value→Shared→Prop} (I:Inv X pins σ H s) (e:Rd H a (.dK kvs)) (h:∀ p s',H p=none→Inv X pins σ (upd H p (.dK kvs)) s'→Q (.ref p) s'):wpAny (model X.prog X.w) A (call (.type "dict") [.ref a]) Q E s:=by
 obtain ⟨z,hd,vs,rel,dd⟩:=dD I.hok e
 refine kt_call_dict hd dd (by rw [← rel.length]; exact z) fun h' dd' hs=>?_
 refine h _ _ (I.hok.fresh (Nat.le_refl _)) (I.laid (a:=s.heap.objs.size) (o:=.dK kvs) (t':=s.toks) (fun b q hq=>?_) (Nat.le_refl _) (jd z (beq_eq_false_iff_ne.mpr (Ne.symm (Nat.ne_of_lt I.big))) rel dd'))
 exact (hs.2 b (Nat.ne_of_lt (Heap.lt_size hq))).trans (Heap.get?_push_of_some _ hq)
end
section
variable {X:Cx} {pins:List (Addr×Obj)} {σ:St} {H:Hp} {s:Shared} {a:Addr} {y:V} {u:Value} {A:Around} {E:Value→Shared→Prop}
end
end L2
namespace Att
open PySem PySem.W PySem.Calls PyProof.Rows
theorem vK {P:Params} {h:Heap}:∀ (ns:List Int) (vs:List Value),WellAll P h vs (ns.map WData.int)→IntsAre vs ns:=by
 intro ns
 induction ns with
 | nil=>
  intro vs w
  rw [List.map_nil] at w
  cases w
  exact .nil
 | cons n ns ih=>
  intro vs w
  rw [List.map_cons] at w
  cases w with
  | cons a b=>
   cases a
   exact .cons _ _ (ih _ b)
theorem ya {l:OpenLaw} {n:Nat} (hn:l.most=some n) {P:Params} {h:Heap} {args:List WData} {vals:List Value}
  (hpre:l.row.toRowW.claim.pre args=true) (hwl:WellAll P h vals args) :
  ∃ a vs ns,vals=[Value.ref a]∧args=[WData.list (ns.map WData.int)]∧h.get? a=some { cls:=.type "list",data:=.seq vs.toArray }∧IntsAre vs ns∧ns.length≤n:=by
 have hsh:WShape.hasAll [] args [.list .int]=true:=(pre_splitW hpre).1
 have hc:l.pre.holds [] { args:=args } = true:=(pre_splitW hpre).2
 obtain ⟨d,r,rfl,h1,h2⟩:=hasAllW_cons hsh
 obtain rfl:=hasAllW_nil h2
 obtain ⟨xs,rfl,h3⟩:=hasW_list h1
 obtain ⟨ns,rfl⟩:=items_int h3
 have hlen:ns.length≤n:=by
  unfold OpenLaw.pre at hc
  have h4:(WTm.not (.lt (.lit (.int (n:Int))) (.len (.arg 0)))).holds [] { args:=[.list (ns.map .int)] } = true:=by
   have h4:=(holds_andW hc).1
   rw [hn] at h4
   exact h4
  have h5:=condW_of h4 (w_not (w_lt w_lit (w_len_list (w_arg rfl))))
  rw [List.length_map] at h5
  refine Nat.le_of_not_lt fun q=>?_
  have q':(n:Int) < ((ns.length:Nat):Int):=by omega
  first
   | (rw [decide_eq_true q'] at h5; exact absurd h5 (by decide))
   | (simp at h5; omega)
 cases hwl with
 | cons w1 w2=>
  cases w2
  cases w1 with
  | list ho hall=>exact ⟨_,_,ns,rfl,rfl,ho,vK ns _ hall,hlen⟩
theorem yd (l:OpenLaw) (args:List WData):l.row.toRowW.claim.post args (.bool true) args=true:=
 postW_of (r:=l.row.toRowW) (X:=(true == true))
  (show WShape.has [] (.bool true) .bool=true by first | rfl | decide | simp [WShape.has,WShape.arms,WShape.armsAll])
  (show (WTm.eq .res (.lit (.bool true))).value [] { args:=args,res:=some (.bool true),after:=args } = some (.bool (true == true)) from w_eq_bool (w_res rfl) w_lit) rfl
theorem w4 {l:OpenLaw} {n:Nat} {q:Program} {loose:List Str} {XP:(Str→Option Value)→Heap→Prop} {YP:World→Heap→Prop} {d:DefRec}
  (hn:l.most=some n) (hdf:d.params.defaults=[])
  (call:∀ (w:World) (s₀ s₁:Shared) (mg mb:Str→Option Value) (fa:Addr) (o:Obj) (pm cd doc:Value) (a:Addr) (vs:List Value) (ns:List Int),
   Ground q loose [] XP w s₀ mg mb s₁.heap→YP w s₁.heap →
   s₁.heap.get? fa=some o→o.data=.func (docDef d.name d.params d.body d.scope pm cd doc)→s₁.heap.CodeRec cd d.name→mg d.name=some (.ref fa) →
   s₁.heap.get? a=some { cls:=.type "list",data:=.seq vs.toArray }→IntsAre vs ns→ns.length≤n→s₁.gens = #[] →
   codeAny (model l.prog w) callerA (.call (.ref fa) ⟨[.ref a],[]⟩) (fun r s'=>r=.ok (.ret (.bool true))∧OldK s₁.heap s'.heap∧s'.os=s₁.os∧AllBare s'.gens) s₁) :
  WalkO q loose XP YP l.row.toRowW d [] (fun f vs=>PySem.call f vs):=by
 intro w s₀ s₁ mg mb G Y fa o pm cd doc dV kV ho hd hcd hD hmg hg args vals as hpre hlay hrd hwl hlo
 obtain rfl:dV=.none:=Dflts.none hD hdf
 obtain rfl:kV=.none:=Dflts.noKw hD
 obtain ⟨a,vs,ns,rfl,rfl,hobj,hints,hlen⟩:=ya hn hpre hwl
 refine enter_call (codeAny_mono (call w s₀ s₁ mg mb fa o pm cd doc a vs ns G Y ho (fd_plain hd) hcd hmg hobj hints hlen hg) fun r s' hq=>?_)
 obtain ⟨rfl,h2,h3,h4⟩:=hq
 exact ⟨.inl ⟨.bool true,.bool true,[],rfl,fun _=>rfl,.bool true,yd l _,fun _=>⟨List.Pairwise.nil,fun _ hm=>(nomatch hm)⟩⟩,h2,h3,h4⟩
section
variable {prog:Program} {w:World} {A:Around} {E:Value→Shared→Prop} {s:Shared} {K:Frag}
end
end Att
namespace L2
open PySem PySem.Spec PyProof.Rows
theorem pH:∀ {vs:List Value} {ns:List Int},IntsAre vs ns→Vals (ns.map V.int) vs
 | _,_,.nil=>.nil
 | _,_,.cons n t h=>.cons ⟨t,rfl⟩ (pH h)
def oI (H:Hp):Prop:=∀ b,H b=none∨∃ o xs,H b=some (.frz o (.lst xs))
theorem zv {P:Program} {w:World} {K:Frag} {mg mb:Str→Option Value} {CX:CXT} {k:Nat} {fa a:Addr} {fd:FuncData} {x:Str} {sp:Sp} {s₁:Shared} {vs:List Value} {ns:List Int}
  (KX:K.In s₁.heap) (hns:s₁.heap.Ns mainGlobals mg) (hb:s₁.heap.Ns builtinsNs mb) (hbb:∀ x:Str,x≠"__name__"→mb x=bootBuiltins x) (hlim:s₁.heap.NoLimit) (hg:s₁.gens = #[])
  (ha:s₁.heap.get? a=some { cls:=.type "list",data:=.seq vs.toArray }) (hi:IntsAre vs ns) (hl:ns.length≤sizeLine) (hr:Room k callerA)
  (F:∀ base:Heap,K.In base→base.Ns mainGlobals mg→FnOk P w K mg base CX k fa fd [x] sp) (hbind:∀ (s:Shared) (u:Value),BindsTo s fd ⟨[u],[]⟩ [(x,u)])
  (hsp:∀ H:Hp,oI H→SqL K H a (ns.map V.int)→sp [.ref a] H (fun v _=>v=.bl true) fun _ _ _=>False)
  (hCX:∀ H e s',CX [] H s₁ (fun _ _ _=>False) e s'→False) :
  codeAny (model P w) callerA (.call (.ref fa) ⟨[.ref a],[]⟩) (fun r s'=>r=.ok (.ret (.bool true))∧OldK s₁.heap s'.heap∧s'.os=s₁.os∧AllBare s'.gens) s₁:=by
 have rv:=pH hi
 have lenV:=hi.length
 have core:∀ H:Hp,oI H→SqL K H a (ns.map V.int)→HOk P w H s₁.heap→(∀ b,H b≠none→b=a)→(H a≠none→K.lookup a=none) →
   codeAny (model P w) callerA (.call (.ref fa) ⟨[.ref a],[]⟩) (fun r s'=>r=.ok (.ret (.bool true))∧OldK s₁.heap s'.heap∧s'.os=s₁.os∧AllBare s'.gens) s₁:=by
  intro H hO hS hok hA hK
  have base_of:∀ {b:Addr} {o:Obj},s₁.heap.get? b=some o→H b=none→(fG s₁.heap H).get? b=some o:=fun e n=>zB e n
  have noA:∀ {b:Addr} {o:Obj} {es:Array DictEntry} {ep:Nat},s₁.heap.get? b=some o→o.data=.dict es ep→H b=none:=fun {b o es ep} e d=>by
   cases q:H b with
   | none=>rfl
   | some u=>
    have e':b=a:=hA b (by rw [q]; simp)
    subst e'
    rw [ha] at e; cases e
    have d':Data.seq vs.toArray _=Data.dict es ep:=d
    cases d'
  have nsK:∀ {b:Addr} {m:Str→Option Value},s₁.heap.Ns b m→(fG s₁.heap H).Ns b m:=fun {b m} ⟨o,es,ep,e,d,r⟩=>⟨o,es,ep,base_of e (noA e d),d,r⟩
  have hKb:K.In (fG s₁.heap H):=fun b o e=>base_of (KX b o e) (by
   cases q:H b with
   | none=>rfl
   | some u=>
    have e':b=a:=hA b (by rw [q]; simp)
    subst e'
    rw [hK (by rw [q]; simp)] at e; cases e)
  have hM:Mod K mg (fG s₁.heap H):=⟨hKb,nsK hns,⟨mb,nsK hb,hbb⟩,let ⟨mc,h1,h2⟩:=hlim; ⟨mc,nsK h1,h2⟩⟩
  have e0:Env0 P w K mg (fG s₁.heap H) callerA [] s₁ H:=⟨rfl,hM,fun b o e=>AE e,Nat.le_of_eq (yy _ _),trivial,fun b hb=>absurd (show b∈([]:List Addr) from hb) (by simp),hok,.of_eq hg⟩
  refine codeAny_mono ((F _ hKb (nsK hns)).run callerA [] s₁ H ⟨[.ref a],[]⟩ [.ref a] [.ref a] _ _ hr e0 (hbind s₁ (.ref a)) (.cons rfl .nil) (hsp H hO hS)) fun r s' h=>?_
  cases r with
  | error e=>exact (hCX H e s' h).elim
  | ok fl=>
   cases fl with
   | next=>exact False.elim h
   | brk=>exact False.elim h
   | cont=>exact False.elim h
   | ret u=>
    obtain ⟨v,H',os,bare,un,hok',r',q⟩:=h
    have q':v=.bl true:=q
    subst q'
    obtain rfl:u=Value.bool true:=r'
    refine ⟨rfl,OldK.of_keep fun b o e=>?_,os,bare⟩
    cases q:H b with
    | none=>exact un.keep b o e q (by intro z; exact absurd (show b∈([]:List Addr) from z) (by simp)) (by simp)
    | some u=>
     rcases hO b with z | ⟨ob,xs,z⟩
     ·rw [q] at z; cases z
     ·have z2:=un.frzs b ob _ z
      obtain ⟨e1,_⟩:=hok b _ z
      obtain ⟨e2,_⟩:=hok' b _ z2
      rw [e] at e1; cases e1
      exact e2
 cases hk:K.lookup a with
 | some o=>
  have e:=KX a o hk
  rw [ha] at e
  cases e
  refine core (fun _=>none) (fun _=>.inl rfl) (.inr ⟨_,vs.toArray,_,hk,rfl,rfl,rfl,by rw [List.size_toArray,lenV]; exact hl,by simpa using rv⟩) (fun b u z=>by have z':(none:Option HO)=some u:=z; cases z') (fun b z=>absurd rfl z) fun z=>absurd rfl z
 | none=>
  refine core (fun b=>if b=a then some (.frz { cls:=.type "list",data:=.seq vs.toArray } (.lst (ns.map V.int))) else none) (fun b=>?_) (.inl (.inr ⟨{ cls:=.type "list",data:=.seq vs.toArray },if_pos rfl⟩)) (fun b u z=>?_) (fun b z=>?_) fun _=>hk
  ·by_cases hb:b=a
   ·exact .inr ⟨_,_,if_pos hb⟩
   ·exact .inl (if_neg hb)
  ·by_cases hb:b=a
   ·have z':=(if_pos hb).symm.trans z
    cases z'
    subst hb
    exact ⟨ha,by rw [List.length_map]; exact hl,vs,_,rv,ha⟩
   ·have z':=(if_neg hb).symm.trans z
    cases z'
  ·by_cases hb:b=a
   ·exact hb
   ·exact absurd (if_neg hb) z
theorem z8 {l:PySem.W.OpenLaw} {n k:Nat} {q:Program} {loose:List Str} {XP:(Str→Option Value)→Heap→Prop} {YP:World→Heap→Prop} {d:DefRec} {K:Params→Frag} {CX:World→CXT} {sp:World→Sp} {x:Str}
  (hn:l.most=some n) (hn2:n≤sizeLine) (hdf:d.params.defaults=[]) (hr:Room k callerA)
  (hY:∀ (w:World) (h:Heap),YP w h→(K w.params).In h)
  (F:∀ (w:World) (mg:Str→Option Value) (fa:Addr) (h:Heap),(K w.params).In h→h.Ns mainGlobals mg→mg d.name=some (.ref fa) →
   ∃ fd:FuncData,(∀ (s:Shared) (u:Value),BindsTo s fd ⟨[u],[]⟩ [(x,u)]) ∧
    ∀ base:Heap,(K w.params).In base→base.Ns mainGlobals mg→FnOk l.prog w (K w.params) mg base (CX w) k fa fd [x] (sp w))
  (hsp:∀ (w:World) (H:Hp) (a:Addr) (ns:List Int),ns.length≤n→oI H→SqL (K w.params) H a (ns.map V.int)→sp w [.ref a] H (fun v _=>v=.bl true) fun _ _ _=>False)
  (hCX:∀ (w:World) (H:Hp) (s:Shared) (e:Value) (s':Shared),CX w [] H s (fun _ _ _=>False) e s'→False) :
  PySem.W.WalkO q loose XP YP l.row.toRowW d [] (fun f vs=>PySem.call f vs):=by
 refine Att.w4 hn hdf fun w s₀ s₁ mg mb fa o pm cd doc a vs ns G Y ho hd hcd hmg hobj hints hlen hg=>?_
 have KX:=hY w _ Y
 obtain ⟨fd,hb,hF⟩:=F w mg fa _ KX G.T.g hmg
 exact zv KX G.T.g G.T.b G.T.builtins G.T.nolimit hg hobj hints (Nat.le_trans hlen hn2) hr hF hb (fun H hO hS=>hsp w H a ns hlen hO hS) fun H e s'=>hCX w H s₁ e s'
def dC (s:Stmt):Arguments:=match s with
 | .FunctionDef _ a _ _ _ _ _ _ _ _=>a
 | _=>{ posonlyargs:=[],args:=[],vararg:=none,kwonlyargs:=[],kw_defaults:=[],kwarg:=none,defaults:=[] }
def bV (s:Stmt):List Stmt:=match s with
 | .FunctionDef _ _ b _ _ _ _ _ _ _=>b
 | _=>[]
def aE (s:Stmt):Scope:=match s with
 | .FunctionDef _ _ _ _ _ _ sc _ _ _=>sc
 | _=>{ kind:=.function,names:=[],isGenerator:=false,isCoroutine:=false }
abbrev CX0:CXT:=fun _ _ _ _ _ _=>False
abbrev E0:XK:=fun _ _ _=>False
theorem C8 {X:Cx}:iw CX0 X E0:=fun _ _ _ _ _ _ _ h=>h.elim
structure Fun (K:Frag) (x qual:Str) (st:Stmt) (f:Addr) (fd:FuncData):Prop where
 ex:∃ (oc:Value) (od:Option Addr) (kV doc pm:Value) (an:Option Addr) (cdv ct:Value) (osl:Array (Option Value)),
  fd=PySem.W.fnOf x qual (dC st) (bV st) (aE st) .none kV doc pm an cdv ct∧K.lookup f=some ⟨oc,od,.func fd,osl⟩∧PySem.W.codeIn K cdv qual=true
 kp:PySem.W.keepIn K (.ref f)=true
section
variable {P:Program} {w:World} {K:Frag} {mg:Str→Option Value} {base:Heap}
theorem Fun.ok {x qual:Str} {st:Stmt} {f:Addr} {fd:FuncData} {N ps:List Str} {k:Nat} {sp:Sp} (F:Fun K x qual st f fd) (S:FnScope N ps (aE st)) (len:∀ vs H Q E,sp vs H Q E→vs.length=ps.length)
  (hbody:∀ (cdv:Value) (A:Around) (outer:List Env) (s:Shared) (H:Hp) (vs:List V) (Q:VK) (E:XK),Room k (A.deeper (envOfC qual (aE st) s.heap.objs.size f cdv))→sp vs H Q E →
   ∃ t,PSs (bM CX0 P w K mg base N qual (aE st) f cdv A outer s H E).nox (bV st) t∧t { nx:=fun _ H'=>Q .non H',rt:=Q } (start N vs) H):FnOk P w K mg base CX0 (k + 1) f fd ps sp:=by
 obtain ⟨oc,od,kV,doc,pm,an,cdv,ct,osl,rfl,lk,hcd⟩:=F.ex
 refine ur lk hcd S len fun A outer s H vs Q E hr hsp=>?_
 obtain ⟨t,h,q⟩:=hbody cdv A outer s H vs Q E hr hsp
 exact ⟨t,h.nox,q⟩
theorem Fun.binds {x qual:Str} {st:Stmt} {f:Addr} {fd:FuncData} {ps:List Str} (F:Fun K x qual st f fd)
  (h:∀ (kV doc pm:Value) (an:Option Addr) (cdv ct:Value) (us:List Value),us.length=ps.length→bindArgs (PySem.W.fnOf x qual (dC st) (bV st) (aE st) .none kV doc pm an cdv ct) ⟨us,[]⟩=pure (ps.zip us)):Binds K fd ps []:=by
 obtain ⟨oc,od,kV,doc,pm,an,cdv,ct,osl,rfl,lk,hcd⟩:=F.ex
 exact .all (h kV doc pm an cdv ct)
theorem kO {x qual:Str} {st:Stmt} {f:Addr} {oc:Value} {od an:Option Addr} {osl:Array (Option Value)} {kV doc pm cdv ct:Value} (l:K.lookup f=some ⟨oc,od,.func (PySem.W.fnOf x qual (dC st) (bV st) (aE st) .none kV doc pm an cdv ct),osl⟩)
  (c:PySem.W.codeIn K cdv qual=true) (k:PySem.W.keepIn K (.ref f)=true):Fun K x qual st f (PySem.W.fnOf x qual (dC st) (bV st) (aE st) .none kV doc pm an cdv ct):=⟨⟨oc,od,kV,doc,pm,an,cdv,ct,osl,rfl,l,c⟩,k⟩
end
section
variable {X:Cx}
theorem pv (i:Nat) {x:Str} {pos:Pos} (hN:X.N[i]? = some x:=by rfl) (hv:Vis X.env.scope x:=by first | exact Or.inl rfl | exact Or.inr (Or.inl rfl) | exact Or.inr (Or.inr rfl)) (hd:(x == ("__debug__" : Str))=false:=by decide)
  (hcd:(x == ("__classdict__" : Str))=false:=by decide):PE X (.Name x pos) (jy i):=BM hN hv hd hcd
end
theorem gi {A B:Prop} (h:B):if false=true then A else B:=by
 rw [if_neg Bool.false_ne_true]
 exact h
theorem fE {A B:Prop} (h:A):if true=true then A else B:=by
 rw [if_pos rfl]
 exact h
end L2
set_option maxHeartbeats 4000000
namespace K1
open PySem
def has (signs x:Str):Bool:=x.cps.toList.all fun c=>decide (c∈signs.cps.toList)
def LET:Str:="abcdefghijklmnopqrstuvwxyz"
def TXT:Str:="abcdefghijklmnopqrstuvwxyz0123456789-"
def single:PyData→Bool
 | .int i=>decide ((if i < 0 then -i else i)≤10 ^ 18)
 | .str x=>decide (x.length≤20) && has TXT x
 | _=>false
def bz:Nat→PyData→Bool
 | 0,.tuple _=>false
 | n + 1,.tuple ds=>decide (ds.length≤8) && ds.all (bz n)
 | _,d=>single d
def bX:Nat→PyData→Int
 | n + 1,.tuple ds=>1 + (ds.map (bX n)).sum
 | _,_=>1
def lsz:Nat→PyData→Int
 | n + 1,.tuple ds=>if ds.length > 8 then 100 else 1 + (ds.map (lsz n)).sum
 | _,d=>if single d=true then 1 else 100
def isName:PyData→Bool
 | .str x=>decide (1≤x.length) && decide (x.length≤8) && has LET x
 | _=>false
def bf (d:PyData):Bool:=bz 4 d && decide (bX 4 d≤40)
def tdp:Nat→PyData→Bool
 | 0,.tuple _=>false
 | n + 1,.tuple ds=>ds.all (tdp n)
 | _,_=>true
theorem qi:∀ (n:Nat) (d:PyData),bz n d=true→tdp n d=true
 | 0,d,h=>by cases d <;> first | rfl | cases h
 | n + 1,d,h=>by
  cases d with
  | tuple ds=>
   have e:bz (n + 1) (.tuple ds)=(decide (ds.length≤8) && ds.all (bz n)):=rfl
   rw [e,Bool.and_eq_true] at h
   show ds.all (tdp n)=true
   exact List.all_eq_true.mpr fun x hx=>qi n x (List.all_eq_true.mp h.2 x hx)
  | _=>rfl
def iV (best:Int):List Int→Int
 | []=>best
 | n::r=>iV (if n > best then n else best) r
def gX (d:Int):List Int→Int
 | []=>d
 | n::r=>iV n r
def gU:Nat→PyData→Int
 | n + 1,.tuple ds=>1 + gX 0 (ds.map (gU n))
 | _,_=>0
def uh (acc:Int):List Int→Int
 | []=>acc
 | n::r=>uh (if 1 + n > acc then 1 + n else acc) r
def ldp:Nat→PyData→Int
 | n + 1,.tuple ds=>uh 1 (ds.map (ldp n))
 | _,_=>0
end K1
namespace L2
open PySem
def bP (env:Env):List (Str×NameKind)→List (Str×Addr)→List (Str×Addr)
 | [],acc=>acc
 | (n,k)::r,acc=>bP env r (if (k == .free)=true then (n,(env.cells.lookup n).getD 0)::acc else acc)
theorem lZ {env:Env}:∀ (l:List (Str×NameKind)) (acc:List (Str×Addr)),(∀ x∈l,x.2=.free→∃ c,env.cells.lookup x.1=some c) →
  (forIn l acc (fun x r=>match x with
   | (name,kind)=>if (kind == NameKind.free)=true then (do
     let c ← cellOf env name
     pure (ForInStep.yield ((name,c)::r))) else pure (ForInStep.yield r)):Sem (List (Str×Addr)))=pure (bP env l acc)
 | [],acc,_=>rfl
 | (n,k)::r,acc,h=>by
  rw [List.forIn_cons]
  have hr:∀ x∈r,x.2=.free→∃ c,env.cells.lookup x.1=some c:=fun x hx=>h x (List.mem_cons_of_mem _ hx)
  cases hk:(k == NameKind.free) with
  | false=>
   have ih:=lZ r acc hr
   have e:bP env ((n,k)::r) acc=bP env r acc:=by simp [bP,hk]
   rw [e]
   dsimp only
   rw [if_neg (by rw [hk]; exact Bool.false_ne_true)]
   exact ih
  | true=>
   obtain ⟨c,hc⟩:=h (n,k) List.mem_cons_self (by simpa using hk)
   have ih:=lZ r ((n,c)::acc) hr
   have hc':env.cells.lookup n=some c:=hc
   have e:bP env ((n,k)::r) acc=bP env r ((n,c)::acc):=by simp [bP,hk,hc']
   have e2:cellOf env n=pure c:=by unfold cellOf; rw [hc']
   rw [e]
   dsimp only
   rw [if_pos hk,e2]
   exact ih
theorem xM {scope:Scope} {env:Env} (h:∀ x∈scope.names,x.2=.free→∃ c,env.cells.lookup x.1=some c):closureFor scope env=pure (bP env scope.names []):=by
 have q:=lZ (env:=env) scope.names [] h
 unfold closureFor
 exact congrArg (fun t=>t >>= fun z=>pure z) q
theorem oY {env:Env}:∀ (l:List (Str×NameKind)) (acc:List (Str×Addr)) (x:Str) (c:Addr),(∀ y d,acc.lookup y=some d→env.cells.lookup y=some d) →
  (∀ y∈l,y.2=.free→∃ c,env.cells.lookup y.1=some c)→(bP env l acc).lookup x=some c→env.cells.lookup x=some c
 | [],acc,x,c,ha,_,e=>ha x c e
 | (n,k)::r,acc,x,c,ha,h,e=>by
  have hr:∀ x∈r,x.2=.free→∃ c,env.cells.lookup x.1=some c:=fun x hx=>h x (List.mem_cons_of_mem _ hx)
  refine oY r _ x c ?_ hr e
  intro y d q
  cases hk:(k == NameKind.free) with
  | false=>rw [hk,if_neg Bool.false_ne_true] at q; exact ha y d q
  | true=>
   rw [hk,if_pos rfl] at q
   obtain ⟨c',hc⟩:=h (n,k) List.mem_cons_self (by simpa using hk)
   have hc':env.cells.lookup n=some c':=hc
   rw [List.lookup_cons] at q
   by_cases z:y=n
   ·subst z
    simp [hc'] at q
    rw [hc',q]
   ·have z':(y == n)=false:=beq_eq_false_iff_ne.mpr z
    rw [z'] at q
    exact ha y d q
theorem pA {env:Env}:∀ (l:List (Str×NameKind)) (acc:List (Str×Addr)) (x:Str),(acc.lookup x).isSome=true→((bP env l acc).lookup x).isSome=true
 | [],_,_,h=>h
 | (n,k)::r,acc,x,h=>by
  refine pA r _ x ?_
  cases hk:(k == NameKind.free) with
  | false=>rw [if_neg Bool.false_ne_true]; exact h
  | true=>
   rw [if_pos rfl,List.lookup_cons]
   cases z:(x == n) with
   | true=>rfl
   | false=>exact h
theorem pz {env:Env}:∀ (l:List (Str×NameKind)) (acc:List (Str×Addr)) (x:Str),(x,NameKind.free)∈l→((bP env l acc).lookup x).isSome=true
 | [],_,_,h=>absurd h (by simp)
 | (n,k)::r,acc,x,h=>by
  rcases List.mem_cons.mp h with e | e
  ·cases e
   refine pA r _ _ ?_
   rw [if_pos (by decide),List.lookup_cons]
   simp
  ·exact pz r _ x e
open PySem PySem.Spec PyProof.Rows
structure CS (osc:Scope) (N:List Str) (x:Str) (scope:Scope) (N':List Str):Prop where
 kind:scope.kind=.function
 nocell:∀ y∈scope.names,y.2≠.cell
 names:∀ y∈scope.names,y.2=.local→scope.names.lookup y.1=some .local
 hx:scope.names.lookup x=some .local
 only:∀ y∈scope.names,y.2=.local→y.1=x∨y.1 = ".0"
 free:∀ y∈scope.names,y.2=.free→osc.names.lookup y.1=some .cell∨osc.names.lookup y.1=some .free
 nd:(x::N').Nodup
 n0:(".0" : Str)∉N'
 len:N'.length=N.length
 rel:∀ p∈N'.zip N,p.1=p.2∨∀ q∈scope.names,q.1≠p.1
theorem CS.at {osc:Scope} {N N':List Str} {x:Str} {scope:Scope} (S:CS osc N x scope N') {j:Nat} {y:Str} (h:N'[j]? = some y):N[j]? = some y∨∀ q∈scope.names,q.1≠y:=by
 have hl:j < N'.length:=(List.getElem?_eq_some_iff.mp h).1
 have hl2:j < N.length:=by rw [← S.len]; exact hl
 have m:(N'.zip N)[j]? = some (y,N[j]):=by
  rw [List.getElem?_zip_eq_some]
  exact ⟨h,List.getElem?_eq_getElem hl2⟩
 rcases S.rel _ (List.mem_of_getElem? m) with z | z
 ·left
  rw [List.getElem?_eq_getElem hl2]
  exact congrArg some z.symm
 ·exact .inr z
theorem qM {c:Str×NameKind→Bool}:∀ {names:List (Str×NameKind)} {y:Str} {k':NameKind},
  (names.map fun p=>if (p.2 == NameKind.free && c p)=true then (p.1,NameKind.cell) else (p.1,p.2)).lookup y=some k'→∃ k,(y,k)∈names∧(k'=k∨(k=.free∧k'=.cell))
 | [],_,_,h=>by simp at h
 | (n,k)::r,y,k',h=>by
  rw [List.map_cons] at h
  by_cases hy:y=n
  ·subst hy
   cases hc:(k == NameKind.free && c (y,k)) with
   | false=>
    simp only [hc,Bool.false_eq_true,if_false,List.lookup_cons,beq_self_eq_true] at h
    cases h
    exact ⟨k,List.mem_cons_self,.inl rfl⟩
   | true=>
    simp only [hc,if_true,List.lookup_cons,beq_self_eq_true] at h
    cases h
    have e:k=.free:=by
     have:=(Bool.and_eq_true _ _).mp hc
     simpa using this.1
    exact ⟨k,List.mem_cons_self,.inr ⟨e,rfl⟩⟩
  ·have hb:(y == n)=false:=beq_eq_false_iff_ne.mpr hy
   have h':(r.map fun p=>if (p.2 == NameKind.free && c p)=true then (p.1,NameKind.cell) else (p.1,p.2)).lookup y=some k':=by
    cases hc:(k == NameKind.free && c (n,k)) with
    | false=>simp only [hc,Bool.false_eq_true,if_false,List.lookup_cons,hb] at h; exact h
    | true=>simp only [hc,if_true,List.lookup_cons,hb] at h; exact h
   obtain ⟨k2,m,e⟩:=qM h'
   exact ⟨k2,List.mem_cons_of_mem _ m,e⟩
theorem lM {scope:Scope} {env:Env} {y:Str} {k':NameKind} (h:(relabel scope env).names.lookup y=some k'):∃ k,(y,k)∈scope.names∧(k'=k∨(k=.free∧k'=.cell)):=by
 refine qM (c:=fun p=>env.scope.kind == .function && env.kindOf p.1 == some .cell) ?_
 rw [← h]
 unfold relabel
 congr 1
 refine List.map_congr_left fun p _=>?_
 obtain ⟨n,k⟩:=p
 simp only [Bool.and_assoc]
abbrev cV (X:Cx) (x:Str) (scope:Scope) (C:Addr) (s0:Shared) (H0:Hp) (ex:List Addr) (N':List Str):Cx where
 prog:=X.prog
 w:=X.w
 K:=X.K
 mg:=X.mg
 base:=X.base
 A:=X.A
 N:=x::N'
 s₀:=s0
 H₀:=H0
 env:=compEnvC scope (bP X.env scope.names []) C X.env
 outer:=X.stack
 stack:=X.stack
 ex:=ex
 fn:=fun _=>false
 calm:=X.calm
 pn:=[]
 xe:=fun _ _=>False
section
variable {X:Cx} {pins:List (Addr×Obj)} {σ:St} {H:Hp} {s:Shared} {x:Str} {scope:Scope} {N':List Str}
theorem qQ (I:Inv X pins σ H s) (S:CS X.env.scope X.N x scope N'):∀ y∈scope.names,y.2=.free→∃ c,X.env.cells.lookup y.1=some c:=fun y hy e=>
 I.ok.has y.1 (S.free y hy e)
theorem qg (I:Inv X pins σ H s) (S:CS X.env.scope X.N x scope N') {y:Str} {c:Addr} (e:(bP X.env scope.names []).lookup y=some c):X.env.cells.lookup y=some c:=oY scope.names [] y c (fun _ _ z=>by simp at z) (qQ I S) e
theorem rf (I:Inv X pins σ H s) (S:CS X.env.scope X.N x scope N') {y:Str} (e:(y,NameKind.free)∈scope.names):∃ c,(bP X.env scope.names []).lookup y=some c∧X.env.cells.lookup y=some c:=by
 obtain ⟨c,hc⟩:=Option.isSome_iff_exists.mp (pz (env:=X.env) scope.names [] y e)
 exact ⟨c,hc,qg I S hc⟩
theorem xJ {fp:List Addr} {h':Heap} {m:Str→Option Value} {tk:Nat} {oD oC:Obj} (I:Inv X pins σ H s) (S:CS X.env.scope X.N x scope N') (hf:∀ b∈fp,dI X pins H b) (ho:∀ b∈fp,∃ o,s.heap.get? b=some o)
  (hns:h'.Ns (s.heap.push oD).objs.size m) (hsb:Heap.SameBut (s.heap.push oD).objs.size ((s.heap.push oD).push oC) h') :
  Inv (cV X x scope (s.heap.push oD).objs.size { s with heap:=s.heap.push oD } H (s.heap.objs.size::fp) N') [] (none::σ) H { s with heap:=h',toks:=tk }:=by
 have I3:Inv X pins σ H { s with heap:=s.heap.push oD,toks:=s.toks }:=I.kept fun b o e=>Heap.get?_push_of_some _ e
 have hC:(s.heap.push oD).objs.size=s.heap.objs.size + 1:=Heap.size_push ..
 have up3:∀ b o,(s.heap.push oD).get? b=some o→h'.get? b=some o:=fun b o e=>
  (hsb.2 b (Nat.ne_of_lt (Heap.lt_size e))).trans (Heap.get?_push_of_some _ e)
 have up:∀ b o,s.heap.get? b=some o→h'.get? b=some o:=fun b o e=>up3 b o (Heap.get?_push_of_some _ e)
 have cl:=fun {y c} e=>qg (y:=y) (c:=c) I S e
 have clt:∀ y c,X.env.cells.lookup y=some c→c < s.heap.objs.size:=fun y c e=>let ⟨v,q⟩:=I.cell y c e; q.lt
 have inner:∀ {y:Str} {k':NameKind},(relabel scope X.env).names.lookup y=some k'→(k'=.cell∨k'=.free)→(y,NameKind.free)∈scope.names:=fun {y k'} e hk=>by
  obtain ⟨k,mem,r⟩:=lM e
  rcases r with r | ⟨r,_⟩
  ·rcases hk with z | z
   ·exact absurd (r.symm.trans z) (S.nocell _ mem)
   ·rw [← r.symm.trans z]; exact mem
  ·rw [← r]; exact mem
 have ok:(cV X x scope (s.heap.push oD).objs.size { s with heap:=s.heap.push oD } H (s.heap.objs.size::fp) N').Ok:=by
  refine ⟨I.ok.mod,S.kind,I.ok.glob,I.ok.blt,Nat.le_refl _,fun y z c e1 e2=>I.ok.inj y z c (cl e1) (cl e2),fun y hk=>?_,fun y c e=>(nomatch e),I.ok.hd,I.ok.frames,.inl rfl,fun b hb=>?_,fun b o e=>?_,
   Nat.le_trans (Nat.le_trans I.ok.bsz I.sz) (by show s.heap.objs.size≤(s.heap.push oD).objs.size; omega),fun b o e hb=>?_,fun b hb z=>?_,I3.stack,I.stkFree⟩
  ·have mem:(y,NameKind.free)∈scope.names:=by
    rcases hk with z | z
    ·exact inner z (.inl rfl)
    ·exact inner z (.inr rfl)
   obtain ⟨c,hc,_⟩:=rf I S mem
   exact ⟨c,hc⟩
  ·rcases List.mem_cons.mp hb with e | e
   ·subst e
    exact ⟨by show s.heap.objs.size≠(s.heap.push oD).objs.size; omega,fun y c e=>Nat.ne_of_lt (clt y c (cl e))⟩
   ·obtain ⟨o,q⟩:=ho b e
    have q2:=Heap.lt_size q
    exact ⟨by show b≠(s.heap.push oD).objs.size; rw [hC]; exact Nat.ne_of_lt (Nat.lt_succ_of_lt q2),fun y c e'=>(hf b e).2.2.2.2.1 y c (cl e')⟩
  ·exact ⟨Heap.get?_push_of_some _ (I.bs b o e).1,(I.bs b o e).2⟩
  ·rcases List.mem_cons.mp hb with z | z
   ·have q2:=Heap.lt_size (I.bs b o e).1
    rw [z] at q2
    exact Nat.lt_irrefl _ q2
   ·rcases (hf b z).2.2.2.1 with q | q
    ·exact I.ok.noex b o e q
    ·have q2:=Heap.lt_size (I.ok.bs b o e).1
     exact Nat.lt_irrefl _ (Nat.lt_of_lt_of_le q2 q)
  ·have z':=I.stkSub b z
   rcases List.mem_cons.mp hb with e | e
   ·subst e
    rcases List.mem_cons.mp z' with q | q
    ·have q2:=I.lt
     rw [← q] at q2
     exact Nat.lt_irrefl _ q2
    ·exact I.nofs (Nat.le_refl _) q
   ·rcases List.mem_cons.mp z' with q | q
    ·exact (hf b e).2.1 q
    ·exact (hf b e).2.2.1 q
 obtain ⟨mo,hno,hlo⟩:=I.loc
 refine ⟨ok,rfl,I.bare,Un.kept up3,⟨m,hns,fun i y v e1 e2 e3=>?_⟩,fun y c e=>?_,I.hok.fresh (by show s.heap.objs.size≤(s.heap.push oD).objs.size; omega),fun y c e=>I.freeC y c (cl e),fun p hp=>absurd hp (by simp),I.hok.kept up,?_⟩
 ·cases i with
  | zero=>simp at e2
  | succ j=>
   have e1n:N'[j]? = some y:=by simpa using e1
   have vis:∃ k,(y,k)∈scope.names:=by
    rcases (show Vis (relabel scope X.env) y from e3) with z | z | z <;> exact let ⟨k,mem,_⟩:=lM z; ⟨k,mem⟩
   have e1':X.N[j]? = some y:=by
    rcases S.at e1n with z | z
    ·exact z
    ·obtain ⟨k,mem⟩:=vis
     exact absurd rfl (z _ mem)
   have e2':σ[j]? = some (some v):=by simpa using e2
   have yx:y≠x:=fun z=>by
    have nd:=S.nd
    rw [List.nodup_cons] at nd
    refine nd.1 ?_
    rw [← z]
    exact List.mem_of_getElem? e1n
   have kin:((relabel scope X.env).names.lookup y=some .cell∨(relabel scope X.env).names.lookup y=some .free):=by
    rcases (show Vis (relabel scope X.env) y from e3) with z | z | z
    ·obtain ⟨k,mem,r⟩:=lM z
     rcases r with r | ⟨_,r⟩
     ·rcases S.only _ mem r.symm with z2 | z2
      ·exact absurd z2 yx
      ·exact absurd (List.mem_of_getElem? e1n) (by rw [show y=(".0" : Str) from z2]; exact S.n0)
     ·cases r
    ·exact .inl z
    ·exact .inr z
   have mem:(y,NameKind.free)∈scope.names:=by
    rcases kin with z | z
    ·exact inner z (.inl rfl)
    ·exact inner z (.inr rfl)
   have vo:Vis X.env.scope y:=by
    rcases S.free _ mem rfl with z | z
    ·exact .inr (.inl z)
    ·exact .inr (.inr z)
   obtain ⟨u,ru,lk⟩:=hlo j y v e1' e2' vo
   refine ⟨u,ru,.inr ⟨kin,?_⟩⟩
   obtain ⟨c,hc,hc'⟩:=rf I S mem
   refine ⟨c,hc,?_⟩
   rcases lk with ⟨z,_⟩ | ⟨_,c2,z2,q⟩
   ·exfalso
    have z':X.env.scope.names.lookup y=some .local:=z
    rcases S.free _ mem rfl with r | r <;> (rw [z'] at r; cases r)
   ·rw [hc'] at z2
    cases z2
    obtain ⟨o,q1,q2⟩:=q
    exact ⟨o,up _ _ q1,q2⟩
 ·obtain ⟨v,o,q1,q2⟩:=I.cell y c (cl e)
  exact ⟨v,o,up _ _ q1,q2⟩
 ·have:=I.len
  simp [this,S.len]
theorem xI {fp:List Addr} {σ':St} {pins':List (Addr×Obj)} {H1:Hp} {s1:Shared} {h':Heap} {C:Addr} {oD:Obj} {ys:List V} (I:Inv X pins σ H s) (hf:∀ b∈fp,dI X pins H b)
  (hCd:C=(s.heap.push oD).objs.size) (J:Inv (cV X x scope C { s with heap:=s.heap.push oD } H (s.heap.objs.size::fp) N') pins' σ' H1 s1) (hsb:Heap.SameBut C s1.heap h') (hD0:H1 s.heap.objs.size=none)
  (new:∃ its n,Vals ys its∧s1.heap.get? s.heap.objs.size=some { cls:=.type "list",data:=.seq its.toArray n }) (hz:ys.length≤sizeLine) :
  Inv X pins σ (upd H1 s.heap.objs.size (.lst ys)) { s1 with heap:=h' }:=by
 have hC:C=s.heap.objs.size + 1:=by rw [hCd]; exact Heap.size_push ..
 have nD:∀ b o,s.heap.get? b=some o→b≠s.heap.objs.size:=fun b o e=>Nat.ne_of_lt (Heap.lt_size e)
 have nC:∀ b o,s.heap.get? b=some o→b≠C:=fun b o e=>by rw [hC]; exact Nat.ne_of_lt (Nat.lt_succ_of_lt (Heap.lt_size e))
 have up:∀ b o,s.heap.get? b=some o→(s.heap.push oD).get? b=some o:=fun b o e=>Heap.get?_push_of_some _ e
 have nx:∀ b,b∉fp→b≠s.heap.objs.size→b∉s.heap.objs.size::fp:=fun b h1 h2 z=>(List.mem_cons.mp z).elim h2 h1
 have hDC:s.heap.objs.size≠C:=by rw [hC]; exact Nat.ne_of_lt (Nat.lt_succ_self _)
 have tr:∀ b u,H1 b=some u→b≠s.heap.objs.size:=fun b u e z=>by rw [z,hD0] at e; cases e
 have trC:∀ b u,H1 b=some u→b≠C:=fun b u e z=>by
  have:=J.free
  rw [z] at e
  have q:H1 C=none:=J.free
  rw [q] at e; cases e
 obtain ⟨its,n,rv,eD⟩:=new
 have B:Un (frs X.stack) (s.heap.objs.size::fp) H H1 (s.heap.push oD) s1.heap:=J.base
 refine I.call' (s':={ s1 with heap:=h' }) (ch:=fp) J.os ⟨fun b o e q h1 h2=>?_,fun b o e q h1 h2=>?_,fun b o e q h2=>?_,fun b o e h2=>?_,fun b xs e=>?_,fun b o u e=>?_,fun b ps e=>?_⟩ (fun b u e=>?_) J.bare fun b hb=>?_
 ·exact (hsb.2 b (nC b o e)).trans (B.keep b o (up b o e) q h1 (nx b h2 (nD b o e)))
 ·obtain ⟨sl,z⟩:=B.slot b o (up b o e) q h1 (nx b h2 (nD b o e))
  exact ⟨sl,(hsb.2 b (nC b o e)).trans z⟩
 ·rw [aD (nD b o e)]
  exact B.free b o (up b o e) q (nx b h2 (nD b o e))
 ·obtain ⟨o',z⟩:=B.there b o (up b o e) (nx b h2 (nD b o e))
  exact ⟨o',(hsb.2 b (nC b o e)).trans z⟩
 ·have z:=B.tups b xs e
  rw [aD (tr b _ z)]; exact z
 ·have z:=B.frzs b o u e
  rw [aD (tr b _ z)]; exact z
 ·obtain ⟨more,z⟩:=B.tbls b ps e
  exact ⟨more,by rw [aD (tr b _ z)]; exact z⟩
 ·by_cases hb:b=s.heap.objs.size
  ·subst hb
   rw [aR] at e
   cases e
   exact ⟨hz,its,n,rv,(hsb.2 _ hDC).trans eD⟩
  ·rw [aD hb] at e
   refine (J.hok b u e).stay (fun c v hc q=>(hsb.2 c ?_).trans q) (fun c q=>by rw [aD (tr c _ q)]; exact q) fun c xs q=>by rw [aD (tr c _ q)]; exact q
   rcases hc with z | z
   ·rw [z]; exact trC b u e
   ·exact trC c _ z
 ·obtain ⟨_,f1,_,f3,f4,f5⟩:=hf b hb
  exact ⟨f3,f1,f4,f5⟩
end
def PTs (X:Cx) (ifs:List Expr) (t:TT):Prop:=
 ∀ (pins:List (Addr×Obj)) (s:Shared) (σ:St) (H:Hp) (Q:Bool→Hp→Prop) (E:Value→Shared→Prop),Inv X pins σ H s→t σ H Q →
  wpAny (model X.prog X.w) X.A (forIn ifs true fun c r=>if r=true then do
   let ok ← isTrue c X.env (eval c X.env)
   pure (ForInStep.yield ok) else pure (ForInStep.yield r)) (TP X pins σ Q) E s
theorem An {X:Cx}:PTs X [] (fun _ H Q=>Q true H):=fun _ _ _ H _ _ I h=>wpAny_tests_nil ⟨H,I,h⟩
theorem Am {X:Cx} {c:Expr} {t:TT} (hx:X.xe=fun _ _=>False) (h:PT X c t):PTs X [c] t:=fun pins s σ H Q _ I q=>
 wpAny_tests_one (wpAny_mono (h pins s σ H Q I q) (fun _ _ z=>z) fun e s' z=>by rw [hx] at z; exact z.elim)
def oh (σ:St) (J:It) (tt:TT) (te:TE) (W:Nat→Nat→List V→Hp→Prop) (D:List V→Hp→Prop):Prop:=∀ i m ys H,W i m ys H →
 (J.stop i H∧ys.length≤sizeLine∧D ys H)∨(J.go i H∧ys.length < sizeLine∧∃ N:List V→Hp→Prop,(∀ ys' H',N ys' H'→∃ m',m' < m∧W (i + 1) m' ys' H')∧∀ v H',J.yld i H v H'→tt (some v::σ) H' fun b H2=>
  if b=true then te (some v::σ) H2 fun y H3=>N (ys++[y]) H3 else N ys H2)
section
variable {X:Cx} {pins:List (Addr×Obj)} {σ:St} {H:Hp} {s:Shared} {x:Str} {scope:Scope} {N':List Str}
theorem yG {fp:List Addr} {it C:Addr} {tn:Nat→Heap→Prop} {J:It} {oD:Obj} {elt iter:Expr} {ifs:List Expr} {px pos:Pos} {te:TE} {tt:TT} {W:Nat→Nat→List V→Hp→Prop} {Dn:List V→Hp→Prop}
  {R:Result→Shared→Prop} {σ':St} {s4:Shared} {m0:Nat} (hcalm:X.calm=true) (S:CS X.env.scope X.N x scope N') (hf:∀ b∈fp,dI X pins H b) (ho:∀ b∈fp,∃ o,s.heap.get? b=some o) (hCd:C=(s.heap.push oD).objs.size)
  (T:Turn X.prog X.w X.K (.Name x px) J fp it tn) (I4:Inv (cV X x scope C { s with heap:=s.heap.push oD } H (s.heap.objs.size::fp) N') [] (none::σ) H s4) (st4:tn 0 s4.heap) (hD4:s4.heap.get? s.heap.objs.size=some { cls:=.type "list",data:=.seq #[] 0 })
  (hDn:H s.heap.objs.size=none) (hte:PE (cV X x scope C { s with heap:=s.heap.push oD } H (s.heap.objs.size::fp) N') elt te) (htt:PTs (cV X x scope C { s with heap:=s.heap.push oD } H (s.heap.objs.size::fp) N') ifs tt)
  (w0:W 0 m0 [] H) (turn:oh σ J tt te W Dn)
  (hR:∀ s1 H1 σ1 ys its n,Inv (cV X x scope C { s with heap:=s.heap.push oD } H (s.heap.objs.size::fp) N') [] σ1 H1 s1→H1 s.heap.objs.size=none→Vals ys its→s1.heap.get? s.heap.objs.size=some { cls:=.type "list",data:=.seq its.toArray n }→ys.length≤sizeLine→Dn ys H1→R (.ok .next) s1) :
  codeAny (model X.prog X.w) X.A (.compLoop (.ListComp elt [⟨.Name x px,iter,ifs,0⟩] scope pos) 0 (.ref it) (.ref s.heap.objs.size) (compEnvC scope (bP X.env scope.names []) C X.env)) R s4:=by
 have hC:C=s.heap.objs.size + 1:=by rw [hCd]; exact Heap.size_push ..
 generalize hX:cV X x scope C { s with heap:=s.heap.push oD } H (s.heap.objs.size::fp) N'=X' at *
 have xP:X'.prog=X.prog:=by rw [← hX]
 have xW:X'.w=X.w:=by rw [← hX]
 have xK:X'.K=X.K:=by rw [← hX]
 have xA:X'.A=X.A:=by rw [← hX]
 have xE:X'.env=compEnvC scope (bP X.env scope.names []) C X.env:=by rw [← hX]
 have xC:X'.calm=true:=by rw [← hX]; exact hcalm
 have xex:X'.ex=s.heap.objs.size::fp:=by rw [← hX]
 have xpn:X'.pn=[]:=by rw [← hX]
 have xxe:X'.xe=fun _ _=>False:=by rw [← hX]
 have xN:X'.N=x::N':=by rw [← hX]
 have xL:X'.env.locals=C:=by rw [xE]; rfl
 have xloc:X'.env.scope.names.lookup x=some .local:=by rw [xE]; exact lookup_relabel_local S.hx
 have lt:∀ b∈fp,b < s.heap.objs.size:=fun b hb=>let ⟨_,e⟩:=ho b hb; Heap.lt_size e
 have fpk:∀ {pl:List (Addr×Obj)} {H':Hp},(∀ p∈pl,p.1=s.heap.objs.size)→(∀ b∈fp,H' b=none)→∀ b∈fp,dI X' pl H' b:=fun {pl H'} hp hn b hb=>by
  have okk:=I4.ok
  have hm:b∈X'.ex:=by rw [xex]; exact List.mem_cons_of_mem _ hb
  refine ⟨hn b hb,(okk.exf b hm).1,okk.exfs b hm,.inl hm,(okk.exf b hm).2,fun p hpl z=>?_⟩
  rw [xpn] at hpl
  have q1:=hp p (by simpa using hpl)
  have q2:=lt b hb
  rw [← z,q1] at q2
  exact Nat.lt_irrefl _ q2
 have dok:∀ {pl:List (Addr×Obj)} {H':Hp},(∀ p∈pl,p.1∈fp)→H' s.heap.objs.size=none→dI X' pl H' s.heap.objs.size:=fun {pl H'} hp hn=>by
  have okk:=I4.ok
  have hm:s.heap.objs.size∈X'.ex:=by rw [xex]; exact List.mem_cons_self
  refine ⟨hn,(okk.exf _ hm).1,okk.exfs _ hm,.inl hm,(okk.exf _ hm).2,fun p hpl z=>?_⟩
  rw [xpn] at hpl
  have q2:=lt p.1 (hp p (by simpa using hpl))
  rw [z] at q2
  exact Nat.lt_irrefl _ q2
 refine codeAny_compLoop_tests (I:=fun m s'=>∃ i σx H' ys its n,Inv X' [] (σx::σ) H' s'∧tn i s'.heap∧(∀ b∈fp,H' b=none)∧H' s.heap.objs.size=none∧Vals ys its∧s'.heap.get? s.heap.objs.size=some { cls:=.type "list",data:=.seq its.toArray n }∧W i m ys H') ?_ m0
  ⟨0,none,H,[],[],0,I4,st4,fun b hb=>(hf b hb).1,hDn,.nil,hD4,w0⟩
 rintro m s5 ⟨i,σx,H5,ys,its,n,I5,st5,fr5,d5,rv,e5,w5⟩
 have I5d:Inv X' ([]++fV [s.heap.objs.size] s5.heap) (σx::σ) H5 s5:=I5.pinned (fun b hb=>by
   have e:b=s.heap.objs.size:=by simpa using hb
   rw [e]; exact dok (fun p hp=>absurd hp (by simp)) d5) fun b hb=>by
   have e:b=s.heap.objs.size:=by simpa using hb
   rw [e]; exact ⟨_,e5,fun v z=>by cases z⟩
 have pD:([]++fV [s.heap.objs.size] s5.heap:List (Addr×Obj))=[(s.heap.objs.size,{ cls:=.type "list",data:=.seq its.toArray n })]:=by
  simp [fV,e5]
 rw [pD] at I5d
 have p1:∀ p∈[(s.heap.objs.size,({ cls:=.type "list",data:=.seq its.toArray n }:Obj))],p.1=s.heap.objs.size:=fun p hp=>by
  have e:p=(s.heap.objs.size,{ cls:=.type "list",data:=.seq its.toArray n }):=by simpa using hp
  rw [e]
 have hsz:its.length=ys.length:=rv.length.symm
 rcases turn i m ys H5 w5 with ⟨stop,hz,dn⟩ | ⟨go,hz,N,hN,step⟩
 ·have q:=T.done X' xP xW xK xC i _ s5 (σx::σ) H5 (notedBy (model X.prog X.w) X.A (compEnvC scope (bP X.env scope.names []) C X.env) fun e s'=>R (.error e) s') I5d (fpk p1 fr5) st5 stop
  rw [xA] at q
  refine wpAny_mono q (fun r s6 z=>?_) fun _ _ z=>z
  obtain ⟨rfl,I6⟩:=z
  refine hR s6 H5 (σx::σ) ys its n ?_ d5 rv (I6.pin _ (List.mem_append_right _ (List.mem_singleton.mpr rfl))).1 hz dn
  exact I6.pins_of fun p hp=>absurd hp (by simp)
 ·have q:=T.item X' xP xW xK xC i _ s5 (σx::σ) H5 (notedBy (model X.prog X.w) X.A (compEnvC scope (bP X.env scope.names []) C X.env) fun e s'=>R (.error e) s') I5d (fpk p1 fr5) st5 go
  rw [xA] at q
  refine wpAny_mono q (fun r s6 z=>?_) fun _ _ z=>z
  obtain ⟨u,rfl,z⟩:=z
  dsimp only
  have z':wpAny (model X.prog X.w) X.A (pure ()) _ _ s6:=z
  refine wpAny_bind (m:=pure ()) (f:=fun _=>assign (.Name x px) (compEnvC scope (bP X.env scope.names []) C X.env) u) (wpAny_mono z' (fun _ s7 z=>?_) fun _ _ z=>z)
  obtain ⟨v,H7,I7,rv7,y7,st7,fr7⟩:=z
  have I7p:=I7.pinned (fpk p1 fr7) (T.obj _ _ st7)
  rw [← xE]
  have nd:X'.N.Nodup:=by rw [xN]; exact S.nd
  have hi0:X'.N[0]? = some x:=by rw [xN]; rfl
  refine wpAny_assign_Name (jQ (E:=notedBy (model X.prog X.w) X.A X'.env fun e s'=>R (.error e) s') (i:=0) I7p nd hi0 (.inl xloc) rv7 (fun s8 I8=>?_) (.inr xloc))
  have I8':Inv X' _ (some v::σ) H7 s8:=I8
  have t8:=htt _ s8 (some v::σ) H7 _ (notedBy (model X.prog X.w) X.A X'.env fun e s'=>R (.error e) s') I8' (step v H7 y7)
  rw [xP,xW,xA] at t8
  refine wpAny_mono t8 (fun ok s9 z=>?_) fun _ _ z=>z
  obtain ⟨H9,I9,q9⟩:=z
  have back:∀ {s':Shared} {H':Hp} {σ2:St},Inv X' ([(s.heap.objs.size,({ cls:=.type "list",data:=.seq its.toArray n }:Obj))]++fV fp s7.heap) σ2 H' s' →
    tn (i + 1) s'.heap∧(∀ b∈fp,H' b=none)∧H' s.heap.objs.size=none∧s'.heap.get? s.heap.objs.size=some { cls:=.type "list",data:=.seq its.toArray n }∧Inv X' [] σ2 H' s':=fun {s' H' σ2} I'=>by
   refine ⟨T.keep _ _ _ st7 fun b hb o e=>(I'.pin (b,o) (List.mem_append_right _ (List.mem_append_right _ (jL hb e)))).1,fun b hb=>?_,?_,?_,I'.pins_of fun p hp=>absurd hp (by simp)⟩
   ·obtain ⟨o,e,_⟩:=T.obj _ _ st7 b hb
    exact (I'.pin (b,o) (List.mem_append_right _ (List.mem_append_right _ (jL hb e)))).2.1
   ·exact (I'.pin (s.heap.objs.size,_) (List.mem_append_right _ (List.mem_append_left _ (List.mem_singleton.mpr rfl)))).2.1
   ·exact (I'.pin (s.heap.objs.size,_) (List.mem_append_right _ (List.mem_append_left _ (List.mem_singleton.mpr rfl)))).1
  cases ok with
  | false=>
   simp only [Bool.false_eq_true,if_false] at q9 ⊢
   obtain ⟨m',hm,w9⟩:=hN _ _ q9
   obtain ⟨a1,a2,a3,a4,a5⟩:=back I9
   exact ⟨m',hm,i + 1,some v,H9,ys,its,n,a5,a1,a2,a3,rv,a4,w9⟩
  | true=>
   simp only [if_true] at q9 ⊢
   have t9:=hte _ s9 (some v::σ) H9 _ I9 q9
   rw [xP,xW,xA,xxe] at t9
   refine wpAny_mono t9 (fun u2 s10 z=>?_) fun _ _ z=>z.elim
   obtain ⟨y,H10,I10,r10,q10⟩:=z
   obtain ⟨m',hm,w10⟩:=hN _ _ q10
   obtain ⟨a1,a2,a3,a4,a5⟩:=back I10
   refine wpAny_list_append_plain ⟨n,a4⟩ (fun h' pl sb=>?_) (by rw [List.size_toArray]; omega)
   obtain ⟨n',e'⟩:=pl
   have D0:=dok (pl:=[]) (fun p hp=>absurd hp (by simp)) a3
   refine ⟨m',hm,i + 1,some v,H10,ys++[y],its++[u2],n',a5.turned (t':=s10.toks) (fun b o hb e=>(sb.2 b hb).trans e) D0.1 D0.2.1 D0.2.2.2.1 D0.2.2.2.2.1 D0.2.2.2.2.2,?_,a2,a3,rv.append (.cons r10 .nil),by simpa using e',w10⟩
   exact T.keep _ _ _ a1 fun b hb o e=>(sb.2 b (Nat.ne_of_lt (lt b hb))).trans e
end
section
variable {X:Cx} {x:Str} {scope:Scope} {N':List Str} {elt iter:Expr} {ifs:List Expr} {px pos:Pos} {wi:TI} {te:TE} {tt:TT}
def tV (wi:TI) (tt:TT) (te:TE):TE:=fun σ H Q=>wi σ H fun J H1=>∃ W:Nat→Nat→List V→Hp→Prop,(∃ m,W 0 m [] H1)∧oh σ J tt te W fun ys H=>∀ p,H p=none→Q (.ref p) (upd H p (.lst ys))
theorem Ay (hc:X.calm=true) (S:CS X.env.scope X.N x scope N') (hi:PI X (.Name x px) iter wi) (he:∀ C s0 H0 ex,PE (cV X x scope C s0 H0 ex N') elt te)
  (ht:∀ C s0 H0 ex,PTs (cV X x scope C s0 H0 ex N') ifs tt) (hs:∀ v,foldedSetIterable iter X.env v=pure v:=by intro _; rfl):PE X (.ListComp elt [⟨.Name x px,iter,ifs,0⟩] scope pos) (tV wi tt te):=by
 intro pins s σ H Q I h
 rw [eval_ListComp]
 refine wpAny_comprehension_free (use:=none) rfl hs (xM (qQ I S)) S.kind S.names (thn (hi pins s σ H _ I h) fun v s1 h1=>thn h1 fun itv s2 h2=>?_)
 obtain ⟨it,fp,tn,J,H2,rfl,I2,T,st2,f2,W,⟨m0,w0⟩,turn⟩:=h2
 have ho:∀ b∈fp,∃ o,s2.heap.get? b=some o:=fun b hb=>let ⟨o,e,_⟩:=T.obj _ _ st2 b hb; ⟨o,e⟩
 refine wpAny_newObj_type (wpAny_newFunctionEnv S.nocell (by intro y hy; simp at hy) (fun h' hns hsb=>?_) S.kind)
 have I4:=xJ (x:=x) (scope:=scope) (tk:=s2.toks + ([]:List (Str×Value)).length) I2 S f2 ho hns hsb
 have up3:∀ b o,(s2.heap.push { cls:=.type "list",dict:=none,data:=.seq ([]:List Value).toArray }).get? b=some o→h'.get? b=some o:=fun b o e=>
  (hsb.2 b (Nat.ne_of_lt (Heap.lt_size e))).trans (Heap.get?_push_of_some _ e)
 have st4:tn 0 h':=T.keep _ _ _ st2 fun b _ o e=>up3 b o (Heap.get?_push_of_some _ e)
 have loop:=yG (elt:=elt) (iter:=iter) (ifs:=ifs) (pos:=pos) (R:=compPost (model X.prog X.w) X.A X.xe none (EP X pins σ Q) (.ref s2.heap.objs.size) (s2.heap.push { cls:=.type "list",dict:=none,data:=.seq ([]:List Value).toArray }).objs.size) (σ':=σ)
  hc S f2 ho rfl T I4 st4 (up3 _ _ (Heap.get?_push_size _ rfl)) (I2.hok.fresh (Nat.le_refl _)) (he _ _ _ _) (ht _ _ _ _) w0 turn fun s5 H5 σ5 ys its n J5 d5 rv e5 hz dn=>by
   obtain ⟨m,hn,_⟩:=J5.loc
   exact ⟨m,hn,fun h'' sb=>⟨.ref s2.heap.objs.size,_,xI I2 f2 rfl J5 sb d5 ⟨its,n,rv,e5⟩ hz,rfl,dn _ d5⟩⟩
 exact codeAny_compStart_list loop (T.self X.A 0 _ _ _ st4 loop)
end
section
variable {σ:St} {tt:TT} {te:TE}
end
def Its (z:Str):It:=⟨fun i _=>i < z.cps.size,fun i H v H'=>H'=H∧∃ c,z.cps[i]? = some c∧v=.str ⟨#[c]⟩,fun i _=>z.cps.size≤i⟩
theorem qq {P:Program} {w:World} {K:Frag} {tg:Expr} (z:Str) (t:Tok) (ty:String) (it:Addr) (hty:ty = "str_ascii_iterator"∨ty = "str_iterator") :
  Turn P w K tg (Its z) [it] it (fun i h=>h.IsStrIter it ty z t i) where
 mem:=by simp
 obj:=fun i h st b hb=>by
  have e:b=it:=by simpa using hb
  subst e
  obtain ⟨o,e,c,d⟩:=st
  exact ⟨o,e,fun v q=>by rw [d] at q; cases q⟩
 keep:=fun i h h' st k=>let ⟨o,e,r⟩:=st; ⟨o,k it (by simp) o e,r⟩
 item:=by
  intro X hP hw hK hc i pins s σ H E I hf st hg
  subst hP hw hK
  have hi:i < z.cps.size:=hg
  obtain ⟨f0,f1,f2,f3,f4,f5⟩:=hf it (by simp)
  have fin:∀ h',h'.IsStrIter it ty z t (i + 1)→Heap.SameBut it s.heap h'→∃ u,(some (Value.str ⟨#[z.cps[i]]⟩ s.toks):Option Value)=some u ∧
    wpAny (model X.prog X.w) X.A (letOwnedTupleGo tg (.ref it) u) (fun _ s2=>∃ x H',Inv X pins σ H' s2∧RelV x u∧(Its z).yld i H x H'∧s2.heap.IsStrIter it ty z t (i + 1)∧∀ b∈[it],H' b=none) E { s with heap:=h',toks:=s.toks + 1 }:=fun h' st' sb=>by
   have I1:Inv X pins σ H { s with heap:=h',toks:=s.toks + 1 }:=I.turned (fun b o hb e=>(sb.2 b hb).trans e) f0 f1 f3 f4 f5
   obtain ⟨o,e,c,d⟩:=id st'
   refine ⟨_,rfl,jp (s:={ s with heap:=h',toks:=s.toks + 1 }) (n:=ty) e c d ?_ ⟨.str ⟨#[z.cps[i]]⟩,H,I1,⟨_,rfl⟩,⟨rfl,z.cps[i],by simp [hi],rfl⟩,st',fun b hb=>(hf b hb).1⟩⟩
   rcases hty with e | e <;> (rw [e]; decide)
  rcases hty with e | e
  ·subst e
   exact wpAny_pyNext_ascii_item st (c:=z.cps[i]) (by simp [hi]) fin
  ·subst e
   exact wpAny_pyNext_wide_item st (c:=z.cps[i]) (by simp [hi]) fin
 done:=by
  intro X hP hw hK hc i pins s σ H E I hf st hg
  subst hP hw hK
  have hi:z.cps.size≤i:=hg
  obtain ⟨f0,f1,f2,f3,f4,f5⟩:=hf it (by simp)
  have fin:∀ h',Heap.ExtBut it s.heap h'→(none:Option Value)=none∧Inv X pins σ H { s with heap:=h' }:=fun h' eb=>⟨rfl,I.turned (t':=s.toks) (fun b o hb e=>eb b o hb e) f0 f1 f3 f4 f5⟩
  rcases hty with e | e
  ·subst e
   exact wpAny_pyNext_ascii_end (I.ok.hd hc) st (by simp; omega) fin
  ·subst e
   exact wpAny_pyNext_wide_end (I.ok.hd hc) st (by simp; omega) fin
 self:=fun _ _ _ _ _ st h=>by
  rcases hty with e | e
  ·subst e
   exact wpAny_pyIter_striter_ascii st h
  ·subst e
   exact wpAny_pyIter_striter_wide st h
section
variable {X:Cx} {tg:Expr}
end
theorem all_range (bs:List Bool) (n:Nat) (hn:n=bs.length):(List.range n).all (fun i=>bs.getD i false)=bs.all id:=by
 subst hn
 rw [Bool.eq_iff_iff,List.all_eq_true,List.all_eq_true]
 constructor
 ·intro h b hb
  obtain ⟨i,hi,rfl⟩:=List.getElem_of_mem hb
  have:=h i (List.mem_range.mpr hi)
  simpa [List.getD,hi] using this
 ·intro h i hi
  have hi':=List.mem_range.mp hi
  have:=h bs[i] (List.getElem_mem hi')
  simpa [List.getD,hi'] using this
theorem ph:∀ (ns:List Int) (k:Nat),k≤ns.length→preSum (fun i=>ns.getD i 0) k=(ns.take k).sum
 | ns,0,_=>by simp [preSum]
 | ns,k + 1,h=>by
  have hk:k < ns.length:=h
  have ih:=ph ns k (Nat.le_of_lt hk)
  have e:(ns.take (k + 1)).sum=(ns.take k).sum + ns.getD k 0:=by
   rw [List.take_add_one,List.sum_append]
   simp [List.getD,hk]
  rw [e,← ih]
  rfl
section
variable {X:Cx}
theorem zT (hc:X.calm=true):CallR X (.builtin "all") (fun xs H Q=>∃ (p:Addr) (bs:List Bool),xs=[.ref p]∧SqL X.K H p (bs.map V.bl)∧Q (.bl (bs.all id)) H):=by
 intro pins s σ H xs us Q I r h
 obtain ⟨p,bs,rfl,hq,q⟩:=h
 obtain ⟨u,rfl,ru⟩:=vals1 r
 cases ru
 obtain ⟨its,rv,pl,hz⟩:=I.list hq
 have hlen:its.length=bs.length:=by have:=rv.length; simpa using this.symm
 have hlt:p < s.heap.objs.size:=by
  obtain ⟨o,n,e,_⟩:=pl
  exact Heap.lt_size e
 refine call_all_walk (wpAny_pyIter_list pl.isList ?_)
 refine ⟨s.heap.objs.size,_,_,_,_,_,fun i=>bs.getD i false,rfl,Walks.list (A:=X.A.in1) (I.ok.hd hc) _ p (Nat.ne_of_lt hlt) its.toArray,⟨⟨_,Heap.get?_push_size _ rfl,rfl,rfl⟩,?_⟩,fun i v s' Q' E' hv hQ'=>?_,fun h' tk hk=>?_⟩
 ·obtain ⟨o,n,e,r⟩:=pl.isList
  exact ⟨o,Heap.get?_push_of_some _ n,e,r⟩
 ·have hi:i < its.length:=by
   have:=(Array.getElem?_eq_some_iff.mp hv).1
   simpa using this
  have hi2:i < bs.length:=by omega
  obtain ⟨u,hu,ru⟩:=rv.get (i:=i) (x:=.bl bs[i]) (by simp [hi2])
  have e:v=u:=by
   have hv':its[i]? = some v:=by simpa using hv
   rw [hu] at hv'
   exact (Option.some.inj hv').symm
  subst e
  cases (show v=Value.bool bs[i] from ru)
  refine wpAny_truthy_bool ?_
  have e:bs[i]=bs.getD i false:=by simp [List.getD,hi2]
  rw [e]
  exact hQ'
 ·have e:(List.range its.toArray.size).all (fun i=>bs.getD i false)=bs.all id:=all_range bs _ (by simpa using hlen)
  rw [e]
  exact ⟨.bl _,H,I.kept (t':=tk) fun b o q=>hk b o (by simp; exact Nat.ne_of_lt (Heap.lt_size q)) (Heap.get?_push_of_some _ q),rfl,q⟩
theorem AV {ns:List Int} {its:List Value} (rv:Vals (ns.map V.int) its) {i:Nat} {v:Value} (hv:its.toArray[i]? = some v):∃ t,v=.int (ns.getD i 0) t:=by
 have hlen:its.length=ns.length:=by have:=rv.length; simpa using this.symm
 have hi:i < its.length:=by
  have:=(Array.getElem?_eq_some_iff.mp hv).1
  simpa using this
 have hi2:i < ns.length:=by omega
 obtain ⟨u,hu,ru⟩:=rv.get (i:=i) (x:=.int ns[i]) (by simp [hi2])
 have e:v=u:=by
  have hv':its[i]? = some v:=by simpa using hv
  rw [hu] at hv'
  exact (Option.some.inj hv').symm
 subst e
 obtain ⟨t,e⟩:=(show ∃ t,v=Value.int ns[i] t from ru)
 refine ⟨t,?_⟩
 rw [e]
 simp [List.getD,hi2]
theorem zR (hc:X.calm=true):CallR X (.builtin "sum") (fun xs H Q=>∃ (p:Addr) (ns:List Int),xs=[.ref p]∧SqL X.K H p (ns.map V.int)∧Q (.int ns.sum) H):=by
 intro pins s σ H xs us Q I r h
 obtain ⟨p,ns,rfl,hq,q⟩:=h
 obtain ⟨u,rfl,ru⟩:=vals1 r
 cases ru
 obtain ⟨its,rv,pl,hz⟩:=I.list hq
 have hlen:its.length=ns.length:=by have:=rv.length; simpa using this.symm
 have hlt:p < s.heap.objs.size:=by
  obtain ⟨o,n,e,_⟩:=pl
  exact Heap.lt_size e
 refine call_sum_walkG (wpAny_pyIter_list pl.isList ?_)
 refine ⟨s.heap.objs.size,_,_,_,_,_,fun i=>ns.getD i 0,rfl,Walks.list (A:=X.A.in1) (I.ok.hd hc) _ p (Nat.ne_of_lt hlt) its.toArray,⟨⟨_,Heap.get?_push_size _ rfl,rfl,rfl⟩,?_⟩,fun b hb=>?_,fun i v hv=>AV rv hv,fun h' tk t' hk=>?_⟩
 ·obtain ⟨o,n,e,r⟩:=pl.isList
  exact ⟨o,Heap.get?_push_of_some _ n,e,r⟩
 ·rw [Heap.size_push]
  rcases (by simpa using hb:b=s.heap.objs.size∨b=p) with e | e
  ·rw [e]; exact Nat.lt_succ_self _
  ·rw [e]; exact Nat.lt_succ_of_lt hlt
 ·have e:preSum (fun i=>ns.getD i 0) its.toArray.size=ns.sum:=by
   rw [ph ns _ (by simp; omega)]
   rw [List.take_of_length_le (by simp; omega)]
  rw [e]
  exact ⟨.int _,H,I.kept (t':=tk) fun b o q=>hk b o (by simp; exact Nat.ne_of_lt (Heap.lt_size q)) (Heap.get?_push_of_some _ q),⟨t',rfl⟩,q⟩
end
open K1 (iV gX)
section
variable {prog:Program} {w:World} {A:Around} {R:Result→Shared→Prop} {it S:Addr} {fp wr:List Addr} {P:Nat→Value→Prop} {St:Nat→Heap→Prop} {ns:List Int} {kw:List (Str×Value)}
end
section
variable {X:Cx}
end
section
variable {X:Cx} {e ed:Expr} {te td:TE} {p pos kpos:Pos}
end
section
variable {X:Cx}
theorem op_catG:OpR X (binaryOp .Add) (fun x y H Q=>∃ a b xs ys,x=.ref a∧y=.ref b∧SqT X.K H a xs∧SqT X.K H b ys∧xs.length + ys.length≤sizeLine ∧
  (xs=[]→Q (.ref b) H)∧(xs≠[]→ys=[]→Q (.ref a) H)∧(xs≠[]→ys≠[]→∀ p,H p=none→Q (.ref p) (upd H p (.tup (xs++ys))))):=by
 intro pins s σ H x y v u Q I rx ry h
 obtain ⟨a,b,xs,ys,rfl,rfl,ha,hb,hz,q0,q1,q2⟩:=h
 by_cases hx:xs=[]
 ·cases rx
  cases ry
  obtain ⟨its,r1,p1,_⟩:=I.tuple ha
  obtain ⟨its2,r2,p2,_⟩:=I.tuple hb
  have hv:its=[]:=r1.nil_iff.mpr hx
  obtain ⟨⟨cls,dd,data,sl⟩,ho,hc,n,hd⟩:=id p1
  obtain ⟨⟨cls2,dd2,data2,sl2⟩,ho2,hc2,n2,hd2⟩:=id p2
  simp only at hc hd hc2 hd2
  subst hc hd hc2 hd2
  exact concat_meets ⟨_,ho,rfl⟩ ⟨_,ho2,rfl⟩ noFill_tuple_add seq_tuple_add PySem.F.slot_tuple_add PySem.F.entry_tuple_add (PySem.F.args_tuple_add_2 _ _)
   (tuple_addW0 a b its.toArray its2.toArray n n2 dd dd2 sl sl2 (by simp [hv])) ⟨ho,ho2,⟨.ref b,H,I,rfl,q0 hx⟩⟩
 ·exact AD pins s σ H _ _ v u Q I rx ry ⟨a,b,xs,ys,rfl,rfl,ha,hb,hx,hz,q1 hx,q2 hx⟩
theorem Bz:SlR X (fun x lo hi H Q=>∃ z:Str,x=.str z∧z.length≤sizeLine∧Q (.str (Txt.slice z lo hi)) H):=by
 intro pins s σ H x v vl vu lo hi sl Q I rx hs pl pu h
 obtain ⟨z,rfl,hz,q⟩:=h
 obtain ⟨t,rfl⟩:=rx
 have fin:∀ l u:Option (Int×Tok),l.map (·.1)=lo→u.map (·.1)=hi→s.heap.IsSlice sl l u none→wpAny (model X.prog X.w) X.A (getItem (.str z t) (.ref sl)) (EP X pins σ Q) X.xe s:=fun l u el eu h=>by
  refine wpAny_getItem_str_slice h rfl ?_
  refine post_val_or_made (fun _=>?_) fun t' k=>?_
  ·have:=sliceIndices_le (l.map (·.1)) (u.map (·.1)) z.length
   have e:=List.length_filterMap_le (fun i=>z.cps[i]?) (slicePicked z l u none)
   show ((slicePicked z l u none).filterMap (z.cps[·]?)).toArray.size≤sizeLine
   rw [List.size_toArray]
   unfold slicePicked at e ⊢
   simp only [Option.map_none,Option.getD_none] at e ⊢
   omega
  ·refine ⟨.str (Txt.slice z lo hi),H,I.tok _,⟨t',?_⟩,q⟩
   rw [← el,← eu]
   rfl
 refine ⟨"str",_,PySem.F.slot_str_getitem.lookup,typeIs_str s z t,?_⟩
 cases pl with
 | none=>
  cases pu with
  | none=>exact fin none none rfl rfl hs
  | int j u=>exact fin none (some (j,u)) rfl rfl hs
 | int i u=>
  cases pu with
  | none=>exact fin (some (i,u)) none rfl rfl hs
  | int j u'=>exact fin (some (i,u)) (some (j,u')) rfl rfl hs
theorem x9 {z:Str} {lo hi:Option Int} {c:Nat} (h:c∈(Txt.slice z lo hi).cps.toList):c∈z.cps.toList:=by
 unfold Txt.slice at h
 split at h
 ·exact h
 ·obtain ⟨i,_,hi⟩:=List.mem_filterMap.mp (by simpa using h)
  have:=Array.mem_of_getElem? hi
  simpa using this
theorem op_mulS:OpR X (binaryOp .Mult) (fun x y H Q=>∃ z k,x=.str z∧y=.int k∧0≤k∧k≤2000∧z.length≤1000∧Q (.str (Txt.mul z k)) H):=by
 intro pins s σ H x y v u Q I rx ry h
 obtain ⟨z,k,rfl,rfl,h1,h2,h3,q⟩:=h
 obtain ⟨t,rfl⟩:=rx
 obtain ⟨t',rfl⟩:=ry
 have hm:z.length * k.toNat≤1000 * 2000:=Nat.mul_le_mul h3 (by omega)
 refine SB.mul ⟨?_,fun g1 g2=>?_,fun g1 g2=>?_⟩ fun t' k'=>⟨.str _,H,I.tok _,⟨t',rfl⟩,q⟩
 ·simp; omega
 ·have hk:1≤k:=by simp at g1; omega
  have e1:(1000:Int)≤(2 ^ 63 - 1) / k:=by
   rw [Int.le_ediv_iff_mul_le (by omega)]
   omega
  omega
 ·unfold Builtin.Str.tooLong
  simp [sizeLine]
  omega
end
structure Fn (P:Program) (w:World) (K:Frag) (mg:Str→Option Value) (base:Heap) (name:Str) (ps:List Str) (k:Nat) (sp:Sp):Prop where
 ex:∃ f fd,FnOk P w K mg base CX0 k f fd ps sp∧Binds K fd ps []∧PySem.W.keepIn K (.ref f)=true∧mg name=some (.ref f)
section
variable {X:Cx} {name:Str} {ps:List Str} {k:Nat} {sp:Sp} {e:Expr} {es:List Expr} {t:TA} {p pos:Pos}
theorem gQ (F:Fn X.prog X.w X.K X.mg X.base name ps k sp) (hr:Room k X.A) (hg:Gl X name) (ha:PA X (e::es) t) (hdb:(name == ("__debug__" : Str))=false:=by decide)
  (he:starEach (e::es) X.env=(false,eval e X.env)::starEach es X.env:=by rfl) (hpl:(backTo pos (starEach es X.env)).any (·.1)=false:=by rfl):PE X (.Call (.Name name p) (e::es) [] pos) (jh sp [] E0 t):=by
 obtain ⟨f,fd,h1,h2,h3,h4⟩:=F.ex
 exact mE h1 hr hg h4 h3 h2 .nil C8 ha hdb he hpl
end
theorem ze {X:Cx} {x:Str} {scope osc:Scope} {N N':List Str} {elt iter:Expr} {ifs:List Expr} {px pos:Pos} {wi:TI} {te:TE} {tt:TT} (S:CS osc N x scope N') (hi:PI X (.Name x px) iter wi)
  (he:∀ C s0 H0 ex,PE (cV X x scope C s0 H0 ex N') elt te) (ht:∀ C s0 H0 ex,PTs (cV X x scope C s0 H0 ex N') ifs tt) (hc:X.calm=true:=by rfl) (hs:X.env.scope=osc:=by rfl) (hN:X.N=N:=by rfl)
  (hf:∀ v,foldedSetIterable iter X.env v=pure v:=by intro _; rfl):PE X (.ListComp elt [⟨.Name x px,iter,ifs,0⟩] scope pos) (tV wi tt te):=by
 subst hs hN
 exact Ay hc S hi he ht hf
end L2
namespace D
open PySem PySem.Spec PyProof.Rows L2
inductive Gh (P:Hp→Prop):Hp→Prop where
 | done {H:Hp}:P H→Gh P H
 | frz {H:Hp} {a:Addr} {kvs:List (Key×V)}:H a=some (.dK kvs)→(∀ o,Gh P (upd H a (.frz o (.dK kvs))))→Gh P H
theorem Gh.imp {P P':Hp→Prop} {H:Hp} (g:Gh P H) (i:∀ H,P H→P' H):Gh P' H:=by
 induction g with
 | done h=>exact .done (i _ h)
 | frz e _ ih=>exact .frz e ih
section
variable {X:Cx} {pins:List (Addr×Obj)} {σ:L2.St} {H:Hp} {s:Shared}
theorem AU (I:Inv X pins σ H s) {a:Addr} {kvs:List (Key×V)} (e:H a=some (.dK kvs)):∃ o,Inv X pins σ (upd H a (.frz o (.dK kvs))) s:=by
 obtain ⟨z,y,vs,kv,o,es,ep,eo,r⟩:=I.hok a _ e
 have U:∀ {b:Addr} {u:HO},H b=some u→(∀ ks,u≠.dK ks)→upd H a (.frz o (.dK kvs)) b=some u:=fun {b u} q n=>by
  rw [aD (fun z=>by subst z; rw [e] at q; cases q; exact n _ rfl)]
  exact q
 have hok:HOk X.prog X.w (upd H a (.frz o (.dK kvs))) s.heap:=fun b u q=>by
  by_cases hb:b=a
  ·subst hb
   rw [aR] at q
   cases q
   exact ⟨eo,(I.hok b _ e).stay (fun _ _ _ q=>q) (fun c q=>U q (fun _ z=>nomatch z)) fun c xs q=>U q (fun _ z=>nomatch z)⟩
  ·rw [aD hb] at q
   exact (I.hok b u q).stay (fun _ _ _ q=>q) (fun c q=>U q (fun _ z=>nomatch z)) fun c xs q=>U q (fun _ z=>nomatch z)
 exact ⟨o,I.un (h':=s.heap) (t':=s.toks) ⟨fun b ob q n _ _=>q,fun b ob q n _ _=>⟨_,q⟩,fun b ob q n _=>by rw [aD (fun z=>by subst z; rw [e] at n; cases n)]; exact n,fun b ob q _=>⟨_,q⟩,fun b xs q=>U q (fun _ z=>nomatch z),
  fun b ob u q=>U q (fun _ z=>nomatch z),fun b ps q=>⟨#[],by rw [U q (fun _ z=>nomatch z)]; simp⟩⟩ hok⟩
theorem Gh.ok {P:Hp→Prop} (g:Gh P H) (I:Inv X pins σ H s):∃ H',Inv X pins σ H' s∧P H':=by
 induction g with
 | done h=>exact ⟨_,I,h⟩
 | frz e _ ih=>
  obtain ⟨o,I'⟩:=AU I e
  exact ih o I'
end
section
variable {X:Cx}
theorem C4 {st:Stmt} {t:TS} (h:PS X st t):PS X st (fun D σ H=>Gh (t D σ) H):=fun pins s σ H D I q=>by
 obtain ⟨H',I',q'⟩:=q.ok I
 exact h pins s σ H' D I' q'
theorem jk {e:Expr} {t:TE} (h:PE X e t):PE X e (fun σ H Q=>t σ H fun v H1=>Gh (Q v) H1):=fun pins s σ H Q I q=>
 thn (h pins s σ H _ I q) fun u s' ⟨v,H',I',r,q'⟩=>by
  obtain ⟨H2,I2,q2⟩:=q'.ok I'
  exact ⟨v,H2,I2,r,q2⟩
end
def iK (o:Obj):Nat:=match o.data with
 | .dict _ ep=>ep
 | _=>0
def Itd (a:Addr) (o:Obj) (kvs:List (Key×V)):It:=⟨fun i H=>H a=some (.frz o (.dK kvs))∧i < kvs.length,fun i H x H'=>H'=H∧∃ k v,kvs[i]? = some (k,v)∧x=kV k,fun i H=>H a=some (.frz o (.dK kvs))∧i=kvs.length⟩
theorem lX {P:Program} {w:World} {H:Hp} {h:Heap} {a:Addr} {o:Obj} {kvs:List (Key×V)} (ok:HOk P w H h) (e:H a=some (.frz o (.dK kvs))):kvs.length≤sizeLine∧(a == sysModules)=false∧∃ vs,KV kvs vs∧h.DictAt (bh P w) a vs (iK o):=by
 obtain ⟨e1,z,y,vs,kv,o',es,ep,e2,ed,dd,r⟩:=ok a _ e
 rw [e1] at e2
 cases e2
 refine ⟨z,y,vs,kv,o,es,e1,ed,?_,r⟩
 unfold iK
 rw [dd]
theorem keyV {P:Program} {w:World} {k:Key} {v:Value} (e:(bh P w).is k v=true):RelV (kV k) v:=by
 rcases cQ (show dg k v=true from e) with ⟨i,t,rfl,rfl⟩ | ⟨x,t,rfl,rfl⟩
 ·exact ⟨t,rfl⟩
 ·exact ⟨t,rfl⟩
theorem DH {kvs:List (Key×V)} {vs:List (Key×Value)} (r:KV kvs vs) {i:Nat} {k:Key} {x:Value} (e:vs[i]? = some (k,x)):∃ v,kvs[i]? = some (k,v):=by
 have h:=r.keys
 have h1:(vs.map (·.1))[i]? = some k:=by rw [List.getElem?_map,e]; rfl
 rw [← h,List.getElem?_map] at h1
 cases q:kvs[i]? with
 | none=>rw [q] at h1; cases h1
 | some p=>
  rw [q] at h1
  cases h1
  exact ⟨p.2,rfl⟩
theorem xX {P:Program} {w:World} {K:Frag} {tg:Expr} (a it:Addr) (o:Obj) (kvs:List (Key×V)):Turn P w K tg (Itd a o kvs) [it] it (fun i h=>h.IsKeyIter it a i kvs.length (iK o)) where
 mem:=by simp
 obj:=fun i h st b hb=>by
  have e:b=it:=by simpa using hb
  subst e
  obtain ⟨o,e,c,d⟩:=st
  exact ⟨o,e,fun v z=>by rw [d] at z; cases z⟩
 keep:=fun i h h' st k=>st.at fun o e=>k it (by simp) o e
 item:=by
  intro X hP hw hK hc i pins s σ H E I hf st hg
  subst hP hw hK
  obtain ⟨hg1,hg2⟩:=hg
  obtain ⟨z,y,vs,kv,dd⟩:=lX I.hok hg1
  obtain ⟨f0,f1,f2,f3,f4,f5⟩:=hf it (by simp)
  have hl:=kv.length
  have ne:a≠it:=fun q=>by rw [q,f0] at hg1; cases hg1
  have W:=Walks.dictKeys (prog:=X.prog) (w:=X.w) (knd:=bh X.prog X.w) (I.ok.hd hc) it a ne vs (iK o)
  refine W.item i s _ _ (by omega) ⟨by rw [← hl]; exact st,dd⟩ fun v h' tk hv st' kk=>?_
  obtain ⟨k,x,h1,h2⟩:=hv
  have I1:Inv X pins σ H { s with heap:=h',toks:=tk }:=I.turned (fun b o hb e=>kk b o (by simpa using hb) e) f0 f1 f3 f4 f5
  have st1:h'.IsKeyIter it a (i + 1) kvs.length (iK o):=by rw [hl]; exact st'.1
  obtain ⟨o1,e1,c1,d1⟩:=id st1
  obtain ⟨v0,h3⟩:=DH kv h1
  exact ⟨v,rfl,jp (s:={ s with heap:=h',toks:=tk }) e1 c1 d1 (by decide) ⟨kV k,H,I1,keyV h2,⟨rfl,k,v0,h3,rfl⟩,st1,fun b hb=>(hf b hb).1⟩⟩
 done:=by
  intro X hP hw hK hc i pins s σ H E I hf st hg
  subst hP hw hK
  obtain ⟨hg1,hg2⟩:=hg
  obtain ⟨z,y,vs,kv,dd⟩:=lX I.hok hg1
  obtain ⟨f0,f1,f2,f3,f4,f5⟩:=hf it (by simp)
  have hl:=kv.length
  have ne:a≠it:=fun q=>by rw [q,f0] at hg1; cases hg1
  have W:=Walks.dictKeys (prog:=X.prog) (w:=X.w) (knd:=bh X.prog X.w) (I.ok.hd hc) it a ne vs (iK o)
  refine W.done s _ _ ⟨by rw [← hl,← hg2]; rw [← hg2] at st; exact st,dd⟩ fun h' tk kk=>⟨rfl,I.turned (fun b o hb e=>kk b o (by simpa using hb) e) f0 f1 f3 f4 f5⟩
 self:=fun _ _ _ _ _ st h=>wpAny_pyIter_keyiter st h
inductive W where
 | d (x:PyData) | tp (i:Nat) | loc (x:PyData)
abbrev Tp:=List (List PyData)
abbrev Rho:=List (Option W)
noncomputable def bnd {α β:Type} (o:Option (α×Tp)) (k:α→Tp→Option β):Option β:=match o with
 | some (a,T)=>k a T
 | none=>none
theorem aC {α β:Type} {o:Option (α×Tp)} {k:α→Tp→Option β} {b:β} (h:bnd o k=some b):∃ a T,o=some (a,T)∧k a T=some b:=by
 cases o with
 | none=>cases h
 | some p=>exact ⟨p.1,p.2,rfl,h⟩
theorem CC {α β:Type} {a:α} {T:Tp} {k:α→Tp→Option β}:bnd (some (a,T)) k=k a T:=rfl
def cW:Key→PyData
 | .inl i=>.int i
 | .inr x=>.str x
def TupAt (K:Frag) (O:Addr→Prop) (H:Hp) (a:Addr) (vs:List V):Prop:=(¬ O a∧Rd H a (.tup vs))∨SqT K (fun _=>none) a vs
def LstAt (K:Frag) (O:Addr→Prop) (H:Hp) (a:Addr) (vs:List V):Prop:=(¬ O a∧Rd H a (.lst vs))∨SqL K (fun _=>none) a vs
theorem Bw {K:Frag} {H:Hp} {a:Addr} {vs:List V} (h:SqT K (fun _=>none) a vs):SqT K H a vs:=by
 rcases h with (h | ⟨o,h⟩) | h
 ·cases h
 ·cases h
 ·exact .inr h
theorem Bx {K:Frag} {H:Hp} {a:Addr} {vs:List V} (h:SqL K (fun _=>none) a vs):SqL K H a vs:=by
 rcases h with (h | ⟨o,h⟩) | h
 ·cases h
 ·cases h
 ·exact .inr h
theorem TupAt.sq {K:Frag} {O:Addr→Prop} {H:Hp} {a:Addr} {vs:List V} (h:TupAt K O H a vs):SqT K H a vs:=by
 rcases h with h | h
 ·exact .inl h.2
 ·exact Bw h
theorem LstAt.sq {K:Frag} {O:Addr→Prop} {H:Hp} {a:Addr} {vs:List V} (h:LstAt K O H a vs):SqL K H a vs:=by
 rcases h with h | h
 ·exact .inl h.2
 ·exact Bx h
mutual
inductive Rep (K:Frag) (O:Addr→Prop) (H:Hp):V→PyData→Prop where
 | non:Rep K O H .non .none
 | bl (b:Bool):Rep K O H (.bl b) (.bool b)
 | int (i:Int):Rep K O H (.int i) (.int i)
 | str (x:Str):Rep K O H (.str x) (.str x)
 | tup {a:Addr} {vs:List V} {ds:List PyData}:TupAt K O H a vs→Reps K O H vs ds→Rep K O H (.ref a) (.tuple ds)
 | lst {a:Addr} {vs:List V} {ds:List PyData}:LstAt K O H a vs→Reps K O H vs ds→Rep K O H (.ref a) (.list ds)
 | dct {a:Addr} {o:Obj} {kvs:List (Key×V)} {ds:List (PyData×PyData)}:¬ O a→H a=some (.frz o (.dK kvs))→RepK K O H kvs ds→Rep K O H (.ref a) (.dict ds)
inductive Reps (K:Frag) (O:Addr→Prop) (H:Hp):List V→List PyData→Prop where
 | nil:Reps K O H [] []
 | cons {v:V} {d:PyData} {vs:List V} {ds:List PyData}:Rep K O H v d→Reps K O H vs ds→Reps K O H (v::vs) (d::ds)
inductive RepK (K:Frag) (O:Addr→Prop) (H:Hp):List (Key×V)→List (PyData×PyData)→Prop where
 | nil:RepK K O H [] []
 | cons {k:Key} {v:V} {d:PyData} {kvs:List (Key×V)} {ds:List (PyData×PyData)}:Rep K O H v d→RepK K O H kvs ds→RepK K O H ((k,v)::kvs) ((cW k,d)::ds)
end
def Le (O:Addr→Prop) (H:Hp) (O':Addr→Prop) (H':Hp):Prop:=∀ a o,¬ O a→H a=some o→¬ O' a∧H' a=some o
theorem Le.trans {O O1 O2:Addr→Prop} {H H1 H2:Hp} (h:Le O H O1 H1) (g:Le O1 H1 O2 H2):Le O H O2 H2:=fun a o n e=>let ⟨n1,e1⟩:=h a o n e; g a o n1 e1
theorem TupAt.mono {K:Frag} {O O':Addr→Prop} {H H':Hp} (h:Le O H O' H') {a:Addr} {vs:List V} (t:TupAt K O H a vs):TupAt K O' H' a vs:=by
 rcases t with ⟨n,t | ⟨o,t⟩⟩ | t
 ·exact .inl ⟨(h _ _ n t).1,.inl (h _ _ n t).2⟩
 ·exact .inl ⟨(h _ _ n t).1,.inr ⟨o,(h _ _ n t).2⟩⟩
 ·exact .inr t
theorem LstAt.mono {K:Frag} {O O':Addr→Prop} {H H':Hp} (h:Le O H O' H') {a:Addr} {vs:List V} (t:LstAt K O H a vs):LstAt K O' H' a vs:=by
 rcases t with ⟨n,t | ⟨o,t⟩⟩ | t
 ·exact .inl ⟨(h _ _ n t).1,.inl (h _ _ n t).2⟩
 ·exact .inl ⟨(h _ _ n t).1,.inr ⟨o,(h _ _ n t).2⟩⟩
 ·exact .inr t
mutual
theorem Rep.mono {K:Frag} {O O':Addr→Prop} {H H':Hp} (e:Le O H O' H'):∀ {v:V} {d:PyData},Rep K O H v d→Rep K O' H' v d
 | _,_,.non=>.non
 | _,_,.bl b=>.bl b
 | _,_,.int i=>.int i
 | _,_,.str x=>.str x
 | _,_,.tup t r=>.tup (t.mono e) (Reps.mono e r)
 | _,_,.lst t r=>.lst (t.mono e) (Reps.mono e r)
 | _,_,.dct n h r=>.dct (e _ _ n h).1 (e _ _ n h).2 (RepK.mono e r)
theorem Reps.mono {K:Frag} {O O':Addr→Prop} {H H':Hp} (e:Le O H O' H'):∀ {vs:List V} {ds:List PyData},Reps K O H vs ds→Reps K O' H' vs ds
 | _,_,.nil=>.nil
 | _,_,.cons r t=>.cons (Rep.mono e r) (Reps.mono e t)
theorem RepK.mono {K:Frag} {O O':Addr→Prop} {H H':Hp} (e:Le O H O' H'):∀ {vs:List (Key×V)} {ds:List (PyData×PyData)},RepK K O H vs ds→RepK K O' H' vs ds
 | _,_,.nil=>.nil
 | _,_,.cons r t=>.cons (Rep.mono e r) (RepK.mono e t)
end
section
variable {K:Frag} {O:Addr→Prop} {H:Hp}
theorem Reps.length:∀ {vs:List V} {ds:List PyData},Reps K O H vs ds→vs.length=ds.length
 | _,_,.nil=>rfl
 | _,_,.cons _ t=>congrArg (· + 1) (Reps.length t)
theorem Reps.get:∀ {vs:List V} {ds:List PyData} {i:Nat} {v:V},Reps K O H vs ds→vs[i]? = some v→∃ d,ds[i]? = some d∧Rep K O H v d
 | _,_,_,_,.nil,e=>by simp at e
 | _,_,0,_,.cons r _,e=>by simp at e; subst e; exact ⟨_,rfl,r⟩
 | _,_,i + 1,v,.cons _ t,e=>by
  obtain ⟨d,h1,h2⟩:=Reps.get (i:=i) (v:=v) t (by simpa using e)
  exact ⟨d,by simpa using h1,h2⟩
theorem Reps.getD:∀ {vs:List V} {ds:List PyData} {i:Nat} {d:PyData},Reps K O H vs ds→ds[i]? = some d→∃ v,vs[i]? = some v∧Rep K O H v d
 | _,_,_,_,.nil,e=>by simp at e
 | _,_,0,_,.cons r _,e=>by simp at e; subst e; exact ⟨_,rfl,r⟩
 | _,_,i + 1,v,.cons _ t,e=>by
  obtain ⟨d,h1,h2⟩:=Reps.getD (i:=i) (d:=v) t (by simpa using e)
  exact ⟨d,by simpa using h1,h2⟩
theorem Reps.set {v:V} {d:PyData} (r:Rep K O H v d):∀ {vs:List V} {ds:List PyData} (i:Nat),Reps K O H vs ds→Reps K O H (vs.set i v) (ds.set i d)
 | _,_,_,.nil=>.nil
 | _,_,0,.cons _ t=>.cons r t
 | _,_,i + 1,.cons q t=>.cons q (Reps.set r i t)
theorem Reps.append {ws:List V} {es:List PyData}:∀ {vs:List V} {ds:List PyData},Reps K O H vs ds→Reps K O H ws es→Reps K O H (vs++ws) (ds++es)
 | _,_,.nil,r=>r
 | _,_,.cons q t,r=>.cons q (Reps.append t r)
theorem Reps.take:∀ {vs:List V} {ds:List PyData} (n:Nat),Reps K O H vs ds→Reps K O H (vs.take n) (ds.take n)
 | _,_,0,_=>.nil
 | _,_,_ + 1,.nil=>.nil
 | _,_,n + 1,.cons r t=>.cons r (Reps.take n t)
theorem Reps.drop:∀ {vs:List V} {ds:List PyData} (n:Nat),Reps K O H vs ds→Reps K O H (vs.drop n) (ds.drop n)
 | _,_,0,r=>r
 | _,_,_ + 1,.nil=>.nil
 | _,_,n + 1,.cons _ t=>Reps.drop n t
theorem Reps.rep {vs:List V} {ds:List PyData} (r:Reps K O H vs ds):∀ n:Nat,Reps K O H (List.replicate n vs).flatten (List.replicate n ds).flatten
 | 0=>.nil
 | n + 1=>by
  rw [List.replicate_succ,List.replicate_succ,List.flatten_cons,List.flatten_cons]
  exact r.append (r.rep n)
end
def SameX (ts:List Addr) (H H':Hp):Prop:=∀ b o,b∉ts→H b=some o→H' b=some o
theorem SameX.refl (ts:List Addr) (H:Hp):SameX ts H H:=fun _ _ _ h=>h
theorem SameX.trans {ts:List Addr} {H H1 H2:Hp} (a:SameX ts H H1) (b:SameX ts H1 H2):SameX ts H H2:=fun c o n h=>b c o n (a c o n h)
theorem SameX.new {ts:List Addr} {H:Hp} {p:Addr} (h:H p=none) (o:HO):SameX ts H (upd H p o):=fun b u _ q=>by rw [aD (bA q h)]; exact q
def Mut (o:Option HO):Prop:=(∃ vs,o=some (.lst vs))∨(∃ kvs,o=some (.dK kvs))∨∃ C dx fs,o=some (.ins C dx fs)
theorem Mut.ex {o:Option HO} (h:Mut o):∃ u,o=some u:=by rcases h with ⟨vs,e⟩ | ⟨vs,e⟩ | ⟨C,dx,fs,e⟩ <;> exact ⟨_,e⟩
theorem Mut.to {o o':Option HO} (h:Mut o) (k:∀ u,o=some u→o'=some u):Mut o':=by
 rcases h with ⟨vs,e⟩ | ⟨vs,e⟩ | ⟨C,dx,fs,e⟩
 ·exact .inl ⟨vs,k _ e⟩
 ·exact .inr (.inl ⟨vs,k _ e⟩)
 ·exact .inr (.inr ⟨C,dx,fs,k _ e⟩)
def Ef (C:Addr):PyData:=.dict [(.none,.int (C:Int))]
def isO:List PyData→Bool
 | .dict [(.none,_)]::_=>true
 | _=>false
def pairF (p:Str×PyData):PyData:=.tuple [.str p.1,p.2]
inductive RepF (K:Frag) (O:Addr→Prop) (H:Hp):List (Str×V)→List (Str×PyData)→Prop where
 | nil:RepF K O H [] []
 | cons {n:Str} {v:V} {d:PyData} {vs:List (Str×V)} {ds:List (Str×PyData)}:Rep K O H v d→RepF K O H vs ds→RepF K O H ((n,v)::vs) ((n,d)::ds)
theorem RepF.mono {K:Frag} {O O':Addr→Prop} {H H':Hp} (e:Le O H O' H') {vs:List (Str×V)} {ds:List (Str×PyData)} (r:RepF K O H vs ds):RepF K O' H' vs ds:=by
 induction r with
 | nil=>exact .nil
 | cons r _ ih=>exact .cons (Rep.mono e r) ih
def RowAt (K:Frag) (O:Addr→Prop) (H:Hp) (a:Addr) (xs:List PyData):Prop:=(isO xs=false∧∃ vs,H a=some (.lst vs)∧Reps K O H vs xs)∨∃ C dx fs fd,H a=some (.ins C dx fs)∧xs=Ef C::fd.map pairF∧RepF K O H fs fd
theorem RowAt.mono {K:Frag} {O O':Addr→Prop} {H H':Hp} {a:Addr} {xs:List PyData} (h:RowAt K O H a xs) (k:∀ o,H a=some o→H' a=some o) (l:Le O H O' H'):RowAt K O' H' a xs:=by
 rcases h with ⟨n,vs,h1,h2⟩ | ⟨C,dx,fs,fd,h1,h2,h3⟩
 ·exact .inl ⟨n,vs,k _ h1,h2.mono l⟩
 ·exact .inr ⟨C,dx,fs,fd,k _ h1,h2,h3.mono l⟩
theorem RowAt.lst {K:Frag} {O:Addr→Prop} {H:Hp} {a:Addr} {xs:List PyData} (h:RowAt K O H a xs) (n:isO xs=false):∃ vs,H a=some (.lst vs)∧Reps K O H vs xs:=by
 rcases h with ⟨_,h⟩ | ⟨C,dx,fs,fd,h1,h2,h3⟩
 ·exact h
 ·rw [h2] at n
  cases n
theorem Ah {K:Frag} {O:Addr→Prop} {H:Hp} {v:V} {y:PyData} (h:Rep K O H v (.dict [(.none,y)])):False:=by
 cases h with
 | dct _ _ r=>
  generalize hl:[(PyData.none,y)]=l at r
  cases r with
  | nil=>cases hl
  | @cons k _ _ _ _ _ _=>
   injection hl with h1 _
   injection h1 with h1 _
   rcases k with i | x
   ·cases h1
   ·cases h1
theorem Reps.notO {K:Frag} {O:Addr→Prop} {H:Hp} {vs:List V} {xs:List PyData} (r:Reps K O H vs xs):isO xs=false:=by
 cases r with
 | nil=>rfl
 | cons h _=>
  rename_i d _ _ _
  unfold isO
  split
  ·rename_i e
   cases e
   exact (Ah h).elim
  ·rfl
structure HC (K:Frag) (O:Addr→Prop) (ts:List Addr) (H:Hp) (T:Tp):Prop where
 own:∀ b∈ts,O b
 trk:∀ b,O b→Mut (H b)
 nd:ts.Nodup
 len:ts.length=T.length
 tape:∀ (i:Nat) (a:Addr) (xs:List PyData),ts[i]? = some a→T[i]? = some xs→RowAt K O H a xs
section
variable {K:Frag} {O:Addr→Prop} {ts:List Addr} {H H':Hp} {T:Tp}
theorem HC.le (c:HC K O ts H T) (s:SameX ts H H'):Le O H O H':=fun a o n e=>⟨n,s a o (fun z=>n (c.own a z)) e⟩
theorem HC.step (c:HC K O ts H T) (s:SameX ts H H') (t:∀ b∈ts,H' b=H b):HC K O ts H' T where
 own:=c.own
 trk:=fun b hb=>by
  by_cases z:b∈ts
  ·rw [t b z]; exact c.trk b hb
  ·exact (c.trk b hb).to fun u e=>s b _ z e
 nd:=c.nd
 len:=c.len
 tape:=fun i a xs e1 e2=>by
  exact (c.tape i a xs e1 e2).mono (fun o h1=>by rw [t a (List.mem_of_getElem? e1)]; exact h1) (c.le s)
theorem HC.fresh (c:HC K O ts H T) {p:Addr} (h:H p=none):¬ O p:=fun z=>by
 obtain ⟨u,e⟩:=(c.trk p z).ex
 rw [h] at e
 cases e
theorem HC.new (c:HC K O ts H T) {p:Addr} (h:H p=none) (o:HO):HC K O ts (upd H p o) T:=c.step (.new h o) fun b hb=>aD fun z=>c.fresh h (z ▸ c.own b hb)
theorem HC.leNew (c:HC K O ts H T) {p:Addr} (h:H p=none) (o:HO):Le O H O (upd H p o):=c.le (.new h o)
theorem HC.newT (c:HC K O ts H T) {p:Addr} (h:H p=none) {vs:List V} {ds:List PyData} (r:Reps K O H vs ds):Rep K O (upd H p (.tup vs)) (.ref p) (.tuple ds):=.tup (.inl ⟨c.fresh h,.inl aR⟩) (r.mono (c.leNew h _))
theorem HC.newL (c:HC K O ts H T) {p:Addr} (h:H p=none) {vs:List V} {ds:List PyData} (r:Reps K O H vs ds):Rep K O (upd H p (.lst vs)) (.ref p) (.list ds):=.lst (.inl ⟨c.fresh h,.inl aR⟩) (r.mono (c.leNew h _))
end
inductive Vw (K:Frag) (O:Addr→Prop) (H:Hp):V→PyData→Prop where
 | rep {v:V} {x:PyData}:Rep K O H v x→Vw K O H v x
 | raw {a:Addr} {vs:List V} {xs:List PyData}:H a=some (.lst vs)→Reps K O H vs xs→Vw K O H (.ref a) (.list xs)
 | rawD {a:Addr} {kvs:List (Key×V)} {ds:List (PyData×PyData)}:H a=some (.dK kvs)→RepK K O H kvs ds→Vw K O H (.ref a) (.dict ds)
section
variable {K:Frag} {O:Addr→Prop} {H:Hp} {v:V}
theorem Vw.int {i:Int} (h:Vw K O H v (.int i)):v=.int i:=by cases h with | rep h=>cases h; rfl
theorem Vw.str {x:Str} (h:Vw K O H v (.str x)):v=.str x:=by cases h with | rep h=>cases h; rfl
theorem Vw.bl {b:Bool} (h:Vw K O H v (.bool b)):v=.bl b:=by cases h with | rep h=>cases h; rfl
theorem Vw.non (h:Vw K O H v .none):v=.non:=by cases h with | rep h=>cases h; rfl
theorem Vw.tup {ds:List PyData} (h:Vw K O H v (.tuple ds)):∃ a vs,v=.ref a∧TupAt K O H a vs∧Reps K O H vs ds:=by cases h with | rep h=>cases h with | tup t r=>exact ⟨_,_,rfl,t,r⟩
theorem Vw.tupR {ds:List PyData} (h:Vw K O H v (.tuple ds)):Rep K O H v (.tuple ds):=by cases h with | rep h=>exact h
theorem Vw.lst {ds:List PyData} (h:Vw K O H v (.list ds)):∃ a vs,v=.ref a∧SqL K H a vs∧Reps K O H vs ds:=by
 cases h with
 | rep h=>cases h with | lst t r=>exact ⟨_,_,rfl,t.sq,r⟩
 | raw h r=>exact ⟨_,_,rfl,SqL.of h,r⟩
theorem Vw.dct {ds:List (PyData×PyData)} (h:Vw K O H v (.dict ds)):∃ a kvs,v=.ref a∧Rd H a (.dK kvs)∧RepK K O H kvs ds:=by
 cases h with
 | rep h=>cases h with | dct n t r=>exact ⟨_,_,rfl,.inr ⟨_,t⟩,r⟩
 | rawD t r=>exact ⟨_,_,rfl,.inl t,r⟩
end
def OwnAt (K:Frag) (O:Addr→Prop) (H:Hp) (a:Addr):PyData→Prop
 | .list xs=>∃ vs,H a=some (.lst vs)∧Reps K O H vs xs
 | .dict ds=>∃ kvs,H a=some (.dK kvs)∧RepK K O H kvs ds
 | _=>False
theorem OwnAt.mono {K:Frag} {O O':Addr→Prop} {H H':Hp} {a:Addr} {x:PyData} (h:OwnAt K O H a x) (k:∀ o,H a=some o→H' a=some o) (l:Le O H O' H'):OwnAt K O' H' a x:=by
 cases x with
 | list xs=>obtain ⟨vs,h1,h2⟩:=h; exact ⟨vs,k _ h1,h2.mono l⟩
 | dict ds=>obtain ⟨vs,h1,h2⟩:=h; exact ⟨vs,k _ h1,h2.mono l⟩
 | _=>cases h
theorem OwnAt.some {K:Frag} {O:Addr→Prop} {H:Hp} {a:Addr} {x:PyData} (h:OwnAt K O H a x):∃ o,H a=some o:=by
 cases x with
 | list xs=>obtain ⟨vs,h1,h2⟩:=h; exact ⟨_,h1⟩
 | dict ds=>obtain ⟨vs,h1,h2⟩:=h; exact ⟨_,h1⟩
 | _=>cases h
def RepW (K:Frag) (O:Addr→Prop) (ts:List Addr) (H:Hp) (v:V):W→Prop
 | .d x=>Rep K O H v x
 | .tp i=>∃ a,ts[i]? = some a∧v=.ref a
 | .loc x=>∃ a,v=.ref a∧O a∧a∉ts∧OwnAt K O H a x
def lB (xs:List PyData):Option PyData:=if isO xs=true then none else some (.list xs)
noncomputable def view (T:Tp):W→Option PyData
 | .d x=>some x
 | .tp i=>(T[i]?).bind lB
 | .loc (.list xs)=>some (.list xs)
 | .loc (.dict ds)=>some (.dict ds)
 | .loc _=>none
noncomputable def views (T:Tp):List W→Option (List PyData)
 | []=>some []
 | w::r=>match view T w with
  | some x=>(match views T r with
   | some xs=>some (x::xs)
   | none=>none)
  | none=>none
def eJ (K:Frag) (O:Addr→Prop) (ts:List Addr) (H:Hp):List V→List W→Prop:=Paired fun v w=>RepW K O ts H v w
def Vws (K:Frag) (O:Addr→Prop) (H:Hp):List V→List PyData→Prop:=Paired fun v x=>Vw K O H v x
def RelE (K:Frag) (O:Addr→Prop) (ts:List Addr) (H:Hp) (σ:L2.St) (ρ:Rho):Prop:=∀ (i:Nat) (w:W),ρ[i]? = some (some w)→∃ v,σ[i]? = some (some v)∧RepW K O ts H v w
section
variable {K:Frag} {O:Addr→Prop} {ts:List Addr} {H H':Hp} {T:Tp} {v:V} {w:W}
theorem RepW.mono (r:RepW K O ts H v w) (c:HC K O ts H T) (s:SameX ts H H'):RepW K O ts H' v w:=by
 cases w with
 | d x=>exact Rep.mono (c.le s) r
 | tp i=>exact r
 | loc xs=>
  obtain ⟨a,e,h1,h2,h3⟩:=r
  exact ⟨a,e,h1,h2,h3.mono (fun o q=>s _ _ h2 q) (c.le s)⟩
theorem RelE.mono {σ:L2.St} {ρ:Rho} (r:RelE K O ts H σ ρ) (c:HC K O ts H T) (s:SameX ts H H'):RelE K O ts H' σ ρ:=fun i w e=>
 let ⟨v,h1,h2⟩:=r i w e; ⟨v,h1,h2.mono c s⟩
theorem HC.view (c:HC K O ts H T) {x:PyData} (r:RepW K O ts H v w) (e:view T w=some x):Vw K O H v x:=by
 cases w with
 | d y=>cases e; exact .rep r
 | tp i=>
  obtain ⟨a,h1,rfl⟩:=r
  have e':(T[i]?).bind lB=some x:=e
  cases ht:T[i]? with
  | none=>rw [ht] at e'; cases e'
  | some xs=>
   rw [ht] at e'
   have e2:(if isO xs=true then none else some (PyData.list xs))=some x:=e'
   split at e2
   ·cases e2
   ·rename_i hn
    cases e2
    obtain ⟨vs,h2,h3⟩:=(c.tape i a xs h1 ht).lst (by simpa using hn)
    exact .raw h2 h3
 | loc xs=>
  obtain ⟨a,rfl,_,_,h3⟩:=r
  cases xs with
  | list xs=>cases e; obtain ⟨vs,h1,h2⟩:=h3; exact .raw h1 h2
  | dict ds=>cases e; obtain ⟨vs,h1,h2⟩:=h3; exact .rawD h1 h2
  | _=>cases h3
theorem HC.views (c:HC K O ts H T):∀ {vs:List V} {ws:List W} {xs:List PyData},eJ K O ts H vs ws→views T ws=some xs→Vws K O H vs xs
 | _,[],xs,.nil,e=>by cases e; exact .nil
 | _,w::r,xs,.cons h t,e=>by
  unfold D.views at e
  split at e
  ·rename_i x h1
   split at e
   ·rename_i ys h2
    cases e
    exact .cons (c.view h h1) (HC.views c t h2)
   ·cases e
  ·cases e
end
def noStar:Expr→Bool
 | .Starred _ _=>false
 | _=>true
theorem bb {e:Expr} {es:List Expr} {env:Env} (h:noStar e=true):starEach (e::es) env=(false,eval e env)::starEach es env:=by cases e <;> first | rfl | cases h
theorem l9 {e:Expr} {env:Env} (h:noStar e=true):starEach [e] env=[(false,eval e env)]:=bb h
theorem bF {env:Env} {pos:Pos}:∀ {es:List Expr},es.all noStar=true→(backTo pos (starEach es env)).any (·.1)=false
 | [],_=>rfl
 | e::r,h=>by
  rw [List.all_cons,Bool.and_eq_true] at h
  rw [bb h.1]
  show (false || (backTo pos (starEach r env)).any (·.1))=false
  rw [bF h.2]
  rfl
theorem x8 {e:Expr} {es:List Expr} {env:Env} {pos:Pos} (h:noStar e=true):backTo pos (starEach (e::es) env)=(false,eval e env)::backTo pos (starEach es env):=by
 rw [bb h]
 rfl
theorem oy {e:Expr} {env:Env} {cpos:Pos} (h:noStar e=true):((backTo cpos (starEach [e] env)).all (fun x=>!x.1) && (backToKw cpos (keywordEach [] env)).all (fun x=>x.1.isSome)
   && decide (([e]:List Expr).length + ([]:List Keyword).length + (if ([]:List Keyword).isEmpty then 0 else 1) < 30))=true:=by
 rw [l9 h]
 rfl
abbrev FE:=Rho→Tp→Option (W×Tp)
abbrev FT:=Rho→Tp→Option (Bool×Tp)
abbrev FA:=Rho→Tp→Option (List W×Tp)
inductive LiftP (K:Frag) (f:FE) (σ:L2.St) (H:Hp) (Q:VK):Prop where
 | mk (O:Addr→Prop) (ts:List Addr) (ρ:Rho) (T:Tp) (w:W) (T':Tp) (hc:HC K O ts H T) (re:RelE K O ts H σ ρ) (e:f ρ T=some (w,T')) (q:∀ v H',SameX ts H H'→HC K O ts H' T'→RepW K O ts H' v w→Q v H'):LiftP K f σ H Q
def lift (K:Frag) (f:FE):TE:=fun σ H Q=>LiftP K f σ H Q
inductive LiftTP (K:Frag) (f:FT) (σ:L2.St) (H:Hp) (Q:Bool→Hp→Prop):Prop where
 | mk (O:Addr→Prop) (ts:List Addr) (ρ:Rho) (T:Tp) (b:Bool) (T':Tp) (hc:HC K O ts H T) (re:RelE K O ts H σ ρ) (e:f ρ T=some (b,T')) (q:∀ H',SameX ts H H'→HC K O ts H' T'→Q b H'):LiftTP K f σ H Q
def liftT (K:Frag) (f:FT):TT:=fun σ H Q=>LiftTP K f σ H Q
inductive LiftAP (K:Frag) (f:FA) (σ:L2.St) (H:Hp) (Q:List V→Hp→Prop):Prop where
 | mk (O:Addr→Prop) (ts:List Addr) (ρ:Rho) (T:Tp) (ws:List W) (T':Tp) (hc:HC K O ts H T) (re:RelE K O ts H σ ρ) (e:f ρ T=some (ws,T')) (q:∀ vs H',SameX ts H H'→HC K O ts H' T'→eJ K O ts H' vs ws→Q vs H'):LiftAP K f σ H Q
def k8 (K:Frag) (f:FA):TA:=fun σ H Q=>LiftAP K f σ H Q
structure DE (X:Cx) (e:Expr) (f:FE):Prop where
 pe:PE X e (lift X.K f)
structure DT (X:Cx) (e:Expr) (f:FT):Prop where
 pe:PT X e (liftT X.K f)
structure DW (X:Cx) (e:Expr) (f:FT):Prop where
 pe:PW X e (liftT X.K f)
structure DA (X:Cx) (es:List Expr) (f:FA):Prop where
 pe:PA X es (k8 X.K f)
theorem pe_imp {X:Cx} {e:Expr} {t t':TE} (h:PE X e t) (i:∀ σ H Q,t' σ H Q→t σ H Q):PE X e t':=fun pins s σ H Q I q=>h pins s σ H Q I (i σ H Q q)
theorem ir {X:Cx} {e:Expr} {t t':TT} (h:PT X e t) (i:∀ σ H Q,t' σ H Q→t σ H Q):PT X e t':=fun pins s σ H Q I q=>h pins s σ H Q I (i σ H Q q)
theorem sR {X:Cx} {e:Expr} {t t':TT} (h:PW X e t) (i:∀ σ H Q,t' σ H Q→t σ H Q):PW X e t':=fun wh pins s σ H Q I q=>h wh pins s σ H Q I (i σ H Q q)
theorem sY {X:Cx} {e:List Expr} {t t':TA} (h:PA X e t) (i:∀ σ H Q,t' σ H Q→t σ H Q):PA X e t':=fun po pins s σ H Q I q=>h po pins s σ H Q I (i σ H Q q)
def ae (i:Nat):FE:=fun ρ T=>match ρ[i]? with
 | some (some w)=>some (w,T)
 | _=>none
noncomputable def fC (x:PyData):FE:=fun _ T=>some (.d x,T)
section
variable {X:Cx} {pos:Pos}
theorem ag (i:Nat) {x:Str} (hN:X.N[i]? = some x:=by rfl) (hv:Vis X.env.scope x:=by first | exact Or.inl rfl | exact Or.inr (Or.inl rfl) | exact Or.inr (Or.inr rfl)) (hd:(x == ("__debug__" : Str))=false:=by decide)
  (hcd:(x == ("__classdict__" : Str))=false:=by decide):DE X (.Name x pos) (ae i):=by
 refine ⟨?_⟩
 refine pe_imp (pv i hN hv hd hcd) fun σ H Q=>?_
 rintro ⟨O,ts,ρ,T,w,T',hc,re,e,q⟩
 unfold ae at e
 split at e
 ·rename_i w' he
  cases e
  obtain ⟨v,h1,h2⟩:=re i _ he
  exact ⟨v,h1,q v H (.refl _ _) hc h2⟩
 ·cases e
theorem gJ {x:PyData} {v:V} (h:∀ O H,Rep X.K O H v x):∀ σ H Q,lift X.K (fC x) σ H Q→tC v σ H Q:=by
 rintro σ H Q ⟨O,ts,ρ,T,w,T',hc,re,e,q⟩
 cases e
 exact q v H (.refl _ _) hc (h O H)
theorem aj {i j}:DE X (.Constant (.int i) j pos) (fC (.int i)):=⟨pe_imp sX (gJ fun _ _=>.int i)⟩
theorem cg {i j}:DE X (.Constant (.bool i) j pos) (fC (.bool i)):=⟨pe_imp C7 (gJ fun _ _=>.bl i)⟩
theorem az {i j}:DE X (.Constant (.str i) j pos) (fC (.str i)):=⟨pe_imp mZ (gJ fun _ _=>.str i)⟩
theorem eY {j}:DE X (.Constant .none j pos) (fC .none):=⟨pe_imp sW (gJ fun _ _=>.non)⟩
theorem dP {x:Str} {i:Int} (hg:Gl X x) (hm:∃ t,X.mg x=some (.int i t)) (hd:(x == ("__debug__" : Str))=false:=by decide):DE X (.Name x pos) (fC (.int i)):=by
 refine ⟨?_⟩
 obtain ⟨t,hm⟩:=hm
 exact pe_imp (cB (v:=.int i) hg hm ⟨t,rfl⟩ hd) (gJ fun _ _=>.int i)
theorem qZ {x:Str} {i:Str} (hg:Gl X x) (hm:∃ t,X.mg x=some (.str i t)) (hd:(x == ("__debug__" : Str))=false:=by decide):DE X (.Name x pos) (fC (.str i)):=by
 refine ⟨?_⟩
 obtain ⟨t,hm⟩:=hm
 exact pe_imp (cB (v:=.str i) hg hm ⟨t,rfl⟩ hd) (gJ fun _ _=>.str i)
end
def op1 (g:PyData→Option PyData) (T:Tp) (w:W):Option (W×Tp):=match view T w with
 | some x=>match g x with
  | some d=>some (.d d,T)
  | none=>none
 | none=>none
def op2 (g:PyData→PyData→Option PyData) (T:Tp) (w1 w2:W):Option (W×Tp):=match view T w1,view T w2 with
 | some x,some y=>match g x y with
  | some d=>some (.d d,T)
  | none=>none
 | _,_=>none
theorem gH {g:PyData→Option PyData} {T T':Tp} {w1 w:W} (e:op1 g T w1=some (w,T')):∃ x d,view T w1=some x∧g x=some d∧w=.d d∧T'=T:=by
 unfold op1 at e
 split at e
 ·rename_i x h1
  split at e
  ·rename_i d h3
   cases e
   exact ⟨x,d,h1,h3,rfl,rfl⟩
  ·cases e
 ·cases e
theorem m6 {g:PyData→PyData→Option PyData} {T T':Tp} {w1 w2 w:W} (e:op2 g T w1 w2=some (w,T')):∃ x y d,view T w1=some x∧view T w2=some y∧g x y=some d∧w=.d d∧T'=T:=by
 unfold op2 at e
 split at e
 ·rename_i x y h1 h2
  split at e
  ·rename_i d h3
   cases e
   exact ⟨x,y,d,h1,h2,h3,rfl,rfl⟩
  ·cases e
 ·cases e
def ai (g:PyData→PyData→Option PyData) (fa fb:FE):FE:=fun ρ T=>bnd (fa ρ T) fun w1 T1=>bnd (fb ρ T1) fun w2 T2=>op2 g T2 w1 w2
def fUn (g:PyData→Option PyData) (fa:FE):FE:=fun ρ T=>bnd (fa ρ T) fun w1 T1=>op1 g T1 w1
def gn (K:Frag) (r:R2) (g:PyData→PyData→Option PyData):Prop:=∀ (O:Addr→Prop) (ts:List Addr) (H:Hp) (T:Tp) (v1 v2:V) (x y d:PyData) (Q:VK),HC K O ts H T→Vw K O H v1 x→Vw K O H v2 y→g x y=some d →
 (∀ v H',SameX ts H H'→HC K O ts H' T→Rep K O H' v d→Q v H')→r v1 v2 H Q
def EK (K:Frag) (r:V→Hp→VK→Prop) (g:PyData→Option PyData):Prop:=∀ (O:Addr→Prop) (ts:List Addr) (H:Hp) (T:Tp) (v1:V) (x d:PyData) (Q:VK),HC K O ts H T→Vw K O H v1 x→g x=some d →
 (∀ v H',SameX ts H H'→HC K O ts H' T→Rep K O H' v d→Q v H')→r v1 H Q
def OpD (X:Cx) (f:Value→Value→Sem Value) (g:PyData→PyData→Option PyData):Prop:=∃ r,OpR X f r∧gn X.K r g
def IxD (X:Cx) (g:PyData→PyData→Option PyData):Prop:=∃ r,IxR X r∧gn X.K r g
theorem kl {K:Frag} {r:R2} {g:PyData→PyData→Option PyData} {fa fb:FE} (snd:gn K r g) {σ:L2.St} {H:Hp} {Q:VK} (h:lift K (ai g fa fb) σ H Q):tOp r (lift K fa) (lift K fb) σ H Q:=by
 obtain ⟨O,ts,ρ,T,w,T',hc,re,e,q⟩:=h
 obtain ⟨w1,T1,e1,e⟩:=aC e
 obtain ⟨w2,T2,e2,e⟩:=aC e
 obtain ⟨x,y,d,h1,h2,h3,rfl,rfl⟩:=m6 e
 refine ⟨O,ts,ρ,T,w1,T1,hc,re,e1,fun v1 H1 s1 hc1 r1=>?_⟩
 refine ⟨O,ts,ρ,T1,w2,T',hc1,re.mono hc s1,e2,fun v2 H2 s2 hc2 r2=>?_⟩
 exact snd O ts H2 T' v1 v2 x y d Q hc2 (hc2.view (r1.mono hc1 s2) h1) (hc2.view r2 h2) h3 fun v H' s3 hc3 r3=>q v H' (s1.trans (s2.trans s3)) hc3 r3
noncomputable def asB:W→Option Bool
 | .d (.bool b)=>some b
 | _=>none
theorem je {w:W} {b:Bool} (h:asB w=some b):w=.d (.bool b):=by
 unfold asB at h
 split at h
 ·cases h; rfl
 ·cases h
def av (f:FE):FT:=fun ρ T=>bnd (f ρ T) fun w T1=>match asB w with
 | some b=>some (b,T1)
 | none=>none
theorem jX {K:Frag} {f:FE} {σ:L2.St} {H:Hp} {Q:Bool→Hp→Prop} (h:liftT K (av f) σ H Q):lift K f σ H fun x H'=>∃ k,x=.bl k∧Q k H':=by
 obtain ⟨O,ts,ρ,T,w,T',hc,re,e,q⟩:=h
 obtain ⟨w1,T1,e1,e⟩:=aC e
 refine ⟨O,ts,ρ,T,w1,T1,hc,re,e1,fun v1 H1 s1 hc1 r1=>?_⟩
 split at e
 ·rename_i b hb
  cases e
  have hw:=je hb
  subst hw
  cases (show Rep K O H1 v1 _ from r1)
  exact ⟨_,rfl,q H1 s1 hc1⟩
 ·cases e
section
variable {X:Cx} {pos:Pos} {a b c:Expr} {fa fb fc:FE} {g g':PyData→PyData→Option PyData}
theorem aO {op:Operator} (ho:OpD X (binaryOp op) g) (ha:DE X a fa) (hb:DE X b fb):DE X (.BinOp a op b pos) (ai g fa fb):=by
 refine ⟨?_⟩
 obtain ⟨r,hr,snd⟩:=ho
 exact pe_imp (uc hr ha.pe hb.pe) fun σ H Q=>kl snd
theorem cD {op:CmpOp} (ho:OpD X (compareOp op) g) (ha:DE X a fa) (hb:DE X b fb) (hm:behindInMarks op b=false:=by first | exact kF _ | with_unfolding_all rfl):DE X (.Compare a [op] [b] pos) (ai g fa fb):=by
 refine ⟨?_⟩
 obtain ⟨r,hr,snd⟩:=ho
 exact pe_imp (Az hr ha.pe hb.pe hm) fun σ H Q=>kl snd
theorem aI {op:CmpOp} (ho:OpD X (compareOp op) g) (ha:DE X a fa) (hb:DE X b fb) (hm:behindInMarks op b=false:=by first | exact kF _ | with_unfolding_all rfl):DT X (.Compare a [op] [b] pos) (av (ai g fa fb)):=by
 refine ⟨?_⟩
 obtain ⟨r,hr,snd⟩:=ho
 exact ir (mC hr ha.pe hb.pe hm) fun σ H Q h=>kl snd (jX h)
theorem aL (ho:IxD X g) (ha:DE X a fa) (hb:DE X b fb) (hs:mS b:=by exact fun _ _=>rfl):DE X (.Subscript a b pos) (ai g fa fb):=by
 refine ⟨?_⟩
 obtain ⟨r,hr,snd⟩:=ho
 exact pe_imp (nU hr ha.pe hb.pe hs) fun σ H Q=>kl snd
def gM (g g':PyData→PyData→Option PyData) (fa fb fc:FE):FE:=fun ρ T=>bnd (fa ρ T) fun w1 T1=>bnd (fb ρ T1) fun w2 T2=>bnd (op2 g T2 w1 w2) fun w T3=>match asB w with
 | some b=>if b=true then bnd (fc ρ T3) fun w3 T4=>op2 g' T4 w2 w3 else some (.d (.bool false),T3)
 | none=>none
theorem qh {K:Frag} {r r':R2} (snd:gn K r g) (snd':gn K r' g') {σ:L2.St} {H:Hp} {Q:VK} (h:lift K (gM g g' fa fb fc) σ H Q):mV r r' (lift K fa) (lift K fb) (lift K fc) σ H Q:=by
 obtain ⟨O,ts,ρ,T,w,T',hc,re,e,q⟩:=h
 obtain ⟨w1,T1,e1,e⟩:=aC e
 obtain ⟨w2,T2,e2,e⟩:=aC e
 obtain ⟨wz,T3,e3,ez⟩:=aC e
 obtain ⟨x,y,d,h1,h2,h3,rfl,rfl⟩:=m6 e3
 clear e
 refine ⟨O,ts,ρ,T,w1,T1,hc,re,e1,fun v1 H1 s1 hc1 r1=>?_⟩
 refine ⟨O,ts,ρ,T1,w2,T3,hc1,re.mono hc s1,e2,fun v2 H2 s2 hc2 r2=>?_⟩
 refine snd O ts H2 T3 v1 v2 x y d _ hc2 (hc2.view (r1.mono hc1 s2) h1) (hc2.view r2 h2) h3 fun v H3 s3 hc3 r3=>?_
 split at ez
 ·rename_i b hb
  have hd:=je hb
  injection hd with hd
  subst hd
  cases r3
  cases b with
  | true=>
   rw [if_pos rfl] at ez
   refine ⟨true,rfl,fE ?_⟩
   obtain ⟨w3,T4,e4,e5⟩:=aC ez
   obtain ⟨x',y',d',h1',h2',h3',rfl,rfl⟩:=m6 e5
   refine ⟨O,ts,ρ,T3,w3,T',hc3,(re.mono hc (s1.trans (s2.trans s3))),e4,fun v3 H4 s4 hc4 r4=>?_⟩
   exact snd' O ts H4 T' v2 v3 x' y' d' Q hc4 (hc4.view (r2.mono hc2 (s3.trans s4)) h1') (hc4.view r4 h2') h3' fun v H' s5 hc5 r5=>q v H' (s1.trans (s2.trans (s3.trans (s4.trans s5)))) hc5 r5
  | false=>
   rw [if_neg Bool.false_ne_true] at ez
   cases ez
   exact ⟨false,rfl,gi (q _ H3 (s1.trans (s2.trans s3)) hc3 (.bl false))⟩
 ·cases ez
theorem q8 {op op':CmpOp} (ho:OpD X (compareOp op) g) (ho':OpD X (compareOp op') g') (ha:DE X a fa) (hb:DE X b fb) (hc:DE X c fc)
  (hm:lastMarks [op,op'] [b,c]=false:=by with_unfolding_all rfl):DE X (.Compare a [op,op'] [b,c] pos) (gM g g' fa fb fc):=by
 refine ⟨?_⟩
 obtain ⟨r,hr,snd⟩:=ho
 obtain ⟨r',hr',snd'⟩:=ho'
 exact pe_imp (zf hr hr' ha.pe hb.pe hc.pe hm) fun σ H Q=>qh snd snd'
theorem zI {op op':CmpOp} (ho:OpD X (compareOp op) g) (ho':OpD X (compareOp op') g') (ha:DE X a fa) (hb:DE X b fb) (hc:DE X c fc)
  (hm:lastMarks [op,op'] [b,c]=false:=by with_unfolding_all rfl):DT X (.Compare a [op,op'] [b,c] pos) (av (gM g g' fa fb fc)):=by
 refine ⟨?_⟩
 obtain ⟨r,hr,snd⟩:=ho
 obtain ⟨r',hr',snd'⟩:=ho'
 exact ir (yX hr hr' ha.pe hb.pe hc.pe hm) fun σ H Q h=>qh snd snd' (jX h)
def lx:PyData→Option Bool
 | .none=>some false
 | .bool b=>some b
 | .int i=>some (i != 0)
 | .str y=>if y.length≤sizeLine then some ((y.length:Int) != 0) else none
 | .list xs=>some (!xs.isEmpty)
 | .tuple xs=>some (!xs.isEmpty)
 | .dict _=>none
def ly (T:Tp) (w:W):Option (Bool×Tp):=match view T w with
 | some x=>match lx x with
  | some b=>some (b,T)
  | none=>none
 | none=>none
def aX (f:FE):FT:=fun ρ T=>bnd (f ρ T) fun w T1=>ly T1 w
theorem pf {K:Frag} {O:Addr→Prop} {H:Hp} {vs:List V} {ds:List PyData} (r:Reps K O H vs ds):vs.isEmpty=ds.isEmpty:=by cases r <;> rfl
theorem Bs {K:Frag} {O:Addr→Prop} {H:Hp} {v:V} {x:PyData} {b:Bool} (h:Vw K O H v x) (e:lx x=some b):oE K v H b:=by
 cases x with
 | none=>cases h.non; cases e; rfl
 | bool c=>cases h.bl; cases e; rfl
 | int i=>cases h.int; cases e; rfl
 | str y=>
  cases h.str
  have e':(if y.length≤sizeLine then some ((y.length:Int) != 0) else none)=some b:=e
  split at e'
  ·rename_i hl
   cases e'
   exact ⟨hl,rfl⟩
  ·cases e'
 | list xs=>
  obtain ⟨a,vs,rfl,h1,h2⟩:=h.lst
  cases e
  exact .inl ⟨vs,h1,by rw [pf h2]⟩
 | tuple xs=>
  obtain ⟨a,vs,rfl,h1,h2⟩:=h.tup
  cases e
  exact .inr (.inl ⟨vs,h1.sq,by rw [pf h2]⟩)
 | dict kvs=>
  cases e
theorem bu (ha:DE X a fa) (he:∀ whole,isTrue a X.env whole=(do let v ← whole; standAt a.pos; holding [v] (truthy v)):=by intro _; rfl):DT X a (aX fa):=by
 refine ⟨?_⟩
 refine ir (yW ha.pe he) fun σ H Q=>?_
 rintro ⟨O,ts,ρ,T,b,T',hc,re,e,q⟩
 obtain ⟨w1,T1,e1,e⟩:=aC e
 refine ⟨O,ts,ρ,T,w1,T1,hc,re,e1,fun v1 H1 s1 hc1 r1=>?_⟩
 unfold ly at e
 split at e
 ·rename_i x h1
  split at e
  ·rename_i k h2
   cases e
   exact ⟨b,Bs (hc1.view r1 h1) h2,q H1 s1 hc1⟩
  ·cases e
 ·cases e
def bp (f g:FT):FT:=fun ρ T=>bnd (f ρ T) fun b T1=>if b=true then g ρ T1 else some (false,T1)
def cq (f g:FT):FT:=fun ρ T=>bnd (f ρ T) fun b T1=>if b=true then some (true,T1) else g ρ T1
def bo (f:FT):FT:=fun ρ T=>bnd (f ρ T) fun b T1=>some (!b,T1)
variable {ta tb:FT} {rest:List Expr}
theorem bD {f:FT} (h:DW X a f):DT X a f:=⟨PW.pt h.pe⟩
theorem c8 (ha:DT X a ta):DW X (.BoolOp .And [a] pos) ta:=⟨Ak ha.pe⟩
theorem dS (ha:DT X a ta):DW X (.BoolOp .Or [a] pos) ta:=⟨BC ha.pe⟩
theorem cS (ha:DT X a ta) (hb:DW X (.BoolOp .And (b::rest) pos) tb):DW X (.BoolOp .And (a::b::rest) pos) (bp ta tb):=by
 refine ⟨?_⟩
 refine sR (BD ha.pe hb.pe) fun σ H Q=>?_
 rintro ⟨O,ts,ρ,T,b,T',hc,re,e,q⟩
 obtain ⟨b1,T1,e1,e⟩:=aC e
 refine ⟨O,ts,ρ,T,b1,T1,hc,re,e1,fun H1 s1 hc1=>?_⟩
 cases b1 with
 | true=>exact fE ⟨O,ts,ρ,T1,b,T',hc1,re.mono hc s1,by simpa using e,fun H2 s2 hc2=>q H2 (s1.trans s2) hc2⟩
 | false=>
  have e':some (false,T1)=some (b,T'):=by simpa using e
  cases e'
  exact gi (q H1 s1 hc1)
theorem dk (ha:DT X a ta) (hb:DW X (.BoolOp .Or (b::rest) pos) tb):DW X (.BoolOp .Or (a::b::rest) pos) (cq ta tb):=by
 refine ⟨?_⟩
 refine sR (C3 ha.pe hb.pe) fun σ H Q=>?_
 rintro ⟨O,ts,ρ,T,b,T',hc,re,e,q⟩
 obtain ⟨b1,T1,e1,e⟩:=aC e
 refine ⟨O,ts,ρ,T,b1,T1,hc,re,e1,fun H1 s1 hc1=>?_⟩
 cases b1 with
 | false=>exact gi ⟨O,ts,ρ,T1,b,T',hc1,re.mono hc s1,by simpa using e,fun H2 s2 hc2=>q H2 (s1.trans s2) hc2⟩
 | true=>
  have e':some (true,T1)=some (b,T'):=by simpa using e
  cases e'
  exact fE (q H1 s1 hc1)
theorem bJ (ha:DT X a ta):DT X (.UnaryOp .Not a pos) (bo ta):=by
 refine ⟨?_⟩
 refine ir (BG ha.pe) fun σ H Q=>?_
 rintro ⟨O,ts,ρ,T,b,T',hc,re,e,q⟩
 obtain ⟨b1,T1,e1,e⟩:=aC e
 cases e
 exact ⟨O,ts,ρ,T,b1,T',hc,re,e1,fun H1 s1 hc1=>q H1 s1 hc1⟩
def bC (f g:FE):FE:=fun ρ T=>bnd (f ρ T) fun w T1=>match asB w with
 | some b=>if b=true then g ρ T1 else some (.d (.bool false),T1)
 | none=>none
def oz (f g:FE):FE:=fun ρ T=>bnd (f ρ T) fun w T1=>match asB w with
 | some b=>if b=true then some (.d (.bool true),T1) else g ρ T1
 | none=>none
def n5 (f:FE):FE:=fun ρ T=>bnd (f ρ T) fun w T1=>match asB w with
 | some b=>some (.d (.bool (!b)),T1)
 | none=>none
theorem eE {op} (h:DE X a fa):DE X (.BoolOp op [a] pos) fa:=⟨BN h.pe⟩
theorem df (ha:DE X a fa) (hb:DE X (.BoolOp .And (b::rest) pos) fb):DE X (.BoolOp .And (a::b::rest) pos) (bC fa fb):=by
 refine ⟨?_⟩
 refine pe_imp (BP ha.pe hb.pe) fun σ H Q=>?_
 rintro ⟨O,ts,ρ,T,w,T',hc,re,e,q⟩
 obtain ⟨w1,T1,e1,e⟩:=aC e
 refine ⟨O,ts,ρ,T,w1,T1,hc,re,e1,fun v1 H1 s1 hc1 r1=>?_⟩
 split at e
 ·rename_i b hb
  have hw:=je hb
  subst hw
  cases (show Rep X.K O H1 v1 _ from r1)
  cases b with
  | true=>exact ⟨_,rfl,fE ⟨O,ts,ρ,T1,w,T',hc1,re.mono hc s1,by simpa using e,fun v H2 s2 hc2 r2=>q v H2 (s1.trans s2) hc2 r2⟩⟩
  | false=>
   rw [if_neg Bool.false_ne_true] at e
   cases e
   exact ⟨_,rfl,gi (q _ H1 s1 hc1 (.bl false))⟩
 ·cases e
theorem D2 (ha:DE X a fa) (hb:DE X (.BoolOp .Or (b::rest) pos) fb):DE X (.BoolOp .Or (a::b::rest) pos) (oz fa fb):=by
 refine ⟨?_⟩
 refine pe_imp (C6 ha.pe hb.pe) fun σ H Q=>?_
 rintro ⟨O,ts,ρ,T,w,T',hc,re,e,q⟩
 obtain ⟨w1,T1,e1,e⟩:=aC e
 refine ⟨O,ts,ρ,T,w1,T1,hc,re,e1,fun v1 H1 s1 hc1 r1=>?_⟩
 split at e
 ·rename_i b hb
  have hw:=je hb
  subst hw
  cases (show Rep X.K O H1 v1 _ from r1)
  cases b with
  | false=>exact ⟨_,rfl,gi ⟨O,ts,ρ,T1,w,T',hc1,re.mono hc s1,by simpa using e,fun v H2 s2 hc2 r2=>q v H2 (s1.trans s2) hc2 r2⟩⟩
  | true=>
   rw [if_pos rfl] at e
   cases e
   exact ⟨_,rfl,fE (q _ H1 s1 hc1 (.bl true))⟩
 ·cases e
theorem Cz (ha:DE X a fa):DE X (.UnaryOp .Not a pos) (n5 fa):=by
 refine ⟨?_⟩
 refine pe_imp (sV ha.pe) fun σ H Q=>?_
 rintro ⟨O,ts,ρ,T,w,T',hc,re,e,q⟩
 obtain ⟨w1,T1,e1,e⟩:=aC e
 refine ⟨O,ts,ρ,T,w1,T1,hc,re,e1,fun v1 H1 s1 hc1 r1=>?_⟩
 split at e
 ·rename_i b hb
  have hw:=je hb
  subst hw
  cases (show Rep X.K O H1 v1 _ from r1)
  cases e
  exact ⟨_,rfl,q _ H1 s1 hc1 (.bl _)⟩
 ·cases e
def iJ (c:FT) (f g:FE):FE:=fun ρ T=>bnd (c ρ T) fun b T1=>if b=true then f ρ T1 else g ρ T1
theorem jw (hc:DT X c ta) (ha:DE X a fa) (hb:DE X b fb):DE X (.IfExp c a b pos) (iJ ta fa fb):=by
 refine ⟨?_⟩
 refine pe_imp (zd hc.pe ha.pe hb.pe) fun σ H Q=>?_
 rintro ⟨O,ts,ρ,T,w,T',hc,re,e,q⟩
 obtain ⟨b1,T1,e1,e⟩:=aC e
 refine ⟨O,ts,ρ,T,b1,T1,hc,re,e1,fun H1 s1 hc1=>?_⟩
 cases b1 with
 | true=>exact fE ⟨O,ts,ρ,T1,w,T',hc1,re.mono hc s1,by simpa using e,fun v H2 s2 hc2 r2=>q v H2 (s1.trans s2) hc2 r2⟩
 | false=>exact gi ⟨O,ts,ρ,T1,w,T',hc1,re.mono hc s1,by simpa using e,fun v H2 s2 hc2 r2=>q v H2 (s1.trans s2) hc2 r2⟩
theorem D1 {op:UnaryOp} {r:V→Hp→VK→Prop} {g1:PyData→Option PyData} (hr:UnR X (unaryOp op) r) (snd:EK X.K r g1) (ha:DE X a fa):DE X (.UnaryOp op a pos) (fUn g1 fa):=by
 refine ⟨?_⟩
 refine pe_imp (C5 hr ha.pe) fun σ H Q=>?_
 rintro ⟨O,ts,ρ,T,w,T',hc,re,e,q⟩
 obtain ⟨w1,T1,e1,e⟩:=aC e
 obtain ⟨x,d,h1,h3,rfl,rfl⟩:=gH e
 refine ⟨O,ts,ρ,T,w1,T',hc,re,e1,fun v1 H1 s1 hc1 r1=>?_⟩
 exact snd O ts H1 T' v1 x d Q hc1 (hc1.view r1 h1) h3 fun v H' s3 hc3 r3=>q v H' (s1.trans s3) hc3 r3
end
def ah:FA:=fun _ T=>some ([],T)
def aa (f:FE) (g:FA):FA:=fun ρ T=>bnd (f ρ T) fun w T1=>bnd (g ρ T1) fun ws T2=>some (w::ws,T2)
def dq:List W→Option (List PyData)
 | []=>some []
 | .d x::r=>match dq r with
  | some xs=>some (x::xs)
  | none=>none
 | _::_=>none
theorem iS {K:Frag} {O:Addr→Prop} {ts:List Addr} {H:Hp}:∀ {vs:List V} {ws:List W} {xs:List PyData},eJ K O ts H vs ws→dq ws=some xs→Reps K O H vs xs
 | _,[],_,.nil,e=>by cases e; exact .nil
 | _,.d x::r,xs,.cons h t,e=>by
  unfold dq at e
  split at e
  ·rename_i ys h2
   cases e
   exact .cons h (iS t h2)
  ·cases e
 | _,.tp _::_,_,.cons _ _,e=>by cases e
 | _,.loc _::_,_,.cons _ _,e=>by cases e
def au (mk:List PyData→PyData) (f:FA):FE:=fun ρ T=>bnd (f ρ T) fun ws T1=>match dq ws with
 | some xs=>if xs.length≤1000 then some (.d (mk xs),T1) else none
 | none=>none
theorem kc {n:Nat} (h:n≤1000):n≤sizeLine:=Nat.le_trans h (by decide)
def fm (X:Cx) (f:Value) (g:List PyData→Option PyData):Prop:=∃ r,CallR X f r∧∀ (O:Addr→Prop) (ts:List Addr) (H:Hp) (T:Tp) (vs:List V) (xs:List PyData) (d:PyData) (Q:VK),HC X.K O ts H T→Vws X.K O H vs xs→g xs=some d →
 (∀ v H',SameX ts H H'→HC X.K O ts H' T→Rep X.K O H' v d→Q v H')→r vs H Q
def fCB (g:List PyData→Option PyData) (f:FA):FE:=fun ρ T=>bnd (f ρ T) fun ws T1=>match views T1 ws with
 | some xs=>match g xs with
  | some d=>some (.d d,T1)
  | none=>none
 | none=>none
section
variable {X:Cx} {pos p:Pos} {e:Expr} {es:List Expr} {f:FE} {g:FA}
theorem ak:DA X [] ah:=by
 refine ⟨?_⟩
 refine sY bx fun σ H Q=>?_
 rintro ⟨O,ts,ρ,T,w,T',hc,re,e,q⟩
 cases e
 exact q [] H (.refl _ _) hc .nil
theorem af (ha:DE X e f) (hr:DA X es g) (hs:starEach (e::es) X.env=(false,eval e X.env)::starEach es X.env:=by exact bb rfl):DA X (e::es) (aa f g):=by
 refine ⟨?_⟩
 refine sY (aU ha.pe hr.pe hs) fun σ H Q=>?_
 rintro ⟨O,ts,ρ,T,w,T',hc,re,e,q⟩
 obtain ⟨w1,T1,e1,e⟩:=aC e
 obtain ⟨ws,T2,e2,e⟩:=aC e
 cases e
 refine ⟨O,ts,ρ,T,w1,T1,hc,re,e1,fun v1 H1 s1 hc1 r1=>?_⟩
 exact ⟨O,ts,ρ,T1,ws,_,hc1,re.mono hc s1,e2,fun vs H2 s2 hc2 r2=>q _ H2 (s1.trans s2) hc2 (.cons (r1.mono hc1 s2) r2)⟩
theorem rC {mk:List PyData→PyData} {g:FA} {ρ:Rho} {T T':Tp} {w:W} (e:au mk g ρ T=some (w,T')):∃ ws xs,g ρ T=some (ws,T')∧dq ws=some xs∧xs.length≤1000∧w=.d (mk xs):=by
 obtain ⟨ws,T1,e1,e⟩:=aC e
 split at e
 ·rename_i xs h1
  split at e
  ·rename_i h2
   cases e
   exact ⟨ws,xs,e1,h1,h2,rfl⟩
  ·cases e
 ·cases e
theorem aM {x1} (h:DA X es g):DE X (.Tuple es x1 pos) (au .tuple g):=by
 refine ⟨?_⟩
 refine pe_imp (kB h.pe) fun σ H Q=>?_
 rintro ⟨O,ts,ρ,T,w,T',hc,re,e,q⟩
 obtain ⟨ws,xs,e1,h1,h2,rfl⟩:=rC e
 refine ⟨O,ts,ρ,T,ws,T',hc,re,e1,fun vs H1 s1 hc1 r1=>?_⟩
 have rs:=iS r1 h1
 refine ⟨kc (by rw [rs.length]; exact h2),fun p hp=>?_⟩
 exact q _ _ (s1.trans (.new hp _)) (hc1.new hp _) (hc1.newT hp rs)
theorem bH (h:DA X es g):DE X (.List es pos) (au .list g):=by
 refine ⟨?_⟩
 refine pe_imp (i7 h.pe) fun σ H Q=>?_
 rintro ⟨O,ts,ρ,T,w,T',hc,re,e,q⟩
 obtain ⟨ws,xs,e1,h1,h2,rfl⟩:=rC e
 refine ⟨O,ts,ρ,T,ws,T',hc,re,e1,fun vs H1 s1 hc1 r1=>?_⟩
 have rs:=iS r1 h1
 refine ⟨kc (by rw [rs.length]; exact h2),fun p hp=>?_⟩
 exact q _ _ (s1.trans (.new hp _)) (hc1.new hp _) (hc1.newL hp rs)
theorem tO {K:Frag} {r:List V→Hp→VK→Prop} {gg:List PyData→Option PyData} (snd:∀ (O:Addr→Prop) (ts:List Addr) (H:Hp) (T:Tp) (vs:List V) (xs:List PyData) (d:PyData) (Q:VK),HC K O ts H T→Vws K O H vs xs→gg xs=some d →
  (∀ v H',SameX ts H H'→HC K O ts H' T→Rep K O H' v d→Q v H')→r vs H Q) {σ:L2.St} {H:Hp} {Q:VK} (h:lift K (fCB gg g) σ H Q):tCB r (k8 K g) σ H Q:=by
 obtain ⟨O,ts,ρ,T,w,T',hc,re,e,q⟩:=h
 obtain ⟨ws,T1,e1,e⟩:=aC e
 refine ⟨O,ts,ρ,T,ws,T1,hc,re,e1,fun vs H1 s1 hc1 r1=>?_⟩
 split at e
 ·rename_i xs h1
  split at e
  ·rename_i d h2
   cases e
   exact snd O ts H1 T' vs xs d Q hc1 (hc1.views r1 h1) h2 fun v H' s3 hc3 r3=>q v H' (s1.trans s3) hc3 r3
  ·cases e
 ·cases e
theorem bg {x:Str} {id:String} {gg:List PyData→Option PyData} (hc:fm X (.builtin id) gg) (hg:Gl X x) (hm:X.mg x=none) (hv:bootBuiltins x=some (.builtin id)) (ha:DA X (e::es) g) (hn:x≠"__name__":=by decide) (hdb:(x == ("__debug__" : Str))=false:=by decide)
  (he:starEach (e::es) X.env=(false,eval e X.env)::starEach es X.env:=by exact bb rfl) (hpl:(backTo pos (starEach es X.env)).any (·.1)=false:=by exact bF rfl):DE X (.Call (.Name x p) (e::es) [] pos) (fCB gg g):=by
 refine ⟨?_⟩
 obtain ⟨r,hr,snd⟩:=hc
 exact pe_imp (hV hr hg hm hv ha.pe hn hdb he hpl) fun σ H Q h=>tO snd h
theorem iO {x:Str} {id:String} {gg:List PyData→Option PyData} (hc:fm X (.type id) gg) (hg:Gl X x) (hm:X.mg x=none) (hv:bootBuiltins x=some (.type id)) (ha:DA X (e::es) g) (hn:x≠"__name__":=by decide) (hdb:(x == ("__debug__" : Str))=false:=by decide)
  (he:starEach (e::es) X.env=(false,eval e X.env)::starEach es X.env:=by exact bb rfl) (hpl:(backTo pos (starEach es X.env)).any (·.1)=false:=by exact bF rfl):DE X (.Call (.Name x p) (e::es) [] pos) (fCB gg g):=by
 refine ⟨?_⟩
 obtain ⟨r,hr,snd⟩:=hc
 exact pe_imp (jN hr hg hm hv ha.pe hn hdb he hpl) fun σ H Q h=>tO snd h
end
abbrev FI:=Rho→Tp→Option (List PyData×Tp)
def Ey (K:Frag) (tl:TE):TI:=fun σ H R=>tl σ H fun x H1=>(∃ a xs,x=.ref a∧SqL K H1 a xs∧(xs.length≤sizeLine→R (Itl K a) H1))∨(∃ a xs,x=.ref a∧SqT K H1 a xs∧(xs.length≤sizeLine→R (Itt K a) H1))∨(∃ z,x=.str z∧R (Its z) H1)∨∃ a o kvs,x=.ref a∧H1 a=some (.frz o (.dK kvs))∧(kvs.length≤sizeLine→R (Itd a o kvs) H1)
theorem BJ {X:Cx} {tg l:Expr} {tl:TE} (hl:PE X l tl):PI X tg l (Ey X.K tl):=by
 intro pins s σ H R I h
 refine thn (hl pins s σ H _ I h) fun v s1 ⟨x,H1,I1,r1,q1⟩=>?_
 have fk:∀ b∈[s1.heap.objs.size],dI X pins H1 b:=fun b hb=>by
  have e:b=s1.heap.objs.size:=by simpa using hb
  subst e
  exact I1.fpOk (Nat.le_refl _) (I1.hok.fresh (Nat.le_refl _))
 rcases q1 with ⟨a,xs,e,hq,q⟩ | ⟨a,xs,e,hq,q⟩ | ⟨z,e,q⟩ | ⟨a,o,kvs,e,hq,q⟩
 ·subst e
  cases r1
  obtain ⟨its,rv,p,hz⟩:=I1.list hq
  refine wpAny_pyIter_list p.isList ?_
  exact ⟨s1.heap.objs.size,[s1.heap.objs.size],_,_,H1,rfl,I1.kept (t':=s1.toks) fun b o e=>Heap.get?_push_of_some _ e,xV a _,⟨_,Heap.get?_push_size _ rfl,rfl,rfl⟩,fk,q hz⟩
 ·subst e
  cases r1
  obtain ⟨its,rv,p,hz⟩:=I1.tuple hq
  refine wpAny_pyIter_tuple (show s1.heap.IsTuple a its.toArray from p) ?_
  exact ⟨s1.heap.objs.size,[s1.heap.objs.size],_,_,H1,rfl,I1.kept (t':=s1.toks) fun b o e=>Heap.get?_push_of_some _ e,w6 a _,⟨_,Heap.get?_push_size _ rfl,rfl,rfl⟩,fk,q hz⟩
 ·subst e
  obtain ⟨t,rfl⟩:=r1
  cases ha:z.cps.all (· < 128) with
  | false=>
   refine wpAny_pyIter_wide ha ?_
   exact ⟨s1.heap.objs.size,[s1.heap.objs.size],_,_,H1,rfl,I1.kept (t':=s1.toks) fun b o e=>Heap.get?_push_of_some _ e,qq z t "str_iterator" _ (.inr rfl),⟨_,Heap.get?_push_size _ rfl,rfl,rfl⟩,fk,q⟩
  | true=>
   refine wpAny_pyIter_ascii ha ?_
   exact ⟨s1.heap.objs.size,[s1.heap.objs.size],_,_,H1,rfl,I1.kept (t':=s1.toks) fun b o e=>Heap.get?_push_of_some _ e,qq z t "str_ascii_iterator" _ (.inl rfl),⟨_,Heap.get?_push_size _ rfl,rfl,rfl⟩,fk,q⟩
 ·subst e
  cases r1
  obtain ⟨z,y,vs,kv,dd⟩:=lX I1.hok hq
  refine wpAny_pyIter_dict y dd ?_
  exact ⟨s1.heap.objs.size,[s1.heap.objs.size],_,_,H1,rfl,I1.kept (t':=s1.toks) fun b o e=>Heap.get?_push_of_some _ e,xX a _ o kvs,⟨_,Heap.get?_push_size _ rfl,rfl,by rw [kv.length]; rfl⟩,fk,q z⟩
def ItOk (K:Frag) (O:Addr→Prop) (H1:Hp) (J:It) (ds:List PyData):Prop:=∀ O' H',Le O H1 O' H'→(∀ i,i < ds.length→J.go i H')∧J.stop ds.length H'∧∀ i v H'',J.yld i H' v H''→i < ds.length→H''=H'∧∃ d,ds[i]? = some d∧Rep K O' H' v d
inductive LiftIP (K:Frag) (f:FI) (σ:L2.St) (H:Hp) (R:It→Hp→Prop):Prop where
 | mk (O:Addr→Prop) (ts:List Addr) (ρ:Rho) (T:Tp) (ds:List PyData) (T':Tp) (hc:HC K O ts H T) (re:RelE K O ts H σ ρ) (e:f ρ T=some (ds,T')) (q:∀ J H1,SameX ts H H1→HC K O ts H1 T'→ItOk K O H1 J ds→ds.length≤sizeLine→R J H1):LiftIP K f σ H R
def ui (K:Frag) (f:FI):TI:=fun σ H R=>LiftIP K f σ H R
structure DI (X:Cx) (tg e:Expr) (f:FI):Prop where
 pe:PI X tg e (ui X.K f)
theorem sU {X:Cx} {tg e:Expr} {t t':TI} (h:PI X tg e t) (i:∀ σ H Q,t' σ H Q→t σ H Q):PI X tg e t':=fun pins s σ H Q I q=>h pins s σ H Q I (i σ H Q q)
def signs (z:Str):List PyData:=z.cps.toList.map fun c=>.str ⟨#[c]⟩
def gK:PyData→Option (List PyData)
 | .list xs=>some xs
 | .tuple xs=>some xs
 | .str z=>if z.length≤sizeLine then some (signs z) else none
 | .dict ds=>some (ds.map (·.1))
 | _=>none
def bZ (f:FE):FI:=fun ρ T=>bnd (f ρ T) fun w T1=>match w with
 | .d x=>match gK x with
  | some xs=>some (xs,T1)
  | none=>none
 | _=>none
theorem ItOk.lst {K:Frag} {O:Addr→Prop} {H1:Hp} {a:Addr} {vs:List V} {ds:List PyData} (h:LstAt K O H1 a vs) (r:Reps K O H1 vs ds):ItOk K O H1 (Itl K a) ds:=fun O' H' le=>by
 have sq:=(h.mono le).sq
 have hl:=r.length
 refine ⟨fun i hi=>⟨vs,vs[i]'(by omega),sq,by simp⟩,⟨vs,sq,by omega⟩,fun i v H'' y hi=>?_⟩
 obtain ⟨e,y⟩:=y
 obtain ⟨d,h1,h2⟩:=r.get (y vs sq)
 exact ⟨e,d,h1,h2.mono le⟩
theorem ItOk.tup {K:Frag} {O:Addr→Prop} {H1:Hp} {a:Addr} {vs:List V} {ds:List PyData} (h:TupAt K O H1 a vs) (r:Reps K O H1 vs ds):ItOk K O H1 (Itt K a) ds:=fun O' H' le=>by
 have sq:=(h.mono le).sq
 have hl:=r.length
 refine ⟨fun i hi=>⟨vs,vs[i]'(by omega),sq,by simp⟩,⟨vs,sq,by omega⟩,fun i v H'' y hi=>?_⟩
 obtain ⟨e,y⟩:=y
 obtain ⟨d,h1,h2⟩:=r.get (y vs sq)
 exact ⟨e,d,h1,h2.mono le⟩
theorem ItOk.str {K:Frag} {O:Addr→Prop} {H1:Hp} {z:Str}:ItOk K O H1 (Its z) (signs z):=fun O' H' le=>by
 have hl:(signs z).length=z.cps.size:=by simp [signs]
 refine ⟨fun i hi=>by rw [hl] at hi; exact hi,by rw [hl]; exact Nat.le_refl _,fun i v H'' y hi=>?_⟩
 obtain ⟨e,c,hc,y⟩:=y
 subst y
 refine ⟨e,.str ⟨#[c]⟩,?_,.str _⟩
 unfold signs
 rw [List.getElem?_map]
 have:z.cps.toList[i]? = some c:=by simpa using hc
 rw [this]
 rfl
theorem lT {K:Frag} {O:Addr→Prop} {H:Hp}:∀ {kvs:List (Key×V)} {ds:List (PyData×PyData)},RepK K O H kvs ds→kvs.length=ds.length
 | _,_,.nil=>rfl
 | _,_,.cons _ t=>congrArg (· + 1) (lT t)
theorem qD {K:Frag} {O:Addr→Prop} {H:Hp}:∀ {kvs:List (Key×V)} {ds:List (PyData×PyData)} {i:Nat} {k:Key} {v:V},RepK K O H kvs ds→kvs[i]? = some (k,v)→(ds.map (·.1))[i]? = some (cW k)
 | _,_,_,_,_,.nil,e=>by simp at e
 | _,_,0,_,_,.cons r _,e=>by simp at e; obtain ⟨rfl,rfl⟩:=e; rfl
 | _,_,i + 1,k,v,.cons _ t,e=>by
  have:=qD (i:=i) t (by simpa using e)
  simpa using this
theorem rF {K:Frag} {O:Addr→Prop} {H:Hp} (k:Key):Rep K O H (kV k) (cW k):=by
 cases k with
 | inl i=>exact .int i
 | inr x=>exact .str x
theorem ItOk.dct {K:Frag} {O:Addr→Prop} {H1:Hp} {a:Addr} {o:Obj} {kvs:List (Key×V)} {ds:List (PyData×PyData)} (n:¬ O a) (h:H1 a=some (.frz o (.dK kvs))) (r:RepK K O H1 kvs ds):ItOk K O H1 (Itd a o kvs) (ds.map (·.1)):=fun O' H' le=>by
 have h':=(le a _ n h).2
 have hl:=lT r
 refine ⟨fun i hi=>⟨h',by simp at hi; omega⟩,⟨h',by simp [hl]⟩,fun i v H'' y hi=>?_⟩
 obtain ⟨e,k,v0,y1,y2⟩:=y
 subst y2
 exact ⟨e,_,qD r y1,rF k⟩
theorem d9 {X:Cx} {tg e:Expr} {f:FE} (h:DE X e f):DI X tg e (bZ f):=by
 refine ⟨?_⟩
 refine sU (BJ h.pe) fun σ H R=>?_
 rintro ⟨O,ts,ρ,T,ds,T',hc,re,e,q⟩
 obtain ⟨w1,T1,e1,e⟩:=aC e
 refine ⟨O,ts,ρ,T,w1,T1,hc,re,e1,fun v1 H1 s1 hc1 r1=>?_⟩
 split at e
 ·rename_i x
  split at e
  ·rename_i xs h1
   cases e
   have rr:Rep X.K O H1 v1 x:=r1
   cases x with
   | list ys=>
    cases h1
    cases rr with
    | lst t r=>exact .inl ⟨_,_,rfl,t.sq,fun hz=>q _ H1 s1 hc1 (.lst t r) (by rw [← r.length]; exact hz)⟩
   | tuple ys=>
    cases h1
    cases rr with
    | tup t r=>exact .inr (.inl ⟨_,_,rfl,t.sq,fun hz=>q _ H1 s1 hc1 (.tup t r) (by rw [← r.length]; exact hz)⟩)
   | str z=>
    have h1':(if z.length≤sizeLine then some (signs z) else none)=some _:=h1
    split at h1'
    ·rename_i hz
     cases h1'
     cases rr
     exact .inr (.inr (.inl ⟨z,rfl,q _ H1 s1 hc1 .str (by rw [show (signs z).length=z.cps.size by simp [signs]]; exact hz)⟩))
    ·cases h1'
   | dict ys=>
    cases h1
    cases rr with
    | dct n t r=>exact .inr (.inr (.inr ⟨_,_,_,rfl,t,fun hz=>q _ H1 s1 hc1 (.dct n t r) (by rw [List.length_map,← lT r]; exact hz)⟩))
   | _=>cases h1
  ·cases e
 ·cases e
def bK (lo:Int) (n:Nat):List PyData:=(List.range n).map fun (i:Nat)=>.int (lo + (i:Int))
theorem ItOk.rng {K:Frag} {O:Addr→Prop} {H1:Hp} {lo:Int} {n:Nat}:ItOk K O H1 (Itr lo n) (bK lo n):=fun O' H' le=>by
 have hl:(bK lo n).length=n:=by simp [bK]
 refine ⟨fun i hi=>by rw [hl] at hi; exact hi,by rw [hl]; exact Nat.le_refl _,fun i v H'' y hi=>?_⟩
 obtain ⟨e,y⟩:=y
 subst y
 rw [hl] at hi
 exact ⟨e,.int (lo + i),by simp [bK,hi],.int _⟩
def eF (j:Int):Bool:=decide (-1000000≤j∧j≤16777216)
theorem rng_ok {j:Int} (h:eF j=true) : -(2 ^ 62)≤j∧j < 2 ^ 62∧j.toNat≤sizeLine:=by
 have h':=of_decide_eq_true h
 have e:sizeLine=16777216:=by decide
 omega
def di (f:FE):FI:=fun ρ T=>bnd (f ρ T) fun w T1=>match w with
 | .d (.int j)=>if eF j=true then some (bK 0 j.toNat,T1) else none
 | _=>none
theorem iY {X:Cx} {tg a:Expr} {f:FE} {p pos:Pos} (hg:Gl X "range") (hm:X.mg "range" = none) (ha:DE X a f) (hs:starEach [a] X.env=[(false,eval a X.env)]:=by exact l9 rfl):DI X tg (.Call (.Name "range" p) [a] [] pos) (di f):=by
 refine ⟨?_⟩
 refine sU (ye (ta:=nM (lift X.K f) oj) hg hm (aU ha.pe bx (by rw [hs]; rfl)) hs) fun σ H R=>?_
 rintro ⟨O,ts,ρ,T,ds,T',hc,re,e,q⟩
 obtain ⟨w1,T1,e1,e⟩:=aC e
 refine ⟨O,ts,ρ,T,w1,T1,hc,re,e1,fun v1 H1 s1 hc1 r1=>?_⟩
 split at e
 ·rename_i j
  split at e
  ·rename_i h1
   cases e
   cases (show Rep X.K O H1 v1 _ from r1)
   obtain ⟨b1,b2,b3⟩:=rng_ok h1
   exact ⟨j,rfl,b1,b2,q _ H1 s1 hc1 .rng (by simpa [bK] using b3)⟩
  ·cases e
 ·cases e
def bG (c:FT) (e:FE) (ρ:Rho):List PyData→Tp→Option (List PyData×Tp)
 | [],T=>some ([],T)
 | d::r,T=>bnd (c (some (.d d)::ρ) T) fun b T1=>if b=true then bnd (e (some (.d d)::ρ) T1) fun w T2=>match w with
   | .d y=>bnd (bG c e ρ r T2) fun ys T3=>some (y::ys,T3)
   | _=>none
  else bG c e ρ r T1
def cf (it:FI) (c:FT) (e:FE):FE:=fun ρ T=>bnd (it ρ T) fun ds T1=>bnd (bG c e ρ ds T1) fun ys T2=>some (.d (.list ys),T2)
def bB:FT:=fun _ T=>some (true,T)
theorem RelE.cons {K:Frag} {O:Addr→Prop} {ts:List Addr} {H:Hp} {σ:L2.St} {ρ:Rho} {v:V} {d:PyData} (re:RelE K O ts H σ ρ) (r:Rep K O H v d):RelE K O ts H (some v::σ) (some (.d d)::ρ):=fun i w e=>by
 cases i with
 | zero=>cases e; exact ⟨v,rfl,r⟩
 | succ i=>
  obtain ⟨u,h1,h2⟩:=re i w (by simpa using e)
  exact ⟨u,by simpa using h1,h2⟩
theorem Bb {K:Frag} {O:Addr→Prop} {ts:List Addr} {H1:Hp} {σ:L2.St} {ρ:Rho} {J:It} {c:FT} {e:FE} {ds ys:List PyData} {T1 T2:Tp} {Dn:List V→Hp→Prop} (hc:HC K O ts H1 T1) (re:RelE K O ts H1 σ ρ) (ok:ItOk K O H1 J ds) (hz:ds.length≤sizeLine)
  (ee:bG c e ρ ds T1=some (ys,T2)) (q:∀ vs H',SameX ts H1 H'→HC K O ts H' T2→Reps K O H' vs ys→Dn vs H') :
  ∃ W:Nat→Nat→List V→Hp→Prop,(∃ m,W 0 m [] H1)∧oh σ J (liftT K c) (lift K e) W Dn:=by
 refine ⟨fun i m vs H'=>m=ds.length - i∧i≤ds.length∧vs.length≤i∧∃ T dn rs,SameX ts H1 H'∧HC K O ts H' T∧Reps K O H' vs dn∧bG c e ρ (ds.drop i) T=some (rs,T2)∧ys=dn++rs,⟨_,rfl,Nat.zero_le _,Nat.le_refl _,T1,[],ys,.refl _ _,hc,.nil,ee,rfl⟩,?_⟩
 rintro i m vs H' ⟨rfl,hi,hv,T,dn,rs,s1,hc1,rv,ec,ey⟩
 obtain ⟨k1,k2,k3⟩:=ok O H' (hc.le s1)
 by_cases hlt:i < ds.length
 ·refine .inr ⟨k1 i hlt,by omega,fun vs' H2=>i + 1≤ds.length∧vs'.length≤i + 1∧∃ T dn rs,SameX ts H1 H2∧HC K O ts H2 T∧Reps K O H2 vs' dn∧bG c e ρ (ds.drop (i + 1)) T=some (rs,T2)∧ys=dn++rs,fun vs' H2 n=>⟨ds.length - (i + 1),by omega,rfl,n⟩,fun v H2 y=>?_⟩
  obtain ⟨e2,d,hd,rd⟩:=k3 i v H2 y hlt
  subst e2
  have hdr:ds.drop i=d::ds.drop (i + 1):=by
   rw [List.drop_eq_getElem_cons hlt]
   have:=(List.getElem?_eq_some_iff.mp hd).2
   rw [this]
  rw [hdr] at ec
  obtain ⟨b,T3,e3,ec⟩:=aC ec
  refine ⟨O,ts,some (.d d)::ρ,T,b,T3,hc1,(re.mono hc s1).cons rd,e3,fun H3 s3 hc3=>?_⟩
  cases b with
  | false=>
   rw [if_neg Bool.false_ne_true] at ec
   exact gi ⟨hlt,by omega,T3,dn,rs,s1.trans s3,hc3,rv.mono (hc1.le s3),ec,ey⟩
  | true=>
   rw [if_pos rfl] at ec
   obtain ⟨w,T4,e4,ec⟩:=aC ec
   refine fE ⟨O,ts,some (.d d)::ρ,T3,w,T4,hc3,((re.mono hc s1).cons rd).mono hc1 s3,e4,fun u H4 s4 hc4 r4=>?_⟩
   split at ec
   ·rename_i y
    obtain ⟨zs,T5,e5,ec⟩:=aC ec
    cases ec
    refine ⟨hlt,by simp; omega,T4,dn++[y],zs,s1.trans (s3.trans s4),hc4,(rv.mono (hc1.le (s3.trans s4))).append (.cons r4 .nil),e5,by rw [ey]; simp⟩
   ·cases ec
 ·have e:i=ds.length:=by omega
  subst e
  rw [List.drop_eq_nil_of_le (Nat.le_refl _)] at ec
  cases ec
  rw [List.append_nil] at ey
  subst ey
  exact .inl ⟨k2,by omega,q vs H' s1 hc1 rv⟩
structure DTs (X:Cx) (es:List Expr) (f:FT):Prop where
 pe:PTs X es (liftT X.K f)
theorem eV {X:Cx}:DTs X [] bB:=⟨fun pins s σ H Q E I h=>by
 refine An pins s σ H Q E I ?_
 obtain ⟨O,ts,ρ,T,w,T',hc,re,e,q⟩:=h
 cases e
 exact q H (.refl _ _) hc⟩
theorem A7 {X:Cx} {c:Expr} {f:FT} (hx:X.xe=fun _ _=>False) (h:DT X c f):DTs X [c] f:=⟨Am hx h.pe⟩
theorem eg {X:Cx} {x:Str} {scope osc:Scope} {N N':List Str} {elt iter:Expr} {ifs:List Expr} {px pos:Pos} {it:FI} {c:FT} {f:FE} (S:CS osc N x scope N') (hi:DI X (.Name x px) iter it)
  (he:∀ C s0 H0 ex,DE (cV X x scope C s0 H0 ex N') elt f) (ht:∀ C s0 H0 ex,DTs (cV X x scope C s0 H0 ex N') ifs c) (hc:X.calm=true:=by rfl) (hs:X.env.scope=osc:=by rfl) (hN:X.N=N:=by rfl)
  (hf:∀ v,foldedSetIterable iter X.env v=pure v:=by intro _; rfl):DE X (.ListComp elt [⟨.Name x px,iter,ifs,0⟩] scope pos) (cf it c f):=by
 refine ⟨?_⟩
 refine pe_imp (ze (wi:=ui X.K it) (tt:=liftT X.K c) (te:=lift X.K f) S hi.pe (fun C s0 H0 ex=>(he C s0 H0 ex).pe) (fun C s0 H0 ex=>(ht C s0 H0 ex).pe) hc hs hN hf) fun σ H Q=>?_
 rintro ⟨O,ts,ρ,T,w,T',hc,re,e,q⟩
 obtain ⟨ds,T1,e1,e⟩:=aC e
 obtain ⟨ys,T2,e2,e⟩:=aC e
 cases e
 refine ⟨O,ts,ρ,T,ds,T1,hc,re,e1,fun J H1 s1 hc1 ok hz=>?_⟩
 exact Bb hc1 (re.mono hc s1) ok hz e2 fun vs H' s2 hc2 r2 p hp=>q _ _ (s1.trans (s2.trans (.new hp _))) (hc2.new hp _) (hc2.newL hp r2)
inductive Fl where
 | nx | rt (x:PyData) | ro (x:PyData) | bk | ct
abbrev FS:=Rho→Tp→Option ((Fl×Rho)×Tp)
structure RS (K:Frag) (O₀:Addr→Prop) (H₀:Hp) (F:List ((Addr→Prop)×Hp)) (ts:List Addr) (O:Addr→Prop) (H:Hp) (σ:L2.St) (ρ:Rho) (T:Tp):Prop where
 hc:HC K O ts H T
 re:RelE K O ts H σ ρ
 sub:∀ b,O₀ b→O b
 ots:∀ b∈ts,O₀ b
 same:SameX ts H₀ H
 fresh:∀ (i:Nat) (xs:PyData) (a:Addr),ρ[i]? = some (some (.loc xs))→σ[i]? = some (some (.ref a))→H₀ a=none∧¬ O₀ a
 dist:∀ (i j:Nat) (xs ys:PyData) (v:V),ρ[i]? = some (some (.loc xs))→ρ[j]? = some (some (.loc ys))→σ[i]? = some (some v)→σ[j]? = some (some v)→i=j
 frs:∀ f∈F,Le f.1 f.2 O H
 len:σ.length=ρ.length
def OwnV (K:Frag) (O A:Addr→Prop) (H:Hp) (v:V):PyData→Prop
 | .tuple [x,y]=>∃ p a b,v=.ref p∧a≠b∧(∀ c,A c↔c=a∨c=b)∧¬ O p∧H p=some (.tup [.ref a,.ref b])∧OwnAt K O H a x∧OwnAt K O H b y
 | .none=>v=.non∧∀ c,¬ A c
 | x=>∃ a,v=.ref a∧(∀ c,A c↔c=a)∧OwnAt K O H a x
theorem OwnV.mono {K:Frag} {O O' A:Addr→Prop} {H:Hp} {v:V} {x:PyData} (le:Le O H O' H) (h:OwnV K O A H v x):OwnV K O' A H v x:=by
 unfold OwnV at h ⊢
 split at h
 ·obtain ⟨p,a,b,e1,e2,e3,np,hp,oa,ob⟩:=h
  exact ⟨p,a,b,e1,e2,e3,(le p _ np hp).1,hp,oa.mono (fun _ h=>h) le,ob.mono (fun _ h=>h) le⟩
 ·exact h
 ·obtain ⟨a,e,hA,oa⟩:=h
  exact ⟨a,e,hA,oa.mono (fun _ h=>h) le⟩
def uG (K:Frag) (O₀:Addr→Prop) (H₀:Hp) (F:List ((Addr→Prop)×Hp)) (ts:List Addr) (D:Ends) (ρ':Rho) (T':Tp):Fl→Prop
 | .nx=>∀ O' σ' H',RS K O₀ H₀ F ts O' H' σ' ρ' T'→D.nx σ' H'
 | .bk=>∀ O' σ' H',RS K O₀ H₀ F ts O' H' σ' ρ' T'→D.bk σ' H'
 | .ct=>∀ O' σ' H',RS K O₀ H₀ F ts O' H' σ' ρ' T'→D.ct σ' H'
 | .rt x=>∀ v H',SameX ts H₀ H'→HC K O₀ ts H' T'→Rep K O₀ H' v x→D.rt v H'
 | .ro x=>∀ (A:Addr→Prop) v H',SameX ts H₀ H'→(∀ b,A b→H₀ b=none∧¬ O₀ b)→HC K (fun b=>O₀ b∨A b) ts H' T'→OwnV K (fun b=>O₀ b∨A b) A H' v x→D.rt v H'
inductive LiftSP (K:Frag) (f:FS) (D:Ends) (σ:L2.St) (H:Hp):Prop where
 | mk (O₀:Addr→Prop) (H₀:Hp) (F:List ((Addr→Prop)×Hp)) (ts:List Addr) (O:Addr→Prop) (ρ:Rho) (T:Tp) (fl:Fl) (ρ':Rho) (T':Tp) (rs:RS K O₀ H₀ F ts O H σ ρ T) (e:f ρ T=some ((fl,ρ'),T')) (q:uG K O₀ H₀ F ts D ρ' T' fl):LiftSP K f D σ H
def nV (K:Frag) (f:FS):TS:=fun D σ H=>LiftSP K f D σ H
structure DS (X:Cx) (s:Stmt) (f:FS):Prop where
 pe:PS X s (nV X.K f)
structure DSs (X:Cx) (s:List Stmt) (f:FS):Prop where
 pe:PSs X s (nV X.K f)
theorem bW {X:Cx} {e:Stmt} {t t':TS} (h:PS X e t) (i:∀ D σ H,t' D σ H→t D σ H):PS X e t':=fun pins s σ H D I q=>h pins s σ H D I (i D σ H q)
theorem fU {X:Cx} {e:List Stmt} {t t':TS} (h:PSs X e t) (i:∀ D σ H,t' D σ H→t D σ H):PSs X e t':=fun pins s σ H D I q=>h pins s σ H D I (i D σ H q)
section
variable {K:Frag} {O₀:Addr→Prop} {H₀:Hp} {F:List ((Addr→Prop)×Hp)} {ts:List Addr} {O:Addr→Prop} {H H1:Hp} {σ:L2.St} {ρ:Rho} {T T1:Tp}
theorem RS.step (r:RS K O₀ H₀ F ts O H σ ρ T) (s:SameX ts H H1) (c:HC K O ts H1 T1):RS K O₀ H₀ F ts O H1 σ ρ T1 where
 hc:=c
 re:=r.re.mono r.hc s
 sub:=r.sub
 ots:=r.ots
 same:=r.same.trans s
 fresh:=r.fresh
 dist:=r.dist
 frs:=fun f hf=>(r.frs f hf).trans (r.hc.le s)
 len:=r.len
theorem eR {i j:Nat} {w:W} {xs:PyData} (hw:∀ ys,w≠.loc ys) (e:(ρ.set i (some w))[j]? = some (some (.loc xs))):j≠i∧ρ[j]? = some (some (.loc xs)):=by
 by_cases z:i=j
 ·subst z
  rw [List.getElem?_set_self'] at e
  cases h:ρ[i]? with
  | none=>rw [h] at e; cases e
  | some u=>
   rw [h] at e
   have e':some (some w)=some (some (W.loc xs)):=e
   cases e'
   exact absurd rfl (hw xs)
 ·rw [List.getElem?_set_ne z] at e
  exact ⟨fun q=>z q.symm,e⟩
theorem RS.set {i:Nat} {v:V} {w:W} (r:RS K O₀ H₀ F ts O H σ ρ T) (rw':RepW K O ts H v w) (hw:∀ ys,w≠.loc ys):RS K O₀ H₀ F ts O H (σ.set i (some v)) (ρ.set i (some w)) T where
 hc:=r.hc
 re:=fun j u e=>by
  by_cases z:i=j
  ·subst z
   have hl:i < ρ.length:=by
    have:=(List.getElem?_eq_some_iff.mp e).1
    simpa using this
   rw [List.getElem?_set_self hl] at e
   cases e
   exact ⟨v,by rw [List.getElem?_set_self (by rw [r.len]; exact hl)],rw'⟩
  ·rw [List.getElem?_set_ne z] at e
   obtain ⟨x,h1,h2⟩:=r.re j u e
   exact ⟨x,by rw [List.getElem?_set_ne z]; exact h1,h2⟩
 sub:=r.sub
 ots:=r.ots
 same:=r.same
 fresh:=fun j xs a e1 e2=>by
  obtain ⟨n,e⟩:=eR hw e1
  rw [List.getElem?_set_ne (Ne.symm n)] at e2
  exact r.fresh j xs a e e2
 dist:=fun j k xs ys u e1 e2 e3 e4=>by
  obtain ⟨n1,e1⟩:=eR hw e1
  obtain ⟨n2,e2⟩:=eR hw e2
  rw [List.getElem?_set_ne (Ne.symm n1)] at e3
  rw [List.getElem?_set_ne (Ne.symm n2)] at e4
  exact r.dist j k xs ys u e1 e2 e3 e4
 frs:=r.frs
 len:=by simp [r.len]
theorem RS.ownO {i:Nat} {p:Addr} {o:HO} {xs:PyData} (r:RS K O₀ H₀ F ts O H σ ρ T) (hp:H p=none) (hm:Mut (some o)) (rv:Le O H (fun b=>O b∨b=p) (upd H p o)→OwnAt K (fun b=>O b∨b=p) (upd H p o) p xs):RS K O₀ H₀ F ts (fun b=>O b∨b=p) (upd H p o) (σ.set i (some (.ref p))) (ρ.set i (some (.loc xs))) T:=by
 have le:Le O H (fun b=>O b∨b=p) (upd H p o):=fun a o n e=>by
  have z:a≠p:=bA e hp
  exact ⟨fun q=>q.elim n z,by rw [aD z]; exact e⟩
 have h0:∀ {G:Hp},SameX ts G H→p∉ts→G p=none:=fun {G} s nt=>by
  cases e:G p with
  | none=>rfl
  | some o=>rw [s p o nt e] at hp; cases hp
 have nO:=r.hc.fresh hp
 have nt:p∉ts:=fun z=>nO (r.hc.own p z)
 have old:∀ {j:Nat} {v:V} {w:W},σ[j]? = some (some v)→RepW K O ts H v w→RepW K (fun b=>O b∨b=p) ts (upd H p o) v w:=fun {j v w} e q=>by
  cases w with
  | d x=>exact Rep.mono le q
  | tp k=>exact q
  | loc ys=>
   obtain ⟨a,e1,h1,h2,h3⟩:=q
   exact ⟨a,e1,.inl h1,h2,h3.mono (fun o' q=>by rw [aD (bA q hp)]; exact q) le⟩
 have notp:∀ {j:Nat} {ys:PyData},ρ[j]? = some (some (.loc ys))→σ[j]? = some (some (.ref p))→False:=fun {j ys} e1 e2=>by
  obtain ⟨v,h1,a,ea,h2,h3,h4⟩:=r.re j _ e1
  rw [e2] at h1
  cases h1
  cases ea
  obtain ⟨o',h5⟩:=h4.some
  rw [hp] at h5
  cases h5
 refine ⟨⟨fun b hb=>.inl (r.hc.own b hb),fun b hb=>?_,r.hc.nd,r.hc.len,fun j a ys e1 e2=>?_⟩,fun j w e=>?_,fun b hb=>.inl (r.sub b hb),r.ots,r.same.trans (.new hp _),fun j ys a e1 e2=>?_,fun j k ys zs v e1 e2 e3 e4=>?_,fun f hf=>(r.frs f hf).trans le,by simp [r.len]⟩
 ·by_cases z:b=p
  ·subst z; rw [aR]; exact hm
  ·rw [aD z]
   exact r.hc.trk b (hb.resolve_right z)
 ·exact (r.hc.tape j a ys e1 e2).mono (fun o' h1=>by rw [aD (bA h1 hp)]; exact h1) le
 ·by_cases z:i=j
  ·subst z
   have hl:i < ρ.length:=by
    have:=(List.getElem?_eq_some_iff.mp e).1
    simpa using this
   rw [List.getElem?_set_self hl] at e
   cases e
   exact ⟨.ref p,by rw [List.getElem?_set_self (by rw [r.len]; exact hl)],p,rfl,.inr rfl,nt,rv le⟩
  ·rw [List.getElem?_set_ne z] at e
   obtain ⟨x,h1,h2⟩:=r.re j w e
   exact ⟨x,by rw [List.getElem?_set_ne z]; exact h1,old h1 h2⟩
 ·by_cases z:i=j
  ·subst z
   have hl:i < ρ.length:=by
    have:=(List.getElem?_eq_some_iff.mp e1).1
    simpa using this
   rw [List.getElem?_set_self (by rw [r.len]; exact hl)] at e2
   cases e2
   exact ⟨h0 r.same nt,fun q=>nO (r.sub _ q)⟩
  ·rw [List.getElem?_set_ne z] at e1 e2
   exact r.fresh j ys a e1 e2
 ·by_cases z:i=j
  ·by_cases z':i=k
   ·rw [← z,← z']
   ·exfalso
    subst z
    have hl:i < ρ.length:=by
     have:=(List.getElem?_eq_some_iff.mp e1).1
     simpa using this
    rw [List.getElem?_set_self (by rw [r.len]; exact hl)] at e3
    cases e3
    rw [List.getElem?_set_ne z'] at e2 e4
    exact notp e2 e4
  ·by_cases z':i=k
   ·exfalso
    subst z'
    have hl:i < ρ.length:=by
     have:=(List.getElem?_eq_some_iff.mp e2).1
     simpa using this
    rw [List.getElem?_set_self (by rw [r.len]; exact hl)] at e4
    cases e4
    rw [List.getElem?_set_ne z] at e1 e3
    exact notp e1 e3
   ·rw [List.getElem?_set_ne z] at e1 e3
    rw [List.getElem?_set_ne z'] at e2 e4
    exact r.dist j k ys zs v e1 e2 e3 e4
theorem RS.own {i:Nat} {p:Addr} {vs:List V} {xs:List PyData} (r:RS K O₀ H₀ F ts O H σ ρ T) (hp:H p=none) (rv:Reps K O H vs xs):RS K O₀ H₀ F ts (fun b=>O b∨b=p) (upd H p (.lst vs)) (σ.set i (some (.ref p))) (ρ.set i (some (.loc (.list xs)))) T:=r.ownO hp (.inl ⟨_,rfl⟩) fun le=>⟨vs,aR,rv.mono le⟩
theorem RS.putO {i:Nat} {a:Addr} {o:HO} {xs ys:PyData} (r:RS K O₀ H₀ F ts O H σ ρ T) (e1:ρ[i]? = some (some (.loc xs))) (e2:σ[i]? = some (some (.ref a))) (hm:Mut (some o)) (rv:Le O H O (upd H a o)→OwnAt K O (upd H a o) a ys):RS K O₀ H₀ F ts O (upd H a o) σ (ρ.set i (some (.loc ys))) T:=by
 obtain ⟨v,z1,a',ea,oa,nt,ha⟩:=r.re i _ e1
 rw [e2] at z1
 cases z1
 cases ea
 have hl:i < ρ.length:=(List.getElem?_eq_some_iff.mp e1).1
 obtain ⟨f1,f2⟩:=r.fresh i xs a e1 e2
 have le:Le O H O (upd H a o):=fun b o n e=>⟨n,by rw [aD (show b≠a from fun z=>n (by rw [z]; exact oa))]; exact e⟩
 have back:∀ {j:Nat} {zs:PyData},(ρ.set i (some (W.loc ys)))[j]? = some (some (.loc zs))→∃ ws,ρ[j]? = some (some (.loc ws)):=fun {j zs} e=>by
  by_cases z:i=j
  ·subst z; exact ⟨xs,e1⟩
  ·rw [List.getElem?_set_ne z] at e; exact ⟨zs,e⟩
 refine ⟨⟨r.hc.own,fun b hb=>?_,r.hc.nd,r.hc.len,fun j b zs q1 q2=>?_⟩,fun j w e=>?_,r.sub,r.ots,fun b o n e=>?_,fun j zs b q1 q2=>?_,fun j k zs zs' v q1 q2 q3 q4=>?_,fun f hf=>(r.frs f hf).trans le,by simp [r.len]⟩
 ·by_cases z:b=a
  ·subst z; rw [aR]; exact hm
  ·rw [aD z]; exact r.hc.trk b hb
 ·exact (r.hc.tape j b zs q1 q2).mono (fun o' h1=>by rw [aD (show b≠a from fun z=>nt (by rw [← z]; exact List.mem_of_getElem? q1))]; exact h1) le
 ·by_cases z:i=j
  ·subst z
   rw [List.getElem?_set_self hl] at e
   cases e
   exact ⟨.ref a,e2,a,rfl,oa,nt,rv le⟩
  ·rw [List.getElem?_set_ne z] at e
   obtain ⟨x,h1,h2⟩:=r.re j w e
   refine ⟨x,h1,?_⟩
   cases w with
   | d x=>exact Rep.mono le h2
   | tp k=>exact h2
   | loc zs=>
    obtain ⟨b,eb,k1,k2,k3⟩:=h2
    have n:b≠a:=fun q=>z (r.dist i j xs zs (.ref a) e1 e e2 (by rw [h1,eb,q]))
    exact ⟨b,eb,k1,k2,k3.mono (fun o' q=>by rw [aD n]; exact q) le⟩
 ·have:=r.same b o n e
  rw [aD (show b≠a from fun z=>by rw [z,f1] at e; cases e)]
  exact this
 ·obtain ⟨ws,q⟩:=back q1
  exact r.fresh j ws b q q2
 ·obtain ⟨ws,q⟩:=back q1
  obtain ⟨ws',q'⟩:=back q2
  exact r.dist j k ws ws' v q q' q3 q4
theorem RS.put {i:Nat} {a:Addr} {vs us:List V} {xs ys:List PyData} (r:RS K O₀ H₀ F ts O H σ ρ T) (e1:ρ[i]? = some (some (.loc (.list xs)))) (e2:σ[i]? = some (some (.ref a))) (rv:Reps K O H vs ys):RS K O₀ H₀ F ts O (upd H a (.lst vs)) σ (ρ.set i (some (.loc (.list ys)))) T:=r.putO e1 e2 (.inl ⟨_,rfl⟩) fun le=>⟨vs,aR,rv.mono le⟩
theorem RS.tapeO {n:Nat} {a:Addr} {o:HO} {ys:List PyData} (r:RS K O₀ H₀ F ts O H σ ρ T) (e:ts[n]? = some a) (hm:Mut (some o)) (rv:Le O H O (upd H a o)→RowAt K O (upd H a o) a ys):RS K O₀ H₀ F ts O (upd H a o) σ ρ (T.set n ys):=by
 have am:a∈ts:=List.mem_of_getElem? e
 have le:Le O H O (upd H a o):=fun b o' k q=>⟨k,by rw [aD (show b≠a from fun z=>k (by rw [z]; exact r.hc.own a am))]; exact q⟩
 have sx:SameX ts H (upd H a o):=fun b o' k q=>by rw [aD (show b≠a from fun z=>k (by rw [z]; exact am))]; exact q
 refine ⟨⟨r.hc.own,fun b hb=>?_,r.hc.nd,by simp [r.hc.len],fun j b zs q1 q2=>?_⟩,r.re.mono r.hc sx,r.sub,r.ots,r.same.trans sx,r.fresh,r.dist,fun f hf=>(r.frs f hf).trans le,r.len⟩
 ·by_cases z:b=a
  ·subst z; rw [aR]; exact hm
  ·rw [aD z]; exact r.hc.trk b hb
 ·by_cases z:n=j
  ·subst z
   rw [e] at q1
   cases q1
   have hl:n < T.length:=by
    have:=(List.getElem?_eq_some_iff.mp e).1
    rw [← r.hc.len]; exact this
   rw [List.getElem?_set_self hl] at q2
   cases q2
   exact rv le
  ·rw [List.getElem?_set_ne z] at q2
   refine (r.hc.tape j b zs q1 q2).mono (fun o' h1=>?_) le
   have nb:b≠a:=fun q=>by
    rw [q] at q1
    exact z ((List.getElem?_inj (List.getElem?_eq_some_iff.mp e).1 r.hc.nd).mp (e.trans q1.symm))
   rw [aD nb]
   exact h1
theorem RS.tape {n:Nat} {a:Addr} {vs:List V} {ys:List PyData} (r:RS K O₀ H₀ F ts O H σ ρ T) (e:ts[n]? = some a) (rv:Reps K O H vs ys):RS K O₀ H₀ F ts O (upd H a (.lst vs)) σ ρ (T.set n ys):=r.tapeO e (.inl ⟨_,rfl⟩) fun le=>.inl ⟨rv.notO,vs,aR,rv.mono le⟩
def EC:W→W
 | .loc x=>.d x
 | w=>w
def bE (ρ:Rho):Rho:=ρ.map (Option.map EC)
theorem RS.frzH (r:RS K O₀ H₀ F ts O H σ ρ T):HC K O₀ ts H T:=by
 have le:Le O H O₀ H:=fun a o n e=>⟨fun z=>n (r.sub a z),e⟩
 exact ⟨r.ots,fun b hb=>r.hc.trk b (r.sub b hb),r.hc.nd,r.hc.len,fun i a xs e1 e2=>(r.hc.tape i a xs e1 e2).mono (fun _ h=>h) le⟩
def vi (ρ:Rho):Prop:=∀ (i:Nat) (ds:List (PyData×PyData)),ρ[i]?≠some (some (.loc (.dict ds)))
theorem RS.frz (r:RS K O₀ H₀ F ts O H σ ρ T) (nd:vi ρ):HC K O₀ ts H T∧RelE K O₀ ts H σ (bE ρ):=by
 have le:Le O H O₀ H:=fun a o n e=>⟨fun z=>n (r.sub a z),e⟩
 refine ⟨r.frzH,fun i w e=>?_⟩
 unfold bE at e
 rw [List.getElem?_map] at e
 cases hu:ρ[i]? with
 | none=>rw [hu] at e; cases e
 | some u=>
  cases u with
  | none=>rw [hu] at e; cases e
  | some u=>
   rw [hu] at e
   cases e
   obtain ⟨v,h1,h2⟩:=r.re i u hu
   refine ⟨v,h1,?_⟩
   cases u with
   | d x=>exact Rep.mono le h2
   | tp k=>exact h2
   | loc xs=>
    obtain ⟨a,rfl,k1,k2,k3⟩:=h2
    cases xs with
    | list xs=>obtain ⟨vs,k3,k4⟩:=k3; exact .lst (.inl ⟨(r.fresh i _ a hu h1).2,.inl k3⟩) (k4.mono le)
    | dict xs=>exact absurd hu (nd i xs)
    | _=>cases k3
theorem RS.frzD {i:Nat} {ds:List (PyData×PyData)} (r:RS K O₀ H₀ F ts O H σ ρ T) (h1:ρ[i]? = some (some (.loc (.dict ds)))):∃ a kvs,H a=some (.dK kvs)∧∀ o,RS K O₀ H₀ F ts (fun b=>O b∧b≠a) (upd H a (.frz o (.dK kvs))) σ (ρ.set i (some (.d (.dict ds)))) T:=by
 obtain ⟨v,k1,a,rfl,k2,k3,kvs,k4,k5⟩:=r.re i _ h1
 refine ⟨a,kvs,k4,fun o=>?_⟩
 have hl:i < ρ.length:=(List.getElem?_eq_some_iff.mp h1).1
 have U:∀ {b:Addr},b≠a→upd H a (.frz o (.dK kvs)) b=H b:=fun n=>aD n
 have le:Le O H (fun b=>O b∧b≠a) (upd H a (.frz o (.dK kvs))):=fun b u n e=>⟨fun z=>n z.1,by rw [U (show b≠a from fun z=>n (by rw [z]; exact k2))]; exact e⟩
 have fr:=r.fresh i _ a h1 k1
 have hw:∀ ys,W.d (.dict ds)≠.loc ys:=fun _ z=>nomatch z
 refine ⟨⟨fun b hb=>⟨r.hc.own b hb,fun z=>k3 (z ▸ hb)⟩,fun b hb=>by rw [U hb.2]; exact r.hc.trk b hb.1,r.hc.nd,r.hc.len,fun j b ys e1 e2=>?_⟩,fun j w e=>?_,fun b hb=>⟨r.sub b hb,fun z=>fr.2 (z ▸ hb)⟩,r.ots,fun b u n e=>?_,fun j ys b e1 e2=>?_,fun j k ys zs v e1 e2 e3 e4=>?_,fun f hf=>(r.frs f hf).trans le,by simp [r.len]⟩
 ·exact (r.hc.tape j b ys e1 e2).mono (fun _ h=>by rw [U (show b≠a from fun z=>k3 (by rw [← z]; exact List.mem_of_getElem? e1))]; exact h) le
 ·by_cases z:i=j
  ·subst z
   rw [List.getElem?_set_self hl] at e
   cases e
   exact ⟨.ref a,k1,.dct (fun z=>z.2 rfl) aR (k5.mono le)⟩
  ·rw [List.getElem?_set_ne z] at e
   obtain ⟨x,q1,q2⟩:=r.re j w e
   refine ⟨x,q1,?_⟩
   cases w with
   | d y=>exact Rep.mono le q2
   | tp k=>exact q2
   | loc ys=>
    obtain ⟨b,eb,m1,m2,m3⟩:=q2
    have nb:b≠a:=fun q=>z (r.dist i j _ ys (.ref a) h1 e k1 (by rw [q1,eb,q]))
    exact ⟨b,eb,⟨m1,nb⟩,m2,m3.mono (fun _ q=>by rw [U nb]; exact q) le⟩
 ·rw [U (show b≠a from fun z=>by rw [z,fr.1] at e; cases e)]
  exact r.same b u n e
 ·obtain ⟨n,e⟩:=eR hw e1
  exact r.fresh j ys b e e2
 ·obtain ⟨n1,e1⟩:=eR hw e1
  obtain ⟨n2,e2⟩:=eR hw e2
  exact r.dist j k ys zs v e1 e2 e3 e4
theorem zE {i:Nat} {x:PyData} (h:ρ[i]? = some (some (.loc x))):bE (ρ.set i (some (.d x)))=bE ρ:=by
 apply List.ext_getElem?
 intro j
 unfold bE
 rw [List.getElem?_map,List.getElem?_map]
 by_cases z:i=j
 ·subst z
  rw [List.getElem?_set_self (List.getElem?_eq_some_iff.mp h).1,h]
  rfl
 ·rw [List.getElem?_set_ne z]
theorem RS.frzN (R:Rho):∀ (k:Nat) {O:Addr→Prop} {H:Hp} {ρ:Rho},RS K O₀ H₀ F ts O H σ ρ T→(∀ j ds,k≤j→ρ[j]?≠some (some (.loc (.dict ds))))→bE ρ=R →
  Gh (fun H'=>∃ O' ρ',RS K O₀ H₀ F ts O' H' σ ρ' T∧vi ρ'∧bE ρ'=R) H
 | 0,O,H,ρ,r,n,e=>.done ⟨O,ρ,r,fun j ds=>n j ds (Nat.zero_le _),e⟩
 | k + 1,O,H,ρ,r,n,e=>by
  by_cases h:∃ ds,ρ[k]? = some (some (.loc (.dict ds)))
  ·obtain ⟨ds,h⟩:=h
   obtain ⟨a,kvs,e1,f⟩:=r.frzD h
   refine .frz e1 fun o=>RS.frzN R k (f o) (fun j es hj=>?_) (by rw [zE h]; exact e)
   by_cases z:k=j
   ·subst z
    rw [List.getElem?_set_self (List.getElem?_eq_some_iff.mp h).1]
    intro q
    cases q
   ·rw [List.getElem?_set_ne z]
    exact n j es (by omega)
  ·refine RS.frzN R k r (fun j ds hj=>?_) e
   by_cases z:k=j
   ·subst z
    exact fun q=>h ⟨ds,q⟩
   ·exact n j ds (by omega)
theorem RS.frzG (r:RS K O₀ H₀ F ts O H σ ρ T):Gh (fun H'=>SameX ts H₀ H'∧HC K O₀ ts H' T∧RelE K O₀ ts H' σ (bE ρ)) H:=(RS.frzN (bE ρ) ρ.length r (fun j ds hj=>by rw [List.getElem?_eq_none hj]; exact fun z=>nomatch z) rfl).imp fun H' ⟨O',ρ',r',n,e⟩=>⟨r'.same,by rw [← e]; exact r'.frz n⟩
end
def aF:FS:=fun ρ T=>some ((.nx,ρ),T)
def ap (f g:FS):FS:=fun ρ T=>bnd (f ρ T) fun p T1=>match p with
 | (.nx,ρ1)=>g ρ1 T1
 | (fl,ρ1)=>some ((fl,ρ1),T1)
def ar (i:Nat) (f:FE):FS:=fun ρ T=>bnd (f ρ T) fun w T1=>match w with
 | .d x=>some ((.nx,ρ.set i (some (.d x))),T1)
 | .tp k=>some ((.nx,ρ.set i (some (.tp k))),T1)
 | .loc _=>none
def js (i:Nat) (g:FA):FS:=fun ρ T=>bnd (g ρ T) fun ws T1=>match dq ws with
 | some xs=>if xs.length≤1000 then some ((.nx,ρ.set i (some (.loc (.list xs)))),T1) else none
 | none=>none
def EE (i:Nat) (f:FE):FS:=fun ρ T=>bnd (f ρ T) fun w T1=>match w with
 | .d x=>(match ρ[i]? with
  | some (some (.loc (.list xs)))=>if xs.length < sizeLine then some ((.nx,ρ.set i (some (.loc (.list (xs++[x]))))),T1) else none
  | _=>none)
 | _=>none
def jC (fo fk fe:FE):FS:=fun ρ T=>bnd (fe ρ T) fun w T1=>bnd (fo ρ T1) fun o T2=>bnd (fk ρ T2) fun k T3=>match w,o,k with
 | .d x,.tp n,.d (.int i)=>match T3[n]? with
  | some xs=>if isO xs=true then none else match ixN xs.length i with
   | some j=>some ((.nx,ρ),T3.set n (xs.set j x))
   | none=>none
  | none=>none
 | _,_,_=>none
def fIf (c:FT) (f g:FS):FS:=fun ρ T=>bnd (c ρ T) fun b T1=>if b=true then f ρ T1 else g ρ T1
def aH (f:FE):FS:=fun ρ T=>bnd (f (bE ρ) T) fun w T1=>match w with
 | .d x=>some ((.rt x,ρ),T1)
 | _=>none
def f9 (f:FE):FS:=fun ρ T=>bnd (f ρ T) fun _ T1=>some ((.nx,ρ),T1)
def forL (i:Nat) (body:FS):List PyData→FS
 | []=>aF
 | d::r=>fun ρ T=>bnd (body (ρ.set i (some (.d d))) T) fun p T1=>match p with
  | (.nx,ρ1)=>forL i body r ρ1 T1
  | (.ct,ρ1)=>forL i body r ρ1 T1
  | (.bk,ρ1)=>some ((.nx,ρ1),T1)
  | (.rt x,ρ1)=>some ((.rt x,ρ1),T1)
  | (.ro x,ρ1)=>some ((.ro x,ρ1),T1)
def dH (i:Nat) (it:FI) (body:FS):FS:=fun ρ T=>bnd (it ρ T) fun ds T1=>forL i body ds ρ T1
section
variable {X:Cx} {pos:Pos} {st:Stmt} {rest:List Stmt} {f g:FS} {e:Expr} {fe:FE} {c:FT}
theorem aS:DSs X [] aF:=by
 refine ⟨?_⟩
 refine fU rH fun D σ H=>?_
 rintro ⟨O₀,H₀,F,ts,O,ρ,T,fl,ρ',T',rs,e,q⟩
 cases e
 exact q O σ H rs
theorem ax (h1:DS X st f) (h2:DSs X rest g):DSs X (st::rest) (ap f g):=by
 refine ⟨?_⟩
 refine fU (cH h1.pe h2.pe) fun D σ H=>?_
 rintro ⟨O₀,H₀,F,ts,O,ρ,T,fl,ρ',T',rs,e,q⟩
 obtain ⟨⟨fl1,ρ1⟩,T1,e1,e⟩:=aC e
 refine ⟨O₀,H₀,F,ts,O,ρ,T,fl1,ρ1,T1,rs,e1,?_⟩
 cases fl1 with
 | nx=>exact fun O' σ' H' rs'=>⟨O₀,H₀,F,ts,O',ρ1,T1,fl,ρ',T',rs',e,q⟩
 | rt x=>cases e; exact q
 | ro x=>cases e; exact q
 | bk=>cases e; exact q
 | ct=>cases e; exact q
theorem ay (h1:DS X st f):DSs X [st] f:=⟨ib h1.pe⟩
theorem aN {i:Nat} {x:Str} {pos':Pos} (hN:X.N.Nodup) (he:DE X e fe) (hi:X.N[i]? = some x:=by rfl) (hx:Loc X.env.scope x:=by first | exact Or.inl rfl | exact Or.inr rfl) (hs:swapsWith e (some (.Name x pos')) pos.line X.env=pure false:=by rfl)
  (hf:X.fn x=true∨X.env.scope.names.lookup x=some .local:=by first | exact .inl rfl | exact .inr rfl | assumption):DS X (.Assign [.Name x pos'] e pos) (ar i fe):=by
 refine ⟨?_⟩
 refine bW (er hN hi hx he.pe hs hf) fun D σ H=>?_
 rintro ⟨O₀,H₀,F,ts,O,ρ,T,fl,ρ',T',rs,e,q⟩
 obtain ⟨w,T1,e1,e⟩:=aC e
 refine ⟨O,ts,ρ,T,w,T1,rs.hc,rs.re,e1,fun v H1 s1 hc1 r1=>?_⟩
 cases w with
 | d x=>cases e; exact q O _ _ ((rs.step s1 hc1).set r1 fun _ z=>nomatch z)
 | tp k=>cases e; exact q O _ _ ((rs.step s1 hc1).set r1 fun _ z=>nomatch z)
 | loc xs=>cases e
theorem so {i:Nat} {x:Str} {pos':Pos} {es:List Expr} {lpos:Pos} {g:FA} (hN:X.N.Nodup) (he:DA X es g) (hi:X.N[i]? = some x:=by rfl) (hx:Loc X.env.scope x:=by first | exact Or.inl rfl | exact Or.inr rfl)
  (hs:swapsWith (.List es lpos) (some (.Name x pos')) pos.line X.env=pure false:=by rfl) (hf:X.fn x=true∨X.env.scope.names.lookup x=some .local:=by first | exact .inl rfl | exact .inr rfl | assumption):DS X (.Assign [.Name x pos'] (.List es lpos) pos) (js i g):=by
 refine ⟨?_⟩
 refine bW (er hN hi hx (i7 he.pe) hs hf) fun D σ H=>?_
 rintro ⟨O₀,H₀,F,ts,O,ρ,T,fl,ρ',T',rs,e,q⟩
 obtain ⟨ws,T1,e1,e⟩:=aC e
 refine ⟨O,ts,ρ,T,ws,T1,rs.hc,rs.re,e1,fun vs H1 s1 hc1 r1=>?_⟩
 split at e
 ·rename_i xs h1
  split at e
  ·rename_i h2
   cases e
   have rv:=iS r1 h1
   exact ⟨kc (by rw [rv.length]; exact h2),fun p hp=>q _ _ _ ((rs.step s1 hc1).own hp rv)⟩
  ·cases e
 ·cases e
theorem aQ {ce:Expr} {a b:List Stmt} (hc:DT X ce c) (ha:DSs X a f) (hb:DSs X b g):DS X (.If ce a b pos) (fIf c f g):=by
 refine ⟨?_⟩
 refine bW (t7 hc.pe ha.pe hb.pe) fun D σ H=>?_
 rintro ⟨O₀,H₀,F,ts,O,ρ,T,fl,ρ',T',rs,e,q⟩
 obtain ⟨b1,T1,e1,e⟩:=aC e
 refine ⟨O,ts,ρ,T,b1,T1,rs.hc,rs.re,e1,fun H1 s1 hc1=>?_⟩
 cases b1 with
 | true=>exact fE ⟨O₀,H₀,F,ts,O,ρ,T1,fl,ρ',T',rs.step s1 hc1,by simpa using e,q⟩
 | false=>exact gi ⟨O₀,H₀,F,ts,O,ρ,T1,fl,ρ',T',rs.step s1 hc1,by simpa using e,q⟩
theorem aJ (he:DE X e fe):DS X (.Return (some e) pos) (aH fe):=by
 refine ⟨?_⟩
 refine bW (C4 (i6 he.pe)) fun D σ H=>?_
 rintro ⟨O₀,H₀,F,ts,O,ρ,T,fl,ρ',T',rs,e,q⟩
 obtain ⟨w,T1,e1,e⟩:=aC e
 refine rs.frzG.imp fun H0 ⟨same,c0,re0⟩=>?_
 refine ⟨O₀,ts,bE ρ,T,w,T1,c0,re0,e1,fun v H1 s1 hc1 r1=>?_⟩
 cases w with
 | d x=>cases e; exact q v H1 (same.trans s1) hc1 r1
 | tp k=>cases e
 | loc xs=>cases e
theorem ig (he:DE X e fe) (hs:swapsWith e none pos.line X.env=pure false:=by rfl):DS X (.Expr e pos) (f9 fe):=by
 refine ⟨?_⟩
 refine bW (gE he.pe hs) fun D σ H=>?_
 rintro ⟨O₀,H₀,F,ts,O,ρ,T,fl,ρ',T',rs,e,q⟩
 obtain ⟨w,T1,e1,e⟩:=aC e
 cases e
 exact ⟨O,ts,ρ,T,w,_,rs.hc,rs.re,e1,fun v H1 s1 hc1 r1=>q O _ _ (rs.step s1 hc1)⟩
theorem tK {o k:Expr} {fo fk:FE} {tpos:Pos} (ho:DE X o fo) (hk:DE X k fk) (he:DE X e fe) (ha:∀ v,assign (.Subscript o k tpos) X.env v=(do
   let ov ← holding [v] (eval o X.env)
   let iv ← holding [v,ov] (eval k X.env)
   standAt tpos
   holding [v,ov,iv] (setItem ov iv v)
   release [v,ov,iv] []):=by intro _; rfl)
  (hs:swapsWithSole [.Subscript o k tpos] e pos.line X.env=pure false:=by rfl) (hw:swappedStores [.Subscript o k tpos] e X.env=pure none:=by rfl)
  (h1:(assignEach [.Subscript o k tpos] X.env).map (·.2)=[assign (.Subscript o k tpos) X.env]:=by rfl):DS X (.Assign [.Subscript o k tpos] e pos) (jC fo fk fe):=by
 refine ⟨?_⟩
 refine bW (sS he.pe (BL ho.pe hk.pe set_list ha) hs hw h1) fun D σ H=>?_
 rintro ⟨O₀,H₀,F,ts,O,ρ,T,fl,ρ',T',rs,e,q⟩
 obtain ⟨w,T1,e1,e⟩:=aC e
 obtain ⟨wo,T2,e2,e⟩:=aC e
 obtain ⟨wk,T3,e3,e⟩:=aC e
 refine ⟨O,ts,ρ,T,w,T1,rs.hc,rs.re,e1,fun v H1 s1 hc1 r1=>?_⟩
 have rs1:=rs.step s1 hc1
 refine ⟨O,ts,ρ,T1,wo,T2,hc1,rs1.re,e2,fun vo H2 s2 hc2 r2=>?_⟩
 have rs2:=rs1.step s2 hc2
 refine ⟨O,ts,ρ,T2,wk,T3,hc2,rs2.re,e3,fun vk H3 s3 hc3 r3=>?_⟩
 have rs3:=rs2.step s3 hc3
 split at e
 ·split at e
  ·rename_i xs h1
   split at e
   ·cases e
   ·rename_i hn
    split at e
    ·rename_i j h2
     cases e
     obtain ⟨a,k1,rfl⟩:=r2
     cases (show Rep X.K O H3 vk (.int _) from r3)
     obtain ⟨vs,k2,k3⟩:=(hc3.tape _ a xs k1 h1).lst (by simpa using hn)
     refine ⟨a,vs,_,j,rfl,rfl,k2,by rw [k3.length]; exact h2,q O _ _ (rs3.tape k1 (Reps.set ?_ j k3))⟩
     exact Rep.mono ((hc1.le s2).trans (hc2.le s3)) r1
    ·cases e
  ·cases e
 ·cases e
end
section
variable {K:Frag} {O₀:Addr→Prop} {H₀:Hp} {F:List ((Addr→Prop)×Hp)} {ts:List Addr} {O:Addr→Prop} {H H1:Hp} {σ:L2.St} {ρ:Rho} {T T1:Tp}
theorem RS.less {f:(Addr→Prop)×Hp} (r:RS K O₀ H₀ (f::F) ts O H σ ρ T):RS K O₀ H₀ F ts O H σ ρ T:=⟨r.hc,r.re,r.sub,r.ots,r.same,r.fresh,r.dist,fun f hf=>r.frs f (List.mem_cons_of_mem _ hf),r.len⟩
theorem RS.more (r:RS K O₀ H₀ F ts O H σ ρ T):RS K O₀ H₀ ((O,H)::F) ts O H σ ρ T:=⟨r.hc,r.re,r.sub,r.ots,r.same,r.fresh,r.dist,fun f hf=>by
 rcases List.mem_cons.mp hf with z | z
 ·subst z; exact fun a o n e=>⟨n,e⟩
 ·exact r.frs f z,r.len⟩
end
section
variable {X:Cx} {pos:Pos} {st:Stmt} {rest:List Stmt} {f g:FS} {e:Expr} {fe:FE} {c:FT}
theorem jc {i:Nat} {x:Str} {iter:Expr} {body:List Stmt} {tpos:Pos} {it:FI} (hN:X.N.Nodup) (hi:DI X (.Name x tpos) iter it) (hb:DSs X body f) (hix:X.N[i]? = some x:=by rfl) (hx:Loc X.env.scope x:=by first | exact Or.inl rfl | exact Or.inr rfl)
  (hf:X.fn x=true∨X.env.scope.names.lookup x=some .local:=by first | exact .inl rfl | exact .inr rfl | assumption) (hp:PassesOwn (model X.prog X.w) X.A X.env X.xe:=by exact PassesOwn.never) (hc:X.calm=true:=by rfl)
  (hs:∀ x,foldedSetIterable iter X.env x=pure x:=by intro _; rfl):DS X (.For (.Name x tpos) iter body [] pos) (dH i it f):=by
 refine ⟨?_⟩
 refine bW (BH hp hc hi.pe (mD hN hix hx hf) hb.pe hs) fun D σ H=>?_
 rintro ⟨O₀,H₀,F,ts,O,ρ,T,fl,ρ',T',rs,e,q⟩
 obtain ⟨ds,T1,e1,e⟩:=aC e
 refine ⟨O,ts,ρ,T,ds,T1,rs.hc,rs.re,e1,fun J H1 s1 hc1 ok hz=>?_⟩
 refine ⟨fun k m σ H=>m=ds.length - k∧k≤ds.length∧∃ O' ρk Tk,RS X.K O₀ H₀ ((O,H1)::F) ts O' H σ ρk Tk∧forL i f (ds.drop k) ρk Tk=some ((fl,ρ'),T'),⟨_,rfl,Nat.zero_le _,O,ρ,T1,(rs.step s1 hc1).more,e⟩,?_⟩
 rintro k m σ2 H2 ⟨rfl,hk,O',ρk,Tk,rs2,ek⟩
 obtain ⟨k1,k2,k3⟩:=ok O' H2 (rs2.frs _ List.mem_cons_self)
 by_cases hlt:k < ds.length
 ·refine .inr ⟨k1 k hlt,fun σ3 H3=>∃ O' ρk Tk,RS X.K O₀ H₀ ((O,H1)::F) ts O' H3 σ3 ρk Tk∧forL i f (ds.drop (k + 1)) ρk Tk=some ((fl,ρ'),T'),fun σ3 H3 n=>⟨ds.length - (k + 1),by omega,rfl,hlt,n⟩,fun v H3 y=>?_⟩
  obtain ⟨e2,d,hd,rd⟩:=k3 k v H3 y hlt
  subst e2
  have hdr:ds.drop k=d::ds.drop (k + 1):=by
   rw [List.drop_eq_getElem_cons hlt]
   have:=(List.getElem?_eq_some_iff.mp hd).2
   rw [this]
  rw [hdr] at ek
  obtain ⟨⟨fl1,ρ1⟩,T3,e3,ek⟩:=aC ek
  refine ⟨O₀,H₀,(O,H1)::F,ts,O',_,Tk,fl1,ρ1,T3,rs2.set (i:=i) (w:=.d d) rd (fun _ z=>nomatch z),e3,?_⟩
  cases fl1 with
  | nx=>exact fun O3 σ3 H3 rs3=>⟨O3,ρ1,T3,rs3,ek⟩
  | ct=>exact fun O3 σ3 H3 rs3=>⟨O3,ρ1,T3,rs3,ek⟩
  | bk=>
   cases ek
   exact fun O3 σ3 H3 rs3=>q O3 σ3 H3 rs3.less
  | rt x=>
   cases ek
   exact q
  | ro x=>
   cases ek
   exact q
 ·have e:k=ds.length:=by omega
  subst e
  rw [List.drop_eq_nil_of_le (Nat.le_refl _)] at ek
  cases ek
  exact .inl ⟨k2,q O' σ2 H2 rs2.less⟩
end
abbrev FnM:=List W→Tp→Option (PyData×Tp)
def bQ:List W→Bool
 | []=>true
 | .loc _::_=>false
 | _::r=>bQ r
def fi (o:Option ((Fl×Rho)×Tp)):Option (PyData×Tp):=bnd o fun p T=>match p with
 | (.rt x,_)=>some (x,T)
 | (.nx,_)=>some (.none,T)
 | _=>none
def aV (N:Nat) (f:FS):FnM:=fun ws T=>if bQ ws=true then fi (f (ws.map some++List.replicate (N - ws.length) none) T) else none
inductive SpMP (K:Frag) (n:Nat) (m:FnM) (vs:List V) (H:Hp) (Q:VK):Prop where
 | mk (O:Addr→Prop) (ts:List Addr) (T:Tp) (ws:List W) (x:PyData) (T':Tp) (hc:HC K O ts H T) (r:eJ K O ts H vs ws) (hl:ws.length=n) (e:m ws T=some (x,T')) (q:∀ v H',SameX ts H H'→HC K O ts H' T'→Rep K O H' v x→Q v H'):SpMP K n m vs H Q
def spM (K:Frag) (n:Nat) (m:FnM):Sp:=fun vs H Q _=>SpMP K n m vs H Q
theorem jM {K:Frag} {O:Addr→Prop} {ts:List Addr} {H:Hp}:∀ {vs:List V} {ws:List W} {i:Nat} {w:W},eJ K O ts H vs ws→ws[i]? = some w→∃ v,vs[i]? = some v∧RepW K O ts H v w
 | _,_,_,_,.nil,e=>by simp at e
 | _,_,0,_,.cons r _,e=>by simp at e; subst e; exact ⟨_,rfl,r⟩
 | _,_,i + 1,w,.cons _ t,e=>by
  obtain ⟨d,h1,h2⟩:=jM (i:=i) (w:=w) t (by simpa using e)
  exact ⟨d,by simpa using h1,h2⟩
theorem iN:∀ {ws:List W} {xs:PyData},bQ ws=true→W.loc xs∉ws
 | [],_,_,h=>by cases h
 | .loc _::_,_,e,_=>by cases e
 | .d _::r,_,e,h=>by
  rcases List.mem_cons.mp h with z | z
  ·cases z
  ·exact iN (ws:=r) e z
 | .tp _::r,_,e,h=>by
  rcases List.mem_cons.mp h with z | z
  ·cases z
  ·exact iN (ws:=r) e z
theorem hG {ws:List W} {n i:Nat} {w:W} (e:(ws.map some++List.replicate n none)[i]? = some (some w)):ws[i]? = some w:=by
 by_cases h:i < ws.length
 ·rw [List.getElem?_append_left (by simpa using h),List.getElem?_map] at e
  cases q:ws[i]? with
  | none=>rw [q] at e; cases e
  | some u=>rw [q] at e; cases e; rfl
 ·rw [List.getElem?_append_right (by simpa using h)] at e
  have:=List.mem_of_getElem? e
  rw [List.mem_replicate] at this
  cases this.2
theorem dfn {P:Program} {w:World} {K:Frag} {mg:Str→Option Value} {base:Heap} {x qual:Str} {st:Stmt} {f:Addr} {fd:FuncData} {N ps:List Str} {k:Nat} {m:FS} (F:Fun K x qual st f fd) (S:FnScope N ps (aE st))
  (hbody:∀ (cdv:Value) (A:Around) (outer:List Env) (s:Shared) (H:Hp) (E:XK),Room k (A.deeper (envOfC qual (aE st) s.heap.objs.size f cdv))→DSs (bM CX0 P w K mg base N qual (aE st) f cdv A outer s H E).nox (bV st) m) :
  FnOk P w K mg base CX0 (k + 1) f fd ps (spM K ps.length (aV N.length m)):=by
 refine F.ok S (fun vs H Q E h=>?_) (fun cdv A outer s H vs Q E hr h=>⟨_,(hbody cdv A outer s H E hr).pe,?_⟩)
 ·obtain ⟨O,ts,T,ws,x,T',hc,rw',hl,_⟩:=h
  rw [← hl]
  exact Paired.length rw'
 obtain ⟨O,ts,T,ws,x,T',hc,rw',hl,e,q⟩:=h
 unfold aV at e
 split at e
 ·rename_i hn
  obtain ⟨⟨fl,ρ'⟩,T1,e1,e⟩:=aC e
  have hlen:vs.length=ws.length:=Paired.length rw'
  have noL:∀ {i:Nat} {xs:PyData},(ws.map some++List.replicate (N.length - ws.length) none)[i]? = some (some (W.loc xs))→False:=fun {i xs} e=>iN hn (List.mem_of_getElem? (hG e))
  refine ⟨O,H,[],ts,O,_,T,fl,ρ',T1,⟨hc,fun i u e=>?_,fun _ h=>h,hc.own,.refl _ _,fun i xs a e1 _=>(noL e1).elim,fun i j xs ys v e1 _ _ _=>(noL e1).elim,fun f hf=>absurd hf (by simp),by simp [L2.start,hlen]⟩,e1,?_⟩
  ·obtain ⟨v,h1,h2⟩:=jM rw' (hG e)
   refine ⟨v,?_,h2⟩
   unfold L2.start
   have hi:i < vs.length:=(List.getElem?_eq_some_iff.mp h1).1
   rw [List.getElem?_append_left (by simpa using hi),List.getElem?_map,h1]
   rfl
  ·cases fl with
   | rt y=>cases e; exact fun v H' s1 c1 r1=>q v H' s1 c1 r1
   | nx=>
    cases e
    exact fun O' σ' H' rs=>q _ _ rs.same rs.frzH .non
   | bk=>cases e
   | ct=>cases e
   | ro y=>cases e
 ·cases e
def aq (m:FnM) (g:FA):FE:=fun ρ T=>bnd (g ρ T) fun ws T1=>bnd (m ws T1) fun x T2=>some (.d x,T2)
def cO (g:FA) (n:Nat):Prop:=∀ ρ T ws T',g ρ T=some (ws,T')→ws.length=n
theorem aw:cO ah 0:=fun ρ T ws T' e=>by cases e; rfl
theorem ao {f:FE} {g:FA} {n:Nat} (h:cO g n):cO (aa f g) (n + 1):=fun ρ T ws T' e=>by
 obtain ⟨w1,T1,e1,e⟩:=aC e
 obtain ⟨ws,T2,e2,e⟩:=aC e
 cases e
 rw [List.length_cons,h _ _ _ _ e2]
theorem aA {X:Cx} {name:Str} {ps:List Str} {k:Nat} {m:FnM} {e:Expr} {es:List Expr} {g:FA} {p pos:Pos} (F:Fn X.prog X.w X.K X.mg X.base name ps k (spM X.K ps.length m)) (hr:Room k X.A) (hg:Gl X name) (ha:DA X (e::es) g) (hl:cO g ps.length) (hdb:(name == ("__debug__" : Str))=false:=by decide)
  (he:starEach (e::es) X.env=(false,eval e X.env)::starEach es X.env:=by exact bb rfl) (hpl:(backTo pos (starEach es X.env)).any (·.1)=false:=by exact bF rfl):DE X (.Call (.Name name p) (e::es) [] pos) (aq m g):=by
 refine ⟨?_⟩
 refine pe_imp (gQ F hr hg ha.pe hdb he hpl) fun σ H Q=>?_
 rintro ⟨O,ts,ρ,T,w,T',hc,re,e,q⟩
 obtain ⟨ws,T1,e1,e⟩:=aC e
 obtain ⟨x,T2,e2,e⟩:=aC e
 cases e
 refine ⟨O,ts,ρ,T,ws,T1,hc,re,e1,fun vs H1 s1 hc1 r1=>?_⟩
 refine ⟨O,ts,T1,ws,x,_,hc1,by rw [List.append_nil]; exact r1,hl _ _ _ _ e1,e2,fun v H2 s2 hc2 r2=>q v H2 (s1.trans s2) hc2 r2⟩
noncomputable def iop (g:Int→Int→Option PyData):PyData→PyData→Option PyData
 | .int i,.int j=>g i j
 | _,_=>none
def dE:PyData→PyData→Option PyData:=iop fun i j=>some (.int (i - j))
def eK:PyData→PyData→Option PyData:=iop fun i j=>if 0 < j then some (.int (i % j)) else none
def DQ:PyData→PyData→Option PyData:=iop fun i j=>if 0 < j∧j < 1073741824 then some (.int (i / j)) else none
def dF:PyData→PyData→Option PyData:=iop fun i j=>if 0≤j∧j≤1000000∧i.natAbs < 2 ^ 64 then some (.int (i ^ j.toNat)) else none
def ltD:PyData→PyData→Option PyData:=iop fun i j=>some (.bool (decide (i < j)))
def leD:PyData→PyData→Option PyData:=iop fun i j=>some (.bool (decide (i≤j)))
def gtD:PyData→PyData→Option PyData:=iop fun i j=>some (.bool (decide (j < i)))
def geD:PyData→PyData→Option PyData:=iop fun i j=>some (.bool (decide (j≤i)))
theorem tB {g:Int→Int→Option PyData} {x y d:PyData} (e:iop g x y=some d):∃ i j,x=.int i∧y=.int j∧g i j=some d:=by
 unfold iop at e
 split at e
 ·exact ⟨_,_,rfl,rfl,e⟩
 ·cases e
theorem mX {K:Frag} {C:Int→Int→Prop} {g:Int→Int→V} {gd:Int→Int→Option PyData} (h:∀ i j d,gd i j=some d→C i j∧∀ O H,Rep K O H (g i j) d):gn K (rI C g) (iop gd):=fun O ts H T v1 v2 x y d Q hc h1 h2 e q=>by
 obtain ⟨i,j,rfl,rfl,e⟩:=tB e
 obtain ⟨c,r⟩:=h i j d e
 exact ⟨i,j,h1.int,h2.int,c,q _ H (.refl _ _) hc (r O H)⟩
theorem iT {K:Frag} {g:Int→Int→V} {gd:Int→Int→Option PyData} (h:∀ i j d,gd i j=some d→∀ O H,Rep K O H (g i j) d):gn K (rI0 g) (iop gd):=fun O ts H T v1 v2 x y d Q hc h1 h2 e q=>by
 obtain ⟨i,j,rfl,rfl,e⟩:=tB e
 exact ⟨i,j,h1.int,h2.int,q _ H (.refl _ _) hc (h i j d e O H)⟩
section
variable {X:Cx}
theorem fY:OpD X (binaryOp .Sub) dE:=⟨_,BQ,iT fun i j d e O H=>by cases e; exact .int _⟩
theorem fZ:OpD X (binaryOp .Mod) eK:=⟨_,BU,mX fun i j d e=>by
 split at e
 ·rename_i h; cases e; exact ⟨h,fun _ _=>.int _⟩
 ·cases e⟩
theorem gS:OpD X (binaryOp .Pow) dF:=⟨_,BR,mX fun i j d e=>by
 split at e
 ·rename_i h; cases e; exact ⟨h,fun _ _=>.int _⟩
 ·cases e⟩
theorem dv:OpD X (compareOp .Lt) ltD:=⟨_,Da,iT fun i j d e O H=>by cases e; exact .bl _⟩
theorem fw:OpD X (compareOp .LtE) leD:=⟨_,Dd,iT fun i j d e O H=>by cases e; exact .bl _⟩
theorem gh:OpD X (compareOp .Gt) gtD:=⟨_,De,iT fun i j d e O H=>by cases e; exact .bl _⟩
theorem lF:OpD X (compareOp .GtE) geD:=⟨_,Dg,iT fun i j d e O H=>by cases e; exact .bl _⟩
def aP:PyData→PyData→Option PyData
 | .int i,.int j=>some (.int (i + j))
 | .str x,.str y=>if x.length + y.length≤sizeLine then some (.str (x++y)) else none
 | .tuple xs,.tuple ys=>if xs.length + ys.length≤sizeLine then some (.tuple (xs++ys)) else none
 | .list xs,.list ys=>if xs.length + ys.length≤sizeLine then some (.list (xs++ys)) else none
 | _,_=>none
def C2 (K:Frag):R2:=fun x y H Q=>∃ l b xs zs,x=.ref l∧y=.ref b∧SqL K H l xs∧SqL K H b zs∧xs.length + zs.length≤sizeLine∧∀ p,H p=none→Q (.ref p) (upd H p (.lst (xs++zs)))
theorem rN:OpR X (binaryOp .Add) (C2 X.K):=by
 intro pins s σ H x y v u Q I rx ry h
 obtain ⟨l,b,xs,zs,rfl,rfl,hH,hB,hz,q⟩:=h
 cases rx
 cases ry
 obtain ⟨its,r,p1,_⟩:=I.list hH
 obtain ⟨its2,r2,p2,_⟩:=I.list hB
 have hl:=r.length
 have hl2:=r2.length
 obtain ⟨⟨cls,dd,data,sl⟩,ho,hc,n,hd⟩:=id p1.isList
 obtain ⟨⟨cls2,dd2,data2,sl2⟩,ho2,hc2,n2,hd2⟩:=id p2.isList
 simp only at hc hd hc2 hd2
 subst hc hd hc2 hd2
 have ea:its.toArray++its2.toArray=(its++its2).toArray:=by simp
 refine concat_meets ⟨_,ho,rfl⟩ ⟨_,ho2,rfl⟩ noFill_list_add seq_list_add PySem.F.slot_list_add PySem.F.entry_list_add (PySem.F.args_list_add_2 _ _) (list_addW l b its.toArray its2.toArray n n2 dd dd2 sl sl2 (by rw [List.size_toArray,List.size_toArray]; omega)) ⟨ho,ho2,?_⟩
 rw [ea]
 exact ⟨.ref _,_,I.lnew (t':=s.toks) (r.append r2) (by rw [List.length_append]; omega),rfl,q _ I.fresh⟩
theorem bj:OpD X (binaryOp .Add) aP:=by
 refine ⟨_,op_add.or (op_add_str.or (op_catG.or rN)),fun O ts H T v1 v2 x y d Q hc h1 h2 e q=>?_⟩
 unfold aP at e
 split at e
 ·cases e
  exact .inl ⟨_,_,h1.int,h2.int,q _ H (.refl _ _) hc (.int _)⟩
 ·split at e
  ·rename_i hz
   cases e
   exact .inr (.inl ⟨_,_,h1.str,h2.str,hz,q _ H (.refl _ _) hc (.str _)⟩)
  ·cases e
 ·split at e
  ·rename_i xs ys hz
   cases e
   obtain ⟨a,vs,rfl,t1,r1⟩:=h1.tup
   obtain ⟨b,us,rfl,t2,r2⟩:=h2.tup
   refine .inr (.inr (.inl ⟨a,b,vs,us,rfl,rfl,t1.sq,t2.sq,by rw [r1.length,r2.length]; exact hz,fun z=>?_,fun _ z=>?_,fun _ _ p hp=>?_⟩))
   ·subst z
    cases r1
    exact q _ H (.refl _ _) hc (.tup t2 r2)
   ·subst z
    cases r2
    rw [List.append_nil] at q
    exact q _ H (.refl _ _) hc (.tup t1 r1)
   ·exact q _ _ (.new hp _) (hc.new hp _) (hc.newT hp (r1.append r2))
  ·cases e
 ·split at e
  ·rename_i xs ys hz
   cases e
   obtain ⟨a,vs,rfl,t1,r1⟩:=h1.lst
   obtain ⟨b,us,rfl,t2,r2⟩:=h2.lst
   exact .inr (.inr (.inr ⟨a,b,vs,us,rfl,rfl,t1,t2,by rw [r1.length,r2.length]; exact hz,fun p hp=>q _ _ (.new hp _) (hc.new hp _) (hc.newL hp (r1.append r2))⟩))
  ·cases e
 ·cases e
theorem vB:fillsNumberSlot (.type "tuple") "mul" = pure false:=PySem.fillsNumberSlot_seq (id:="tuple.__mul__") (r:=some (.builtin "tuple.__rmul__")) PySem.F.slot_tuple_mul.lookup (by decide +kernel) PySem.F.slot_tuple_rmul.lookup (by decide +kernel)
theorem wa:seqRepeat? (.type "tuple")=pure (some (.builtin "tuple.__mul__")):=by
 unfold seqRepeat?
 rw [PySem.seqSlot_of (T:="tuple") (name:="__mul__") (id:="tuple.__mul__") PySem.F.slot_tuple_mul.lookup (by decide +kernel),PySem.seqSlot_of (T:="tuple") (name:="__rmul__") (id:="tuple.__rmul__") PySem.F.slot_tuple_rmul.lookup (by decide +kernel)]
 rfl
theorem vO (a:Int) (t:Tok) (l:Addr) (items:Array Value) (n:Nat) (dd:Option Addr) (sl:Array (Option Value)) :
  Meets (Builtin.«int.__rmul__» ⟨[.int a t,.ref l],[]⟩) (fun _ R s=>s.heap.get? l=some { cls:=.type "tuple",dict:=dd,data:=.seq items n,slots:=sl }∧R (.ok (.ret Value.notImplemented)) s):=.of_wp fun prog w A R s h=>by obtain ⟨hp,g,d,tk,os⟩:=s; obtain ⟨hl,h⟩:=h; wp_walk; exact ⟨_,rfl,h⟩
theorem xb (l:Addr) (items:Array Value) (n:Nat) (dd:Option Addr) (sl:Array (Option Value)) (k:Int) (t:Tok) (h1:2≤k) (h2:k≤1000) (h3:items.isEmpty=false) (h4:items.size≤1000) :
  Meets (Builtin.«tuple.__mul__» ⟨[.ref l,.int k t],[]⟩) (fun _ R s=>s.heap.get? l=some { cls:=.type "tuple",dict:=dd,data:=.seq items n,slots:=sl }∧R (.ok (.ret (Value.ref s.heap.objs.size))) { s with heap:=s.heap.push { cls:=Value.type "tuple",data:=Data.seq (List.foldl (fun x1 x2=>x1++x2) #[] (List.replicate k.toNat items)) },toks:=s.toks }):=
 .of_wp fun prog w A R s h=>by
  obtain ⟨hp,g,d,tk,os⟩:=s
  obtain ⟨hl,h⟩:=h
  have hc0:¬ (decide (k < -(2 ^ 63)) || decide (k≥2 ^ 63))=true:=by simp; omega
  have hc1:¬ (items.isEmpty || k == 1)=true:=by rw [h3]; simp; omega
  have hc2:¬ (decide (k≤0) || items.isEmpty)=true:=by rw [h3]; simp; omega
  have hm:items.size * k.toNat≤1000 * 1000:=Nat.mul_le_mul h4 (by omega)
  have hm':(items.size:Int) * k≤1000000:=by
   have e:((items.size * k.toNat:Nat):Int)=(items.size:Int) * k:=by rw [Int.natCast_mul,Int.toNat_of_nonneg (by omega)]
   omega
  have hc3:¬ (items.size:Int) * k > (2 ^ 63 - 1) / 8:=by
   have:(1000000:Int)≤(2 ^ 63 - 1) / 8:=by decide
   omega
  have hc4:¬ Builtin.Tuple.tupleTooMany ((items.size:Int) * k)=true:=by
   unfold Builtin.Tuple.tupleTooMany
   have:sizeLine=16777216:=by decide
   simp
   omega
  have ht:IsTup hp l items:=⟨_,hl,rfl,n,rfl⟩
  wp_walk
  rw [if_neg hc0]
  dsimp only
  refine wpAny_bind (tupleItemsOf_ ht ?_)
  rw [if_neg hc1,if_neg hc2,if_neg hc3,if_neg hc4]
  have fit:sizeOk (.seq (List.foldl (fun x1 x2=>x1++x2) #[] (List.replicate k.toNat items))):=by
   show (List.foldl (fun x1 x2=>x1++x2) #[] (List.replicate k.toNat items)).size≤sizeLine
   have q:=foldl_rep items.toList k.toNat []
   rw [List.nil_append] at q
   have q':List.foldl (fun x1 x2=>x1++x2) #[] (List.replicate k.toNat items)=(List.replicate k.toNat items.toList).flatten.toArray:=by simpa using q
   rw [q',List.size_toArray,len_rep]
   have:sizeLine=16777216:=by decide
   rw [Array.length_toList,Nat.mul_comm]
   omega
  first
  | exact wpAny_bind (m:=Builtin.Tuple.tupleExact _) (wpAny_newObj_type (wpAny_pure ⟨_,rfl,h⟩) fit)
  | exact wpAny_bind (m:=Builtin.Tuple.tupleExact _) (wpAny_newObj_type (wpAny_bind (wpAny_pure (wpAny_pure ⟨_,rfl,h⟩))) fit)
theorem AB:OpR X (binaryOp .Mult) (fun x y H Q=>∃ a k xs,x=.ref a∧y=.int k∧SqT X.K H a xs∧2≤k∧k≤1000∧xs≠[]∧xs.length≤1000∧∀ p,H p=none→Q (.ref p) (upd H p (.tup (List.replicate k.toNat xs).flatten))):=by
 intro pins s σ H x y v u Q I rx ry h
 obtain ⟨a,k,xs,rfl,rfl,hq,h1,h2,h3,h4,q⟩:=h
 cases rx
 obtain ⟨t,rfl⟩:=ry
 obtain ⟨its,r,p1,_⟩:=I.tuple hq
 have hl:=r.length
 have hv:its≠[]:=fun z=>h3 (r.nil_iff.mp z)
 obtain ⟨⟨cls,dd,data,sl⟩,ho,hc,n,hd⟩:=id p1
 simp only at hc hd
 subst hc hd
 have hnew:List.foldl (fun x1 x2=>x1++x2) #[] (List.replicate k.toNat its.toArray)=(List.replicate k.toNat its).flatten.toArray:=by
  have q:=foldl_rep its k.toNat []
  rw [List.nil_append] at q
  exact q
 have he:its.toArray.isEmpty=false:=by
  cases its with
  | nil=>exact absurd rfl hv
  | cons _ _=>simp
 refine wpAny_binaryOp_repeat_ref (T:="tuple") (U:="int") (by decide) ⟨_,ho,rfl⟩ (fun s'=>typeIs_int s' k t) vB F.fills_int_mul F.slot_int_rmul wa F.slot_int_index.lookup
  (call_meets F.slot_int_rmul (typeIs_int s k t) F.entry_int_rmul (F.args_int_rmul_2 _ _) (vO k t a its.toArray n dd sl)
   ⟨ho,rfl,⟨_,ho,rfl⟩,call_meets PySem.F.slot_tuple_mul ⟨_,ho,rfl⟩ PySem.F.entry_tuple_mul (PySem.F.args_tuple_mul_2 _ _) (xb a its.toArray n dd sl k t h1 h2 he (by rw [List.size_toArray]; omega)) ⟨ho,?_⟩⟩)
 rw [hnew]
 refine ⟨.ref s.heap.objs.size,_,I.laid (t':=s.toks) (o:=.tup (List.replicate k.toNat xs).flatten) (fun b ob q=>Heap.get?_push_of_some _ q) (Nat.le_refl _) ?_,rfl,q _ (I.hok.fresh (Nat.le_refl _))⟩
 refine ⟨?_,_,r.rep k.toNat,IsTup.new _ _⟩
 rw [len_rep]
 have:k.toNat * xs.length≤1000 * 1000:=Nat.mul_le_mul (by omega) h4
 have:sizeLine=16777216:=by decide
 omega
def dG:PyData→PyData→Option PyData
 | .int i,.int j=>if (-(2 ^ 64) < i∧i < 2 ^ 64)∨(-(2 ^ 64) < j∧j < 2 ^ 64) then some (.int (i * j)) else none
 | .str z,.int k=>if 0≤k∧k≤2000∧z.length≤1000 then some (.str (Txt.mul z k)) else none
 | .tuple xs,.int k=>if 2≤k∧k≤1000∧xs.isEmpty=false∧xs.length≤1000 then some (.tuple (List.replicate k.toNat xs).flatten) else none
 | _,_=>none
theorem iB:OpD X (binaryOp .Mult) dG:=by
 refine ⟨_,op_mul.or (op_mulS.or AB),fun O ts H T v1 v2 x y d Q hc h1 h2 e q=>?_⟩
 unfold dG at e
 split at e
 ·split at e
  ·rename_i hz
   cases e
   exact .inl ⟨_,_,h1.int,h2.int,hz,q _ H (.refl _ _) hc (.int _)⟩
  ·cases e
 ·split at e
  ·rename_i hz
   cases e
   exact .inr (.inl ⟨_,_,h1.str,h2.int,hz.1,hz.2.1,hz.2.2,q _ H (.refl _ _) hc (.str _)⟩)
  ·cases e
 ·split at e
  ·rename_i xs k hz
   cases e
   obtain ⟨a,vs,rfl,t1,r1⟩:=h1.tup
   exact .inr (.inr ⟨a,_,vs,rfl,h2.int,t1.sq,hz.1,hz.2.1,fun z=>by subst z; cases r1; exact absurd hz.2.2.1 (by simp),by rw [r1.length]; exact hz.2.2.2,fun p hp=>q _ _ (.new hp _) (hc.new hp _) (hc.newT hp (r1.rep _))⟩)
  ·cases e
 ·cases e
def eqS:PyData→PyData→Option Bool
 | .int i,.int j=>some (decide (i=j))
 | .str x,.str y=>some (decide (x=y))
 | .bool a,.bool b=>some (decide (a=b))
 | .none,.none=>some true
 | .none,.int _=>some false | .int _,.none=>some false | .none,.bool _=>some false | .bool _,.none=>some false | .none,.str _=>some false | .str _,.none=>some false
 | .int _,.str _=>some false | .str _,.int _=>some false | .bool _,.str _=>some false | .str _,.bool _=>some false
 | _,_=>none
theorem tI {K:Frag} {O:Addr→Prop} {H:Hp} {v1 v2:V} {x y:PyData} {b:Bool} (h1:Vw K O H v1 x) (h2:Vw K O H v2 y) (e:eqS x y=some b):om v1 v2=true∧decide (v1=v2)=b:=by
 unfold eqS at e
 split at e
 all_goals first | (cases e; done) | skip
 ·cases h1.int; cases h2.int; cases e; exact ⟨rfl,by simp⟩
 ·cases h1.str; cases h2.str; cases e; exact ⟨rfl,by simp⟩
 ·cases h1.bl; cases h2.bl; cases e; exact ⟨rfl,by simp⟩
 ·cases h1.non; cases h2.non; cases e; exact ⟨rfl,by simp⟩
 ·cases h1.non; cases h2.int; cases e; exact ⟨rfl,by simp⟩
 ·cases h1.int; cases h2.non; cases e; exact ⟨rfl,by simp⟩
 ·cases h1.non; cases h2.bl; cases e; exact ⟨rfl,by simp⟩
 ·cases h1.bl; cases h2.non; cases e; exact ⟨rfl,by simp⟩
 ·cases h1.non; cases h2.str; cases e; exact ⟨rfl,by simp⟩
 ·cases h1.str; cases h2.non; cases e; exact ⟨rfl,by simp⟩
 ·cases h1.int; cases h2.str; cases e; exact ⟨rfl,by simp⟩
 ·cases h1.str; cases h2.int; cases e; exact ⟨rfl,by simp⟩
 ·cases h1.bl; cases h2.str; cases e; exact ⟨rfl,by simp⟩
 ·cases h1.str; cases h2.bl; cases e; exact ⟨rfl,by simp⟩
def eqD (x y:PyData):Option PyData:=(eqS x y).map .bool
def neD (x y:PyData):Option PyData:=(eqS x y).map fun b=>.bool (!b)
theorem aW:OpD X (compareOp .Eq) eqD:=⟨_,Dh,fun O ts H T v1 v2 x y d Q hc h1 h2 e q=>by
 unfold eqD at e
 obtain ⟨b,e1,rfl⟩:=Option.map_eq_some_iff.mp e
 obtain ⟨k1,k2⟩:=tI h1 h2 e1
 exact ⟨k1,by rw [k2]; exact q _ H (.refl _ _) hc (.bl _)⟩⟩
theorem ot:OpD X (compareOp .NotEq) neD:=⟨_,C9,fun O ts H T v1 v2 x y d Q hc h1 h2 e q=>by
 unfold neD at e
 obtain ⟨b,e1,rfl⟩:=Option.map_eq_some_iff.mp e
 obtain ⟨k1,k2⟩:=tI h1 h2 e1
 exact ⟨k1,by rw [k2]; exact q _ H (.refl _ _) hc (.bl _)⟩⟩
def isNone:PyData→Bool
 | .none=>true
 | _=>false
theorem yw {K:Frag} {O:Addr→Prop} {H:Hp} {v:V} {x:PyData} (h:Vw K O H v x):decide (v=.non)=isNone x:=by
 cases h with
 | rep h=>cases h <;> rfl
 | raw _ _=>rfl
 | rawD _ _=>rfl
def isD:PyData→PyData→Option PyData
 | x,.none=>some (.bool (isNone x))
 | _,_=>none
theorem uV:OpD X (compareOp .Is) isD:=⟨_,BV,fun O ts H T v1 v2 x y d Q hc h1 h2 e q=>by
 unfold isD at e
 split at e
 ·cases e
  exact ⟨h2.non,by rw [yw h1]; exact q _ H (.refl _ _) hc (.bl _)⟩
 ·cases e⟩
def Cc:PyData→PyData→Option PyData
 | x,.none=>some (.bool (!isNone x))
 | .bool a,.bool b=>some (.bool (a != b))
 | _,_=>none
def bY:PyData→Bool
 | .none=>true | .bool _=>true | .int _=>true | .str _=>true
 | _=>false
def eqF:PyData→PyData→Bool
 | .none,.none=>true
 | .bool a,.bool b=>a == b
 | .bool a,.int b=>(if a then 1 else 0) == b
 | .int a,.bool b=>a == (if b then 1 else 0)
 | .int a,.int b=>a == b
 | .str a,.str b=>a == b
 | _,_=>false
def iI (y x:Str):Bool:=!(Builtin.Str.occurrences y x 0 y.length 1).isEmpty
def inS:PyData→PyData→Option Bool
 | .str x,.str y=>some (iI y x)
 | x,.list ys=>if bY x && ys.all bY then some (ys.any fun y=>eqF y x) else none
 | x,.tuple ys=>if bY x && ys.all bY then some (ys.any fun y=>eqF y x) else none
 | _,_=>none
theorem mH {K:Frag} {O:Addr→Prop} {H:Hp} {v:V} {x:PyData} (h:Rep K O H v x) (e:bY x=true):eI v=true:=by cases h <;> first | rfl | cases e
theorem Cq {K:Frag} {O:Addr→Prop} {H:Hp} {v u:V} {x y:PyData} (h:Rep K O H v x) (g:Rep K O H u y) (ex:bY x=true) (ey:bY y=true):eqV v u=eqF x y:=by cases h <;> cases g <;> first | rfl | cases ex | cases ey
theorem ml {K:Frag} {O:Addr→Prop} {H:Hp}:∀ {vs:List V} {xs:List PyData},Reps K O H vs xs→xs.all bY=true→vs.all eI=true
 | _,_,.nil,_=>rfl
 | _,_,.cons r t,e=>by
  rw [List.all_cons,Bool.and_eq_true] at e
  rw [List.all_cons,mH r e.1,ml t e.2]
  rfl
theorem mR {K:Frag} {O:Addr→Prop} {H:Hp} {v:V} {x:PyData} (h:Rep K O H v x) (ex:bY x=true):∀ {vs:List V} {xs:List PyData},Reps K O H vs xs→xs.all bY=true→(vs.any fun y=>eqV y v)=xs.any fun y=>eqF y x
 | _,_,.nil,_=>rfl
 | _,_,.cons r t,e=>by
  rw [List.all_cons,Bool.and_eq_true] at e
  rw [List.any_cons,List.any_cons,Cq r h e.1 ex,mR h ex t e.2]
theorem Vw.flat {K:Frag} {O:Addr→Prop} {H:Hp} {v:V} {x:PyData} (h:Vw K O H v x) (e:bY x=true):Rep K O H v x:=by
 cases h with
 | rep h=>exact h
 | raw _ _=>cases e
 | rawD _ _=>cases e
def inD (x y:PyData):Option PyData:=(inS x y).map .bool
def eB (x y:PyData):Option PyData:=(inS x y).map fun b=>.bool (!b)
theorem ko {K:Frag} (neg:Bool):gn K (fun x y H Q=>(∃ i j,x=.str i∧y=.str j∧Q (.bl (if neg then !(iI j i) else iI j i)) H)∨rIn K neg x y H Q) (fun x y=>(inS x y).map fun b=>.bool (if neg then !b else b)):=fun O ts H T v1 v2 x y d Q hc h1 h2 e q=>by
 obtain ⟨b,e1,rfl⟩:=Option.map_eq_some_iff.mp e
 unfold inS at e1
 split at e1
 ·cases e1
  exact .inl ⟨_,_,h1.str,h2.str,q _ H (.refl _ _) hc (.bl _)⟩
 ·split at e1
  ·rename_i hf
   cases e1
   rw [Bool.and_eq_true] at hf
   obtain ⟨a,vs,rfl,t,r⟩:=h2.lst
   have r1:=h1.flat hf.1
   refine .inr ⟨a,vs,rfl,.inl t,mH r1 hf.1,ml r hf.2,?_⟩
   have z:inV v1 vs=_:=mR r1 hf.1 r hf.2
   rw [z]
   exact q _ H (.refl _ _) hc (.bl _)
  ·cases e1
 ·split at e1
  ·rename_i hf
   cases e1
   rw [Bool.and_eq_true] at hf
   obtain ⟨a,vs,rfl,t,r⟩:=h2.tup
   have r1:=h1.flat hf.1
   refine .inr ⟨a,vs,rfl,.inr t.sq,mH r1 hf.1,ml r hf.2,?_⟩
   have z:inV v1 vs=_:=mR r1 hf.1 r hf.2
   rw [z]
   exact q _ H (.refl _ _) hc (.bl _)
  ·cases e1
 ·cases e1
theorem jz:OpD X (compareOp .In) inD:=⟨_,op_in_str.or pW,ko false⟩
theorem AF:OpD X (compareOp .NotIn) eB:=⟨_,op_notin_str.or oP,ko true⟩
def fz:PyData→Option PyData
 | .int i=>some (.int (-i))
 | _=>none
theorem nH {a:Expr} {fa:FE} {pos:Pos} (ha:DE X a fa):DE X (.UnaryOp .USub a pos) (fUn fz fa):=D1 Bp (fun O ts H T v x d Q hc h e q=>by
 unfold fz at e
 split at e
 ·cases e
  exact ⟨_,h.int,q _ H (.refl _ _) hc (.int _)⟩
 ·cases e) ha
def ixD:PyData→PyData→Option PyData
 | .list xs,.int i=>atI xs i
 | .tuple xs,.int i=>atI xs i
 | .str z,.int i=>if z.length≤sizeLine then (atI z.cps.toList i).map fun c=>.str ⟨#[c]⟩ else none
 | _,_=>none
theorem rE {K:Frag} {O:Addr→Prop} {H:Hp} {vs:List V} {xs:List PyData} {i:Int} {d:PyData} (r:Reps K O H vs xs) (e:atI xs i=some d):∃ v,atI vs i=some v∧Rep K O H v d:=by
 unfold atI at e ⊢
 rw [r.length]
 cases h:ixN xs.length i with
 | none=>rw [h] at e; cases e
 | some j=>
  rw [h] at e
  exact r.getD e
theorem aK:IxD X ixD:=⟨_,tw,fun O ts H T v1 v2 x y d Q hc h1 h2 e q=>by
 unfold ixD at e
 split at e
 ·obtain ⟨a,vs,rfl,t,r⟩:=h1.lst
  obtain ⟨v,k1,k2⟩:=rE r e
  exact .inl ⟨a,vs,_,v,rfl,h2.int,t,k1,q _ H (.refl _ _) hc k2⟩
 ·obtain ⟨a,vs,rfl,t,r⟩:=h1.tup
  obtain ⟨v,k1,k2⟩:=rE r e
  exact .inr (.inl ⟨a,vs,_,v,rfl,h2.int,t.sq,k1,q _ H (.refl _ _) hc k2⟩)
 ·split at e
  ·rename_i hz
   obtain ⟨c,k1,rfl⟩:=Option.map_eq_some_iff.mp e
   exact .inr (.inr ⟨_,_,c,h1.str,h2.int,hz,k1,q _ H (.refl _ _) hc (.str _)⟩)
  ·cases e
 ·cases e⟩
end
theorem vn {prog:Program} {w:World} {A:Around} {E:Value→Shared→Prop} {s:Shared} {t sl:Addr} {items:Array Value} {vl vu:Value} {lo hi:Option Int} {Q:Value→Shared→Prop} (ht:IsTup s.heap t items) (hs:s.heap.IsSliceOf sl vl vu .none) (pl:IsPart vl lo) (pu:IsPart vu hi)
  (hw:HT.sIx items.size 0 lo=0∧HT.sIx items.size items.size hi=items.size) (h:Q (.ref t) s):wpAny (model prog w) A (getItem (.ref t) (.ref sl)) Q E s:=by
 obtain ⟨os,hos,hcs,hds⟩:=id hs
 have hTs:s.TypeIs (.ref sl) "slice":=⟨os,hos,hcs⟩
 unfold getItem
 try with_reducible refine wpAny_holding ?_
 first | refine wpAny_bind (wpAny_pure ?_) | skip
 refine wpAny_bind (wpAny_sequenceKey ht.typeIs (by decide) ?_)
 refine wpAny_bind (wpAny_callSpecial?_slot (name:=Str.ofString "__getitem__") ht.typeIs PyProof.Rows.slot_tuple_getitem
  (wpAny_call_entry PyProof.Rows.slot_tuple_getitem ht.typeIs entry_tuple_getitem ?_ (args_tuple_getitem _ _)))
 show wpAny _ _ (Builtin.Tuple.tupleItemsOf (.ref t) >>= _) _ _ s
 refine wpAny_bind (tupleItemsOf_ ht ?_)
 refine wpAny_bind (wpAny_typeOf hTs ?_)
 rw [if_pos (by decide)]
 refine wpAny_bind (HT.oK hs pl pu ?_)
 have hyes:((((HT.sIx items.size 0 lo:Nat):Int) == 0 && (1:Int) == 1 && (HT.sIx items.size items.size hi - HT.sIx items.size 0 lo) == items.size)=true):=by
  rw [hw.1,hw.2]
  simp
 show wpAny _ _ (if (((HT.sIx items.size 0 lo:Nat):Int) == 0 && (1:Int) == 1 && (HT.sIx items.size items.size hi - HT.sIx items.size 0 lo) == items.size)=true then _ else _) _ _ s
 rw [if_pos hyes]
 refine wpAny_bind (m:=Builtin.Tuple.tupleIsExact (.ref t)) (wpAny_bind (wpAny_typeOf ht.typeIs (wpAny_pure ?_)))
 first
 | exact wpAny_bind (wpAny_rule (wpAny_bind (wpAny_pure ⟨_,rfl,wpAny_pure h⟩)))
 | (simp only [beq_self_eq_true,if_true]; exact wpAny_bind (wpAny_rule (wpAny_pure ⟨_,rfl,wpAny_pure h⟩)))
def bN {α:Type} (xs:List α) (lo hi:Option Int):List α:=(xs.drop (HT.sIx xs.length 0 lo)).take (HT.sIx xs.length xs.length hi - HT.sIx xs.length 0 lo)
theorem Reps.cut {K:Frag} {O:Addr→Prop} {H:Hp} {vs:List V} {ds:List PyData} (r:Reps K O H vs ds) (lo hi:Option Int):Reps K O H (fK vs lo hi) (bN ds lo hi):=by
 unfold fK bN
 rw [r.length]
 exact (r.drop _).take _
theorem yF {α:Type} {xs:List α} {lo hi:Option Int} (h:HT.sIx xs.length 0 lo=0∧HT.sIx xs.length xs.length hi=xs.length):bN xs lo hi=xs:=by
 unfold bN
 rw [h.1,h.2]
 simp
section
variable {X:Cx}
theorem sl_tupA:SlR X (fun x lo hi H Q=>∃ a xs,x=.ref a∧SqT X.K H a xs∧((HT.sIx xs.length 0 lo=0∧HT.sIx xs.length xs.length hi=xs.length)→Q (.ref a) H) ∧
  (¬ (HT.sIx xs.length 0 lo=0∧HT.sIx xs.length xs.length hi=xs.length)→∀ p,H p=none→Q (.ref p) (upd H p (.tup (fK xs lo hi))))):=by
 intro pins s σ H x v vl vu lo hi sl Q I rx hs pl pu h
 obtain ⟨a,xs,rfl,hx,q1,q2⟩:=h
 by_cases hw:HT.sIx xs.length 0 lo=0∧HT.sIx xs.length xs.length hi=xs.length
 ·cases rx
  obtain ⟨its,r,ht,hz⟩:=I.tuple hx
  have hlen:its.toArray.size=xs.length:=by rw [List.size_toArray]; exact r.length.symm
  refine ⟨"tuple",_,PyProof.Rows.slot_tuple_getitem.lookup,ht.typeIs,?_⟩
  exact vn ht hs pl pu (by rw [hlen]; exact hw) ⟨.ref a,H,I,rfl,q1 hw⟩
 ·exact By pins s σ H _ v vl vu lo hi sl Q I rx hs pl pu ⟨a,xs,rfl,hx,hw,q2 hw⟩
def i5 (x:PyData) (lo hi:Option Int):Option PyData:=match x with
 | .list xs=>some (.list (bN xs lo hi))
 | .tuple xs=>some (.tuple (bN xs lo hi))
 | .str z=>if z.length≤sizeLine then some (.str (Txt.slice z lo hi)) else none
 | _=>none
abbrev FO:=Rho→Tp→Option (Option Int×Tp)
def cX:FO:=fun _ T=>some (none,T)
def fP (f:FE):FO:=fun ρ T=>bnd (f ρ T) fun w T1=>match w with
 | .d (.int i)=>some (some i,T1)
 | _=>none
inductive LiftOP (K:Frag) (f:FO) (σ:L2.St) (H:Hp) (Q:Option Int→Hp→Prop):Prop where
 | mk (O:Addr→Prop) (ts:List Addr) (ρ:Rho) (T:Tp) (o:Option Int) (T':Tp) (hc:HC K O ts H T) (re:RelE K O ts H σ ρ) (e:f ρ T=some (o,T')) (q:∀ H',SameX ts H H'→HC K O ts H' T'→Q o H'):LiftOP K f σ H Q
def DG (K:Frag) (f:FO):TO:=fun σ H Q=>LiftOP K f σ H Q
structure DO (X:Cx) (e:Option Expr) (f:FO):Prop where
 pe:PO X e (DG X.K f)
theorem sT {e:Option Expr} {t t':TO} (h:PO X e t) (i:∀ σ H Q,t' σ H Q→t σ H Q):PO X e t':=fun pins s σ H Q I q=>h pins s σ H Q I (i σ H Q q)
theorem ik:DO X none cX:=by
 refine ⟨?_⟩
 refine sT Ar fun σ H Q=>?_
 rintro ⟨O,ts,ρ,T,o,T',hc,re,e,q⟩
 cases e
 exact q H (.refl _ _) hc
theorem ij {e:Expr} {f:FE} (h:DE X e f):DO X (some e) (fP f):=by
 refine ⟨?_⟩
 refine sT (Aq h.pe) fun σ H Q=>?_
 rintro ⟨O,ts,ρ,T,o,T',hc,re,e,q⟩
 obtain ⟨w1,T1,e1,e⟩:=aC e
 refine ⟨O,ts,ρ,T,w1,T1,hc,re,e1,fun v1 H1 s1 hc1 r1=>?_⟩
 split at e
 ·cases e
  cases (show Rep X.K O H1 v1 _ from r1)
  exact ⟨_,rfl,q H1 s1 hc1⟩
 ·cases e
def fSl (f:FE) (l u:FO):FE:=fun ρ T=>bnd (f ρ T) fun w T1=>bnd (l ρ T1) fun lo T2=>bnd (u ρ T2) fun hi T3=>op1 (fun x=>i5 x lo hi) T3 w
theorem iG {e:Expr} {lo hi:Option Expr} {f:FE} {l u:FO} {pos p2:Pos} (he:DE X e f) (hl:DO X lo l) (hu:DO X hi u):DE X (.Subscript e (.Slice lo hi none p2) pos) (fSl f l u):=by
 refine ⟨?_⟩
 refine pe_imp (zc (sl_list.or (sl_tupA.or Bz)) he.pe hl.pe hu.pe) fun σ H Q=>?_
 rintro ⟨O,ts,ρ,T,w,T',hc,re,e,q⟩
 obtain ⟨w1,T1,e1,e⟩:=aC e
 obtain ⟨o1,T2,e2,e⟩:=aC e
 obtain ⟨o2,T3,e3,e⟩:=aC e
 obtain ⟨x,d,h1,h3,rfl,rfl⟩:=gH e
 refine ⟨O,ts,ρ,T,w1,T1,hc,re,e1,fun v1 H1 s1 hc1 r1=>?_⟩
 refine ⟨O,ts,ρ,T1,o1,T2,hc1,re.mono hc s1,e2,fun H2 s2 hc2=>?_⟩
 refine ⟨O,ts,ρ,T2,o2,T',hc2,re.mono hc (s1.trans s2),e3,fun H3 s3 hc3=>?_⟩
 have vw:=hc3.view (r1.mono hc1 (s2.trans s3)) h1
 have q':∀ v H',SameX ts H3 H'→HC X.K O ts H' T'→Rep X.K O H' v d→Q v H':=fun v H' s c r=>q v H' (s1.trans (s2.trans (s3.trans s))) c r
 clear q
 cases x with
 | list xs=>
  cases h3
  obtain ⟨a,vs,rfl,t,r⟩:=vw.lst
  exact .inl ⟨a,vs,rfl,t,fun p hp=>q' _ _ (.new hp _) (hc3.new hp _) (hc3.newL hp (r.cut _ _))⟩
 | tuple xs=>
  cases h3
  obtain ⟨a,vs,rfl,t,r⟩:=vw.tup
  refine .inr (.inl ⟨a,vs,rfl,t.sq,fun hw=>?_,fun hw p hp=>?_⟩)
  ·rw [r.length] at hw
   rw [yF hw] at q'
   exact q' _ H3 (.refl _ _) hc3 vw.tupR
  ·exact q' _ _ (.new hp _) (hc3.new hp _) (hc3.newT hp (r.cut _ _))
 | str z=>
  have h3':(if z.length≤sizeLine then some (PyData.str (Txt.slice z o1 o2)) else none)=some d:=h3
  split at h3'
  ·rename_i hz
   cases h3'
   exact .inr (.inr ⟨z,vw.str,hz,q' _ H3 (.refl _ _) hc3 (.str _)⟩)
  ·cases h3'
 | _=>cases h3
end
inductive Kd where
 | non | bl | int | str | tup | lst | dct
 deriving DecidableEq
def Kd.name:Kd→String
 | .non=>"NoneType" | .bl=>"bool" | .int=>"int" | .str=>"str" | .tup=>"tuple" | .lst=>"list" | .dct=>"dict"
def kd:PyData→Kd
 | .none=>.non | .bool _=>.bl | .int _=>.int | .str _=>.str | .list _=>.lst | .tuple _=>.tup | .dict _=>.dct
def bR (a b:Kd):Bool:=decide (a=b) || (decide (a=.bl) && decide (b=.int))
def Eu (t c:String):Option Bool:=if (Value.type t == Value.type c)=true then some true else if PySem.W.kitMeta c=true then (fastBuiltinMro t).map (·.contains (.type c)) else none
theorem eS (a b:Kd):b≠.non→Eu a.name b.name=some (bR a b):=by cases a <;> cases b <;> first | (intro h; exact absurd rfl h) | (intro _; decide +kernel)
section
variable {X:Cx}
theorem zS:CallR X (.builtin "isinstance") (fun xs H Q=>∃ (x:V) (c:Kd) (O:Addr→Prop) (d:PyData),xs=[x,.ty c.name]∧Vw X.K O H x d∧c≠.non∧Q (.bl (bR (kd d) c)) H):=by
 intro pins s σ H xs us Q I r h
 obtain ⟨x,c,O,d,rfl,vw,hc,q⟩:=h
 obtain ⟨u,w',rfl,ru,rw'⟩:=vals2 r
 cases (show w'=Value.type c.name from rw')
 have fin:∀ tk,EP X pins σ Q (.bool (bR (kd d) c)) { s with toks:=tk }:=fun tk=>⟨.bl _,H,I.tok _,rfl,q⟩
 cases d with
 | none=>cases vw.non; exact jO I ru .non (show PySem.W.kitOne X.K (.type (Kd.name .non)) (.type c.name)=some _ from eS .non c hc) fin
 | bool b=>cases vw.bl; exact jO I ru (.bl b) (show PySem.W.kitOne X.K (.type (Kd.name .bl)) (.type c.name)=some _ from eS .bl c hc) fin
 | int i=>cases vw.int; exact jO I ru (.int i) (show PySem.W.kitOne X.K (.type (Kd.name .int)) (.type c.name)=some _ from eS .int c hc) fin
 | str z=>cases vw.str; exact jO I ru (.str z) (show PySem.W.kitOne X.K (.type (Kd.name .str)) (.type c.name)=some _ from eS .str c hc) fin
 | list ds=>
  obtain ⟨a,vs,rfl,t,r⟩:=vw.lst
  cases (show u=Value.ref a from ru)
  obtain ⟨its,_,pl,_⟩:=I.list t
  obtain ⟨o,n,e,c1,_⟩:=pl
  exact PySem.W.kia_one PySem.W.kitx_list I.kIn ⟨o,e,c1⟩ (show PySem.W.kitOne X.K (.type (Kd.name .lst)) (.type c.name)=some _ from eS .lst c hc) (fun z=>nomatch z) fin
 | tuple ds=>
  obtain ⟨a,vs,rfl,t,r⟩:=vw.tup
  cases (show u=Value.ref a from ru)
  obtain ⟨its,_,pl,_⟩:=I.tuple t.sq
  obtain ⟨o,e,c1,_⟩:=pl
  exact PySem.W.kia_one PySem.W.kitx_tuple I.kIn ⟨o,e,c1⟩ (show PySem.W.kitOne X.K (.type (Kd.name .tup)) (.type c.name)=some _ from eS .tup c hc) (fun z=>nomatch z) fin
 | dict ds=>
  obtain ⟨a,vs,rfl,t,r⟩:=vw.dct
  cases (show u=Value.ref a from ru)
  obtain ⟨_,_,_,_,o,_,_,e,c1,_⟩:=dD I.hok t
  exact PySem.W.kia_one PySem.W.kitx_dict I.kIn ⟨o,e,c1.1⟩ (show PySem.W.kitOne X.K (.type (Kd.name .dct)) (.type c.name)=some _ from eS .dct c hc) (fun z=>nomatch z) fin
def cL (c:Kd) (x:PyData):Option PyData:=some (.bool (bR (kd x) c))
theorem cU {e:Expr} {f:FE} {p p' pos:Pos} {T:Str} (c:Kd) (hi:X.mg "isinstance" = none) (he:DE X e f) (hm:X.mg T=none) (hb:bootBuiltins T=some (.type c.name)) (hcn:c≠.non:=by decide) (hg:Gl X "isinstance":=by rfl) (hT:Gl X T:=by rfl) (hn:T≠"__name__":=by decide) (hdb:(T == ("__debug__" : Str))=false:=by decide)
  (hs:starEach [e,.Name T p] X.env=(false,eval e X.env)::starEach [.Name T p] X.env:=by exact bb rfl) (hs2:starEach [.Name T p] X.env=(false,eval (.Name T p) X.env)::starEach [] X.env:=by exact bb rfl)
  (hpl:(backTo pos (starEach [.Name T p] X.env)).any (·.1)=false:=by exact bF rfl):DE X (.Call (.Name "isinstance" p') [e,.Name T p] [] pos) (fUn (cL c) f):=by
 refine ⟨?_⟩
 refine pe_imp (hV zS hg hi PyProof.Rows.boot_isinstance (aU he.pe (aU (j7 (v:=.ty c.name) hT hm hb rfl hn hdb) bx hs2) hs) (by decide) (by decide) hs hpl) fun σ H Q=>?_
 rintro ⟨O,ts,ρ,T,w,T',hc,re,e,q⟩
 obtain ⟨w1,T1,e1,e⟩:=aC e
 obtain ⟨x,d,h1,h3,rfl,rfl⟩:=gH e
 cases h3
 refine ⟨O,ts,ρ,T,w1,T',hc,re,e1,fun v1 H1 s1 hc1 r1=>?_⟩
 exact ⟨v1,c,O,x,rfl,hc1.view r1 h1,hcn,q _ H1 s1 hc1 (.bl _)⟩
def aT:List PyData→Option PyData
 | [.list xs]=>some (.int xs.length)
 | [.tuple xs]=>some (.int xs.length)
 | [.str z]=>if z.length≤sizeLine then some (.int z.length) else none
 | [.dict kvs]=>some (.int kvs.length)
 | _=>none
theorem du {K:Frag} {O:Addr→Prop} {H:Hp} {vs:List V} {x:PyData} (h:Vws K O H vs [x]):∃ v,vs=[v]∧Vw K O H v x:=by cases h with | cons h t=>cases t; exact ⟨_,rfl,h⟩
theorem qC {K:Frag} {O:Addr→Prop} {H:Hp}:∀ {kvs:List (Key×V)} {ds:List (PyData×PyData)},RepK K O H kvs ds→kvs.length=ds.length
 | _,_,.nil=>rfl
 | _,_,.cons _ t=>congrArg (· + 1) (qC t)
theorem yH:CallR X (.builtin "len") (fun xs H Q=>∃ a kvs,xs=[V.ref a]∧Rd H a (.dK kvs)∧Q (.int kvs.length) H):=by
 intro pins s σ H xs us Q I r h
 obtain ⟨a,kvs,rfl,ha,q⟩:=h
 obtain ⟨u,rfl,ru⟩:=vals1 r
 cases ru
 exact D4 I ha fun t s' I'=>⟨.int kvs.length,H,I',⟨t,rfl⟩,q⟩
theorem bw:fm X (.builtin "len") aT:=⟨_,call_len_seq.or (call_len_str.or yH),fun O ts H T vs xs d Q hc h e q=>by
 unfold aT at e
 split at e
 ·cases e
  obtain ⟨v,rfl,g⟩:=du h
  obtain ⟨a,vs,rfl,t,r⟩:=g.lst
  exact .inl ⟨a,vs,rfl,.inl t,by rw [r.length]; exact q _ H (.refl _ _) hc (.int _)⟩
 ·cases e
  obtain ⟨v,rfl,g⟩:=du h
  obtain ⟨a,vs,rfl,t,r⟩:=g.tup
  exact .inl ⟨a,vs,rfl,.inr t.sq,by rw [r.length]; exact q _ H (.refl _ _) hc (.int _)⟩
 ·split at e
  ·rename_i hz
   cases e
   obtain ⟨v,rfl,g⟩:=du h
   cases g.str
   exact .inr (.inl ⟨_,rfl,hz,q _ H (.refl _ _) hc (.int _)⟩)
  ·cases e
 ·cases e
  obtain ⟨v,rfl,g⟩:=du h
  obtain ⟨a,kvs,rfl,t,r⟩:=g.dct
  exact .inr (.inr ⟨a,kvs,rfl,t,by rw [qC r]; exact q _ H (.refl _ _) hc (.int _)⟩)
 ·cases e⟩
def lK:List PyData→Option PyData
 | [.int i]=>some (.int (if i < 0 then -i else i))
 | _=>none
theorem D8:fm X (.builtin "abs") lK:=⟨_,zU,fun O ts H T vs xs d Q hc h e q=>by
 unfold lK at e
 split at e
 ·cases e
  obtain ⟨v,rfl,g⟩:=du h
  cases g.int
  exact ⟨_,rfl,q _ H (.refl _ _) hc (.int _)⟩
 ·cases e⟩
def DB:List PyData→Option PyData
 | [.int i,.int j]=>some (.int (if j > i then j else i))
 | _=>none
def Dy:List PyData→Option PyData
 | [.int i,.int j]=>some (.int (if j < i then j else i))
 | _=>none
def gN:List PyData→Option (List Bool)
 | []=>some []
 | .bool b::r=>(gN r).map (b::·)
 | _=>none
def fh:List PyData→Option (List Int)
 | []=>some []
 | .int b::r=>(fh r).map (b::·)
 | _=>none
def fX:List PyData→Option (List Str)
 | []=>some []
 | .str b::r=>(fX r).map (b::·)
 | _=>none
theorem rh {K:Frag} {O:Addr→Prop} {H:Hp}:∀ {vs:List V} {xs:List PyData} {bs:List Bool},Reps K O H vs xs→gN xs=some bs→vs=bs.map V.bl
 | _,_,_,.nil,e=>by cases e; rfl
 | _,x::r,bs,.cons h t,e=>by
  cases x with
  | bool b=>
   obtain ⟨cs,e1,rfl⟩:=Option.map_eq_some_iff.mp (show (gN r).map (b::·)=some bs from e)
   cases h
   rw [rh t e1]
   rfl
  | _=>cases e
theorem qP {K:Frag} {O:Addr→Prop} {H:Hp}:∀ {vs:List V} {xs:List PyData} {bs:List Int},Reps K O H vs xs→fh xs=some bs→vs=bs.map V.int
 | _,_,_,.nil,e=>by cases e; rfl
 | _,x::r,bs,.cons h t,e=>by
  cases x with
  | int b=>
   obtain ⟨cs,e1,rfl⟩:=Option.map_eq_some_iff.mp (show (fh r).map (b::·)=some bs from e)
   cases h
   rw [qP t e1]
   rfl
  | _=>cases e
theorem rz {K:Frag} {O:Addr→Prop} {H:Hp}:∀ {vs:List V} {xs:List PyData} {bs:List Str},Reps K O H vs xs→fX xs=some bs→vs=bs.map V.str
 | _,_,_,.nil,e=>by cases e; rfl
 | _,x::r,bs,.cons h t,e=>by
  cases x with
  | str b=>
   obtain ⟨cs,e1,rfl⟩:=Option.map_eq_some_iff.mp (show (fX r).map (b::·)=some bs from e)
   cases h
   rw [rz t e1]
   rfl
  | _=>cases e
def gm:List PyData→Option PyData
 | [.list xs]=>(gN xs).map fun bs=>.bool (bs.all id)
 | _=>none
theorem lu (hc:X.calm=true:=by rfl):fm X (.builtin "all") gm:=⟨_,zT hc,fun O ts H T vs xs d Q hc h e q=>by
 unfold gm at e
 split at e
 ·obtain ⟨bs,e1,rfl⟩:=Option.map_eq_some_iff.mp e
  obtain ⟨v,rfl,g⟩:=du h
  obtain ⟨a,vs,rfl,t,r⟩:=g.lst
  rw [rh r e1] at t
  exact ⟨a,bs,rfl,t,q _ H (.refl _ _) hc (.bl _)⟩
 ·cases e⟩
def lA:List PyData→Option PyData
 | [.list xs]=>(fh xs).map fun bs=>.int bs.sum
 | _=>none
theorem D7 (hc:X.calm=true:=by rfl):fm X (.builtin "sum") lA:=⟨_,zR hc,fun O ts H T vs xs d Q hc h e q=>by
 unfold lA at e
 split at e
 ·obtain ⟨bs,e1,rfl⟩:=Option.map_eq_some_iff.mp e
  obtain ⟨v,rfl,g⟩:=du h
  obtain ⟨a,vs,rfl,t,r⟩:=g.lst
  rw [qP r e1] at t
  exact ⟨a,bs,rfl,t,q _ H (.refl _ _) hc (.int _)⟩
 ·cases e⟩
def Dz:PyData→PyData→Option PyData
 | .list xs,.int d=>(fh xs).map fun bs=>.int (K1.gX d bs)
 | _,_=>none
def sM:List PyData→Option PyData
 | [.list xs]=>some (.tuple xs)
 | [.tuple xs]=>some (.tuple xs)
 | _=>none
def iC:List PyData→Option PyData
 | [.list xs]=>some (.list xs)
 | [.tuple xs]=>some (.list xs)
 | _=>none
theorem tP:fm X (.type "list") iC:=⟨_,call_list_of,fun O ts H T vs xs d Q hc h e q=>by
 unfold iC at e
 split at e
 ·cases e
  obtain ⟨v,rfl,g⟩:=du h
  obtain ⟨a,vs,rfl,t,r⟩:=g.lst
  exact ⟨a,vs,rfl,.inl t,fun p hp=>q _ _ (.new hp _) (hc.new hp _) (hc.newL hp r)⟩
 ·cases e
  obtain ⟨v,rfl,g⟩:=du h
  obtain ⟨a,vs,rfl,t,r⟩:=g.tup
  exact ⟨a,vs,rfl,.inr t.sq,fun p hp=>q _ _ (.new hp _) (hc.new hp _) (hc.newL hp r)⟩
 ·cases e⟩
theorem sF {pos:Pos}:DE X (.Dict [] [] pos) (fC (.dict [])):=by
 refine ⟨?_⟩
 refine pe_imp (jk qG) fun σ H Q=>?_
 rintro ⟨O,ts,ρ,T,w,T',hc,re,e,q⟩
 cases e
 intro p hp
 refine .frz aR fun o=>.done ?_
 rw [jW]
 exact q _ _ (.new hp _) (hc.new hp _) (.dct (hc.fresh hp) aR .nil)
def uw (k:Str) (f:FE):FE:=fun ρ T=>bnd (f ρ T) fun w T1=>match w with
 | .d x=>some (.d (.dict [(.str k,x)]),T1)
 | _=>none
theorem Ba {k:Str} {j} {kpos pos:Pos} {e:Expr} {f:FE} (he:DE X e f):DE X (.Dict [some (.Constant (.str k) j kpos)] [e] pos) (uw k f):=by
 refine ⟨?_⟩
 refine pe_imp (jk (Ax (yZ mZ he.pe Ap) rfl rfl (by simp) (by simp))) fun σ H Q=>?_
 rintro ⟨O,ts,ρ,T,w,T',hc,re,e,q⟩
 obtain ⟨w1,T1,e1,e⟩:=aC e
 intro p hp
 have nO:=hc.fresh hp
 have nt:p∉ts:=fun z=>nO (hc.own p z)
 have le:Le O H (fun b=>O b∨b=p) (upd H p (.dK [])):=fun a o n e=>by
  have z:a≠p:=bA e hp
  exact ⟨fun q=>q.elim n z,by rw [aD z]; exact e⟩
 have c':HC X.K (fun b=>O b∨b=p) ts (upd H p (.dK [])) T:=⟨fun b hb=>.inl (hc.own b hb),fun b hb=>by
   by_cases z:b=p
   ·subst z; rw [aR]; exact .inr (.inl ⟨_,rfl⟩)
   ·rw [aD z]; exact hc.trk b (hb.resolve_right z),hc.nd,hc.len,fun j a ys q1 q2=>by
   exact (hc.tape j a ys q1 q2).mono (fun o' k1=>by rw [aD (bA k1 hp)]; exact k1) le⟩
 have re':RelE X.K (fun b=>O b∨b=p) ts (upd H p (.dK [])) σ ρ:=fun i w e=>by
  obtain ⟨v,k1,k2⟩:=re i w e
  refine ⟨v,k1,?_⟩
  cases w with
  | d x=>exact Rep.mono le k2
  | tp k=>exact k2
  | loc ys=>
   obtain ⟨a,ea,m1,m2,m3⟩:=k2
   exact ⟨a,ea,.inl m1,m2,m3.mono (fun o' q=>by rw [aD (bA q hp)]; exact q) le⟩
 refine ⟨_,ts,ρ,T,w1,T1,c',re',e1,fun v1 H1 s1 hc1 r1=>?_⟩
 split at e
 ·rename_i x
  cases e
  have hp1:H1 p=some (.dK []):=s1 p _ nt aR
  refine ⟨hp1,[(.inr k,v1)],rfl,by simp,.frz aR fun o=>.done ?_⟩
  rw [jW]
  have le2:Le (fun b=>O b∨b=p) H1 O (upd H1 p (.frz o (.dK (c9 [] [(.inr k,v1)])))):=fun a o n e=>⟨fun z=>n (.inl z),by rw [aD (show a≠p from fun z=>n (.inr z))]; exact e⟩
  refine q _ _ (fun b o n e=>?_) ⟨hc.own,fun b hb=>?_,hc1.nd,hc1.len,fun j a ys q1 q2=>?_⟩ (.dct nO aR (.cons (Rep.mono le2 r1) .nil))
  ·have z:b≠p:=bA e hp
   rw [aD z]
   exact s1 b o n (by rw [aD z]; exact e)
  ·have z:b≠p:=fun z=>nO (z ▸ hb)
   rw [aD z]
   exact hc1.trk b (.inl hb)
  ·exact (hc1.tape j a ys q1 q2).mono (fun o' k1=>by rw [aD (show a≠p from fun z=>nt (by rw [← z]; exact List.mem_of_getElem? q1))]; exact k1) le2
 ·cases e
end
mutual
def jl:PyData→Bool
 | .list _=>false
 | .tuple ds=>kG ds
 | .dict kvs=>kH kvs
 | .none | .bool _ | .int _ | .str _=>true
def kG:List PyData→Bool
 | []=>true
 | d::r=>jl d && kG r
def kH:List (PyData×PyData)→Bool
 | []=>true
 | (_,v)::r=>jl v && kH r
end
section
variable {X:Cx} {pins:List (Addr×Obj)} {σ:L2.St} {H:Hp} {s:Shared} {O:Addr→Prop}
theorem yt {h:Heap} {k:Key} {v:Value} (e:dg k v=true):Reads h v (cW k) []:=by
 rcases cQ e with ⟨i,t,rfl,rfl⟩ | ⟨x,t,rfl,rfl⟩
 ·exact .int i t
 ·exact .str x t
mutual
theorem Rep.reads (I:Inv X pins σ H s):∀ {v:V} {d:PyData} {u:Value},Rep X.K O H v d→RelV v u→∃ as,Reads s.heap u d as∧(jl d=true→sysModules∉as)
 | _,_,_,.non,r=>by cases r; exact ⟨_,.none,fun _=>by simp⟩
 | _,_,_,.bl b,r=>by cases r; exact ⟨_,.bool b,fun _=>by simp⟩
 | _,_,_,.int i,r=>by obtain ⟨t,rfl⟩:=r; exact ⟨_,.int i t,fun _=>by simp⟩
 | _,_,_,.str x,r=>by obtain ⟨t,rfl⟩:=r; exact ⟨_,.str x t,fun _=>by simp⟩
 | _,_,_,.tup (a:=a) (vs:=vs) h rs,r=>by
  cases r
  obtain ⟨its,rv,⟨o,e,c,n,dd⟩,_⟩:=I.tuple h.sq
  obtain ⟨as,q,f⟩:=Reps.reads I rs rv
  exact ⟨as,.tuple e c dd (by simpa using q),f⟩
 | _,_,_,.lst (a:=a) (vs:=vs) h rs,r=>by
  cases r
  obtain ⟨its,rv,pl,_⟩:=I.list h.sq
  obtain ⟨o,n,e,c,_,dd⟩:=pl
  obtain ⟨as,q,f⟩:=Reps.reads I rs rv
  exact ⟨_,.list e c dd (by simpa using q),fun z=>by cases z⟩
 | _,_,_,.dct (a:=a) (kvs:=kvs) (ds:=ds) _ h rk,r=>by
  cases r
  obtain ⟨z,y,vs,kv,o,es,ep,e,ed,dd,_,ek,_⟩:=(show ObjOk X.prog X.w H s.heap a (.dK kvs) from (I.hok a _ h).2)
  obtain ⟨bs,q1,q2,f⟩:=RepK.reads I rk kv ek
  refine ⟨_,.dict (kvs:=ds) (as:=[]) (bs:=bs) e ed.1 dd q1 q2,fun zz hm=>?_⟩
  rcases List.mem_cons.mp (by simpa using hm:sysModules∈a::bs) with q | q
  ·rw [q] at y
   simp at y
  ·exact f zz q
theorem Reps.reads (I:Inv X pins σ H s):∀ {vs:List V} {ds:List PyData} {us:List Value},Reps X.K O H vs ds→Vals vs us→∃ as,ReadsAll s.heap us ds as∧(kG ds=true→sysModules∉as)
 | _,_,_,.nil,r=>by cases r; exact ⟨_,.nil,fun _=>by simp⟩
 | _,_,_,.cons (d:=d) (ds:=ds) q t,r=>by
  cases r with
  | cons r1 r2=>
   obtain ⟨as,h1,f1⟩:=Rep.reads I q r1
   obtain ⟨bs,h2,f2⟩:=Reps.reads I t r2
   refine ⟨as++bs,.cons h1 h2,fun z=>?_⟩
   have z':(jl d && kG ds)=true:=z
   rw [Bool.and_eq_true] at z'
   intro hm
   rcases List.mem_append.mp hm with hm | hm
   ·exact f1 z'.1 hm
   ·exact f2 z'.2 hm
theorem RepK.reads (I:Inv X pins σ H s):∀ {kvs:List (Key×V)} {ds:List (PyData×PyData)} {vs:List (Key×Value)} {es:List DictEntry},RepK X.K O H kvs ds→KV kvs vs→Pairs (bh X.prog X.w) es vs →
  ∃ bs,ReadsAll s.heap (es.map (·.key)) (ds.map (·.1)) []∧ReadsAll s.heap (es.map (·.val)) (ds.map (·.2)) bs∧(kH ds=true→sysModules∉bs)
 | _,_,_,_,.nil,r,ek=>by
  cases r
  cases ek
  exact ⟨[],.nil,.nil,fun _=>by simp⟩
 | _,_,_,_,.cons (k:=k) (d:=d) (ds:=ds) q t,r,ek=>by
  cases r with
  | cons r1 r2=>
   cases ek with
   | cons e1 e1' e2=>
    obtain ⟨as,h1,f1⟩:=Rep.reads I q r1.2
    obtain ⟨bs,h2,h3,f2⟩:=RepK.reads I t r2 e2
    rw [← e1'] at h1
    have k1:=yt (h:=s.heap) (show dg _ _=true from e1)
    rw [← r1.1] at k1
    refine ⟨as++bs,.cons (as:=[]) (bs:=[]) k1 h2,.cons h1 h3,fun z=>?_⟩
    have z':(jl d && kH ds)=true:=z
    rw [Bool.and_eq_true] at z'
    intro hm
    rcases List.mem_append.mp hm with hm | hm
    ·exact f1 z'.1 hm
    ·exact f2 z'.2 hm
end
end
section
variable {X:Cx}
end
structure Df (K:Frag) (name:Str) (st:Stmt):Prop where
 ex:∃ (f:Addr) (oc:Value) (od an:Option Addr) (sl:Array (Option Value)) (kV dc pm cd ct:Value),PySem.W.nsIn K mainGlobals name=some (some (.ref f)) ∧
  K.lookup f=some ⟨oc,od,.func (PySem.W.fnOf name name (dC st) (bV st) (aE st) .none kV dc pm an cd ct),sl⟩∧PySem.W.codeIn K cd name=true∧PySem.W.keepIn K (.ref f)=true
theorem DZ {K:Frag} {name:Str} {st:Stmt} {f:Addr} {oc:Value} {od an:Option Addr} {sl:Array (Option Value)} {kV dc pm cd ct:Value} (a:PySem.W.nsIn K mainGlobals name=some (some (.ref f)))
  (l:K.lookup f=some ⟨oc,od,.func (PySem.W.fnOf name name (dC st) (bV st) (aE st) .none kV dc pm an cd ct),sl⟩) (c:PySem.W.codeIn K cd name=true) (k:PySem.W.keepIn K (.ref f)=true):Df K name st:=⟨f,oc,od,an,sl,kV,dc,pm,cd,ct,a,l,c,k⟩
theorem Df.fn {P:Program} {w:World} {K:Frag} {mg:Str→Option Value} {base h:Heap} {name:Str} {st:Stmt} {ps:List Str} {k:Nat} {sp:Sp} (d:Df K name st) (X:K.In h) (G:h.Ns mainGlobals mg)
  (hb:∀ (kV doc pm:Value) (an:Option Addr) (cdv ct:Value) (us:List Value),us.length=ps.length→bindArgs (PySem.W.fnOf name name (dC st) (bV st) (aE st) .none kV doc pm an cdv ct) ⟨us,[]⟩=pure (ps.zip us))
  (ok:∀ f fd,Fun K name name st f fd→FnOk P w K mg base CX0 k f fd ps sp):Fn P w K mg base name ps k sp:=by
 obtain ⟨f,oc,od,an,sl,kV,dc,pm,cd,ct,a,l,c,kp⟩:=d.ex
 have F:=kO (st:=st) l c kp
 exact ⟨f,_,ok f _ F,F.binds hb,kp,PySem.W.mg_of X G a⟩
theorem kg {P:Program} {w:World} {K:Frag} {mg:Str→Option Value} {base:Heap} {k n:Nat} {f:Addr} {fd:FuncData} {ps:List Str}:FnOk P w K mg base CX0 k f fd ps (spM K n fun _ _=>none):=by
 have no:∀ vs H Q E,¬ spM K n (fun _ _=>none) vs H Q E:=fun vs H Q E h=>by
  obtain ⟨O,ts,T,ws,x,T',_,_,_,e,_⟩:=h
  cases e
 exact ⟨fun vs H Q E h=>absurd h (no vs H Q E),fun A outer s H args us vs Q E _ _ _ _ h=>absurd h (no vs H Q E)⟩
def kW (K:Frag):Sp:=fun vs H Q _=>∃ (a:Addr) (ns:List Int),vs=[.ref a]∧SqL K H a (ns.map V.int)∧ns.length≤63∧∀ H',Q (.bl true) H'
def kr (ns:List Int):PyData:=.list (ns.map .int)
theorem pS {K:Frag} {O:Addr→Prop} {H:Hp}:∀ ns:List Int,Reps K O H (ns.map V.int) (ns.map PyData.int)
 | []=>.nil
 | _::r=>.cons (.int _) (pS r)
section
variable {α β:Type} {ρ:Rho} {T:Tp} {f g:FE} {c c':FT} {s s':FS} {a:FA} {w w':W} {x y:PyData}
@[simp] theorem eC {b:α} {k:α→Tp→Option β}:bnd (some (b,T)) k=k b T:=rfl
@[simp] theorem GT {k:α→Tp→Option β}:bnd none k=none:=rfl
@[simp] theorem GU {p:Prop} [Decidable p] {u v:Option (α×Tp)} {k:α→Tp→Option β}:bnd (if p then u else v) k=if p then bnd u k else bnd v k:=by split <;> rfl
@[simp] theorem uy {N:Nat} {ws:List W}:aV N s ws T=if bQ ws=true then fi (s (ws.map some++List.replicate (N - ws.length) none) T) else none:=rfl
@[simp] theorem qb:bQ []=true:=rfl
@[simp] theorem qa {r:List W}:bQ (.d x::r)=bQ r:=rfl
@[simp] theorem yB {i:Nat} {r:List W}:bQ (.tp i::r)=bQ r:=rfl
@[simp] theorem GK {r:Rho}:fi (some ((.rt x,r),T))=some (x,T):=rfl
@[simp] theorem GM {r:Rho}:fi (some ((.nx,r),T))=some (.none,T):=rfl
@[simp] theorem GN {p:Prop} [Decidable p] {u v:Option ((Fl×Rho)×Tp)}:fi (if p then u else v)=if p then fi u else fi v:=by split <;> rfl
def iH (s':FS) (p:Fl×Rho) (T:Tp):Option ((Fl×Rho)×Tp):=match p with
 | (.nx,ρ1)=>s' ρ1 T
 | (fl,ρ1)=>some ((fl,ρ1),T)
@[simp] theorem Cj:ap s s' ρ T=bnd (s ρ T) (iH s'):=rfl
@[simp] theorem F3 {ρ1:Rho}:iH s' (.nx,ρ1) T=s' ρ1 T:=rfl
@[simp] theorem F0 {ρ1:Rho}:iH s' (.rt x,ρ1) T=some ((.rt x,ρ1),T):=rfl
@[simp] theorem F6 {ρ1:Rho}:iH s' (.bk,ρ1) T=some ((.bk,ρ1),T):=rfl
@[simp] theorem F5 {ρ1:Rho}:iH s' (.ct,ρ1) T=some ((.ct,ρ1),T):=rfl
@[simp] theorem Gk:aF ρ T=some ((.nx,ρ),T):=rfl
def ifK (s s':FS) (ρ:Rho) (b:Bool) (T1:Tp):Option ((Fl×Rho)×Tp):=if b=true then s ρ T1 else s' ρ T1
@[simp] theorem DU:fIf c s s' ρ T=bnd (c ρ T) (ifK s s' ρ):=rfl
@[simp] theorem Cm {b:Bool}:ifK s s' ρ b T=if b=true then s ρ T else s' ρ T:=rfl
def uN (ρ:Rho):W→Tp→Option ((Fl×Rho)×Tp):=fun w T1=>match w with
 | .d x=>some ((.rt x,ρ),T1)
 | _=>none
@[simp] theorem G9:aH f ρ T=bnd (f (bE ρ) T) (uN ρ):=rfl
@[simp] theorem Ga:uN ρ (.d x) T=some ((.rt x,ρ),T):=rfl
@[simp] theorem GI:bE []=[]:=rfl
@[simp] theorem GE {r:Rho}:bE (none::r)=none::bE r:=rfl
@[simp] theorem GH {r:Rho}:bE (some (.d x)::r)=some (.d x)::bE r:=rfl
@[simp] theorem GD {i:Nat} {r:Rho}:bE (some (.tp i)::r)=some (.tp i)::bE r:=rfl
@[simp] theorem GF {x:PyData} {r:Rho}:bE (some (.loc x)::r)=some (.d x)::bE r:=rfl
def ol (i:Nat) (ρ:Rho):W→Tp→Option ((Fl×Rho)×Tp):=fun w T1=>match w with
 | .d x=>some ((.nx,ρ.set i (some (.d x))),T1)
 | .tp k=>some ((.nx,ρ.set i (some (.tp k))),T1)
 | .loc _=>none
@[simp] theorem nu {i:Nat}:ar i f ρ T=bnd (f ρ T) (ol i ρ):=rfl
@[simp] theorem sh {i:Nat}:ol i ρ (.d x) T=some ((.nx,ρ.set i (some (.d x))),T):=rfl
@[simp] theorem FV {i k:Nat}:ol i ρ (.tp k) T=some ((.nx,ρ.set i (some (.tp k))),T):=rfl
def tX (i:Nat) (ρ:Rho) (T:Tp):Option (List PyData)→Option ((Fl×Rho)×Tp)
 | some xs=>if xs.length≤1000 then some ((.nx,ρ.set i (some (.loc (.list xs)))),T) else none
 | none=>none
@[simp] theorem FY {i:Nat}:js i a ρ T=bnd (a ρ T) fun ws T1=>tX i ρ T1 (dq ws):=rfl
@[simp] theorem Fd {i:Nat} {xs:List PyData}:tX i ρ T (some xs)=if xs.length≤1000 then some ((.nx,ρ.set i (some (.loc (.list xs)))),T) else none:=rfl
def vc (i:Nat) (ρ:Rho) (x:PyData) (T:Tp) (o:Option (Option W)):Option ((Fl×Rho)×Tp):=match o with
 | some (some (.loc (.list xs)))=>if xs.length < sizeLine then some ((.nx,ρ.set i (some (.loc (.list (xs++[x]))))),T) else none
 | _=>none
def u9 (i:Nat) (ρ:Rho):W→Tp→Option ((Fl×Rho)×Tp):=fun w T1=>match w with
 | .d x=>(match ρ[i]? with
  | some (some (.loc (.list xs)))=>if xs.length < sizeLine then some ((.nx,ρ.set i (some (.loc (.list (xs++[x]))))),T1) else none
  | _=>none)
 | _=>none
@[simp] theorem HP {i:Nat}:EE i f ρ T=bnd (f ρ T) (u9 i ρ):=rfl
@[simp] theorem GV {i:Nat}:u9 i ρ (.d x) T=vc i ρ x T ρ[i]?:=rfl
@[simp] theorem GW {i:Nat} {xs:List PyData}:vc i ρ x T (some (some (.loc (.list xs))))=if xs.length < sizeLine then some ((.nx,ρ.set i (some (.loc (.list (xs++[x]))))),T) else none:=rfl
@[simp] theorem HU {l u:FO}:fSl f l u ρ T=bnd (f ρ T) fun w T1=>bnd (l ρ T1) fun lo T2=>bnd (u ρ T2) fun hi T3=>op1 (fun x=>i5 x lo hi) T3 w:=rfl
@[simp] theorem Hf:cX ρ T=some (none,T):=rfl
def pK:W→Tp→Option (Option Int×Tp):=fun w T1=>match w with
 | .d (.int i)=>some (some i,T1)
 | _=>none
@[simp] theorem Ib:fP f ρ T=bnd (f ρ T) pK:=rfl
@[simp] theorem HV {i:Int}:pK (.d (.int i)) T=some (some i,T):=rfl
@[simp] theorem G7 {z:Str} {lo hi:Option Int}:i5 (.str z) lo hi=if z.length≤sizeLine then some (.str (Txt.slice z lo hi)) else none:=rfl
@[simp] theorem G6 {xs:List PyData} {lo hi:Option Int}:i5 (.tuple xs) lo hi=some (.tuple (bN xs lo hi)):=rfl
@[simp] theorem G8 {xs:List PyData} {lo hi:Option Int}:i5 (.list xs) lo hi=some (.list (bN xs lo hi)):=rfl
@[simp] theorem GO:f9 f ρ T=bnd (f ρ T) fun _ T1=>some ((.nx,ρ),T1):=rfl
@[simp] theorem mL {o:W} {r:Rho}:ae 0 (some o::r) T=some (o,T):=rfl
@[simp] theorem eU {i:Nat} {o:Option W} {r:Rho}:ae (i + 1) (o::r) T=ae i r T:=rfl
@[simp] theorem mK {o:Option W} {r:Rho}:ae 1 (o::r) T=ae 0 r T:=eU
@[simp] theorem mJ {o:Option W} {r:Rho}:ae 2 (o::r) T=ae 1 r T:=eU
@[simp] theorem mI {o:Option W} {r:Rho}:ae 3 (o::r) T=ae 2 r T:=eU
@[simp] theorem sg {o:Option W} {r:Rho}:ae 4 (o::r) T=ae 3 r T:=eU
@[simp] theorem sf {o:Option W} {r:Rho}:ae 5 (o::r) T=ae 4 r T:=eU
@[simp] theorem se {o:Option W} {r:Rho}:ae 6 (o::r) T=ae 5 r T:=eU
@[simp] theorem A0 {o:Option W} {r:Rho}:ae 7 (o::r) T=ae 6 r T:=eU
@[simp] theorem FM {o:Option W} {r:Rho}:ae 8 (o::r) T=ae 7 r T:=eU
@[simp] theorem FK {o:Option W} {r:Rho}:ae 9 (o::r) T=ae 8 r T:=eU
@[simp] theorem u5:fC x ρ T=some (.d x,T):=rfl
@[simp] theorem FJ:view T (.d x)=some x:=rfl
@[simp] theorem E8 {i:Nat}:view T (.tp i)=(T[i]?).bind lB:=rfl
@[simp] theorem F7 {xs:List PyData}:lB xs=if isO xs=true then none else some (.list xs):=rfl
@[simp] theorem FH {xs r:List PyData}:isO (.list xs::r)=false:=rfl
@[simp] theorem E9 {xs:List PyData}:view T (.loc (.list xs))=some (.list xs):=rfl
@[simp] theorem EQ {xs:List (PyData×PyData)}:view T (.loc (.dict xs))=some (.dict xs):=rfl
noncomputable def mkD (T:Tp) (o:Option PyData):Option (W×Tp):=match o with
 | some d=>some (.d d,T)
 | none=>none
@[simp] theorem nB:mkD T (some x)=some (.d x,T):=rfl
@[simp] theorem Gn:mkD T none=none:=rfl
@[simp] theorem Gp {p:Prop} [Decidable p] {u v:Option PyData}:mkD T (if p then u else v)=if p then mkD T u else mkD T v:=by split <;> rfl
def u7 (o:PyData→PyData→Option PyData) (g:FE) (ρ:Rho) (w1:W) (T1:Tp):Option (W×Tp):=bnd (g ρ T1) fun w2 T2=>op2 o T2 w1 w2
@[simp] theorem nE {o:PyData→PyData→Option PyData}:ai o f g ρ T=bnd (f ρ T) (u7 o g ρ):=rfl
@[simp] theorem mN {o:PyData→PyData→Option PyData}:u7 o g ρ w T=bnd (g ρ T) fun w2 T2=>op2 o T2 w w2:=rfl
@[simp] theorem nv {o:PyData→PyData→Option PyData}:op2 o T (.d x) (.d y)=mkD T (o x y):=rfl
@[simp] theorem Gf {o:PyData→PyData→Option PyData} {zs xs:List PyData} {r:Tp}:op2 o ((.list zs::xs)::r) (.tp 0) (.d y)=mkD ((.list zs::xs)::r) (o (.list (.list zs::xs)) y):=rfl
@[simp] theorem HS {o:PyData→Option PyData}:fUn o f ρ T=bnd (f ρ T) fun w1 T1=>op1 o T1 w1:=rfl
@[simp] theorem He {o:PyData→Option PyData}:op1 o T (.d x)=mkD T (o x):=rfl
@[simp] theorem HN {b:Bool}:asB (.d (.bool b))=some b:=rfl
def uI:W→Tp→Option (Bool×Tp):=fun w T1=>match asB w with
 | some b=>some (b,T1)
 | none=>none
@[simp] theorem Ci:av f ρ T=bnd (f ρ T) uI:=rfl
@[simp] theorem A1 {b:Bool}:uI (.d (.bool b)) T=some (b,T):=rfl
@[simp] theorem G2:aX f ρ T=bnd (f ρ T) fun w T1=>ly T1 w:=rfl
def uJ (T:Tp) (o:Option Bool):Option (Bool×Tp):=match o with
 | some b=>some (b,T)
 | none=>none
@[simp] theorem FR:ly T (.d x)=uJ T (lx x):=rfl
@[simp] theorem FN {b:Bool}:uJ T (some b)=some (b,T):=rfl
@[simp] theorem FQ {b:Bool}:lx (.bool b)=some b:=rfl
def uE (c':FT) (ρ:Rho) (b:Bool) (T1:Tp):Option (Bool×Tp):=if b=true then c' ρ T1 else some (false,T1)
@[simp] theorem GY:bp c c' ρ T=bnd (c ρ T) (uE c' ρ):=rfl
@[simp] theorem FF {b:Bool}:uE c' ρ b T=if b=true then c' ρ T else some (false,T):=rfl
def uR (c':FT) (ρ:Rho) (b:Bool) (T1:Tp):Option (Bool×Tp):=if b=true then some (true,T1) else c' ρ T1
@[simp] theorem Hc:cq c c' ρ T=bnd (c ρ T) (uR c' ρ):=rfl
@[simp] theorem Ge {b:Bool}:uR c' ρ b T=if b=true then some (true,T) else c' ρ T:=rfl
@[simp] theorem Gi:bo c ρ T=bnd (c ρ T) fun b T1=>some (!b,T1):=rfl
@[simp] theorem Fb:bB ρ T=some (true,T):=rfl
def vd (g:FE) (ρ:Rho) (w:W) (T:Tp):Option (W×Tp):=match asB w with
 | some b=>if b=true then g ρ T else some (.d (.bool false),T)
 | none=>none
@[simp] theorem GX:bC f g ρ T=bnd (f ρ T) (vd g ρ):=rfl
@[simp] theorem GZ {b:Bool}:vd g ρ (.d (.bool b)) T=if b=true then g ρ T else some (.d (.bool false),T):=rfl
def orK (g:FE) (ρ:Rho) (w:W) (T:Tp):Option (W×Tp):=match asB w with
 | some b=>if b=true then some (.d (.bool true),T) else g ρ T
 | none=>none
@[simp] theorem Hb:oz f g ρ T=bnd (f ρ T) (orK g ρ):=rfl
@[simp] theorem Hd {b:Bool}:orK g ρ (.d (.bool b)) T=if b=true then some (.d (.bool true),T) else g ρ T:=rfl
def uW (w:W) (T:Tp):Option (W×Tp):=match asB w with
 | some b=>some (.d (.bool (!b)),T)
 | none=>none
@[simp] theorem Gg:n5 f ρ T=bnd (f ρ T) uW:=rfl
@[simp] theorem Gj {b:Bool}:uW (.d (.bool b)) T=some (.d (.bool (!b)),T):=rfl
def uZ (f g:FE) (ρ:Rho) (b:Bool) (T1:Tp):Option (W×Tp):=if b=true then f ρ T1 else g ρ T1
@[simp] theorem HE:iJ c f g ρ T=bnd (c ρ T) (uZ f g ρ):=rfl
@[simp] theorem GC {b:Bool}:uZ f g ρ b T=if b=true then f ρ T else g ρ T:=rfl
def chK (o':PyData→PyData→Option PyData) (h:FE) (ρ:Rho) (w2 w:W) (T:Tp):Option (W×Tp):=match asB w with
 | some b=>if b=true then bnd (h ρ T) fun w3 T4=>op2 o' T4 w2 w3 else some (.d (.bool false),T)
 | none=>none
@[simp] theorem FD {o o':PyData→PyData→Option PyData} {h:FE}:gM o o' f g h ρ T=bnd (f ρ T) fun w1 T1=>bnd (g ρ T1) fun w2 T2=>bnd (op2 o T2 w1 w2) (chK o' h ρ w2):=rfl
@[simp] theorem HL {o':PyData→PyData→Option PyData} {h:FE} {b:Bool}:chK o' h ρ w (.d (.bool b)) T=if b=true then bnd (h ρ T) fun w3 T4=>op2 o' T4 w w3 else some (.d (.bool false),T):=rfl
@[simp] theorem nA:ah ρ T=some ([],T):=rfl
def uC (a:FA) (ρ:Rho) (w:W) (T1:Tp):Option (List W×Tp):=bnd (a ρ T1) fun ws T2=>some (w::ws,T2)
@[simp] theorem mM:aa f a ρ T=bnd (f ρ T) (uC a ρ):=rfl
@[simp] theorem mq:uC a ρ w T=bnd (a ρ T) fun ws T2=>some (w::ws,T2):=rfl
@[simp] theorem EO:views T []=some []:=rfl
def jx (x:PyData) (o:Option (List PyData)):Option (List PyData):=match o with
 | some xs=>some (x::xs)
 | none=>none
@[simp] theorem FC {xs:List PyData}:jx x (some xs)=some (x::xs):=rfl
@[simp] theorem E7 {r:List W}:views T (.d x::r)=jx x (views T r):=rfl
@[simp] theorem EN {xs:List PyData} {r:List W}:views T (.loc (.list xs)::r)=jx (.list xs) (views T r):=rfl
@[simp] theorem E5:dq []=some []:=rfl
@[simp] theorem Fz {r:List W}:dq (.d x::r)=jx x (dq r):=rfl
def sqK (mk:List PyData→PyData) (T:Tp):Option (List PyData)→Option (W×Tp)
 | some xs=>if xs.length≤1000 then some (.d (mk xs),T) else none
 | none=>none
@[simp] theorem F4 {mk:List PyData→PyData}:au mk a ρ T=bnd (a ρ T) fun ws T1=>sqK mk T1 (dq ws):=rfl
@[simp] theorem G5 {mk:List PyData→PyData} {xs:List PyData}:sqK mk T (some xs)=if xs.length≤1000 then some (.d (mk xs),T) else none:=rfl
def cbK (o:List PyData→Option PyData) (T:Tp) (v:Option (List PyData)):Option (W×Tp):=match v with
 | some xs=>(match o xs with
  | some d=>some (.d d,T)
  | none=>none)
 | none=>none
@[simp] theorem Ia {o:List PyData→Option PyData}:fCB o a ρ T=bnd (a ρ T) fun ws T1=>cbK o T1 (views T1 ws):=rfl
@[simp] theorem HM {o:List PyData→Option PyData} {xs:List PyData}:cbK o T (some xs)=mkD T (o xs):=rfl
@[simp] theorem si {m:FnM}:aq m a ρ T=bnd (a ρ T) fun ws T1=>bnd (m ws T1) fun x T2=>some (.d x,T2):=rfl
@[simp] theorem GS {it:FI}:cf it c f ρ T=bnd (it ρ T) fun ds T1=>bnd (bG c f ρ ds T1) fun ys T2=>some (.d (.list ys),T2):=rfl
def itK (T:Tp) (o:Option (List PyData)):Option (List PyData×Tp):=match o with
 | some xs=>some (xs,T)
 | none=>none
def itW:W→Tp→Option (List PyData×Tp):=fun w T1=>match w with
 | .d x=>(match gK x with
  | some xs=>some (xs,T1)
  | none=>none)
 | _=>none
@[simp] theorem Gx:bZ f ρ T=bnd (f ρ T) itW:=rfl
@[simp] theorem Hz:itW (.d x) T=itK T (gK x):=rfl
@[simp] theorem HA {xs:List PyData}:itK T (some xs)=some (xs,T):=rfl
@[simp] theorem E3 {xs:List PyData}:gK (.list xs)=some xs:=rfl
@[simp] theorem E4 {ds:List (PyData×PyData)}:gK (.dict ds)=some (ds.map (·.1)):=rfl
@[simp] theorem E1 {xs:List PyData}:gK (.tuple xs)=some xs:=rfl
@[simp] theorem E2 {z:Str}:gK (.str z)=if z.length≤sizeLine then some (signs z) else none:=rfl
def uM:W→Tp→Option (List PyData×Tp):=fun w T1=>match w with
 | .d (.int j)=>if eF j=true then some (bK 0 j.toNat,T1) else none
 | _=>none
@[simp] theorem F9:di f ρ T=bnd (f ρ T) uM:=rfl
@[simp] theorem F8 {j:Int}:uM (.d (.int j)) T=if eF j=true then some (bK 0 j.toNat,T) else none:=rfl
@[simp] theorem Cn {i:Nat} {it:FI}:dH i it s ρ T=bnd (it ρ T) fun ds T1=>forL i s ds ρ T1:=rfl
@[simp] theorem G4 {i j:Int}:dE (.int i) (.int j)=some (.int (i - j)):=rfl
@[simp] theorem Hk {i j:Int}:eK (.int i) (.int j)=if 0 < j then some (.int (i % j)) else none:=rfl
@[simp] theorem GJ {i j:Int}:DQ (.int i) (.int j)=if 0 < j∧j < 1073741824 then some (.int (i / j)) else none:=rfl
@[simp] theorem Ha {i j:Int}:dF (.int i) (.int j)=if 0≤j∧j≤1000000∧i.natAbs < 2 ^ 64 then some (.int (i ^ j.toNat)) else none:=rfl
@[simp] theorem HW {i j:Int}:ltD (.int i) (.int j)=some (.bool (decide (i < j))):=rfl
@[simp] theorem HX {i j:Int}:leD (.int i) (.int j)=some (.bool (decide (i≤j))):=rfl
@[simp] theorem HZ {i j:Int}:gtD (.int i) (.int j)=some (.bool (decide (j < i))):=rfl
@[simp] theorem H8 {i j:Int}:geD (.int i) (.int j)=some (.bool (decide (j≤i))):=rfl
@[simp] theorem A5 {i j:Int}:aP (.int i) (.int j)=some (.int (i + j)):=rfl
@[simp] theorem A4 {u v:Str}:aP (.str u) (.str v)=if u.length + v.length≤sizeLine then some (.str (u++v)) else none:=rfl
@[simp] theorem G0 {u v:List PyData}:aP (.tuple u) (.tuple v)=if u.length + v.length≤sizeLine then some (.tuple (u++v)) else none:=rfl
@[simp] theorem G1 {u v:List PyData}:aP (.list u) (.list v)=if u.length + v.length≤sizeLine then some (.list (u++v)) else none:=rfl
@[simp] theorem Gm {i j:Int}:dG (.int i) (.int j)=if (-(2 ^ 64) < i∧i < 2 ^ 64)∨(-(2 ^ 64) < j∧j < 2 ^ 64) then some (.int (i * j)) else none:=rfl
@[simp] theorem A2 {z:Str} {k:Int}:dG (.str z) (.int k)=if 0≤k∧k≤2000∧z.length≤1000 then some (.str (Txt.mul z k)) else none:=rfl
@[simp] theorem Cp {i j:Int}:eqD (.int i) (.int j)=some (.bool (decide (i=j))):=rfl
@[simp] theorem HJ {i j:Str}:eqD (.str i) (.str j)=some (.bool (decide (i=j))):=rfl
@[simp] theorem HK {i j:Bool}:eqD (.bool i) (.bool j)=some (.bool (decide (i=j))):=rfl
@[simp] theorem Hi {i j:Int}:neD (.int i) (.int j)=some (.bool (!decide (i=j))):=rfl
@[simp] theorem Hh {i j:Str}:neD (.str i) (.str j)=some (.bool (!decide (i=j))):=rfl
@[simp] theorem Hj {i j:Bool}:neD (.bool i) (.bool j)=some (.bool (!decide (i=j))):=rfl
@[simp] theorem HY:isD x .none=some (.bool (isNone x)):=by cases x <;> rfl
@[simp] theorem Fx {i j:Bool}:Cc (.bool i) (.bool j)=some (.bool (i != j)):=rfl
@[simp] theorem Hg {i:Int}:fz (.int i)=some (.int (-i)):=rfl
@[simp] theorem HB {k:Kd}:cL k x=some (.bool (bR (kd x) k)):=rfl
@[simp] theorem Hy {xs:List PyData} {i:Int}:ixD (.list xs) (.int i)=atI xs i:=rfl
@[simp] theorem Hx {xs:List PyData} {i:Int}:ixD (.tuple xs) (.int i)=atI xs i:=rfl
@[simp] theorem Ck {z:Str} {i:Int}:ixD (.str z) (.int i)=if z.length≤sizeLine then (atI z.cps.toList i).map (fun c=>.str ⟨#[c]⟩) else none:=rfl
@[simp] theorem Gv {xs:List PyData}:aT [.list xs]=some (.int xs.length):=rfl
@[simp] theorem Gs {xs:List PyData}:aT [.tuple xs]=some (.int xs.length):=rfl
@[simp] theorem Gu {z:Str}:aT [.str z]=if z.length≤sizeLine then some (.int z.length) else none:=rfl
@[simp] theorem HR {i:Int}:lK [.int i]=some (.int (if i < 0 then -i else i)):=rfl
@[simp] theorem Ho {i j:Int}:DB [.int i,.int j]=some (.int (if j > i then j else i)):=rfl
@[simp] theorem Hm {i j:Int}:Dy [.int i,.int j]=some (.int (if j < i then j else i)):=rfl
@[simp] theorem ES {xs:List PyData}:sM [.list xs]=some (.tuple xs):=rfl
@[simp] theorem ER {xs:List PyData}:sM [.tuple xs]=some (.tuple xs):=rfl
@[simp] theorem Ft {xs:List PyData}:iC [.list xs]=some (.list xs):=rfl
@[simp] theorem Fs {xs:List PyData}:iC [.tuple xs]=some (.list xs):=rfl
@[simp] theorem Hu {i:Int}:kd (.int i)=.int:=rfl
@[simp] theorem Hw {i:Bool}:kd (.bool i)=.bl:=rfl
@[simp] theorem Hr {i:Str}:kd (.str i)=.str:=rfl
@[simp] theorem Hq {i:List PyData}:kd (.tuple i)=.tup:=rfl
@[simp] theorem Ht {i:List PyData}:kd (.list i)=.lst:=rfl
@[simp] theorem Hv {i:List (PyData×PyData)}:kd (.dict i)=.dct:=rfl
@[simp] theorem Hs:kd .none=.non:=rfl
end
theorem at0 {α:Type} {a b c:α}:atI [a,b,c] 0=some a:=rfl
theorem at1 {α:Type} {a b c:α}:atI [a,b,c] 1=some b:=rfl
theorem at2 {α:Type} {a b c:α}:atI [a,b,c] 2=some c:=rfl
theorem ix1:ixN 3 1=some 1:=rfl
theorem ix2:ixN 3 2=some 2:=rfl
theorem gB {e:FE} {ρ:Rho} {T:Tp} {g:PyData→PyData}:∀ {ds:List PyData},(∀ d∈ds,e (some (.d d)::ρ) T=some (.d (g d),T))→bG bB e ρ ds T=some (ds.map g,T)
 | [],_=>rfl
 | d::r,h=>by
  have ih:=gB (ds:=r) fun x hx=>h x (List.mem_cons_of_mem _ hx)
  have h0:=h d List.mem_cons_self
  unfold bG
  simp [h0,ih]
theorem oQ {c:FT} {ρ:Rho} {T:Tp} {p:PyData→Bool}:∀ {ds:List PyData},(∀ d∈ds,c (some (.d d)::ρ) T=some (p d,T))→bG c (ae 0) ρ ds T=some (ds.filter p,T)
 | [],_=>rfl
 | d::r,h=>by
  have ih:=oQ (ds:=r) fun x hx=>h x (List.mem_cons_of_mem _ hx)
  have h0:=h d List.mem_cons_self
  unfold bG
  cases hp:p d with
  | false=>simp [h0,hp,ih]
  | true=>simp [h0,hp,ih]
theorem pE {α:Type} (p:α→Bool):∀ l:List α,gN (l.map fun d=>.bool (p d))=some (l.map p)
 | []=>rfl
 | d::r=>by
  show (gN (r.map fun d=>.bool (p d))).map (p d::·)=_
  rw [pE p r]
  rfl
theorem lV {α:Type} (p:α→Int):∀ l:List α,fh (l.map fun d=>.int (p d))=some (l.map p)
 | []=>rfl
 | d::r=>by
  show (fh (r.map fun d=>.int (p d))).map (p d::·)=_
  rw [lV p r]
  rfl
theorem pM {α:Type} (p:α→Str):∀ l:List α,fX (l.map fun d=>.str (p d))=some (l.map p)
 | []=>rfl
 | d::r=>by
  show (fX (r.map fun d=>.str (p d))).map (p d::·)=_
  rw [pM p r]
  rfl
@[simp] theorem HQ {α:Type} (p:α→Bool) (l:List α):gm [.list (l.map fun d=>.bool (p d))]=some (.bool (l.all p)):=by
 show (gN _).map (fun bs=>PyData.bool (bs.all id))=_
 rw [pE,Option.map_some,List.all_map]
 rfl
@[simp] theorem G3 {α:Type} (p:α→Int) (l:List α):lA [.list (l.map fun d=>.int (p d))]=some (.int (l.map p).sum):=by
 show (fh _).map (fun bs=>PyData.int bs.sum)=_
 rw [lV,Option.map_some]
@[simp] theorem Gq {α:Type} (p:α→Int) (l:List α) (k:Int):Dz (.list (l.map fun d=>.int (p d))) (.int k)=some (.int (K1.gX k (l.map p))):=by
 show (fh _).map (fun bs=>PyData.int (K1.gX k bs))=_
 rw [lV,Option.map_some]
def mW (y:Str):PyData→Bool
 | .str z=>iI y z
 | _=>false
theorem zC (y:Str) (c:Nat):iI y ⟨#[c]⟩=decide (c∈y.cps.toList):=StrLaws.found_one ..
@[simp] theorem HD {x y:Str}:inD (.str x) (.str y)=some (.bool (iI y x)):=rfl
theorem pN {x:Str} {d:PyData} (h:d∈D.signs x):∃ c,c∈x.cps.toList∧d=.str ⟨#[c]⟩:=by
 obtain ⟨c,hc,rfl⟩:=List.mem_map.mp h
 exact ⟨c,hc,rfl⟩
section
variable {X:Cx}
def Ad:PyData→PyData→Option PyData
 | .str z,.str y=>some (.bool (Txt.startswith z y))
 | _,_=>none
def intD:List PyData→Option PyData
 | [.int i]=>some (.int i)
 | [.bool b]=>some (.int (if b then 1 else 0))
 | [.str x]=>if x.length≤640 then (PySem.intText? x).map .int else none
 | _=>none
end
@[simp] theorem ET {z y:Str}:Ad (.str z) (.str y)=some (.bool (Txt.startswith z y)):=rfl
@[simp] theorem Gy {x:Str}:intD [.str x]=if x.length≤640 then (PySem.intText? x).map .int else none:=rfl
@[simp] theorem Gz {i:Int}:intD [.int i]=some (.int i):=rfl
@[simp] theorem GA {b:Bool}:intD [.bool b]=some (.int (if b then 1 else 0)):=rfl
section
variable {X:Cx}
theorem Vw.reads {pins:List (Addr×Obj)} {σ:L2.St} {H:Hp} {s:Shared} {O:Addr→Prop} {v:V} {d:PyData} {u:Value} (I:Inv X pins σ H s) (h:Vw X.K O H v d) (r:RelV v u):∃ as,Reads s.heap u d as:=by
 cases h with
 | rep h=>obtain ⟨as,rd,_⟩:=h.reads I r; exact ⟨as,rd⟩
 | raw h hs=>
  cases r
  obtain ⟨its,rv,pl,_⟩:=I.list (SqL.of h)
  obtain ⟨o,n,e,c,_,dd⟩:=pl
  obtain ⟨as,rd,_⟩:=hs.reads I rv
  exact ⟨_,.list e c dd (by simpa using rd)⟩
 | rawD h rk=>
  cases r
  obtain ⟨z,y,vs,kv,o,es,ep,e,ed,dd,_,ek,_⟩:=(show ObjOk X.prog X.w H s.heap _ (.dK _) from I.hok _ _ h)
  obtain ⟨bs,q1,q2,f⟩:=RepK.reads I rk kv ek
  exact ⟨_,.dict (as:=[]) (bs:=bs) e ed.1 dd q1 q2⟩
open Classical in
def gj (h:Heap) (x:PyData) (v:Value):Bool:=if e:∃ p:PyData×List Addr,Reads h v p.1 p.2 then PyData.eqv e.choose.1 x else false
theorem ki {h:Heap} {x d:PyData} {v:Value} {as:List Addr} (r:Reads h v d as):gj h x v=PyData.eqv d x:=by
 have e:∃ p:PyData×List Addr,Reads h v p.1 p.2:=⟨(d,as),r⟩
 unfold gj
 rw [dif_pos e]
 have:=(PySem.Reads.unique e.choose_spec d as r).1
 rw [this]
theorem readsAll_mem {h:Heap}:∀ {vs:List Value} {ds:List PyData} {as:List Addr} {v:Value},ReadsAll h vs ds as→v∈vs→∃ d bs,d∈ds∧Reads h v d bs
 | _,_,_,_,.cons r rs,hm=>by
  rcases List.mem_cons.mp hm with z | z
  ·subst z; exact ⟨_,_,List.mem_cons_self,r⟩
  ·obtain ⟨d,bs,h1,h2⟩:=readsAll_mem rs z
   exact ⟨d,bs,List.mem_cons_of_mem _ h1,h2⟩
end
theorem yp (l:Addr) (items:Array Value) (n:Nat) (b:Addr) (items2:Array Value) (n2:Nat) (dd:Option Addr) (sl:Array (Option Value)) (hc0:¬(!items.isEmpty && Builtin.List.listTooLong (items.size + items2.size))=true) (hc1:items.size≤sizeLine) (hs2:items.size + items2.size≤sizeLine + 1) :
  Meets (Builtin.«list.extend» ⟨[.ref l,.ref b],[]⟩) (fun _ R s=>s.heap.get? l=some { cls:=.type "list",dict:=none,data:=.seq items n,slots:=#[] }∧s.heap.get? b=some { cls:=.type "list",dict:=dd,data:=.seq items2 n2,slots:=sl }∧R (.ok (.ret Value.none)) { s with heap:=s.heap.update l (Obj.mapSeq fun x=>x++items2),toks:=s.toks }):=
 .of_wp fun prog w A R s h=>by
  obtain ⟨hp,g,d,tk,os⟩:=s
  obtain ⟨hl,hb,h⟩:=h
  have f1:=AutoSeq1.idx_int
  have f2:=AutoSeq1.sub_tuple_tuple
  have f3:=AutoSeq1.sub_list_list
  have f4:=AutoSeq1.sub_tuple_list
  have f5:=AutoSeq1.sub_list_tuple
  have hz':(items++items2).size≤sizeLine + 1:=by rw [Array.size_append]; exact hs2
  wp_walk using (wpAny_updateSeq hl rfl (hz:=hc1) (_hz':=hz')),wpAny_loadPart' hl,wpAny_loadPart' hb
  exact ⟨_,rfl,h⟩
section
variable {X:Cx}
theorem B6:MtM X "list.extend" (fun x vs H Q=>∃ l b xs zs,x=.ref l∧vs=[.ref b]∧H l=some (.lst xs)∧SqL X.K H b zs∧xs.length + zs.length≤sizeLine∧Q .non (upd H l (.lst (xs++zs)))):=by
 intro pins s σ H x vs v us Q I rx rv h
 obtain ⟨l,b,xs,zs,rfl,rfl,hH,hB,hz,q⟩:=h
 cases rx
 obtain ⟨u,rfl,ru⟩:=rv.one
 cases ru
 obtain ⟨z,its,n,r,hl,e⟩:=I.lstM hH
 obtain ⟨its2,r2,pl,_⟩:=I.list hB
 obtain ⟨⟨cls2,dd2,data2,sl2⟩,n2,e2,c2,_,d2⟩:=pl
 simp only at c2 d2
 subst c2 d2
 have hl2:=r2.length
 have hsz:its.toArray.size + its2.toArray.size≤sizeLine:=by rw [List.size_toArray,List.size_toArray]; omega
 have hlong:¬ (!its.toArray.isEmpty && Builtin.List.listTooLong (its.toArray.size + its2.toArray.size))=true:=by
  rw [zq hsz,Bool.and_false]
  exact Bool.false_ne_true
 refine call_meets F.slot_list_extend ⟨_,e,rfl⟩ F.entry_list_extend (F.args_list_extend_2 _ _)
  (yp l its.toArray n b its2.toArray n2 dd2 sl2 hlong (by rw [List.size_toArray]; omega) (by omega)) ⟨e,e2,?_⟩
 refine ⟨.non,_,I.lset (its':=its++its2) hH e (by simp) (r.append r2) ?_,rfl,q⟩
 rw [List.length_append]
 omega
variable {pos:Pos} {e:Expr} {fe:FE}
def jE (i:Nat) (f:FE):FS:=fun ρ T=>bnd (f ρ T) fun w T1=>match w,ρ[i]? with
 | .d (.list ys),some (some (.loc (.list xs)))=>if xs.length + ys.length≤sizeLine then some ((.nx,ρ.set i (some (.loc (.list (xs++ys))))),T1) else none
 | _,_=>none
theorem Cv {i:Nat} {x:Str} {p apos:Pos} (he:DE X e fe) (hN:X.N[i]? = some x:=by rfl) (hv:Vis X.env.scope x:=by first | exact Or.inl rfl | exact Or.inr (Or.inl rfl) | exact Or.inr (Or.inr rfl)) (hd:(x == ("__debug__" : Str))=false:=by decide)
  (hcd:(x == ("__classdict__" : Str))=false:=by decide) {cpos:Pos}
  (hbase:attributeBase (.Name x p) "extend" X.env (eval (.Name x p) X.env)=eval (.Name x p) X.env:=by rfl)
  (hfew:((backTo cpos (starEach [e] X.env)).all (fun x=>!x.1) && (backToKw cpos (keywordEach [] X.env)).all (fun x=>x.1.isSome)
   && decide (([e]:List Expr).length + ([]:List Keyword).length + (if ([]:List Keyword).isEmpty then 0 else 1) < 30))=true:=by exact oy rfl)
  (hline:(apos.endLine == cpos.line)=true:=by rfl) (hse:starEach [e] X.env=(false,eval e X.env)::starEach [] X.env:=by exact bb rfl) (hplain:(backTo cpos (starEach [] X.env)).any (·.1)=false:=by exact bF rfl)
  (hs:swapsWith (.Call (.Attribute (.Name x p) "extend" apos) [e] [] cpos) none pos.line X.env=pure false:=by rfl) :
  DS X (.Expr (.Call (.Attribute (.Name x p) "extend" apos) [e] [] cpos) pos) (jE i fe):=by
 refine ⟨?_⟩
 refine bW (gE (gR PySem.F.plainAttrs_list PySem.F.slot_list_extend PySem.F.type_list_extend B6 (pv i hN hv hd hcd) (aU he.pe bx hse) hbase hfew hline hse hplain) hs) fun D σ H=>?_
 rintro ⟨O₀,H₀,F,ts,O,ρ,T,fl,ρ',T',rs,e,q⟩
 obtain ⟨w,T1,e1,e⟩:=aC e
 split at e
 ·rename_i ys xs h1
  split at e
  ·rename_i h2
   cases e
   obtain ⟨v,k1,a,rfl,k2,k3,vs,k4,k5⟩:=rs.re i _ h1
   refine ⟨_,k1,.inl ⟨rfl,vs,SqL.of k4⟩,O,ts,ρ,T,_,_,rs.hc,rs.re,e1,fun u H1 s1 hc1 r1=>?_⟩
   have rs1:=rs.step s1 hc1
   have r1':Rep X.K O H1 u (.list ys):=r1
   cases r1' with
   | lst t r=>
    rename_i b us
    exact ⟨a,b,vs,us,rfl,rfl,s1 _ _ k3 k4,t.sq,by rw [k5.length,r.length]; exact h2,q O _ _ (rs1.put (us:=[]) h1 k1 ((k5.mono (rs.hc.le s1)).append r))⟩
  ·cases e
 ·cases e
end
def cG (B:List (Str×Int)):List (Str×PyProof.Rows.KTD.Dat):=B.map fun p=>(p.1,.flat (.int p.2))
def jJ (K:Frag) (mg:Str→Option Value) (x:Str) (B:List (Str×Int)):Prop:=∃ a,mg x=some (.ref a)∧PyProof.Rows.KTD.tabLook (PyProof.Rows.KTD.datLooks fun b=>K.lookup b) (fun b=>K.lookup b) a (cG B)=true
def inT (B:List (Str×Int)):PyData→Option PyData
 | .str s=>some (.bool (B.any fun p=>decide (s=p.1)))
 | _=>none
def atT (B:List (Str×Int)):PyData→Option PyData
 | .str s=>(B.find? fun p=>decide (s=p.1)).map fun p=>.int p.2
 | _=>none
theorem lO (s:Str):∀ B:List (Str×Int),PyProof.Rows.KTD.inKeys s (cG B)=B.any fun p=>decide (s=p.1)
 | []=>rfl
 | (x,d)::B=>by
  show (decide (s=x) || PyProof.Rows.KTD.inKeys s (cG B))=_
  rw [lO s B]
  rfl
theorem qf (s:Str):∀ B:List (Str×Int),PyProof.Rows.KTD.datumAt s (cG B)=(B.find? fun p=>decide (s=p.1)).map fun p=>.flat (.int p.2)
 | []=>rfl
 | (x,d)::B=>by
  show (if decide (s=x)=true then some _ else PyProof.Rows.KTD.datumAt s (cG B))=_
  rw [qf s B,List.find?_cons]
  cases decide (s=x) <;> rfl
section
variable {X:Cx} {pos:Pos} {e:Expr} {f:FE} {x:Str} {p:Pos} {B:List (Str×Int)}
theorem qc {h:Heap} {P:Value→Prop} {s:Str}:∀ {B:List (Str×Int)} {d:Str×Int},(B.find? fun p=>decide (s=p.1))=some d→(∀ t,P (.int d.2 t))→PyProof.Rows.KTD.EachL h s P (cG B)
 | [],d,e,_=>by cases e
 | (x,i)::B,d,e,hp=>by
  rw [List.find?_cons] at e
  by_cases hx:s=x
  ·have:decide (s=x)=true:=decide_eq_true hx
   simp only [this] at e
   cases e
   exact PyProof.Rows.KTD.eachL_hit hx (PyProof.Rows.KTD.opened_int hp)
  ·have:decide (s=x)=false:=decide_eq_false hx
   simp only [this] at e
   exact PyProof.Rows.KTD.eachL_miss hx (qc e hp)
theorem BW {a:Addr} (hl:PyProof.Rows.KTD.tabLook (PyProof.Rows.KTD.datLooks fun b=>X.K.lookup b) (fun b=>X.K.lookup b) a (cG B)=true):OpR X (compareOp .In) (fun x y H Q=>∃ s,x=.str s∧y=.ref a∧Q (.bl (B.any fun p=>decide (s=p.1))) H):=by
 intro pins s σ H x y v u Q I rx ry h
 obtain ⟨z,rfl,rfl,q⟩:=h
 obtain ⟨t,rfl⟩:=rx
 cases ry
 refine PyProof.Rows.KTD.in_text (h₀:=s.heap) ⟨PySem.W.kt_text_in I.kIn hl,fun _ _ e=>e⟩ ?_
 rw [lO]
 exact ⟨.bl _,H,I.tok _,rfl,q⟩
theorem Cs (ht:jJ X.K X.mg x B) (hg:Gl X x) (he:DE X e f) (hd:(x == ("__debug__" : Str))=false:=by decide) (hm:behindInMarks .In (.Name x p)=false:=by first | exact kF _ | with_unfolding_all rfl):DT X (.Compare e [.In] [.Name x p] pos) (av (fUn (inT B) f)):=by
 obtain ⟨a,hx,hl⟩:=ht
 refine ⟨?_⟩
 refine ir (mC (BW hl) he.pe (cB (v:=.ref a) hg hx rfl hd) hm) fun σ H Q h=>?_
 have h:=jX h
 revert h
 rintro ⟨O,ts,ρ,T,w,T',hc,re,e,q⟩
 obtain ⟨w1,T1,e1,e⟩:=aC e
 obtain ⟨x,d,h1,h3,rfl,rfl⟩:=gH e
 refine ⟨O,ts,ρ,T,w1,T',hc,re,e1,fun v1 H1 s1 hc1 r1=>?_⟩
 have vw:=hc1.view r1 h1
 unfold inT at h3
 split at h3
 ·cases h3
  cases vw.str
  exact ⟨_,rfl,rfl,q _ H1 s1 hc1 (.bl _)⟩
 ·cases h3
theorem Ca {a:Addr} (hl:PyProof.Rows.KTD.tabLook (PyProof.Rows.KTD.datLooks fun b=>X.K.lookup b) (fun b=>X.K.lookup b) a (cG B)=true):IxR X (fun x y H Q=>∃ s p,x=.ref a∧y=.str s∧(B.find? fun p=>decide (s=p.1))=some p∧Q (.int p.2) H):=by
 intro value slice pins s σ H x y v u Q I rx ry h hs
 obtain ⟨z,d,rfl,rfl,hf,q⟩:=h
 obtain ⟨t,rfl⟩:=ry
 cases rx
 have hk:PyProof.Rows.KTD.inKeys z (cG B)=true:=by
  rw [← PyProof.Rows.KTD.isSome_datumAt,qf,hf]
  rfl
 have hp:((cG B).all fun p=>PyProof.Rows.KTD.plain p.2)=true:=by
  rw [List.all_eq_true]
  intro p hp
  obtain ⟨q,_,rfl⟩:=List.mem_map.mp hp
  rfl
 exact PyProof.Rows.KTD.item_textA (h₀:=s.heap) ⟨PySem.W.kt_text_in I.kIn hl,fun _ _ e=>e⟩ hp hk (qc hf fun t=>⟨.int d.2,H,I.tok _,⟨t,rfl⟩,q⟩) hs
theorem tM (ht:jJ X.K X.mg x B) (hg:Gl X x) (he:DE X e f) (hd:(x == ("__debug__" : Str))=false:=by decide) (hs:mS e:=by exact fun _ _=>rfl):DE X (.Subscript (.Name x p) e pos) (fUn (atT B) f):=by
 obtain ⟨a,hx,hl⟩:=ht
 refine ⟨?_⟩
 refine pe_imp (nU (Ca hl) (cB (v:=.ref a) hg hx rfl hd) he.pe hs) fun σ H Q=>?_
 rintro ⟨O,ts,ρ,T,w,T',hc,re,e,q⟩
 obtain ⟨w1,T1,e1,e⟩:=aC e
 obtain ⟨x,d,h1,h3,rfl,rfl⟩:=gH e
 refine ⟨O,ts,ρ,T,w1,T',hc,re,e1,fun v1 H1 s1 hc1 r1=>?_⟩
 have vw:=hc1.view r1 h1
 unfold atT at h3
 split at h3
 ·obtain ⟨p,hp,rfl⟩:=Option.map_eq_some_iff.mp h3
  cases vw.str
  exact ⟨_,p,rfl,rfl,hp,q _ H1 s1 hc1 (.int _)⟩
 ·cases h3
end
end D
namespace L2
open PySem PySem.Spec PyProof.Rows
open K1 (iV gX)
section
variable {prog:Program} {w:World} {A:Around} {R:Result→Shared→Prop} {it S:Addr} {fp wr:List Addr} {P:Nat→Value→Prop} {St:Nat→Heap→Prop} {ns:List Int} {kw:List (Str×Value)}
end
section
variable {X:Cx}
end
end L2
namespace D
open PySem PySem.Spec PyProof.Rows L2
section
variable {X:Cx} {pos:Pos} {e:Expr} {f:FE} {x:Str} {p:Pos}
def lG (B:List (Str×Int)):PyData→Option PyData
 | .str s=>some (.bool (!B.any fun p=>decide (s=p.1)))
 | _=>none
variable {B:List (Str×Int)}
theorem AC {a:Addr} (hl:PyProof.Rows.KTD.tabLook (PyProof.Rows.KTD.datLooks fun b=>X.K.lookup b) (fun b=>X.K.lookup b) a (cG B)=true):OpR X (compareOp .NotIn) (fun x y H Q=>∃ s,x=.str s∧y=.ref a∧Q (.bl (!B.any fun p=>decide (s=p.1))) H):=by
 intro pins s σ H x y v u Q I rx ry h
 obtain ⟨z,rfl,rfl,q⟩:=h
 obtain ⟨t,rfl⟩:=rx
 cases ry
 refine PyProof.Rows.KTD.notin_text (h₀:=s.heap) ⟨PySem.W.kt_text_in I.kIn hl,fun _ _ e=>e⟩ ?_
 rw [lO]
 exact ⟨.bl _,H,I.tok _,rfl,q⟩
theorem A8 (ht:jJ X.K X.mg x B) (hg:Gl X x) (he:DE X e f) (hd:(x == ("__debug__" : Str))=false:=by decide) (hm:behindInMarks .NotIn (.Name x p)=false:=by first | exact kF _ | with_unfolding_all rfl):DT X (.Compare e [.NotIn] [.Name x p] pos) (av (fUn (lG B) f)):=by
 obtain ⟨a,hx,hl⟩:=ht
 refine ⟨?_⟩
 refine ir (mC (AC hl) he.pe (cB (v:=.ref a) hg hx rfl hd) hm) fun σ H Q h=>?_
 have h:=jX h
 revert h
 rintro ⟨O,ts,ρ,T,w,T',hc,re,e,q⟩
 obtain ⟨w1,T1,e1,e⟩:=aC e
 obtain ⟨x,d,h1,h3,rfl,rfl⟩:=gH e
 refine ⟨O,ts,ρ,T,w1,T',hc,re,e1,fun v1 H1 s1 hc1 r1=>?_⟩
 have vw:=hc1.view r1 h1
 unfold lG at h3
 split at h3
 ·cases h3
  cases vw.str
  exact ⟨_,rfl,rfl,q _ H1 s1 hc1 (.bl _)⟩
 ·cases h3
def jY:List Value→List Str→Bool
 | [],[]=>true
 | .str x _::r,y::s=>decide (x=y) && jY r s
 | _,_=>false
def ia (look:Addr→Option Obj) (a:Addr) (ss:List Str):Bool:=match look a with
 | some ⟨.type n,_,.seq its _,_⟩=>decide (n = "tuple") && jY its.toList ss
 | _=>false
def vg (K:Frag) (mg:Str→Option Value) (x:Str) (ss:List Str):Prop:=∃ a,mg x=some (.ref a)∧ia (fun b=>K.lookup b) a ss=true
theorem pL:∀ {vs:List Value} {ss:List Str},jY vs ss=true→Vals (ss.map V.str) vs
 | [],[],_=>.nil
 | .str x t::r,y::s,h=>by
  have h':(decide (x=y) && jY r s)=true:=h
  rw [Bool.and_eq_true] at h'
  exact .cons ⟨t,by rw [of_decide_eq_true h'.1]⟩ (pL h'.2)
theorem lS {K:Frag} {O:Addr→Prop} {H:Hp}:∀ ss:List Str,Reps K O H (ss.map V.str) (ss.map PyData.str)
 | []=>.nil
 | x::r=>.cons (.str x) (lS r)
theorem zO {ss:List Str} (hg:Gl X x) (ht:vg X.K X.mg x ss) (hz:ss.length≤sizeLine:=by decide) (hd:(x == ("__debug__" : Str))=false:=by decide):DE X (.Name x p) (fC (.tuple (ss.map PyData.str))):=by
 obtain ⟨a,hx,hl⟩:=ht
 refine ⟨?_⟩
 refine pe_imp (cB (v:=.ref a) hg hx rfl hd) (gJ fun O H=>?_)
 unfold ia at hl
 split at hl
 ·rename_i n dd its c sl hk
  rw [Bool.and_eq_true] at hl
  have rv:=pL hl.2
  have hn:=of_decide_eq_true hl.1
  subst hn
  refine .tup (vs:=ss.map V.str) (.inr (.inr ⟨_,its,c,hk,rfl,rfl,?_,rv⟩)) (lS ss)
  have:=rv.length
  rw [List.length_map] at this
  have e2:its.toList.length=its.size:=Array.length_toList
  omega
 ·cases hl
def lz (a:Addr) (o:Obj) (B:List (Str×Int)):Bool:=PyProof.Rows.KTD.tabLook (PyProof.Rows.KTD.datLooks fun _=>none) (fun _=>some o) a (cG B)
theorem pP {g g':Addr→Option Obj}:∀ (es:List DictEntry) (B:List (Str×Int)),PyProof.Rows.KTD.rowsLook (PyProof.Rows.KTD.datLooks g) es (cG B)=PyProof.Rows.KTD.rowsLook (PyProof.Rows.KTD.datLooks g') es (cG B)
 | [],[]=>rfl
 | [],(_,_)::_=>rfl
 | _::_,[]=>rfl
 | e::es,(x,i)::B=>by
  have ih:=pP (g:=g) (g':=g') es B
  unfold cG at ih ⊢
  rw [List.map_cons]
  unfold PyProof.Rows.KTD.rowsLook
  rw [ih]
  rfl
theorem pI {K:Frag} {a:Addr} {o:Obj} (h:K.lookup a=some o) (g:lz a o B=true):PyProof.Rows.KTD.tabLook (PyProof.Rows.KTD.datLooks fun b=>K.lookup b) (fun b=>K.lookup b) a (cG B)=true:=by
 unfold lz PyProof.Rows.KTD.tabLook at g
 unfold PyProof.Rows.KTD.tabLook
 dsimp only at g ⊢
 rw [h]
 rw [← g]
 dsimp only
 cases o.data <;> first | rfl | (dsimp only; rw [pP (g':=fun _=>none)])
def oi (o:Obj) (ss:List Str):Bool:=ia (fun _=>some o) 0 ss
theorem xY {K:Frag} {a:Addr} {o:Obj} {ss:List Str} (h:K.lookup a=some o) (g:oi o ss=true):ia (fun b=>K.lookup b) a ss=true:=by
 unfold oi ia at g
 unfold ia
 dsimp only
 rw [h]
 exact g
end
mutual
def dW:PyData→Bool
 | .tuple ds=>fW ds
 | .list _=>false
 | .dict _=>false
 | _=>true
def fW:List PyData→Bool
 | []=>true
 | d::r=>dW d && fW r
end
section
variable {K:Frag} {O:Addr→Prop} {H:Hp}
theorem TupAt.own (hm:∀ b,O b→Mut (H b)) {a:Addr} {vs:List V} (t:TupAt K (fun _=>False) H a vs):TupAt K O H a vs:=by
 rcases t with ⟨_,t⟩ | t
 ·refine .inl ⟨fun z=>?_,t⟩
  rcases hm a z with ⟨us,e⟩ | ⟨us,e⟩ | ⟨C,dx,us,e⟩ <;> rcases t with t | ⟨o,t⟩ <;> (rw [e] at t; cases t)
 ·exact .inr t
mutual
theorem Rep.own (hm:∀ b,O b→Mut (H b)):∀ {v:V} {d:PyData},Rep K (fun _=>False) H v d→dW d=true→Rep K O H v d
 | _,_,.non,_=>.non
 | _,_,.bl b,_=>.bl b
 | _,_,.int i,_=>.int i
 | _,_,.str x,_=>.str x
 | _,_,.tup t r,h=>.tup (t.own hm) (Reps.own hm r (by simpa [dW] using h))
 | _,_,.lst t r,h=>by simp [dW] at h
 | _,_,.dct n t r,h=>by simp [dW] at h
theorem Reps.own (hm:∀ b,O b→Mut (H b)):∀ {vs:List V} {ds:List PyData},Reps K (fun _=>False) H vs ds→fW ds=true→Reps K O H vs ds
 | _,_,.nil,_=>.nil
 | _,_,.cons (d:=d) (ds:=ds) r t,h=>by
  have h':(dW d && fW ds)=true:=by simpa [fW] using h
  rw [Bool.and_eq_true] at h'
  exact .cons (Rep.own hm r h'.1) (Reps.own hm t h'.2)
end
end
def bq (ds:List (PyData×PyData)) (s:Str):Option PyData:=match ds with
 | []=>none
 | (.str k,d)::r=>if k=s then some d else bq r s
 | _::r=>bq r s
theorem gD {K:Frag} {O:Addr→Prop} {H:Hp} {s:Str}:∀ {kvs:List (Key×V)} {ds:List (PyData×PyData)},RepK K O H kvs ds→(bq ds s=none∧aZ kvs (Sum.inr s:Key)=none)∨∃ v d,bq ds s=some d∧aZ kvs (Sum.inr s:Key)=some v∧Rep K O H v d
 | _,_,.nil=>.inl ⟨rfl,rfl⟩
 | _,_,.cons (k:=.inl i) (v:=v) (d:=d) (kvs:=kvs) (ds:=ds) r t=>by
  have e:aZ (((Sum.inl i:Key),v)::kvs) (Sum.inr s:Key)=aZ kvs (Sum.inr s:Key):=by simp [aZ,List.find?_cons]
  rw [e]
  show (bq ds s=none∧_)∨∃ v d,bq ds s=some d∧_
  exact gD (s:=s) t
 | _,_,.cons (k:=.inr k) (v:=v) (d:=d) (kvs:=kvs) (ds:=ds) r t=>by
  by_cases hk:k=s
  ·subst hk
   exact .inr ⟨v,d,by show (if k=k then some d else bq ds k)=some d; rw [if_pos rfl],by simp [aZ,List.find?_cons],r⟩
  ·have e:aZ (((Sum.inr k:Key),v)::kvs) (Sum.inr s:Key)=aZ kvs (Sum.inr s:Key):=by simp [aZ,List.find?_cons,hk]
   have e2:bq ((cW (Sum.inr k:Key),d)::ds) s=bq ds s:=by show (if k=s then some d else bq ds s)=_; rw [if_neg hk]
   rw [e,e2]
   exact gD (s:=s) t
theorem DGet.rd {H:Hp} {a:Addr} {kvs:List (Key×V)} {k:Key} (e:Rd H a (.dK kvs)):DGet H a (kV k) (aZ kvs k):=.inl ⟨kvs,k,e,rfl,rfl⟩
section
variable {X:Cx} {pos:Pos} {k:Nat}
theorem jo {k:Nat} {A:Around} (hr:Room k A):A.units + 1 < cLine:=by have:=hr.un; omega
end
section
variable {K:Frag} {O₀:Addr→Prop} {H₀:Hp} {F:List ((Addr→Prop)×Hp)} {ts:List Addr} {O:Addr→Prop} {H H1:Hp} {σ:L2.St} {ρ:Rho} {T T1:Tp}
end
section
variable {X:Cx} {pos:Pos}
def eh (ds:List (PyData×PyData)) (s:Str) (x:PyData):List (PyData×PyData):=match ds with
 | []=>[]
 | (.str k,d)::r=>if k=s then (.str k,x)::eh r s x else (.str k,d)::eh r s x
 | p::r=>p::eh r s x
theorem lU {K:Frag} {O:Addr→Prop} {H:Hp} {s:Str} {v:V} {x:PyData} (rx:Rep K O H v x):∀ {kvs:List (Key×V)} {ds:List (PyData×PyData)},RepK K O H kvs ds→RepK K O H (kvs.map fun kv=>if kv.1=(Sum.inr s:Key) then (kv.1,v) else kv) (eh ds s x)
 | _,_,.nil=>.nil
 | _,_,.cons (k:=.inl i) r t=>by
  rw [List.map_cons]
  rw [if_neg (by intro z; cases z)]
  exact .cons (k:=.inl i) r (lU rx t)
 | _,_,.cons (k:=.inr k) (v:=u) (d:=d) (kvs:=kvs) (ds:=ds) r t=>by
  rw [List.map_cons]
  have ih:=lU (s:=s) rx t
  show RepK K O H _ (if k=s then (.str k,x)::eh ds s x else (.str k,d)::eh ds s x)
  by_cases hk:k=s
  ·rw [if_pos hk,if_pos (by rw [hk])]
   exact .cons (k:=.inr k) rx ih
  ·rw [if_neg hk,if_neg (fun z=>hk (Sum.inr.inj z))]
   exact .cons (k:=.inr k) r ih
theorem hU {K:Frag} {O:Addr→Prop} {H:Hp}:∀ {kvs:List (Key×V)} {ds:List (PyData×PyData)},RepK K O H kvs ds→kvs.length=ds.length
 | _,_,.nil=>rfl
 | _,_,.cons _ t=>congrArg (· + 1) (hU t)
theorem xT {kvs:List (Key×V)} {k:Key} (h:(aZ kvs k).isSome=true):(kvs.any fun kv=>decide (kv.1=k))=true:=by
 unfold aZ at h
 rw [Option.isSome_map] at h
 rw [List.any_eq_true]
 obtain ⟨p,hp⟩:=Option.isSome_iff_exists.mp h
 exact ⟨p,List.mem_of_find?_eq_some hp,by have:=List.find?_some hp; simpa using this⟩
end
section
variable {X:Cx} {pos:Pos} {e:Expr} {f:FE} {x:Str} {p:Pos} {B:List (Str×Str)}
def g6 (i j:Nat) (f:FE):FS:=fun ρ T=>bnd (f ρ T) fun w T1=>match w with
 | .d (.tuple [x,y])=>some ((.nx,(ρ.set i (some (.d x))).set j (some (.d y))),T1)
 | _=>none
theorem Ct {i j:Nat} {y:Str} {k:Nat} {px py tp:Pos} (hN:X.N.Nodup) (he:DE X e f) (hi:X.N[i]? = some x:=by rfl) (hj:X.N[j]? = some y:=by rfl) (hx:Loc X.env.scope x:=by first | exact Or.inl rfl | exact Or.inr rfl) (hy:Loc X.env.scope y:=by first | exact Or.inl rfl | exact Or.inr rfl)
  (hf:X.fn x=true∨X.env.scope.names.lookup x=some .local:=by first | exact .inl rfl | exact .inr rfl | assumption) (hf':X.fn y=true∨X.env.scope.names.lookup y=some .local:=by first | exact .inl rfl | exact .inr rfl | assumption) (hc:X.calm=true:=by rfl)
  (hs:swapsWithSole [.Tuple [.Name x px,.Name y py] k tp] e pos.line X.env=pure false:=by rfl) (hw:swappedStores [.Tuple [.Name x px,.Name y py] k tp] e X.env=pure none:=by rfl)
  (h1:(assignEach [.Tuple [.Name x px,.Name y py] k tp] X.env).map (·.2)=[assign (.Tuple [.Name x px,.Name y py] k tp) X.env]:=by rfl):DS X (.Assign [.Tuple [.Name x px,.Name y py] k tp] e pos) (g6 i j f):=by
 refine ⟨?_⟩
 refine bW (sS he.pe (BK hc (qF (mD hN hi hx hf) (qF (mD hN hj hy hf') Au))) hs hw h1) fun D σ H=>?_
 rintro ⟨O₀,H₀,F,ts,O,ρ,T,fl,ρ',T',rs,e,q⟩
 obtain ⟨w,T1,e1,e⟩:=aC e
 refine ⟨O,ts,ρ,T,w,T1,rs.hc,rs.re,e1,fun v H1 s1 hc1 r1=>?_⟩
 split at e
 ·rename_i a b
  cases e
  have rs1:=rs.step s1 hc1
  have r1':Rep X.K O H1 v (.tuple [a,b]):=r1
  cases r1' with
  | tup t r=>
   cases r with
   | cons ra r=>
    cases r with
    | cons rb r=>
     cases r
     exact ⟨_,_,rfl,t.sq,rfl,_,_,rfl,_,_,rfl,rfl,q O _ _ ((rs1.set (w:=.d a) ra fun _ z=>nomatch z).set (w:=.d b) rb fun _ z=>nomatch z)⟩
 ·cases e
end
section
variable {K:Frag} {O:Addr→Prop} {ts:List Addr} {H H':Hp} {T:Tp} {n:Nat} {a C:Addr} {ps:List PyData}
end
section
variable {X:Cx} {C:Addr} {o e:Expr} {f m:Str} {pos pos' apos:Pos} {fo fe:FE}
structure Mth (P:Program) (w:World) (K:Frag) (mg:Str→Option Value) (base:Heap) (C:Addr) (m:Str) (ps:List Str) (k:Nat) (sp:Sp):Prop where
 ex:∃ f fd,FnOk P w K mg base CX0 k f fd ps sp∧Binds K fd ps []∧Meth K C m f
variable {ps:List Str} {k:Nat} {mm:FnM} {g:FA} {es:List Expr} {pl:Sem Bool}
def fj:FS:=fun _ _=>none
theorem gF {st:Stmt}:DS X st fj:=⟨fun _ _ _ _ _ _ h=>by
 obtain ⟨O₀,H₀,F,ts,O,ρ,T,fl,ρ',T',rs,e,q⟩:=h
 cases e⟩
end
def nX (T:Tp):Option (Tp×List PyData):=match T.getLast? with
 | some xs=>some (T.dropLast,xs)
 | none=>none
theorem zw {T T1:Tp} {ys:List PyData} (h:nX T=some (T1,ys)):T=T1++[ys]:=by
 unfold nX at h
 split at h
 ·rename_i xs e
  cases h
  obtain ⟨zs,hl⟩:=List.getLast?_eq_some_iff.mp e
  rw [hl]
  simp
 ·cases h
section
variable {X:Cx} {C f:Addr} {e:Expr} {fe:FE} {fr:FS} {rest:List Stmt} {cn x:Str} {p pos pos' cpos:Pos} {ps:List Str} {k i:Nat} {m:FnM} {fd:FuncData}
end
end D
namespace L2
open PySem PySem.Spec PyProof.Rows
section
variable {X:Cx}
end
end L2
namespace D
open PySem PySem.Spec PyProof.Rows L2
section
variable {X:Cx} {pos:Pos}
structure Ini (P:Program) (w:World) (K:Frag) (mg:Str→Option Value) (base:Heap) (C:Addr) (ps:List Str) (k:Nat) (sp:Sp):Prop where
 ex:∃ f fd,FnOk P w K mg base CX0 k f fd ps sp∧L2.Binds K fd ps []∧Mk K C f
structure DfM (K:Frag) (C:Addr) (name qual:Str) (st:Stmt):Prop where
 ex:∃ (f:Addr) (oc:Value) (od an:Option Addr) (sl:Array (Option Value)) (kV dc pm cd ct:Value),PySem.W.findIn K (.ref C) name=some (some (.ref f)) ∧
  K.lookup f=some ⟨oc,od,.func (PySem.W.fnOf name qual (dC st) (bV st) (aE st) .none kV dc pm an cd ct),sl⟩∧PySem.W.codeIn K cd qual=true∧PySem.W.keepIn K (.ref f)=true∧PySem.W.isFn K (.ref f)=true
theorem Cy {K:Frag} {C:Addr} {name qual:Str} {st:Stmt} {f:Addr} {oc:Value} {od an:Option Addr} {sl:Array (Option Value)} {kV dc pm cd ct:Value} (a:PySem.W.findIn K (.ref C) name=some (some (.ref f)))
  (l:K.lookup f=some ⟨oc,od,.func (PySem.W.fnOf name qual (dC st) (bV st) (aE st) .none kV dc pm an cd ct),sl⟩) (c:PySem.W.codeIn K cd qual=true) (k:PySem.W.keepIn K (.ref f)=true) (n:PySem.W.isFn K (.ref f)=true):DfM K C name qual st:=⟨f,oc,od,an,sl,kV,dc,pm,cd,ct,a,l,c,k,n⟩
theorem pG {P:Program} {w:World}:∀ {kvs:List (Key×V)} {vs:List (Key×Value)} {us:List Value},KV kvs vs→us.length=vs.length→(∀ (j:Nat) (v:Value),us[j]? = some v→∃ k x,vs[j]? = some (k,x)∧(bh P w).is k v=true)→Vals (kvs.map fun p=>kV p.1) us
 | [],[],[],_,_,_=>.nil
 | _::_,[],_,r,_,_=>by cases r
 | [],_::_,_,r,_,_=>by cases r
 | _,[],_::_,_,h,_=>by simp at h
 | _,_::_,[],_,h,_=>by simp at h
 | (k,v)::kvs,(k',x)::vs,u::us,r,h,f=>by
  cases r with
  | cons r1 r2=>
   refine .cons ?_ (pG (P:=P) (w:=w) r2 (by simpa using h) fun j v e=>?_)
   ·obtain ⟨k2,x2,e2,e3⟩:=f 0 u rfl
    cases e2
    have:k=k':=r1.1
    subst this
    exact keyV e3
   ·obtain ⟨k2,x2,e2,e3⟩:=f (j + 1) v (by simpa using e)
    exact ⟨k2,x2,by simpa using e2,e3⟩
theorem vY (hcm:X.calm=true):CallR X (.type "list") (fun xs H Q=>∃ a kvs,xs=[V.ref a]∧Rd H a (.dK kvs)∧∀ l,H l=none→Q (.ref l) (upd H l (.lst (kvs.map fun p=>kV p.1)))):=by
 intro pins s σ H xs us Q I r h
 obtain ⟨a,kvs,rfl,ha,q⟩:=h
 obtain ⟨u,rfl,ru⟩:=vals1 r
 cases ru
 obtain ⟨z,y,vs,kv,dd⟩:=dD I.hok ha
 obtain ⟨ep,dd⟩:=dd.dictAt
 have hl:=kv.length
 refine PySem.W.kdl_call (PySem.W.kdl_dict (prog:=X.prog) (w:=X.w) (knd:=bh X.prog X.w) (kvs:=vs) (ep:=ep) y) (I.ok.hd hcm) dd (by omega) fun h' tk acc c k1 k2 k3=>?_
 have hv:Vals (kvs.map fun p=>kV p.1) acc.toList:=pG (P:=X.prog) (w:=X.w) kv (by rw [Array.length_toList]; exact k3.1) fun j v e=>k3.2 j v (by simpa using e)
 have hn:H s.heap.objs.size=none:=I.hok.fresh (Nat.le_refl _)
 exact ⟨.ref s.heap.objs.size,_,I.laid (t':=tk) (o:=.lst (kvs.map fun p=>kV p.1)) k1 (Nat.le_refl _) ⟨by simp; omega,acc.toList,c,hv,by simpa using k2⟩,rfl,q _ hn⟩
def lc (ds:List (PyData×PyData)):List PyData:=ds.map (·.1)
theorem pR {K:Frag} {O:Addr→Prop} {H:Hp} {O':Addr→Prop} {H':Hp}:∀ {kvs:List (Key×V)} {ds:List (PyData×PyData)},RepK K O H kvs ds→Reps K O' H' (kvs.map fun p=>kV p.1) (lc ds)
 | _,_,.nil=>.nil
 | _,_,.cons (k:=k) _ t=>.cons (rF k) (pR t)
def fg:List PyData→Option PyData
 | [.list xs]=>some (.list xs)
 | [.tuple xs]=>some (.list xs)
 | [.dict ds]=>some (.list (lc ds))
 | _=>none
theorem mP (hcm:X.calm=true:=by rfl):fm X (.type "list") fg:=⟨_,call_list_of.or (vY hcm),fun O ts H T vs xs d Q hc h e q=>by
 unfold fg at e
 split at e
 ·cases e
  obtain ⟨v,rfl,g⟩:=du h
  obtain ⟨a,vs,rfl,t,r⟩:=g.lst
  exact .inl ⟨a,vs,rfl,.inl t,fun p hp=>q _ _ (.new hp _) (hc.new hp _) (hc.newL hp r)⟩
 ·cases e
  obtain ⟨v,rfl,g⟩:=du h
  obtain ⟨a,vs,rfl,t,r⟩:=g.tup
  exact .inl ⟨a,vs,rfl,.inr t.sq,fun p hp=>q _ _ (.new hp _) (hc.new hp _) (hc.newL hp r)⟩
 ·cases e
  obtain ⟨v,rfl,g⟩:=du h
  obtain ⟨a,kvs,rfl,t,r⟩:=g.dct
  exact .inr ⟨a,kvs,rfl,t,fun p hp=>q _ _ (.new hp _) (hc.new hp _) (hc.newL hp (pR r))⟩
 ·cases e⟩
end
theorem tf:∀ a b:List Nat,ltCps a b=false→ltCps b a=false→a=b
 | [],[],_,_=>rfl
 | [],_::_,h,_=>by simp [ltCps] at h
 | _::_,[],_,h=>by simp [ltCps] at h
 | x::r,y::t,h,g=>by
  simp [ltCps] at h g
  have:x=y:=by omega
  subst this
  rw [tf r t (by simpa using h) (by simpa using g)]
theorem rR:∀ a b:List Nat,ltCps a b=true→ltCps b a=false
 | [],[],h=>by simp [ltCps] at h
 | [],_::_,_=>rfl
 | _::_,[],h=>by simp [ltCps] at h
 | x::r,y::t,h=>by
  simp [ltCps] at h ⊢
  rcases h with h | h
  ·omega
  ·refine ⟨by omega,fun e=>?_⟩
   exact rR r t h.2
theorem pZ:∀ a b c:List Nat,ltCps b a=false→ltCps c b=false→ltCps c a=false
 | a,[],c,h,g=>by
  cases a with
  | nil=>exact g
  | cons x r=>simp [ltCps] at h
 | [],b,c,h,g=>by cases c <;> rfl
 | x::r,y::t,[],h,g=>by simp [ltCps] at g
 | x::r,y::t,z::u,h,g=>by
  simp [ltCps] at h g ⊢
  refine ⟨by omega,fun e=>?_⟩
  subst e
  by_cases q:z=y
  ·subst q
   exact pZ r t u (h.2 rfl) (g.2 rfl)
  ·exfalso
   omega
def leS (a b:Str):Bool:=!ltCps b.cps.toList a.cps.toList
theorem AM (a b:Str):leS a b=true∨leS b a=true:=by
 unfold leS
 cases h:ltCps b.cps.toList a.cps.toList with
 | false=>exact .inl rfl
 | true=>
  refine .inr ?_
  cases g:ltCps a.cps.toList b.cps.toList with
  | false=>rfl
  | true=>
   exfalso
   have:=rR _ _ h
   rw [g] at this
   cases this
theorem zt {a b:Str} (h:leS a b=true) (g:leS b a=true):a=b:=by
 unfold leS at h g
 have:=tf a.cps.toList b.cps.toList (by simpa using g) (by simpa using h)
 cases a; cases b
 simp at this
 rw [this]
theorem p4 {a b c:Str} (h:leS a b=true) (g:leS b c=true):leS a c=true:=by
 unfold leS at *
 have:=pZ a.cps.toList b.cps.toList c.cps.toList (by simpa using h) (by simpa using g)
 rw [this]; rfl
def gZ (x:Str):List Str→List Str
 | []=>[x]
 | y::r=>if leS x y=true then x::y::r else y::gZ x r
def dU:List Str→List Str
 | []=>[]
 | x::r=>gZ x (dU r)
theorem lW (x:Str):∀ l:List Str,(gZ x l).Perm (x::l)
 | []=>.refl _
 | y::r=>by
  unfold gZ
  split
  ·exact .refl _
  ·exact ((lW x r).cons y).trans (.swap _ _ _)
theorem jK:∀ l:List Str,(dU l).Perm l
 | []=>.refl _
 | x::r=>(lW x _).trans ((jK r).cons x)
theorem oW (x:Str):∀ l:List Str,l.Pairwise (fun a b=>leS a b=true)→(gZ x l).Pairwise (fun a b=>leS a b=true)
 | [],_=>by simp [gZ]
 | y::r,h=>by
  obtain ⟨h1,h2⟩:=List.pairwise_cons.mp h
  unfold gZ
  split
  ·rename_i hx
   refine List.pairwise_cons.mpr ⟨fun z hz=>?_,h⟩
   rcases List.mem_cons.mp hz with e | e
   ·rw [e]; exact hx
   ·exact p4 hx (h1 z e)
  ·rename_i hx
   refine List.pairwise_cons.mpr ⟨fun z hz=>?_,oW x r h2⟩
   rcases List.mem_cons.mp ((lW x r).mem_iff.mp hz) with e | e
   ·rw [e]; exact (AM x y).resolve_left hx
   ·exact h1 z e
theorem oO:∀ l:List Str,(dU l).Pairwise (fun a b=>leS a b=true)
 | []=>.nil
 | x::r=>oW x _ (oO r)
theorem oS:∀ {a b:List Str},a.Perm b→a.Pairwise (fun a b=>leS a b=true)→b.Pairwise (fun a b=>leS a b=true)→a=b
 | [],b,p,_,_=>(List.nil_perm.mp p).symm
 | x::r,[],p,_,_=>absurd (List.perm_nil.mp p) (by simp)
 | x::r,y::t,p,h,g=>by
  obtain ⟨h1,h2⟩:=List.pairwise_cons.mp h
  obtain ⟨g1,g2⟩:=List.pairwise_cons.mp g
  have e:x=y:=by
   rcases List.mem_cons.mp (p.mem_iff.mp List.mem_cons_self) with e | e
   ·exact e
   ·rcases List.mem_cons.mp (p.mem_iff.mpr List.mem_cons_self) with e' | e'
    ·exact e'.symm
    ·exact zt (h1 y e') (g1 x e)
  subst e
  rw [oS (List.perm_cons _ |>.mp p) h2 g2]
theorem pQ:∀ (x:Str) (l:List Str),risingS x l=true→(x::l).Pairwise (fun a b=>leS a b=true)
 | x,[],_=>by simp
 | x,y::r,h=>by
  have h':leS x y=true∧risingS y r=true:=by
   unfold leS
   simpa [risingS] using h
  have ih:=pQ y r h'.2
  refine List.pairwise_cons.mpr ⟨fun z hz=>?_,ih⟩
  rcases List.mem_cons.mp hz with e | e
  ·rw [e]; exact h'.1
  ·exact p4 h'.1 ((List.pairwise_cons.mp ih).1 z e)
theorem xf {l:List Str} (h:sortedS l=true):l.Pairwise (fun a b=>leS a b=true):=by
 cases l with
 | nil=>exact .nil
 | cons x r=>exact pQ x r h
theorem qt:∀ {ss:List Str} {us:List Value},Vals (ss.map V.str) us→StrsAre us ss
 | [],_,h=>by cases h; exact .nil
 | x::r,_,h=>by
  cases h with
  | cons h1 h2=>
   obtain ⟨t,rfl⟩:=h1
   exact .cons x t (qt h2)
theorem o3:∀ {us:List Value} {ss:List Str},StrsAre us ss→Vals (ss.map V.str) us
 | _,_,.nil=>.nil
 | _,_,.cons y t r=>.cons ⟨t,rfl⟩ (o3 r)
section
variable {X:Cx} {pos:Pos}
theorem wY:CallR X (.builtin "sorted") (fun xs H Q=>∃ p ss,xs=[V.ref p]∧SqL X.K H p (ss.map V.str)∧ss.length < 64∧∀ l,H l=none→Q (.ref l) (upd H l (.lst ((dU ss).map V.str)))):=by
 intro pins s σ H xs us Q I r h
 obtain ⟨p,ss,rfl,hq,hlen,q⟩:=h
 obtain ⟨u,rfl,ru⟩:=vals1 r
 cases ru
 obtain ⟨its,rv,pl,hz⟩:=I.list hq
 have hl:its.length=ss.length:=by have:=rv.length; simpa using this.symm
 refine sorted_strs pl.isList (qt rv) (by omega) fun out ss' h1 h2 h3=>?_
 have e:ss'=dU ss:=oS (h2.trans (jK ss).symm) (xf h3) (oO ss)
 subst e
 obtain ⟨ep,he⟩:=sortedAll_at s.heap its out
 have k:∀ b o,s.heap.get? b=some o→(sortedAll s.heap its out).get? b=some o:=fun b o z=>sortedAll_old z
 have hn:H (s.heap.objs.size + 1)=none:=I.hok.fresh (Nat.le_succ _)
 have hlen2:(dU ss).length=ss.length:=(jK ss).length_eq
 exact ⟨.ref (s.heap.objs.size + 1),_,I.laid (t':=s.toks) (o:=.lst ((dU ss).map V.str)) k (Nat.le_succ _) ⟨by simp; exact Nat.le_of_lt (Nat.lt_of_lt_of_le (by omega:(dU ss).length < 64) (by decide)),out.toList,ep,o3 h1,by simpa [seqObj] using he⟩,rfl,q _ hn⟩
def nN (o:Option (List Str)):Option PyData:=match o with
 | some ss=>if ss.length < 64 then some (.list ((dU ss).map .str)) else none
 | none=>none
def kX:List PyData→Option PyData
 | [.list xs]=>nN (fX xs)
 | _=>none
theorem zV:fm X (.builtin "sorted") kX:=⟨_,wY,fun O ts H T vs xs d Q hc h e q=>by
 unfold kX at e
 split at e
 ·rename_i ys
  unfold nN at e
  split at e
  ·rename_i ss hs
   split at e
   ·rename_i hl
    cases e
    obtain ⟨v,rfl,g⟩:=du h
    obtain ⟨a,vs,rfl,t,r⟩:=g.lst
    have:=rz r hs
    subst this
    exact ⟨a,ss,rfl,t,hl,fun p hp=>q _ _ (.new hp _) (hc.new hp _) (hc.newL hp (lS _))⟩
   ·cases e
  ·cases e
 ·cases e⟩
end
theorem yz {prog:Program} {w:World} {A:Around} {E:Value→Shared→Prop} {s:Shared} {Q:Int→Shared→Prop} (h:Q (PySem.reduceHash 4238894112) { s with toks:=s.toks + 1 }):wpAny (model prog w) A (pyHash .none) Q E s:=by
 show wpAny (model prog w) A (pyHashByItsType .none) Q E s
 refine PySem.W.pyHash_slot (T:="NoneType") (by first | rfl | trivial | exact ⟨_,rfl⟩ | simp [Shared.TypeIs]) PySem.F.slot_NoneType_hash PySem.F.entry_NoneType_hash (PySem.F.args_NoneType_hash_1 _) rfl (.inl rfl) ?_
 unfold PySem.Builtin.«NoneType.__hash__»
 refine wpAny_bind ?_
 unfold slotArgs
 simp only []
 rw [if_neg (by decide),if_neg (by decide)]
 refine wpAny_pure ?_
 unfold retInt
 refine wpAny_bind ?_
 first
  | exact wpAny_mkInt (wpAny_pure ⟨_,_,rfl,h⟩)
  | exact wpAny_mkInt (wpAny_ret ⟨_,_,rfl,h⟩)
def uU:Option Key→Value→Bool
 | none,.none=>true
 | none,_=>false
 | some k,v=>dg k v
def okH (w:World):Option Key→Int
 | none=>PySem.reduceHash 4238894112
 | some k=>ow w k
theorem dN {k:Option Key} {v:Value} (h:uU k v=true):(k=none∧v=.none)∨(∃ i t,k=some (.inl i)∧v=.int i t)∨∃ x t,k=some (.inr x)∧v=.str x t:=by
 cases k with
 | none=>cases v <;> first | exact .inl ⟨rfl,rfl⟩ | cases h
 | some k=>
  rcases cQ (show dg k v=true from h) with ⟨i,t,rfl,rfl⟩ | ⟨x,t,rfl,rfl⟩
  ·exact .inr (.inl ⟨i,t,rfl,rfl⟩)
  ·exact .inr (.inr ⟨x,t,rfl,rfl⟩)
theorem qY (k:Key):decide ((none:Option Key)=some k)=false:=decide_eq_false (fun q=>nomatch q)
theorem qe (k:Key):decide (some k=(none:Option Key))=false:=decide_eq_false (fun q=>nomatch q)
theorem jS (a b:Key):decide (some a=some b)=decide (a=b):=by
 by_cases h:a=b
 ·subst h; simp
 ·rw [decide_eq_false h,decide_eq_false (fun q=>h (Option.some.inj q))]
def mF (prog:Program) (w:World):PySem.KeyKind prog w (Option Key) where
 is:=uU
 hash:=okH w
 inj:=fun v a b ha hb=>by
  rcases dN ha with ⟨rfl,rfl⟩ | ⟨i,t,rfl,rfl⟩ | ⟨x,t,rfl,rfl⟩
  ·rcases dN hb with ⟨rfl,_⟩ | ⟨j,u,rfl,e⟩ | ⟨y,u,rfl,e⟩
   ·rfl
   ·exact nomatch e
   ·exact nomatch e
  ·rcases dN hb with ⟨rfl,e⟩ | ⟨j,u,rfl,e⟩ | ⟨y,u,rfl,e⟩
   ·exact nomatch e
   ·injection e with e1 _; rw [e1]
   ·exact nomatch e
  ·rcases dN hb with ⟨rfl,e⟩ | ⟨j,u,rfl,e⟩ | ⟨y,u,rfl,e⟩
   ·exact nomatch e
   ·exact nomatch e
   ·injection e with e1 _; rw [e1]
 byValue:=fun k v h=>by
  rcases dN h with ⟨rfl,rfl⟩ | ⟨i,t,rfl,rfl⟩ | ⟨x,t,rfl,rfl⟩ <;> rfl
 pyHash:=fun hv h=>by
  rcases dN hv with ⟨rfl,rfl⟩ | ⟨i,t,rfl,rfl⟩ | ⟨x,t,rfl,rfl⟩
  ·exact yz h
  ·exact wpAny_pyHash_int h
  ·exact wpAny_pyHash_str h
 eqBool:=fun hu hv h=>by
  rcases dN hu with ⟨rfl,rfl⟩ | ⟨i,t,rfl,rfl⟩ | ⟨x,t,rfl,rfl⟩
  ·rcases dN hv with ⟨rfl,rfl⟩ | ⟨j,u,rfl,rfl⟩ | ⟨y,u,rfl,rfl⟩
   ·rw [show decide ((none:Option Key)=none)=true by simp] at h; exact SeqAt.EqAt.same .none _ _ _ _ h
   ·rw [qY] at h; exact SeqAt.EqAt.none_int j u _ _ _ _ h
   ·rw [qY] at h; exact SeqAt.EqAt.none_str y u _ _ _ _ h
  ·rcases dN hv with ⟨rfl,rfl⟩ | ⟨j,u,rfl,rfl⟩ | ⟨y,u,rfl,rfl⟩
   ·rw [qe] at h; exact SeqAt.EqAt.int_none i t _ _ _ _ h
   ·rw [jS,ni] at h; exact wpAny_eqBool_int h
   ·rw [jS,kL] at h; exact SeqAt.EqAt.int_str i t y u _ _ _ _ h
  ·rcases dN hv with ⟨rfl,rfl⟩ | ⟨j,u,rfl,rfl⟩ | ⟨y,u,rfl,rfl⟩
   ·rw [qe] at h; exact SeqAt.EqAt.str_none x t _ _ _ _ h
   ·rw [jS,kJ] at h; exact SeqAt.EqAt.str_int x t j u _ _ _ _ h
   ·rw [jS,nh] at h; exact wpAny_eqBool_str h
 «strs»:=fun k x t v h=>by
  rcases dN h with ⟨rfl,e⟩ | ⟨i,u,rfl,e⟩ | ⟨y,u,rfl,e⟩
  ·exact nomatch e
  ·exact nomatch e
  ·injection e with e1 _
   subst e1
   cases v <;> rfl
theorem pU {P:Program} {w:World}:∀ {es:List DictEntry} {vs:List (Key×Value)},Pairs (bh P w) es vs→Pairs (mF P w) es (vs.map fun p=>(some p.1,p.2))
 | _,_,.nil=>.nil
 | _,_,.cons h1 h2 t=>.cons h1 h2 (pU t)
theorem zM {P:Program} {w:World} {h:Heap} {a:Addr} {vs:List (Key×Value)} (d:h.DictOf (bh P w) a vs):h.DictOf (mF P w) a (vs.map fun p=>(some p.1,p.2)):=by
 obtain ⟨o,es,ep,e1,e2,e3,e4,e5,e6⟩:=d
 refine ⟨o,es,ep,e1,e2,e3,fun e he=>?_,pU e5,?_⟩
 ·obtain ⟨k,k1,k2⟩:=e4 e he
  exact ⟨some k,k1,k2⟩
 ·rw [List.map_map]
  show (vs.map fun p=>some p.1).Nodup
  have:(vs.map fun p=>some p.1)=(vs.map (·.1)).map some:=by rw [List.map_map]; rfl
  rw [this]
  exact List.pairwise_map.mpr (List.Pairwise.imp (fun h q=>h (Option.some.inj q)) e6)
theorem qo:∀ (vs:List (Key×Value)),valueAt (vs.map fun p=>((some p.1:Option Key),p.2)) none=none
 | []=>rfl
 | p::r=>by
  have:=qo r
  unfold valueAt at this ⊢
  rw [List.map_cons,List.find?_cons]
  simpa using this
section
variable {X:Cx}
theorem xk:OpR X (compareOp .In) (fun x y H Q=>∃ a kvs,x=.non∧y=.ref a∧Rd H a (.dK kvs)∧Q (.bl false) H):=by
 intro pins s σ H x y v u Q I rx ry h
 obtain ⟨a,kvs,rfl,rfl,e,q⟩:=h
 cases (show v=Value.none from rx)
 cases (show u=Value.ref a from ry)
 obtain ⟨z,hd,vs,rel,dd⟩:=dD I.hok e
 refine wpAny_in_of (knd:=mF X.prog X.w) (k:=none) rfl hd (zM dd).mapOf ?_
 rw [qo]
 exact ⟨.bl false,H,I.tok _,rfl,q⟩
theorem BX {k:Nat} (hr:Room k X.A):OpR X (compareOp .In) (fun x y H Q=>∃ a kvs s,x=.str s∧y=.ref a∧Rd H a (.dK kvs)∧Q (.bl (aZ kvs (Sum.inr s:Key)).isSome) H):=by
 intro pins s σ H x y v u Q I rx ry h
 obtain ⟨a,kvs,z,rfl,rfl,e,q⟩:=h
 cases (show u=Value.ref a from ry)
 exact EF (jo hr) I (DGet.rd (k:=Sum.inr z) e) (show RelV (kV (Sum.inr z)) v from rx) fun s' I'=>⟨.bl _,H,I',rfl,q⟩
theorem yh {k:Nat} (hr:Room k X.A):OpR X (compareOp .NotIn) (fun x y H Q=>∃ a kvs s,x=.str s∧y=.ref a∧Rd H a (.dK kvs)∧Q (.bl (!(aZ kvs (Sum.inr s:Key)).isSome)) H):=by
 intro pins s σ H x y v u Q I rx ry h
 obtain ⟨a,kvs,z,rfl,rfl,e,q⟩:=h
 cases (show u=Value.ref a from ry)
 exact sH (jo hr) I (DGet.rd (k:=Sum.inr z) e) (show RelV (kV (Sum.inr z)) v from rx) fun s' I'=>⟨.bl _,H,I',rfl,q⟩
def inK (s:PyData) (ds:List (PyData×PyData)):Option Bool:=match s with
 | .str s=>some (bq ds s).isSome
 | .none=>some false
 | _=>none
def inB (x y:PyData):Option Bool:=match y with
 | .dict ds=>inK x ds
 | y=>inS x y
def inA (x y:PyData):Option PyData:=(inB x y).map .bool
def m8 (x y:PyData):Option PyData:=match x,y with
 | .str s,.dict ds=>some (.bool (!(bq ds s).isSome))
 | _,.dict _=>none
 | x,y=>(inS x y).map fun b=>.bool (!b)
theorem ue {k:Nat} (hr:Room k X.A):OpD X (compareOp .In) inA:=⟨_,(op_in_str.or pW).or ((BX hr).or xk),fun O ts H T v1 v2 x y d Q hc h1 h2 e q=>by
 unfold inA at e
 by_cases hd:∃ ds,y=.dict ds
 ·obtain ⟨ds,rfl⟩:=hd
  obtain ⟨a,kvs,rfl,t,r⟩:=h2.dct
  obtain ⟨b,hb,rfl⟩:=Option.map_eq_some_iff.mp e
  have hb':inK x ds=some b:=hb
  unfold inK at hb'
  split at hb'
  ·rename_i s
   cases hb'
   cases h1.str
   refine .inr (.inl ⟨a,kvs,s,rfl,rfl,t,?_⟩)
   have e:(aZ kvs (Sum.inr s:Key)).isSome=(bq ds s).isSome:=by
    rcases gD (s:=s) r with ⟨z1,z2⟩ | ⟨v,d,z1,z2,_⟩ <;> rw [z1,z2] <;> rfl
   rw [e]
   exact q _ H (.refl _ _) hc (.bl _)
  ·cases hb'
   cases h1.non
   exact .inr (.inr ⟨a,kvs,rfl,rfl,t,q _ H (.refl _ _) hc (.bl _)⟩)
  ·cases hb'
 ·have e':(inS x y).map .bool=some d:=by
   cases y with
   | dict ds=>exact absurd ⟨ds,rfl⟩ hd
   | _=>exact e
  exact .inl (ko false O ts H T v1 v2 x y d Q hc h1 h2 e' q)⟩
theorem zo {k:Nat} (hr:Room k X.A):OpD X (compareOp .NotIn) m8:=⟨_,(op_notin_str.or oP).or (yh hr),fun O ts H T v1 v2 x y d Q hc h1 h2 e q=>by
 by_cases hd:∃ ds,y=.dict ds
 ·obtain ⟨ds,rfl⟩:=hd
  obtain ⟨a,kvs,rfl,t,r⟩:=h2.dct
  cases x with
  | str s=>
   cases e
   cases h1.str
   refine .inr ⟨a,kvs,s,rfl,rfl,t,?_⟩
   have e:(aZ kvs (Sum.inr s:Key)).isSome=(bq ds s).isSome:=by
    rcases gD (s:=s) r with ⟨z1,z2⟩ | ⟨v,d,z1,z2,_⟩ <;> rw [z1,z2] <;> rfl
   rw [e]
   exact q _ H (.refl _ _) hc (.bl _)
  | _=>cases e
 ·have e':((inS x y).map fun b=>.bool (!b))=some d:=by
   cases y with
   | dict ds=>exact absurd ⟨ds,rfl⟩ hd
   | _=>cases x <;> exact e
  exact .inl (ko true O ts H T v1 v2 x y d Q hc h1 h2 e' q)⟩
def ixA (x y:PyData):Option PyData:=match x,y with
 | .dict ds,.str s=>bq ds s
 | .dict _,_=>none
 | x,y=>ixD x y
end
section
variable {X:Cx} {pins:List (Addr×Obj)} {σ:L2.St} {H H2:Hp} {s s2:Shared}
end
inductive Ln (P:Hp→VK→Prop):Hp→VK→Prop where
 | done {H:Hp} {Q:VK}:P H Q→Ln P H Q
 | frz {H:Hp} {Q:VK} {a:Addr} {kvs:List (Key×V)}:H a=some (.dK kvs)→(∀ o,Ln P (upd H a (.frz o (.dK kvs))) (fun v H2=>H2 a=some (.frz o (.dK kvs))∧Q v (upd H2 a (.dK kvs))))→Ln P H Q
section
variable {K:Frag}
theorem TupAt.keep {H H':Hp} (h:∀ b o,H b=some o→(∀ ks,o≠.dK ks)→(∀ ob ks,o≠.frz ob (.dK ks))→H' b=some o) {a:Addr} {vs:List V} (t:TupAt K (fun _=>False) H a vs):TupAt K (fun _=>False) H' a vs:=by
 rcases t with ⟨n,t | ⟨o,t⟩⟩ | t
 ·exact .inl ⟨n,.inl (h _ _ t (fun _ z=>nomatch z) (fun _ _ z=>nomatch z))⟩
 ·exact .inl ⟨n,.inr ⟨o,h _ _ t (fun _ z=>nomatch z) (fun _ _ z=>nomatch z)⟩⟩
 ·exact .inr t
mutual
theorem Rep.keep {H H':Hp} (h:∀ b o,H b=some o→(∀ ks,o≠.dK ks)→(∀ ob ks,o≠.frz ob (.dK ks))→H' b=some o):∀ {v:V} {d:PyData},Rep K (fun _=>False) H v d→dW d=true→Rep K (fun _=>False) H' v d
 | _,_,.non,_=>.non
 | _,_,.bl b,_=>.bl b
 | _,_,.int i,_=>.int i
 | _,_,.str x,_=>.str x
 | _,_,.tup t r,e=>.tup (t.keep h) (Reps.keep h r (by simpa [dW] using e))
 | _,_,.lst t r,e=>by simp [dW] at e
 | _,_,.dct n t r,e=>by simp [dW] at e
theorem Reps.keep {H H':Hp} (h:∀ b o,H b=some o→(∀ ks,o≠.dK ks)→(∀ ob ks,o≠.frz ob (.dK ks))→H' b=some o):∀ {vs:List V} {ds:List PyData},Reps K (fun _=>False) H vs ds→fW ds=true→Reps K (fun _=>False) H' vs ds
 | _,_,.nil,_=>.nil
 | _,_,.cons (d:=d) (ds:=ds) r t,e=>by
  have e':(dW d && fW ds)=true:=by simpa [fW] using e
  rw [Bool.and_eq_true] at e'
  exact .cons (Rep.keep h r e'.1) (Reps.keep h t e'.2)
end
end
def k9:W→Option W
 | .d x=>some (.d x)
 | .loc x=>some (.d x)
 | .tp _=>none
def nW (ρ:Rho):Rho:=ρ.map fun o=>o.bind k9
section
variable {K:Frag} {O:Addr→Prop} {ts:List Addr} {H0 H:Hp} {T:Tp} {σ:L2.St} {ρ:Rho}
end
section
variable {X:Cx} {pos:Pos} {e:Expr} {fe:FE}
def iE (i:Nat):FS:=fun ρ T=>some ((.nx,ρ.set i (some (.loc (.dict [])))),T)
theorem sr {i:Nat} {x:Str} {pos' dpos:Pos} (hN:X.N.Nodup) (hi:X.N[i]? = some x:=by rfl) (hx:Loc X.env.scope x:=by first | exact Or.inl rfl | exact Or.inr rfl)
  (hs:swapsWith (.Dict [] [] dpos) (some (.Name x pos')) pos.line X.env=pure false:=by rfl) (hf:X.fn x=true∨X.env.scope.names.lookup x=some .local:=by first | exact .inl rfl | exact .inr rfl | assumption):DS X (.Assign [.Name x pos'] (.Dict [] [] dpos) pos) (iE i):=by
 refine ⟨?_⟩
 refine bW (er hN hi hx qG hs hf) fun D σ H=>?_
 rintro ⟨O₀,H₀,F,ts,O,ρ,T,fl,ρ',T',rs,e,q⟩
 cases e
 intro p hp
 exact q _ _ _ (rs.ownO hp (.inr (.inl ⟨_,rfl⟩)) fun le=>⟨[],aR,.nil⟩)
theorem pC:CallR X (.type "dict") (fun xs H Q=>∃ a kvs,xs=[V.ref a]∧Rd H a (.dK kvs)∧∀ p,H p=none→Q (.ref p) (upd H p (.dK kvs))):=by
 intro pins s σ H xs us Q I r h
 obtain ⟨a,kvs,rfl,ha,q⟩:=h
 obtain ⟨u,rfl,ru⟩:=vals1 r
 cases ru
 exact zQ I ha fun p s' hp I'=>⟨.ref p,_,I',rfl,q p hp⟩
def g8 (o:Option PyData):Option (List (PyData×PyData)):=match o with
 | some (.dict ds)=>some ds
 | _=>none
def kq (i:Nat) (ρ:Rho) (o:Option (List (PyData×PyData))) (T:Tp):Option ((Fl×Rho)×Tp):=match o with
 | some ds=>some ((.nx,ρ.set i (some (.loc (.dict ds)))),T)
 | none=>none
def kP (i:Nat) (f:FE):FS:=fun ρ T=>bnd (f ρ T) fun w T1=>kq i ρ (g8 (view T1 w)) T1
theorem sG {o:Option PyData} {ds:List (PyData×PyData)} (h:g8 o=some ds):o=some (.dict ds):=by
 unfold g8 at h
 split at h
 ·cases h; rfl
 ·cases h
theorem qT {i:Nat} {x:Str} {p pos' cpos:Pos} (hm:X.mg "dict" = none) (hN:X.N.Nodup) (he:DE X e fe) (hi:X.N[i]? = some x:=by rfl) (hx:Loc X.env.scope x:=by first | exact Or.inl rfl | exact Or.inr rfl) (hg:Gl X "dict":=by rfl)
  (hse:starEach [e] X.env=(false,eval e X.env)::starEach [] X.env:=by exact bb rfl) (hpl:(backTo cpos (starEach [] X.env)).any (·.1)=false:=by exact bF rfl)
  (hs:swapsWith (.Call (.Name "dict" p) [e] [] cpos) (some (.Name x pos')) pos.line X.env=pure false:=by rfl) (hf:X.fn x=true∨X.env.scope.names.lookup x=some .local:=by first | exact .inl rfl | exact .inr rfl | assumption) :
  DS X (.Assign [.Name x pos'] (.Call (.Name "dict" p) [e] [] cpos) pos) (kP i fe):=by
 refine ⟨?_⟩
 refine bW (er hN hi hx (jN pC hg hm boot_dict (aU he.pe bx hse) (by decide) (by decide) hse hpl) hs hf) fun D σ H=>?_
 rintro ⟨O₀,H₀,F,ts,O,ρ,T,fl,ρ',T',rs,e,q⟩
 obtain ⟨w,T1,e1,e⟩:=aC e
 unfold kq at e
 split at e
 ·rename_i ds hd
  cases e
  have hv:=sG hd
  refine ⟨O,ts,ρ,T,w,_,rs.hc,rs.re,e1,fun v H1 s1 hc1 r1=>?_⟩
  obtain ⟨a,kvs,rfl,t,r⟩:=(hc1.view r1 hv).dct
  exact ⟨a,kvs,rfl,t,fun p hp=>q _ _ _ ((rs.step s1 hc1).ownO (xs:=.dict ds) hp (.inr (.inl ⟨_,rfl⟩)) fun le=>⟨kvs,aR,r.mono le⟩)⟩
 ·cases e
def ls (o:Option (List (PyData×PyData))) (T:Tp):Option (W×Tp):=match o with
 | some ds=>some (.d (.dict ds),T)
 | none=>none
def gb (f:FE):FE:=fun ρ T=>bnd (f ρ T) fun w T1=>ls (g8 (view T1 w)) T1
theorem sE {p cpos:Pos} (hm:X.mg "dict" = none) (he:DE X e fe) (hg:Gl X "dict":=by rfl)
  (hse:starEach [e] X.env=(false,eval e X.env)::starEach [] X.env:=by exact bb rfl) (hpl:(backTo cpos (starEach [] X.env)).any (·.1)=false:=by exact bF rfl):DE X (.Call (.Name "dict" p) [e] [] cpos) (gb fe):=by
 refine ⟨?_⟩
 refine pe_imp (jk (jN pC hg hm boot_dict (aU he.pe bx hse) (by decide) (by decide) hse hpl)) fun σ H Q=>?_
 rintro ⟨O,ts,ρ,T,w,T',hc,re,e,q⟩
 obtain ⟨w1,T1,e1,e⟩:=aC e
 unfold ls at e
 split at e
 ·rename_i ds hd
  cases e
  have hv:=sG hd
  refine ⟨O,ts,ρ,T,w1,T',hc,re,e1,fun v H1 s1 hc1 r1=>?_⟩
  obtain ⟨a,kvs,rfl,t,r⟩:=(hc1.view r1 hv).dct
  refine ⟨a,kvs,rfl,t,fun p hp=>.frz aR fun o=>.done ?_⟩
  rw [jW]
  exact q _ _ (s1.trans (.new hp _)) (hc1.new hp _) (.dct (hc1.fresh hp) aR (r.mono (hc1.leNew hp _)))
 ·cases e
def putN (ds:List (PyData×PyData)) (s:Str) (x:PyData):List (PyData×PyData):=if (bq ds s).isSome=true then eh ds s x else ds++[(.str s,x)]
theorem RepK.app {K:Frag} {O:Addr→Prop} {H:Hp} {s:Str} {v:V} {x:PyData} (rx:Rep K O H v x):∀ {kvs:List (Key×V)} {ds:List (PyData×PyData)},RepK K O H kvs ds→RepK K O H (kvs++[(Sum.inr s,v)]) (ds++[(.str s,x)])
 | _,_,.nil=>.cons (k:=Sum.inr s) rx .nil
 | _,_,.cons r t=>.cons r (RepK.app rx t)
theorem mB {K:Frag} {O:Addr→Prop} {H:Hp} {s:Str} {v:V} {x:PyData} (rx:Rep K O H v x) {kvs:List (Key×V)} {ds:List (PyData×PyData)} (r:RepK K O H kvs ds):RepK K O H (putK kvs (Sum.inr s) v) (putN ds s x):=by
 unfold putN
 rcases gD (s:=s) r with ⟨z1,z2⟩ | ⟨v',d',z1,z2,_⟩
 ·rw [z1,if_neg (by simp),yV v z2]
  exact r.app rx
 ·rw [z1,if_pos (show (some d').isSome=true by rfl)]
  have hany:(kvs.any fun kv=>decide (kv.1=(Sum.inr s:Key)))=true:=xT (by rw [z2]; rfl)
  unfold putK
  rw [if_pos hany]
  exact lU rx r
def kZ (i:Nat) (ρ:Rho) (ds:List (PyData×PyData)) (w k:W) (T:Tp):Option ((Fl×Rho)×Tp):=match w,k with
 | .d x,.d (.str s)=>if ds.length≤1000 then some ((.nx,ρ.set i (some (.loc (.dict (putN ds s x))))),T) else none
 | _,_=>none
def kY (i:Nat) (fk:FE) (ρ:Rho) (w:W) (T:Tp) (o:Option (Option W)):Option ((Fl×Rho)×Tp):=match o with
 | some (some (.loc (.dict ds)))=>bnd (fk ρ T) (kZ i ρ ds w)
 | _=>none
def iF (i:Nat) (fk fv:FE):FS:=fun ρ T=>bnd (fv ρ T) fun w T1=>kY i fk ρ w T1 ρ[i]?
theorem su {i:Nat} {x:Str} {kx:Expr} {fk fv:FE} {p pos':Pos} {k:Nat} (hr:Room k X.A) (hk:DE X kx fk) (he:DE X e fv) (hN:X.N[i]? = some x:=by rfl) (hv:Vis X.env.scope x:=by first | exact Or.inl rfl | exact Or.inr (Or.inl rfl) | exact Or.inr (Or.inr rfl)) (hd:(x == ("__debug__" : Str))=false:=by decide)
  (hcd:(x == ("__classdict__" : Str))=false:=by decide) (hs:swapsWith e (some (.Subscript (.Name x p) kx pos')) pos.line X.env=pure false:=by rfl):DS X (.Assign [.Subscript (.Name x p) kx pos'] e pos) (iF i fk fv):=by
 refine ⟨?_⟩
 refine bW (rJ (jo hr) (pv i hN hv hd hcd) hk.pe he.pe hs) fun D σ H=>?_
 rintro ⟨O₀,H₀,F,ts,O,ρ,T,fl,ρ',T',rs,e,q⟩
 obtain ⟨w,T1,e1,e⟩:=aC e
 refine ⟨O,ts,ρ,T,w,T1,rs.hc,rs.re,e1,fun v H1 s1 hc1 r1=>?_⟩
 have rs1:=rs.step s1 hc1
 unfold kY at e
 split at e
 ·rename_i ds c3
  obtain ⟨wk,T3,e3,e⟩:=aC e
  unfold kZ at e
  split at e
  ·rename_i xv s _
   split at e
   ·rename_i c2
    cases e
    obtain ⟨u,k1,a,rfl,k2,k3,kvs,k4,k5⟩:=rs1.re i _ c3
    refine ⟨_,k1,O,ts,ρ,T1,_,_,rs1.hc,rs1.re,e3,fun y H3 s3 hc3 r3=>?_⟩
    have rs3:=rs1.step s3 hc3
    cases (show Rep X.K O H3 y (.str s) from r3)
    have k4':H3 a=some (.dK kvs):=s3 _ _ k3 k4
    have k5':RepK X.K O H3 kvs ds:=k5.mono (hc1.le s3)
    have hlen:kvs.length < sizeLine:=by
     rw [hU k5']
     exact Nat.lt_of_le_of_lt c2 (by decide)
    have rx:Rep X.K O H3 v xv:=RepW.mono (w:=.d xv) r1 hc1 s3
    refine ⟨a,_,rfl,DPut.k (k:=(Sum.inr s:Key)) k4' hlen,?_⟩
    exact q O σ _ (rs3.putO c3 k1 (.inr (.inl ⟨_,rfl⟩)) fun le=>⟨_,aR,mB (Rep.mono le rx) (k5'.mono le)⟩)
   ·cases e
  ·cases e
 ·cases e
end
def og (n:Nat):W→Option W
 | .tp k=>if k < n then some (.tp k) else none
 | w=>some w
def gc (n:Nat) (ρ:Rho):Rho:=ρ.map fun o=>o.bind (og n)
def iU (n:Nat) (o:Option ((Fl×Rho)×Tp)):Option ((Fl×Rho)×Tp):=match o with
 | some ((fl,ρ'),T3)=>(match nX T3 with
  | some (T4,_)=>if T4.length=n then some ((fl,gc n ρ'),T4) else none
  | none=>none)
 | none=>none
section
variable {K:Frag} {O₀:Addr→Prop} {H₀:Hp} {F:List ((Addr→Prop)×Hp)} {ts:List Addr} {O:Addr→Prop} {H:Hp} {σ:L2.St} {ρ:Rho} {T:Tp}
theorem RS.openR {i:Nat} {p:Addr} {vs:List V} {xs:List PyData} (r:RS K O₀ H₀ F ts O H σ ρ T) (hp:H p=none) (rv:Reps K O H vs xs) :
  RS K (fun b=>O₀ b∨b=p) H₀ F (ts++[p]) (fun b=>O b∨b=p) (upd H p (.lst vs)) (σ.set i (some (.ref p))) (ρ.set i (some (.tp T.length))) (T++[xs]):=by
 have nO:=r.hc.fresh hp
 have nt:p∉ts:=fun z=>nO (r.hc.own _ z)
 have le:Le O H (fun b=>O b∨b=p) (upd H p (.lst vs)):=fun a o n e=>by
  have z1:a≠p:=bA e hp
  exact ⟨fun q=>q.elim n z1,by rw [aD z1]; exact e⟩
 have hw:∀ ys,W.tp T.length≠.loc ys:=fun _ z=>nomatch z
 refine ⟨⟨fun b hb=>?_,fun b hb=>?_,?_,by simp [r.hc.len],fun j b zs q1 q2=>?_⟩,fun j w e=>?_,fun b hb=>hb.elim (fun z=>.inl (r.sub b z)) .inr,fun b hb=>?_,fun b o n e=>?_,fun j xs a e1 e2=>?_,fun j k xs ys v e1 e2 e3 e4=>?_,fun f hf=>(r.frs f hf).trans le,by simp [r.len]⟩
 ·rcases List.mem_append.mp hb with z | z
  ·exact .inl (r.hc.own b z)
  ·exact .inr (List.mem_singleton.mp z)
 ·by_cases z:b=p
  ·rw [z,aR]; exact .inl ⟨_,rfl⟩
  ·rw [aD z]; exact r.hc.trk b (hb.resolve_right z)
 ·rw [List.nodup_append]
  exact ⟨r.hc.nd,by simp,fun b hb c hc z=>nt (by rw [← List.mem_singleton.mp hc,← z]; exact hb)⟩
 ·by_cases hj:j < ts.length
  ·rw [List.getElem?_append_left hj] at q1
   rw [List.getElem?_append_left (by rw [← r.hc.len]; exact hj)] at q2
   exact (r.hc.tape j b zs q1 q2).mono (fun o h1=>by rw [aD (bA h1 hp)]; exact h1) le
  ·have hj2:j=ts.length:=by
    have:=(List.getElem?_eq_some_iff.mp q1).1
    simp at this
    omega
   subst hj2
   have e1:b=p:=by simpa using q1.symm
   have e2:zs=xs:=by rw [r.hc.len] at q2; simpa using q2.symm
   subst e1 e2
   exact .inl ⟨rv.notO,vs,aR,rv.mono le⟩
 ·by_cases z:i=j
  ·subst z
   have hl:i < ρ.length:=by
    have:=(List.getElem?_eq_some_iff.mp e).1
    simpa using this
   rw [List.getElem?_set_self hl] at e
   cases e
   exact ⟨.ref p,by rw [List.getElem?_set_self (by rw [r.len]; exact hl)],p,by rw [← r.hc.len]; simp,rfl⟩
  ·rw [List.getElem?_set_ne z] at e
   obtain ⟨x,h1,h2⟩:=r.re j w e
   refine ⟨x,by rw [List.getElem?_set_ne z]; exact h1,?_⟩
   cases w with
   | d y=>exact Rep.mono le h2
   | tp k=>
    obtain ⟨a,k1,k2⟩:=h2
    exact ⟨a,by rw [List.getElem?_append_left (List.getElem?_eq_some_iff.mp k1).1]; exact k1,k2⟩
   | loc ys=>
    obtain ⟨a,e1,m1,m2,m3⟩:=h2
    have na:a≠p:=fun z=>nO (z ▸ m1)
    refine ⟨a,e1,.inl m1,fun z=>?_,m3.mono (fun o' q=>by rw [aD na]; exact q) le⟩
    rcases List.mem_append.mp z with z | z
    ·exact m2 z
    ·exact na (List.mem_singleton.mp z)
 ·rcases List.mem_append.mp hb with z | z
  ·exact .inl (r.ots b z)
  ·exact .inr (List.mem_singleton.mp z)
 ·have nb:b∉ts:=fun z=>n (List.mem_append_left _ z)
  have e1:=r.same b o nb e
  rw [aD (bA e1 hp)]
  exact e1
 ·obtain ⟨n,e⟩:=eR hw e1
  rw [List.getElem?_set_ne (Ne.symm n)] at e2
  obtain ⟨f1,f2⟩:=r.fresh j xs a e e2
  refine ⟨f1,fun z=>z.elim f2 fun z=>?_⟩
  obtain ⟨v,h1,a',ea,m1,_⟩:=r.re j _ e
  rw [e2] at h1
  cases h1
  cases ea
  exact nO (z ▸ m1)
 ·obtain ⟨n1,e1⟩:=eR hw e1
  obtain ⟨n2,e2⟩:=eR hw e2
  rw [List.getElem?_set_ne (Ne.symm n1)] at e3
  rw [List.getElem?_set_ne (Ne.symm n2)] at e4
  exact r.dist j k xs ys v e1 e2 e3 e4
theorem RS.closeR {p:Addr} {row:List PyData} (ots:∀ b∈ts,O₀ b) (nt:p∉ts) (h0:H₀ p=none) (n0:¬ O₀ p) (r:RS K (fun b=>O₀ b∨b=p) H₀ F (ts++[p]) O H σ ρ (T++[row])):RS K O₀ H₀ F ts O H σ (gc T.length ρ) T:=by
 have fA:ts.length=T.length:=by have:=r.hc.len; simp at this; exact this
 have at_:∀ {j:Nat} {w:W},(gc T.length ρ)[j]? = some (some w)→ρ[j]? = some (some w)∧∀ k,w=.tp k→k < T.length:=fun {j w} e=>by
  unfold gc at e
  rw [List.getElem?_map] at e
  cases hu:ρ[j]? with
  | none=>rw [hu] at e; cases e
  | some u=>
   cases u with
   | none=>rw [hu] at e; cases e
   | some u=>
    rw [hu] at e
    have e':og T.length u=some w:=Option.some.inj e
    cases u with
    | d x=>cases e'; exact ⟨rfl,fun k z=>nomatch z⟩
    | loc x=>cases e'; exact ⟨rfl,fun k z=>nomatch z⟩
    | tp k=>
     have e2:(if k < T.length then some (W.tp k) else none)=some w:=e'
     split at e2
     ·rename_i hk
      cases e2
      exact ⟨rfl,fun k' z=>by cases z; exact hk⟩
     ·cases e2
 refine ⟨⟨fun b hb=>r.hc.own b (List.mem_append_left _ hb),r.hc.trk,(List.nodup_append.mp r.hc.nd).1,fA,fun j b zs q1 q2=>?_⟩,fun j w e=>?_,fun b hb=>r.sub b (.inl hb),ots,fun b o n e=>?_,fun j xs a e1 e2=>?_,fun j k xs ys v e1 e2 e3 e4=>?_,r.frs,by simp [gc,r.len]⟩
 ·have hj:j < ts.length:=(List.getElem?_eq_some_iff.mp q1).1
  exact r.hc.tape j b zs (by rw [List.getElem?_append_left hj]; exact q1) (by rw [List.getElem?_append_left (by rw [← fA]; exact hj)]; exact q2)
 ·obtain ⟨e1,hk⟩:=at_ e
  obtain ⟨v,h1,h2⟩:=r.re j w e1
  refine ⟨v,h1,?_⟩
  cases w with
  | d x=>exact h2
  | tp k=>
   obtain ⟨a,k1,k2⟩:=h2
   have:=hk k rfl
   exact ⟨a,by rw [List.getElem?_append_left (by rw [fA]; exact this)] at k1; exact k1,k2⟩
  | loc x=>
   obtain ⟨a,k1,k2,k3,k4⟩:=h2
   exact ⟨a,k1,k2,fun z=>k3 (List.mem_append_left _ z),k4⟩
 ·refine r.same b o (fun z=>?_) e
  rcases List.mem_append.mp z with z | z
  ·exact n z
  ·rw [List.mem_singleton.mp z,h0] at e; cases e
 ·obtain ⟨f1,f2⟩:=r.fresh j xs a (at_ e1).1 e2
  exact ⟨f1,fun z=>f2 (.inl z)⟩
 ·exact r.dist j k xs ys v (at_ e1).1 (at_ e2).1 e3 e4
end
section
variable {X:Cx} {pos:Pos} {rest:List Stmt} {fr:FS}
theorem AA {i:Nat} {p:Addr} {vs:List V} {xs:List PyData} {D:Ends} {O₀:Addr→Prop} {H₀:Hp} {F:List ((Addr→Prop)×Hp)} {ts:List Addr} {O:Addr→Prop} {H:Hp} {σ:L2.St} {ρ:Rho} {T:Tp} {fl:Fl} {ρ':Rho} {T':Tp}
  (rs:RS X.K O₀ H₀ F ts O H σ ρ T) (hp:H p=none) (rv:Reps X.K O H vs xs) (e:iU T.length (fr (ρ.set i (some (.tp T.length))) (T++[xs]))=some ((fl,ρ'),T')) (q:uG X.K O₀ H₀ F ts D ρ' T' fl):nV X.K fr D (σ.set i (some (.ref p))) (upd H p (.lst vs)):=by
 have nO:=rs.hc.fresh hp
 have nt:p∉ts:=fun z=>nO (rs.hc.own _ z)
 have h0:H₀ p=none:=by
  cases e:H₀ p with
  | none=>rfl
  | some o=>rw [rs.same p o nt e] at hp; cases hp
 have n0:¬ O₀ p:=fun z=>nO (rs.sub p z)
 have rs1:=rs.openR (i:=i) hp rv
 generalize hE:fr (ρ.set i (some (.tp T.length))) (T++[xs])=E at e
 unfold iU at e
 split at e
 ·rename_i fl1 ρ1 T3
  split at e
  ·rename_i T4 row hT
   split at e
   ·rename_i hlen
    have eT:=zw hT
    subst eT
    cases e
    have lb:∀ {G:Hp},Le (fun b=>O₀ b∨b=p) G O₀ G:=fun a o n e=>⟨fun z=>n (.inl z),e⟩
    have fB:∀ {G:Hp} {B:Addr→Prop},HC X.K B (ts++[p]) G (T'++[row])→ts.length=T'.length:=fun h=>by have:=h.len; simp at this; exact this
    have sameB:∀ {G:Hp},SameX (ts++[p]) H₀ G→SameX ts H₀ G:=fun s b o n e=>s b o (fun z=>by
     rcases List.mem_append.mp z with z | z
     ·exact n z
     ·rw [List.mem_singleton.mp z,h0] at e; cases e) e
    refine ⟨_,H₀,F,ts++[p],_,_,_,fl,ρ1,T'++[row],rs1,hE,?_⟩
    have lenE:T.length=T'.length:=hlen.symm
    cases fl with
    | nx=>exact fun O' σ' H' r=>q O' σ' H' (by rw [lenE]; exact RS.closeR rs.ots nt h0 n0 r)
    | bk=>exact fun O' σ' H' r=>q O' σ' H' (by rw [lenE]; exact RS.closeR rs.ots nt h0 n0 r)
    | ct=>exact fun O' σ' H' r=>q O' σ' H' (by rw [lenE]; exact RS.closeR rs.ots nt h0 n0 r)
    | rt y=>
     intro v H' s1 c1 r1
     refine q v H' (sameB s1) ⟨rs.ots,fun b hb=>c1.trk b (.inl hb),rs.hc.nd,fB c1,fun j b zs q1 q2=>?_⟩ (Rep.mono lb r1)
     have hj:j < ts.length:=(List.getElem?_eq_some_iff.mp q1).1
     exact (c1.tape j b zs (by rw [List.getElem?_append_left hj]; exact q1) (by rw [List.getElem?_append_left (by rw [← fB c1]; exact hj)]; exact q2)).mono (fun _ h=>h) lb
    | ro y=>
     intro A v H' s1 hA c1 o1
     have lb2:Le (fun b=>(O₀ b∨b=p)∨A b) H' (fun b=>O₀ b∨A b) H':=fun b o n e=>⟨fun z=>n (z.elim (fun z=>.inl (.inl z)) .inr),e⟩
     refine q A v H' (sameB s1) (fun b hb=>⟨(hA b hb).1,fun z=>(hA b hb).2 (.inl z)⟩) ⟨fun b hb=>.inl (rs.ots b hb),fun b hb=>c1.trk b (hb.elim (fun z=>.inl (.inl z)) .inr),rs.hc.nd,fB c1,fun j b zs q1 q2=>?_⟩ (OwnV.mono lb2 o1)
     have hj:j < ts.length:=(List.getElem?_eq_some_iff.mp q1).1
     exact (c1.tape j b zs (by rw [List.getElem?_append_left hj]; exact q1) (by rw [List.getElem?_append_left (by rw [← fB c1]; exact hj)]; exact q2)).mono (fun _ h=>h) lb2
   ·cases e
  ·cases e
 ·cases e
end
section
variable {X:Cx} {pos:Pos}
end
section
variable {X:Cx}
end
theorem zF {P:Program} {w:World} {K:Frag} {mg:Str→Option Value} {base:Heap} {CX:CXT} {k:Nat} {f:Addr} {fd:FuncData} {ps:List Str} {sp sp':Sp} (F:FnOk P w K mg base CX k f fd ps sp) (i:∀ vs H Q E,sp' vs H Q E→sp vs H Q E):FnOk P w K mg base CX k f fd ps sp':=⟨fun vs H Q E h=>F.1 vs H Q E (i _ _ _ _ h),fun A outer s H args us vs Q E a b c d h=>F.2 A outer s H args us vs Q E a b c d (i _ _ _ _ h)⟩
theorem yq {K:Frag} {m:FnM} (hm:∀ ns:List Int,ns.length≤63→∃ T',m [.d (kr ns)] []=some (.bool true,T')):∀ vs H Q E,kW K vs H Q E→spM K 1 m vs H Q E:=by
 intro vs H Q E h
 obtain ⟨a,ns,rfl,hS,hl,q⟩:=h
 obtain ⟨T',e⟩:=hm ns hl
 have ra:LstAt K (fun _=>False) H a (ns.map V.int):=by
  rcases hS with h | h
  ·exact .inl ⟨fun z=>z,h⟩
  ·exact .inr (.inr h)
 refine ⟨fun _=>False,[],[],[.d (kr ns)],.bool true,T',⟨fun b hb=>(by cases hb),fun b hb=>hb.elim,List.nodup_nil,rfl,fun i a xs e1 _=>by simp at e1⟩,.cons (show Rep K (fun _=>False) H (.ref a) (kr ns) from .lst ra (pS ns)) .nil,rfl,e,fun v H' _ _ r=>?_⟩
 cases r
 exact q H'
def Er:PyData→PyData→Option PyData:=iop fun i j=>if 0≤j then some (.int (i / 2 ^ j.toNat)) else none
@[simp] theorem FU {i j:Int}:Er (.int i) (.int j)=if 0≤j then some (.int (i / 2 ^ j.toNat)) else none:=rfl
section
variable {X:Cx}
end
end D
namespace L2
open PySem PySem.Spec PyProof.Rows
structure CSn (osc:Scope) (N:List Str) (xs:List Str) (scope:Scope) (N':List Str):Prop where
 kind:scope.kind=.function
 nocell:∀ y∈scope.names,y.2≠.cell
 names:∀ y∈scope.names,y.2=.local→scope.names.lookup y.1=some .local
 hx:∀ x∈xs,scope.names.lookup x=some .local
 only:∀ y∈scope.names,y.2=.local→y.1∈xs∨y.1 = ".0"
 free:∀ y∈scope.names,y.2=.free→osc.names.lookup y.1=some .cell∨osc.names.lookup y.1=some .free
 nd:(xs++N').Nodup
 n0:(".0" : Str)∉N'
 len:N'.length=N.length
 rel:∀ p∈N'.zip N,p.1=p.2∨∀ q∈scope.names,q.1≠p.1
section
variable {X:Cx} {pins:List (Addr×Obj)} {σ:St} {H:Hp} {s:Shared} {xs:List Str} {scope:Scope} {N':List Str}
end
section
variable {X:Cx} {xs:List Str} {scope:Scope} {N':List Str} {tg elt iter:Expr} {ifs:List Expr} {pos:Pos} {wi:TI} {g:TG} {te:TE} {tt:TT}
end
end L2
namespace D
open PySem PySem.Spec PyProof.Rows L2
section
variable {X:Cx} {pos:Pos}
end
section
variable {X:Cx}
theorem yk:MtM X "list.insert" (fun x vs H Q=>∃ (l:Addr) (xs:List V) (i:Int) (k:Nat) (y:V),x=.ref l∧vs=[.int i,y]∧H l=some (.lst xs)∧i.toNat=k∧0≤i∧k≤xs.length∧xs.length≤1000∧Q .non (upd H l (.lst (xs.take k++y::xs.drop k)))):=by
 intro pins s σ H x vs v us Q I rx rv h
 obtain ⟨l,xs,i,k,y,rfl,rfl,hH,hki,hi0,hk,hz,q⟩:=h
 cases rx
 obtain ⟨u,w,rfl,ru,rw'⟩:=vals2 rv
 obtain ⟨t,rfl⟩:=ru
 obtain ⟨z,its,n,r,hl,e⟩:=I.lstM hH
 have hsl:(1001:Nat)≤sizeLine:=by decide
 have hfit:Builtin.List.listFitsIndex i=true:=fitsIndex_both (by omega) (by omega)
 have hfit':¬ (!Builtin.List.listFitsIndex i)=true:=by rw [hfit]; exact Bool.false_ne_true
 have hsz:its.toArray.size≤sizeLine:=by
  rw [List.size_toArray]
  exact Nat.le_trans (by omega) hsl
 clear hfit
 refine call_meets F.slot_list_insert ⟨_,e,rfl⟩ F.entry_list_insert (F.args_list_insert_3 _ _ _) (AutoSeq1.list_insert_list_int_val_1 l its.toArray n i t w hfit' hsz) ⟨e,?_⟩
 refine ⟨.non,_,I.lset (its':=its.take k++w::its.drop k) hH e ?_ ((r.take k).append (.cons rw' (r.drop k))) ?_,rfl,q⟩
 ·have hk':min k its.length=k:=by omega
  have h0:¬ (i < 0):=by omega
  simp only [h0,if_false,hki,List.size_toArray,hk']
  apply Array.ext'
  simp
  exact List.take_of_length_le (by simp)
 ·refine Nat.le_trans ?_ hsl
  simp only [List.length_append,List.length_take,List.length_cons,List.length_drop]
  omega
variable {pos:Pos} {e e':Expr} {fe fk:FE}
def jA (i:Nat) (ρ:Rho) (w1 w2:W) (T:Tp) (o:Option (Option W)):Option ((Fl×Rho)×Tp):=match w1,w2,o with
 | .d (.int k),.d x,some (some (.loc (.list xs)))=>if 0≤k∧k≤xs.length∧xs.length≤1000 then some ((.nx,ρ.set i (some (.loc (.list (xs.take k.toNat++x::xs.drop k.toNat))))),T) else none
 | _,_,_=>none
theorem AY {i:Nat} {ρ ρ':Rho} {w1 w2:W} {T T':Tp} {fl:Fl} {o:Option (Option W)} (h:jA i ρ w1 w2 T o=some ((fl,ρ'),T')):∃ k x xs,w1=.d (.int k)∧w2=.d x∧o=some (some (.loc (.list xs)))∧(0≤k∧k≤xs.length∧xs.length≤1000)∧((fl,ρ'),T')=((Fl.nx,ρ.set i (some (W.loc (.list (xs.take k.toNat++x::xs.drop k.toNat))))),T):=by
 unfold jA at h
 split at h
 ·split at h
  ·rename_i h2
   exact ⟨_,_,_,rfl,rfl,rfl,h2,(Option.some.inj h).symm⟩
  ·cases h
 ·cases h
def jD (i:Nat) (f g:FE):FS:=fun ρ T=>bnd (f ρ T) fun w1 T1=>bnd (g ρ T1) fun w2 T2=>jA i ρ w1 w2 T2 ρ[i]?
theorem u0 {e f:Expr} {env:Env} {cpos:Pos} (h:noStar e=true) (h2:noStar f=true):((backTo cpos (starEach [e,f] env)).all (fun x=>!x.1) && (backToKw cpos (keywordEach [] env)).all (fun x=>x.1.isSome)
   && decide (([e,f]:List Expr).length + ([]:List Keyword).length + (if ([]:List Keyword).isEmpty then 0 else 1) < 30))=true:=by
 rw [x8 h,l9 h2]
 rfl
theorem Cu {i:Nat} {x:Str} {p apos:Pos} (hk:DE X e fk) (he:DE X e' fe) (hN:X.N[i]? = some x:=by rfl) (hv:Vis X.env.scope x:=by first | exact Or.inl rfl | exact Or.inr (Or.inl rfl) | exact Or.inr (Or.inr rfl)) (hd:(x == ("__debug__" : Str))=false:=by decide)
  (hcd:(x == ("__classdict__" : Str))=false:=by decide) {cpos:Pos}
  (hbase:attributeBase (.Name x p) "insert" X.env (eval (.Name x p) X.env)=eval (.Name x p) X.env:=by rfl)
  (hfew:((backTo cpos (starEach [e,e'] X.env)).all (fun x=>!x.1) && (backToKw cpos (keywordEach [] X.env)).all (fun x=>x.1.isSome)
   && decide (([e,e']:List Expr).length + ([]:List Keyword).length + (if ([]:List Keyword).isEmpty then 0 else 1) < 30))=true:=by exact u0 rfl rfl)
  (hline:(apos.endLine == cpos.line)=true:=by rfl) (hse:starEach [e,e'] X.env=(false,eval e X.env)::starEach [e'] X.env:=by exact bb rfl) (hse2:starEach [e'] X.env=(false,eval e' X.env)::starEach [] X.env:=by exact bb rfl) (hplain:(backTo cpos (starEach [e'] X.env)).any (·.1)=false:=by exact bF rfl)
  (hs:swapsWith (.Call (.Attribute (.Name x p) "insert" apos) [e,e'] [] cpos) none pos.line X.env=pure false:=by rfl) :
  DS X (.Expr (.Call (.Attribute (.Name x p) "insert" apos) [e,e'] [] cpos) pos) (jD i fk fe):=by
 refine ⟨?_⟩
 refine bW (gE (gR PySem.F.plainAttrs_list PySem.F.slot_list_insert PySem.F.type_list_insert yk (pv i hN hv hd hcd) (aU hk.pe (aU he.pe bx hse2) hse) hbase hfew hline hse hplain) hs) fun D σ H=>?_
 rintro ⟨O₀,H₀,F,ts,O,ρ,T,fl,ρ',T',rs,e,q⟩
 obtain ⟨w1,T1,e1,e⟩:=aC e
 obtain ⟨w2,T2,e2,e⟩:=aC e
 obtain ⟨k,x0,xs,rfl,rfl,h1,h2,e3⟩:=AY e
 cases e3
 obtain ⟨v,k1,a,rfl,k2,k3,vs,k4,k5⟩:=rs.re i _ h1
 refine ⟨_,k1,.inl ⟨rfl,vs,SqL.of k4⟩,O,ts,ρ,T,_,_,rs.hc,rs.re,e1,fun u H1 s1 hc1 r1=>?_⟩
 have rs1:=rs.step s1 hc1
 refine ⟨O,ts,ρ,T1,_,_,hc1,rs1.re,e2,fun u2 H2 s2 hc2 r2=>?_⟩
 have rs2:=rs1.step s2 hc2
 cases (show Rep X.K O H1 u (.int k) from r1)
 have l5:=k5.length
 have k5':Reps X.K O H2 vs xs:=(k5.mono (rs.hc.le s1)).mono (hc1.le s2)
 exact ⟨a,vs,k,k.toNat,u2,rfl,rfl,s2 _ _ k3 (s1 _ _ k3 k4),rfl,h2.1,by omega,by omega,q O _ _ (rs2.put (us:=[]) h1 k1 ((k5'.take _).append (.cons r2 (k5'.drop _))))⟩
end
section
variable {K:Frag} {O₀:Addr→Prop} {H₀:Hp} {F:List ((Addr→Prop)×Hp)} {ts:List Addr} {O A:Addr→Prop} {H H1:Hp} {σ:L2.St} {ρ:Rho} {T T1:Tp}
theorem RS.widen (r:RS K O₀ H₀ F ts O H σ ρ T) (s:SameX ts H H1) (hA:∀ b,A b→H b=none∧¬ O b) (c:HC K (fun b=>O b∨A b) ts H1 T1):RS K O₀ H₀ F ts (fun b=>O b∨A b) H1 σ ρ T1:=by
 have le:Le O H (fun b=>O b∨A b) H1:=fun a o n e=>⟨fun z=>z.elim n fun z=>(by rw [(hA a z).1] at e; cases e),s a o (fun z=>n (r.hc.own a z)) e⟩
 refine ⟨c,fun i w e=>?_,fun b hb=>.inl (r.sub b hb),r.ots,r.same.trans s,r.fresh,r.dist,fun f hf=>(r.frs f hf).trans le,r.len⟩
 obtain ⟨v,h1,h2⟩:=r.re i w e
 refine ⟨v,h1,?_⟩
 cases w with
 | d x=>exact Rep.mono le h2
 | tp k=>exact h2
 | loc ys=>
  obtain ⟨a,ea,m1,m2,m3⟩:=h2
  exact ⟨a,ea,.inl m1,m2,m3.mono (fun o q=>s _ _ m2 q) le⟩
theorem RS.keep (r:RS K O₀ H₀ F ts O H σ ρ T) (hA:∀ b,A b→O b):HC K (fun b=>O₀ b∨A b) ts H T∧Le O H (fun b=>O₀ b∨A b) H:=by
 have le:Le O H (fun b=>O₀ b∨A b) H:=fun a o n e=>⟨fun z=>n (z.elim (r.sub a) (hA a)),e⟩
 exact ⟨⟨fun b hb=>.inl (r.ots b hb),fun b hb=>r.hc.trk b (hb.elim (r.sub b) (hA b)),r.hc.nd,r.hc.len,fun i a xs e1 e2=>(r.hc.tape i a xs e1 e2).mono (fun _ h=>h) le⟩,le⟩
end
def kA (i j:Nat) (ρ:Rho) (T:Tp) (o1 o2:Option (Option W)):Option ((Fl×Rho)×Tp):=match o1,o2 with
 | some (some (.loc x)),some (some (.loc y))=>if i=j then none else some ((.ro (.tuple [x,y]),ρ),T)
 | _,_=>none
def kR (i j:Nat):FS:=fun ρ T=>kA i j ρ T ρ[i]? ρ[j]?
section
variable {X:Cx} {pos:Pos}
theorem zK {i j:Nat} {x y:Str} {k:Nat} {px py tp:Pos} (hN:X.N[i]? = some x:=by rfl) (hv:Vis X.env.scope x:=by first | exact Or.inl rfl | exact Or.inr (Or.inl rfl) | exact Or.inr (Or.inr rfl)) (hd:(x == ("__debug__" : Str))=false:=by decide) (hcd:(x == ("__classdict__" : Str))=false:=by decide)
  (hN2:X.N[j]? = some y:=by rfl) (hv2:Vis X.env.scope y:=by first | exact Or.inl rfl | exact Or.inr (Or.inl rfl) | exact Or.inr (Or.inr rfl)) (hd2:(y == ("__debug__" : Str))=false:=by decide) (hcd2:(y == ("__classdict__" : Str))=false:=by decide)
  (hs1:starEach [.Name x px,.Name y py] X.env=(false,eval (.Name x px) X.env)::starEach [.Name y py] X.env:=by exact bb rfl) (hs2:starEach [.Name y py] X.env=(false,eval (.Name y py) X.env)::starEach [] X.env:=by exact bb rfl) :
  DS X (.Return (some (.Tuple [.Name x px,.Name y py] k tp)) pos) (kR i j):=by
 refine ⟨?_⟩
 refine bW (i6 (kB (aU (pv i hN hv hd hcd) (aU (pv j hN2 hv2 hd2 hcd2) bx hs2) hs1))) fun D σ H=>?_
 rintro ⟨O₀,H₀,F,ts,O,ρ,T,fl,ρ',T',rs,e,q⟩
 unfold kR kA at e
 split at e
 ·rename_i x1 y1 h1 h2
  split at e
  ·cases e
  ·rename_i hij
   cases e
   obtain ⟨v1,k1,a,rfl,a2,a3,a4⟩:=rs.re i _ h1
   obtain ⟨v2,k2,b,rfl,b2,b3,b4⟩:=rs.re j _ h2
   have hab:a≠b:=fun z=>hij (rs.dist i j x1 y1 (.ref a) h1 h2 k1 (by rw [z]; exact k2))
   refine ⟨_,k1,_,k2,by show (2:Nat)≤sizeLine; decide,fun p hp=>?_⟩
   have nO:=rs.hc.fresh hp
   have np:∀ {c:Addr},O c→c≠p:=fun hc z=>nO (z ▸ hc)
   obtain ⟨c1,le1⟩:=rs.keep (A:=fun c=>c=a∨c=b) (fun c hc=>by rcases hc with rfl | rfl <;> assumption)
   have s2:SameX ts H (upd H p (.tup [.ref a,.ref b])):=.new hp _
   have le2:=c1.leNew hp (.tup [.ref a,.ref b])
   refine q (fun c=>c=a∨c=b) (.ref p) _ (rs.same.trans s2) (fun c hc=>?_) (c1.new hp _) ⟨p,a,b,rfl,hab,fun c=>Iff.rfl,c1.fresh hp,aR,?_,?_⟩
   ·rcases hc with rfl | rfl
    ·exact rs.fresh i x1 _ h1 k1
    ·exact rs.fresh j y1 _ h2 k2
   ·exact a4.mono (fun o h=>by rw [aD (np a2)]; exact h) (le1.trans le2)
   ·exact b4.mono (fun o h=>by rw [aD (np b2)]; exact h) (le1.trans le2)
 ·cases e
end
def nq (o:Option ((Fl×Rho)×Tp)):Option (PyData×Tp):=bnd o fun p T=>match p with
 | (.ro x,_)=>some (x,T)
 | _=>none
def eG (N:Nat) (f:FS):FnM:=fun ws T=>if bQ ws=true then nq (f (ws.map some++List.replicate (N - ws.length) none) T) else none
inductive SpOP (K:Frag) (n:Nat) (m:FnM) (vs:List V) (H:Hp) (Q:VK):Prop where
 | mk (O:Addr→Prop) (ts:List Addr) (T:Tp) (ws:List W) (x:PyData) (T':Tp) (hc:HC K O ts H T) (r:eJ K O ts H vs ws) (hl:ws.length=n) (e:m ws T=some (x,T'))
  (q:∀ (A:Addr→Prop) v H',SameX ts H H'→(∀ b,A b→H b=none∧¬ O b)→HC K (fun b=>O b∨A b) ts H' T'→OwnV K (fun b=>O b∨A b) A H' v x→Q v H'):SpOP K n m vs H Q
def spO (K:Frag) (n:Nat) (m:FnM):Sp:=fun vs H Q _=>SpOP K n m vs H Q
theorem iL {P:Program} {w:World} {K:Frag} {mg:Str→Option Value} {base:Heap} {x qual:Str} {st:Stmt} {f:Addr} {fd:FuncData} {N ps:List Str} {k:Nat} {m:FS} (F:Fun K x qual st f fd) (S:FnScope N ps (aE st))
  (hbody:∀ (cdv:Value) (A:Around) (outer:List Env) (s:Shared) (H:Hp) (E:XK),Room k (A.deeper (envOfC qual (aE st) s.heap.objs.size f cdv))→DSs (bM CX0 P w K mg base N qual (aE st) f cdv A outer s H E).nox (bV st) m) :
  FnOk P w K mg base CX0 (k + 1) f fd ps (spO K ps.length (eG N.length m)):=by
 refine F.ok S (fun vs H Q E h=>?_) (fun cdv A outer s H vs Q E hr h=>⟨_,(hbody cdv A outer s H E hr).pe,?_⟩)
 ·obtain ⟨O,ts,T,ws,x,T',hc,rw',hl,_⟩:=h
  rw [← hl]
  exact Paired.length rw'
 obtain ⟨O,ts,T,ws,x,T',hc,rw',hl,e,q⟩:=h
 unfold eG at e
 split at e
 ·rename_i hn
  obtain ⟨⟨fl,ρ'⟩,T1,e1,e⟩:=aC e
  have hlen:vs.length=ws.length:=Paired.length rw'
  have noL:∀ {i:Nat} {xs:PyData},(ws.map some++List.replicate (N.length - ws.length) none)[i]? = some (some (W.loc xs))→False:=fun {i xs} e=>iN hn (List.mem_of_getElem? (hG e))
  refine ⟨O,H,[],ts,O,_,T,fl,ρ',T1,⟨hc,fun i u e=>?_,fun _ h=>h,hc.own,.refl _ _,fun i xs a e1 _=>(noL e1).elim,fun i j xs ys v e1 _ _ _=>(noL e1).elim,fun f hf=>absurd hf (by simp),by simp [L2.start,hlen]⟩,e1,?_⟩
  ·obtain ⟨v,h1,h2⟩:=jM rw' (hG e)
   refine ⟨v,?_,h2⟩
   unfold L2.start
   have hi:i < vs.length:=(List.getElem?_eq_some_iff.mp h1).1
   rw [List.getElem?_append_left (by simpa using hi),List.getElem?_map,h1]
   rfl
  ·cases fl with
   | ro y=>cases e; exact q
   | _=>cases e
 ·cases e
section
variable {X:Cx} {pos:Pos}
end
section
variable {X:Cx}
abbrev FP:=Rho→Tp→Option (List (Str×PyData)×Tp)
def aG (l:List (Str×PyData)):List (PyData×PyData):=l.map fun p=>(.str p.1,p.2)
def bU (p:Str×V):Key×V:=(Sum.inr p.1,p.2)
structure DP (X:Cx) (pos:Pos) (keys:List (Option Expr)) (values:List Expr) (g:FP):Prop where
 ex:∃ trs,PPs X pos keys values trs∧∀ (σ:L2.St) (H:Hp) (Q:List (V×V)→Hp→Prop) (O:Addr→Prop) (ts:List Addr) (ρ:Rho) (T:Tp) (l:List (Str×PyData)) (T':Tp),HC X.K O ts H T→RelE X.K O ts H σ ρ→g ρ T=some (l,T') →
  (∀ (kvs:List (Str×V)) (H':Hp),SameX ts H H'→HC X.K O ts H' T'→kvs.map (·.1)=l.map (·.1)→RepK X.K O H' (kvs.map bU) (aG l)→Q (kvs.map fun p=>(V.str p.1,p.2)) H')→kn trs σ H Q
theorem pY:∀ (l acc:List (Str×V)),(acc.map (·.1)++l.map (·.1)).Nodup→c9 (acc.map bU) (l.map bU)=(acc++l).map bU
 | [],acc,_=>by simp [c9]
 | p::l,acc,h=>by
  have h1:putK (acc.map bU) (Sum.inr p.1:Key) p.2=(acc++[p]).map bU:=by
   unfold putK
   rw [if_neg]
   ·rw [List.map_append]
    rfl
   ·intro hc
    obtain ⟨kv,m,e⟩:=List.any_eq_true.mp hc
    obtain ⟨q,m2,rfl⟩:=List.mem_map.mp m
    have e':q.1=p.1:=Sum.inr.inj (of_decide_eq_true e)
    have:=(List.nodup_append.mp h).2.2 q.1 (List.mem_map.mpr ⟨q,m2,rfl⟩) p.1 (by simp)
    exact this e'
  have:=pY l (acc++[p]) (by simpa using h)
  have e:c9 (acc.map bU) ((p::l).map bU)=c9 (putK (acc.map bU) (Sum.inr p.1:Key) p.2) (l.map bU):=rfl
  rw [e,h1,this]
  simp
end
def nQ (i:Nat) (ρ:Rho) (x:PyData) (T:Tp):Option ((Fl×Rho)×Tp):=match x with
 | .list xs=>some ((.nx,ρ.set i (some (.loc (.list xs)))),T)
 | .dict ds=>some ((.nx,ρ.set i (some (.loc (.dict ds)))),T)
 | _=>none
def DR (i:Nat) (m:FnM) (g:FA):FS:=fun ρ T=>bnd (g ρ T) fun ws T1=>bnd (m ws T1) (nQ i ρ)
section
variable {X:Cx} {pos:Pos}
end
def kE (i:Nat) (fr:FS) (ρ:Rho) (x:PyData) (T:Tp):Option ((Fl×Rho)×Tp):=match x with
 | .list xs=>iU T.length (fr (ρ.set i (some (.tp T.length))) (T++[xs]))
 | _=>none
def iu (i:Nat) (m:FnM) (g:FA) (fr:FS):FS:=fun ρ T=>bnd (g ρ T) fun ws T1=>bnd (m ws T1) (kE i fr ρ)
theorem yf {i:Nat} {fr:FS} {ρ:Rho} {x:PyData} {T:Tp} {r:(Fl×Rho)×Tp} (h:kE i fr ρ x T=some r):∃ xs,x=.list xs∧iU T.length (fr (ρ.set i (some (.tp T.length))) (T++[xs]))=some r:=by
 cases x with
 | list xs=>exact ⟨xs,rfl,h⟩
 | _=>cases h
section
variable {X:Cx} {pos:Pos} {rest:List Stmt} {fr:FS}
theorem qd {i:Nat} {name x:Str} {ps:List Str} {kk:Nat} {m:FnM} {e:Expr} {es:List Expr} {g:FA} {p cpos pos':Pos} (F:Fn X.prog X.w X.K X.mg X.base name ps kk (spO X.K ps.length m)) (hr:Room kk X.A) (hg:Gl X name) (hN:X.N.Nodup) (ha:DA X (e::es) g) (hl:cO g ps.length) (hrest:DSs X rest fr) (hdb:(name == ("__debug__" : Str))=false:=by decide)
  (he:starEach (e::es) X.env=(false,eval e X.env)::starEach es X.env:=by exact bb rfl) (hpl:(backTo cpos (starEach es X.env)).any (·.1)=false:=by exact bF rfl) (hi:X.N[i]? = some x:=by rfl) (hx:Loc X.env.scope x:=by first | exact Or.inl rfl | exact Or.inr rfl)
  (hs:swapsWith (.Call (.Name name p) (e::es) [] cpos) (some (.Name x pos')) pos.line X.env=pure false:=by rfl) (hf:X.fn x=true∨X.env.scope.names.lookup x=some .local:=by first | exact .inl rfl | exact .inr rfl | assumption) :
  DSs X (.Assign [.Name x pos'] (.Call (.Name name p) (e::es) [] cpos) pos::rest) (iu i m g fr):=by
 refine ⟨?_⟩
 refine fU (cH (er hN hi hx (gQ F hr hg ha.pe hdb he hpl) hs hf) hrest.pe) fun D σ H=>?_
 rintro ⟨O₀,H₀,F,ts,O,ρ,T,fl,ρ',T',rs,e,q⟩
 obtain ⟨ws,T1,e1,e⟩:=aC e
 obtain ⟨x0,T2,e2,e⟩:=aC e
 obtain ⟨xs,rfl,e⟩:=yf e
 refine ⟨O,ts,ρ,T,ws,T1,rs.hc,rs.re,e1,fun vs H1 s1 hc1 r1=>?_⟩
 have rs1:=rs.step s1 hc1
 refine ⟨O,ts,T1,ws,_,_,hc1,by rw [List.append_nil]; exact r1,hl _ _ _ _ e1,e2,fun A v H2 s2 hA hc2 ov=>?_⟩
 obtain ⟨a,rfl,hAA,us,k1,k2⟩:=ov
 have hAa:=hA a ((hAA a).mpr rfl)
 have nta:a∉ts:=fun z=>hAa.2 (hc1.own a z)
 let H3:Hp:=fun b=>if b=a then none else H2 b
 have h3:∀ {b:Addr},b≠a→H3 b=H2 b:=fun n=>if_neg n
 have ha3:H3 a=none:=if_pos rfl
 have eH:upd H3 a (.lst us)=H2:=funext fun b=>by
  by_cases z:b=a
  ·subst z; rw [aR]; exact k1.symm
  ·rw [aD z]; exact h3 z
 have le:Le (fun b=>O b∨A b) H2 O H3:=fun b o n z=>⟨fun y=>n (.inl y),by rw [h3 (show b≠a from fun y=>n (.inr ((hAA b).mpr y)))]; exact z⟩
 have s3:SameX ts H1 H3:=fun b o n z=>by
  have nb:b≠a:=fun y=>by rw [y,hAa.1] at z; cases z
  rw [h3 nb]
  exact s2 b o n z
 have c3:HC X.K O ts H3 T2:=⟨hc1.own,fun b hb=>by
   have nb:b≠a:=fun y=>hAa.2 (y ▸ hb)
   rw [h3 nb]
   exact hc2.trk b (.inl hb),hc2.nd,hc2.len,fun j b ys q1 q2=>(hc2.tape j b ys q1 q2).mono (fun o h=>by rw [h3 (show b≠a from fun y=>nta (by rw [← y]; exact List.mem_of_getElem? q1))]; exact h) le⟩
 have:=AA (X:=X) (rs1.step s3 c3) ha3 (k2.mono le) e q
 rw [eH] at this
 exact this
end
def ku (ρ:Rho) (o:Option (List PyData)) (T:Tp):Option ((Fl×Rho)×Tp):=match o with
 | some xs=>if xs.length≤1000 then some ((.ro (.list xs),ρ),T) else none
 | none=>none
def kQ (g:FA):FS:=fun ρ T=>bnd (g ρ T) fun ws T1=>ku ρ (dq ws) T1
section
variable {X:Cx} {pos:Pos}
theorem qV {es:List Expr} {g:FA} {lpos:Pos} (ha:DA X es g):DS X (.Return (some (.List es lpos)) pos) (kQ g):=by
 refine ⟨?_⟩
 refine bW (i6 (i7 ha.pe)) fun D σ H=>?_
 rintro ⟨O₀,H₀,F,ts,O,ρ,T,fl,ρ',T',rs,e,q⟩
 obtain ⟨ws,T1,e1,e⟩:=aC e
 refine ⟨O,ts,ρ,T,ws,T1,rs.hc,rs.re,e1,fun vs H1 s1 hc1 r1=>?_⟩
 have rs1:=rs.step s1 hc1
 unfold ku at e
 split at e
 ·rename_i xs h1
  split at e
  ·rename_i h2
   cases e
   have rv:=iS r1 h1
   refine ⟨kc (by rw [rv.length]; exact h2),fun p hp=>?_⟩
   have nO:=rs1.hc.fresh hp
   have nt:p∉ts:=fun z=>nO (rs1.hc.own p z)
   have h0:H₀ p=none:=by
    cases z:H₀ p with
    | none=>rfl
    | some o=>rw [rs1.same p o nt z] at hp; cases hp
   have le:Le O H1 (fun b=>O₀ b∨b=p) (upd H1 p (.lst vs)):=fun b o n z=>by
    have nb:b≠p:=bA z hp
    exact ⟨fun y=>y.elim (fun y=>n (rs1.sub b y)) nb,by rw [aD nb]; exact z⟩
   refine q (fun b=>b=p) (.ref p) _ (rs1.same.trans (.new hp _)) (fun b hb=>by rw [hb]; exact ⟨h0,fun z=>nO (rs1.sub p z)⟩) ⟨fun b hb=>.inl (rs1.ots b hb),fun b hb=>?_,rs1.hc.nd,rs1.hc.len,fun j b ys q1 q2=>?_⟩ ⟨p,rfl,fun c=>Iff.rfl,vs,aR,rv.mono le⟩
   ·by_cases z:b=p
    ·subst z; rw [aR]; exact .inl ⟨_,rfl⟩
    ·rw [aD z]; exact rs1.hc.trk b (rs1.sub b (hb.resolve_right z))
   ·exact (rs1.hc.tape j b ys q1 q2).mono (fun o h=>by rw [aD (bA h hp)]; exact h) le
  ·cases e
 ·cases e
end
theorem wA:typeLookup (.type "list") "keys" = pure none:=am_miss_of_fast (by decide +kernel)
theorem vJ:typeLookup (.type "list") "__getattr__" = pure none:=am_miss_of_fast (by decide +kernel)
theorem wB {a:Addr} {u:Tok} {prog:Program} {w:World} {A:Around} {E:Value→Shared→Prop} {Q:Fin→Shared→Prop} {s:Shared} {its:Array Value} {n:Nat} {sl:Array (Option Value)} (ho:s.heap.get? a=some { cls:=.type "list",dict:=none,data:=.seq its n,slots:=sl }) (hh:A.handled=none)
  (h:∀ h' tk e,Heap.NewAttrErr s.heap h' e (.ref a) "keys"→E (.ref e) { s with heap:=h',toks:=tk }) :
  wpAny (model prog w) A (Builtin.«object.__getattribute__» ⟨[.ref a,.str "keys" u],[]⟩) Q E s:=by
 obtain ⟨hp,g,d,tk,os⟩:=s
 have hT:(⟨hp,g,d,tk,os⟩:Shared).TypeIs (.ref a) "list":=⟨_,ho,rfl⟩
 have f4:=wA
 unfold Builtin.«object.__getattribute__»
 repeat (any_goals (first | assumption | wp_step))
 exact wpAny_raiseAttrError hh h (attrMsg_fits (by decide +kernel) (by decide +kernel))
theorem vP {a:Addr} {prog:Program} {w:World} {A:Around} {E:Value→Shared→Prop} {Q:Option Value→Shared→Prop} {s:Shared} {its:Array Value} {n:Nat} {sl:Array (Option Value)} (ho:s.heap.get? a=some { cls:=.type "list",dict:=none,data:=.seq its n,slots:=sl }) (hh:A.handled=none)
  (h:∀ h' tk,(∀ b o,s.heap.get? b=some o→h'.get? b=some o)→Q none { s with heap:=h',toks:=tk }) :
  wpAny (model prog w) A (getAttr? (.ref a) "keys") Q E s:=by
 obtain ⟨hp,g,d,tk,os⟩:=s
 have hT:(⟨hp,g,d,tk,os⟩:Shared).TypeIs (.ref a) "list":=⟨_,ho,rfl⟩
 have f1:=sub_AttributeError
 have f3:=F.slot_list_getattribute.lookup
 have f4:=F.slot_list_getattribute.bind (.ref a)
 have f5:=vJ
 unfold getAttr? getAttrBy?
 repeat (any_goals (first | assumption | wp_step))
 refine codeAny_call_builtin F.slot_list_getattribute.plain F.entry_list_ga (F.slot_list_getattribute.check _ _ _ _ _ _ _ _ (show (⟨hp,g,d,tk + 1,os⟩:Shared).TypeIs (.ref a) "list" from ⟨_,ho,rfl⟩) (F.args_list_getattribute_2 _ _) (wB (s:=⟨hp,g,d,tk + 1,os⟩) ho hh fun h' tk' e hx=>?_))
 obtain ⟨t',u',he⟩:=hx.there
 show wpAny _ _ (getattributeRaised _ _ _ _ _ _ _) _ _ _
 unfold getattributeRaised
 repeat (any_goals (first | assumption | wp_step))
 exact h _ _ hx.keeps
theorem oM:entryFor table "dict.update.loop" = some Builtin.«dict.update.loop»:=entryFor_of_tree (by kernel_rfl)
section
set_option maxRecDepth 100000
variable {prog:Program} {w:World} {K:Type} [DecidableEq K] {knd:KeyKind prog w K} {A:Around} {E:Value→Shared→Prop} {s:Shared}
theorem qp {d it l:Addr} {its:Array Value} {R:Result→Shared→Prop} (hh:A.handled=none) (kvs:List (K×Value)) (hd:d≠it) (hz:kvs.length≤sizeLine) {h0:Heap}
  (hlen:its.size=kvs.length) (hls:∀ h',(∀ b o,b≠d→b≠it→h0.get? b=some o→h'.get? b=some o)→h'.IsList l its∧∀ (i:Nat) (kv:K×Value),kvs[i]? = some kv→∃ T key,(its[i]?:Option Value)=some (Value.ref T)∧IsTup h' T #[key,kv.2]∧knd.is kv.1 key=true)
  (hR:∀ h' tk,h'.DictOf knd d (merged [] kvs)→(∀ b o,b≠d→b≠it→h0.get? b=some o→h'.get? b=some o)→R (.ok (.ret .none)) { s with heap:=h',toks:=tk }) :
  ∀ (n i:Nat) (j:Int) (tok:Tok) (h':Heap) (tk:Nat),i + n=kvs.length→(∀ b o,b≠d→b≠it→h0.get? b=some o→h'.get? b=some o)→h'.IsListIter it l i→h'.DictOf knd d (merged [] (kvs.take i)) →
   codeAny (model prog w) A (.builtin "dict.update.loop" ⟨[.ref d,.ref it,.int j tok,.none],[]⟩) R { s with heap:=h',toks:=tk }
 | 0,i,j,tok,h',tk,hi,hk,hit,hdd=>by
  refine codeAny_builtin oM ?_
  obtain ⟨hl,hT⟩:=hls h' hk
  unfold Builtin.«dict.update.loop»
  dsimp only
  refine wpAny_bind (wpAny_pyNext_list_end (s:={ s with heap:=h',toks:=tk }) hh hit hl (by rw [Array.getElem?_eq_none]; omega) fun h'' eb=>?_)
  dsimp only
  refine wpAny_bind ?_
  unfold Builtin.Dict.addKeywords
  refine wpAny_pure (wpAny_pure ?_)
  have e:kvs.take i=kvs:=List.take_of_length_le (by omega)
  rw [e] at hdd
  obtain ⟨o,es,ep,ho,r⟩:=hdd
  exact hR h'' tk ⟨o,es,ep,eb _ _ hd ho,r⟩ fun b ob b1 b2 q=>eb b ob b2 (hk b ob b1 b2 q)
 | n + 1,i,j,tok,h',tk,hi,hk,hit,hdd=>by
  refine codeAny_builtin oM ?_
  obtain ⟨hl,hT⟩:=hls h' hk
  have hlt:i < kvs.length:=by omega
  obtain ⟨T,key,e1,_,e3⟩:=hT i kvs[i] (List.getElem?_eq_getElem hlt)
  unfold Builtin.«dict.update.loop»
  dsimp only
  refine wpAny_bind (wpAny_pyNext_list_item (s:={ s with heap:=h',toks:=tk }) hit hl e1 fun h2 hit2 sb=>?_)
  have hk2:∀ b o,b≠d→b≠it→h0.get? b=some o→h2.get? b=some o:=fun b ob b1 b2 q=>(sb.2 b b2).trans (hk b ob b1 b2 q)
  obtain ⟨hl2,hT2⟩:=hls h2 hk2
  obtain ⟨T',key',e1',e2,e3⟩:=hT2 i kvs[i] (List.getElem?_eq_getElem hlt)
  rw [e1] at e1'
  cases e1'
  dsimp only
  refine wpAny_bind (wpAny_holding ?_)
  refine wpAny_bind (wpAny_tryCatch (wpAny_bind (wpAny_typeOf e2.typeIs ?_)))
  rw [if_pos (by decide)]
  obtain ⟨oT,hoT,cT,nT,dT⟩:=id e2
  refine wpAny_bind (m:=seqItems? (.ref T)) (wpAny_bind (wpAny_load (s:={ s with heap:=h2,toks:=tk }) hoT ?_))
  rw [dT]
  refine wpAny_pure (wpAny_pure ?_)
  dsimp only [Option.getD]
  have hmz:(merged [] (kvs.take i)).length≤sizeLine:=by
   have:=merged_length_le ([]:List (K×Value)) (kvs.take i)
   simp at this
   omega
  refine wpAny_holding (wpAny_dictSet_pairs (s:={ s with heap:=h2,toks:=tk }) e3 (hdd.sameBut sb hd) (fun h3 hd3 sb3=>?_) hmz)
  refine wpAny_pure ⟨Code.quiet_builtin _ (by decide +kernel),?_⟩
  rw [← merged_take_succ [] kvs i kvs[i] (List.getElem?_eq_getElem hlt)] at hd3
  exact qp hh kvs hd hz hlen hls hR n (i + 1) _ _ h3 _ (by omega) (fun b ob b1 b2 q=>(sb3.2 b b1).trans (hk2 b ob b1 b2 q)) (hit2.extBut sb3.extBut (Ne.symm hd)) hd3
theorem vL {l:Addr} {its:Array Value} {n:Nat} {sl:Array (Option Value)} {Q:Value→Shared→Prop} (hh:A.handled=none) (kvs:List (K×Value)) (hz:kvs.length≤sizeLine) (hlen:its.size=kvs.length)
  (ho:s.heap.get? l=some { cls:=.type "list",dict:=none,data:=.seq its n,slots:=sl }) (hT:∀ (i:Nat) (kv:K×Value),kvs[i]? = some kv→∃ T key,(its[i]?:Option Value)=some (Value.ref T)∧IsTup s.heap T #[key,kv.2]∧knd.is kv.1 key=true)
  (h:∀ h' tk,h'.DictOf knd s.heap.objs.size (merged [] kvs)→(∀ b o,s.heap.get? b=some o→h'.get? b=some o)→Q (.ref s.heap.objs.size) { s with heap:=h',toks:=tk }) :
  wpAny (model prog w) A (call (.type "dict") [.ref l]) Q E s:=by
 refine callType_codes (Q₁:=fun obj s₁=>obj=.ref s.heap.objs.size∧s₁ = { s with heap:=s.heap.push { cls:=.type "dict",data:=.dict #[] } }) F.kt_called_dict (F.kt_typeCall_dict_1 _) F.entry_dict_init (kt_code_dict_new _ ⟨rfl,rfl⟩) ?_
 rintro obj s₁ ⟨rfl,rfl⟩
 have hnew:(s.heap.push { cls:=.type "dict",data:=.dict #[] }).DictOf knd s.heap.objs.size []:=Heap.DictOf.new s.heap
 have up:∀ b o,s.heap.get? b=some o→(s.heap.push { cls:=.type "dict",data:=.dict #[] }).get? b=some o:=fun b o e=>Heap.get?_push_of_some _ e
 refine ⟨hnew.typeIs,F.args_dict_init_2 _ _,?_⟩
 unfold Builtin.«dict.__init__»
 refine wpAny_bind ?_
 unfold Builtin.Dict.selfAndRest
 refine wpAny_bind (wpAny_notOrdered_dict hnew.typeIs ?_)
 show wpAny _ _ (pure (s.heap.objs.size,[Value.ref l])) _ _ _
 refine wpAny_pure ?_
 show wpAny _ _ (Builtin.Dict.updateFrom "dict.__init__" s.heap.objs.size (.ref l) [] .none) _ _ _
 unfold Builtin.Dict.updateFrom
 refine wpAny_bind (wpAny_typeOf (T:="list") ⟨_,up _ _ ho,rfl⟩ ?_)
 rw [if_pos (by decide)]
 refine wpAny_bind (vP (up _ _ ho) hh fun h1 tk1 k1=>?_)
 simp only [Option.isNone_none,if_true]
 refine wpAny_bind (wpAny_rule ?_)
 have ho1:h1.get? l=some _:=k1 _ _ (up _ _ ho)
 refine wpAny_bind (wpAny_pyIter_list (s:={ s with heap:=h1,toks:=tk1 }) (items:=its) ⟨_,ho1,rfl,n,rfl⟩ ?_)
 refine wpAny_pure ⟨Code.quiet_builtin _ (by decide +kernel),?_⟩
 have hne:s.heap.objs.size≠h1.objs.size:=by
  obtain ⟨o,es,ep,q,_⟩:=hnew
  exact Nat.ne_of_lt (Heap.lt_size (k1 _ _ q))
 refine qp (s:=s) (h0:=h1) (l:=l) (its:=its) (by simpa [Around.in1] using hh) kvs hne hz hlen (fun h' hk'=>⟨⟨_,hk' l _ ?_ ?_ ho1,rfl,n,rfl⟩,fun i kv e=>?_⟩) (fun h' tk hd hk'=>⟨rfl,h h' tk hd fun b o e=>hk' b o (Nat.ne_of_lt (Heap.lt_size e)) (Nat.ne_of_lt (Heap.lt_size (k1 _ _ (up _ _ e)))) (k1 b o (up b o e))⟩) kvs.length 0 _ _ _ _ (by omega) (fun b o _ _ e=>Heap.get?_push_of_some _ e) ?_ ?_
 ·exact Nat.ne_of_lt (Heap.lt_size ho)
 ·exact Nat.ne_of_lt (Heap.lt_size ho1)
 ·obtain ⟨T,key,e1,⟨oT,e2,r⟩,e3⟩:=hT i kv e
  exact ⟨T,key,e1,⟨oT,hk' T _ (Nat.ne_of_lt (Heap.lt_size e2)) (Nat.ne_of_lt (Heap.lt_size (k1 _ _ (up _ _ e2)))) (k1 _ _ (up _ _ e2)),r⟩,e3⟩
 ·exact ⟨_,Heap.get?_push_size _ rfl,rfl,rfl⟩
 ·obtain ⟨o,es,ep,q,r⟩:=hnew
  exact ⟨o,es,ep,Heap.get?_push_of_some _ (k1 _ _ q),r⟩
end
def oH (K:Frag) (H:Hp) (v:V) (p:Str×V):Prop:=∃ t,v=.ref t∧SqT K H t [.str p.1,p.2]
section
variable {X:Cx}
theorem pj {pins:List (Addr×Obj)} {σ:L2.St} {H:Hp} {s:Shared} (I:Inv X pins σ H s):∀ {vs:List V} {kvs:List (Str×V)} {its:List Value},Paired (oH X.K H) vs kvs→Vals vs its →
  ∃ rs:List (Key×Value),KV (kvs.map bU) rs∧rs.length=its.length∧∀ (i:Nat) (kv:Key×Value),rs[i]? = some kv→∃ T key,its[i]? = some (Value.ref T)∧IsTup s.heap T #[key,kv.2]∧(bh X.prog X.w).is kv.1 key=true
 | _,_,_,.nil,.nil=>⟨[],.nil,rfl,fun i kv e=>by simp at e⟩
 | _,p::_,u::_,.cons h t,.cons r q=>by
  obtain ⟨rs,k1,k2,k3⟩:=pj I t q
  obtain ⟨a,rfl,hs⟩:=h
  obtain ⟨its,rv,tp,_⟩:=I.tuple hs
  obtain ⟨u1,u2,rfl,r1,r2⟩:=vals2 rv
  cases (show u=Value.ref a from r)
  refine ⟨(Sum.inr p.1,u2)::rs,.cons ⟨rfl,r2⟩ k1,by simp [k2],fun i kv e=>?_⟩
  cases i with
  | zero=>
   simp at e
   subst e
   exact ⟨a,u1,rfl,tp,f6 (k:=Sum.inr p.1) r1⟩
  | succ i=>
   simp at e
   obtain ⟨T,key,e1,e2,e3⟩:=k3 i kv e
   exact ⟨T,key,by simpa using e1,e2,e3⟩
theorem xQ (hcm:X.calm=true):CallR X (.type "dict") (fun xs H Q=>∃ (a:Addr) (vs:List V) (kvs:List (Str×V)),xs=[V.ref a]∧SqL X.K H a vs∧Paired (oH X.K H) vs kvs∧kvs.length≤sizeLine∧∀ p,H p=none→Q (.ref p) (upd H p (.dK (c9 [] (kvs.map bU))))):=by
 intro pins s σ H xs us Q I r h
 obtain ⟨a,vs,kvs,rfl,hs,hp,hz,q⟩:=h
 obtain ⟨u,rfl,ru⟩:=vals1 r
 cases ru
 obtain ⟨its,rv,pl,_⟩:=I.list hs
 obtain ⟨⟨cls,dd,data,sl⟩,n,e,c,d1,d2⟩:=pl
 simp only at c d1 d2
 subst c d1 d2
 obtain ⟨rs,k1,k2,k3⟩:=pj I hp rv
 have hl:(kvs.map bU).length=rs.length:=k1.length
 rw [List.length_map] at hl
 refine vL (knd:=bh X.prog X.w) (I.ok.hd hcm) rs (by omega) (by simp [k2]) e (fun i kv ei=>by
  obtain ⟨T,key,e1,e2,e3⟩:=k3 i kv ei
  exact ⟨T,key,by simpa using e1,e2,e3⟩) fun h' tk dd' keep=>?_
 have hn:H s.heap.objs.size=none:=I.hok.fresh (Nat.le_refl _)
 have h1:=lL (kvs.map bU) []
 rw [List.length_nil,List.length_map] at h1
 refine ⟨.ref s.heap.objs.size,_,I.laid (t':=tk) (o:=.dK (c9 [] (kvs.map bU))) keep (Nat.le_refl _) (jd (by omega) (beq_eq_false_iff_ne.mpr (Ne.symm (Nat.ne_of_lt I.big))) (k1.merge .nil) dd'),rfl,q _ hn⟩
def pairD:PyData→Option (Str×PyData)
 | .tuple [.str k,x]=>some (k,x)
 | _=>none
def eA:List PyData→Option (List (Str×PyData))
 | []=>some []
 | d::r=>match pairD d with
  | some p=>(match eA r with
   | some ps=>some (p::ps)
   | none=>none)
  | none=>none
theorem zg {d:PyData} {p:Str×PyData} (h:pairD d=some p):d=.tuple [.str p.1,p.2]:=by
 unfold pairD at h
 split at h
 ·cases h; rfl
 ·cases h
theorem qH {K:Frag} {O:Addr→Prop} {H:Hp}:∀ {vs:List V} {ds:List PyData} {ps:List (Str×PyData)},Reps K O H vs ds→eA ds=some ps→∃ kvs:List (Str×V),Paired (oH K H) vs kvs∧kvs.map (·.1)=ps.map (·.1)∧RepK K O H (kvs.map bU) (aG ps)
 | _,_,_,.nil,e=>by cases e; exact ⟨[],.nil,rfl,.nil⟩
 | _,_,ps,.cons (d:=d) r t,e=>by
  unfold eA at e
  split at e
  ·rename_i p hp
   split at e
   ·rename_i q hq
    cases e
    obtain ⟨kvs,h1,h2,h3⟩:=qH t hq
    rw [zg hp] at r
    cases r with
    | @tup a _ _ tt rr=>
     cases rr with
     | cons ra rr=>
      cases rr with
      | @cons v _ _ _ rb rr=>
       cases rr
       cases ra
       exact ⟨(p.1,v)::kvs,.cons ⟨a,rfl,tt.sq⟩ h1,by simp [h2],.cons (k:=Sum.inr p.1) rb h3⟩
   ·cases e
  ·cases e
def lE (l:List (Str×PyData)):Bool:=decide ((l.map (·.1)).Nodup) && decide (l.length≤1000)
def lq (T:Tp) (o:Option (List (Str×PyData))):Option (W×Tp):=match o with
 | some l=>if lE l=true then some (.d (.dict (aG l)),T) else none
 | none=>none
def lr (w:W) (T:Tp):Option (W×Tp):=match view T w with
 | some (.list ds)=>lq T (eA ds)
 | _=>none
def jt (f:FE):FE:=fun ρ T=>bnd (f ρ T) lr
theorem zP {w:W} {T:Tp} {w':W} {T':Tp} (h:lr w T=some (w',T')):∃ ds l,view T w=some (.list ds)∧eA ds=some l∧(l.map (·.1)).Nodup∧l.length≤1000∧w'=.d (.dict (aG l))∧T'=T:=by
 unfold lr at h
 split at h
 ·rename_i ds hv
  unfold lq at h
  split at h
  ·rename_i l hl
   split at h
   ·rename_i ho
    cases h
    have h1:=of_decide_eq_true ((Bool.and_eq_true _ _ ▸ ho).1)
    have h2:=of_decide_eq_true ((Bool.and_eq_true _ _ ▸ ho).2)
    exact ⟨ds,l,hv,hl,h1,h2,rfl,rfl⟩
   ·cases h
  ·cases h
 ·cases h
theorem A9 {e:Expr} {fe:FE} {p cpos:Pos} (hm:X.mg "dict" = none) (he:DE X e fe) (hcm:X.calm=true:=by rfl) (hg:Gl X "dict":=by rfl)
  (hse:starEach [e] X.env=(false,eval e X.env)::starEach [] X.env:=by exact bb rfl) (hpl:(backTo cpos (starEach [] X.env)).any (·.1)=false:=by exact bF rfl):DE X (.Call (.Name "dict" p) [e] [] cpos) (jt fe):=by
 refine ⟨?_⟩
 refine pe_imp (jk (jN (xQ hcm) hg hm boot_dict (aU he.pe bx hse) (by decide) (by decide) hse hpl)) fun σ H Q=>?_
 rintro ⟨O,ts,ρ,T,w,T',hc,re,e,q⟩
 obtain ⟨w1,T1,e1,e⟩:=aC e
 obtain ⟨ds,l,hv,hl,nd,hz,rfl,rfl⟩:=zP e
 refine ⟨O,ts,ρ,T,w1,T',hc,re,e1,fun v H1 s1 hc1 r1=>?_⟩
 obtain ⟨a,vs,rfl,t,r⟩:=(hc1.view r1 hv).lst
 obtain ⟨kvs,h1,h2,h3⟩:=qH r hl
 have hlen:kvs.length=l.length:=by have:=congrArg List.length h2; simpa using this
 refine ⟨a,vs,kvs,rfl,t,h1,by rw [hlen]; exact Nat.le_trans hz (by decide),fun p hp=>.frz aR fun o=>.done ?_⟩
 have hm:c9 [] (kvs.map bU)=kvs.map bU:=by
  have:=pY kvs [] (by rw [List.map_nil,List.nil_append,h2]; exact nd)
  simpa using this
 rw [jW,hm]
 exact q _ _ (s1.trans (.new hp _)) (hc1.new hp _) (.dct (hc1.fresh hp) aR (h3.mono (hc1.leNew hp _)))
end
section
set_option maxRecDepth 100000
variable {prog:Program} {w:World} {A:Around} {E:Value→Shared→Prop} {s:Shared}
end
section
set_option maxRecDepth 100000
variable {X:Cx}
end
section
variable {X:Cx}
end
section
set_option maxRecDepth 100000
variable {X:Cx}
end
end D
namespace XE
open PySem PySem.Spec PyProof.Rows L2
abbrev vE:List Value:=[.type "ValueError",.type "Exception",.type "BaseException",.type "object"]
def XCl (K:Frag) (C:Addr) (tl:List Value):Prop:=∃ nm q N bs sn sub ab col dd k0 k1 k2 k3 k5,K.lookup C=some (excClassObj nm q C N bs tl true sn sub ab col dd k0 k1 k2 k3 k5 "ValueError.__new__")∧PySem.W.nsOkIn K N=true
theorem Ab {K:Frag} {h:Heap} {R:Addr} (X:K.In h) (r:XCl K R vE) (ri:PySem.W.ownIn K "__init__" (.ref R)=some none):OwnTail h vE (.ref R::vE):=by
 obtain ⟨nm,q,N,bs,sn,sub,ab,col,dd,k0,k1,k2,k3,k5,l,n⟩:=r
 refine .own (X _ _ l) (.of_isNs (PySem.W.isNs_of_in X n)) (PySem.W.nsMap_none_of_in X n ?_) .base
 simp only [PySem.W.ownIn] at ri
 rw [l] at ri
 exact ri
section
variable {prog:Program} {w:World} {A:Around} {E:Value→Shared→Prop} {h:Heap} {g:Array GenState} {d:Drawn} {t:Nat} {os:OsState} {K:Frag} {C R fI:Addr}
end
end XE
namespace XE
open PySem PySem.Spec PyProof.Rows L2
def XAt (e C:Addr) (od:Option Addr):Heap→Prop:=fun h=>∃ t,h.get? e=some { cls:=.ref C,dict:=od,data:=.fields #[.ref t,.none,.none,.none,.bool false,.none] }
theorem XAt.stay {e C:Addr} {od:Option Addr} {h1 h2:Heap} (x:XAt e C od h1) (k:∀ o,h1.get? e=some o→h2.get? e=some o):XAt e C od h2:=let ⟨t,y⟩:=x; ⟨t,k _ y⟩
theorem XAt.ok {P:Program} {w:World} {H:Hp} {e C:Addr} {od:Option Addr} {h:Heap} (x:XAt e C od h):ObjOk P w H h e (.ext (XAt e C od)):=⟨x,let ⟨_,y⟩:=x; ⟨_,y⟩,fun _ _ a k=>a.stay k⟩
theorem XAt.of {P:Program} {w:World} {H:Hp} {e C:Addr} {od:Option Addr} {h:Heap} (ok:HOk P w H h) (x:H e=some (.ext (XAt e C od))):XAt e C od h:=(ok _ _ x).1
section
variable {X:Cx} {C R:Addr}
end
section
open Builtin Builtin.ObjectAttr
variable {prog:Program} {w:World} {A:Around} {E:Value→Shared→Prop} {h:Heap} {g:Array GenState} {d:Drawn} {t:Nat} {os:OsState} {K:Frag} {C R e:Addr} {name:Str} {v:Value} {vs:Array Value}
end
end XE
namespace XE
open PySem PySem.Spec PyProof.Rows L2
section
variable {X:Cx} {C R:Addr}
end
end XE
namespace XE
open PySem PySem.Spec PyProof.Rows L2
def spI (C:Addr) (f:Str):Sp:=fun vs H Q _=>∃ a x,vs=[.ref a,.str x]∧H a=some (.ext (XAt a C none))∧(reprText x).length + 1000≤sizeLine ∧
 ∀ dx,H dx=none→dx≠a→Q .non (upd (upd H dx (.xd [(f,.str x)])) a (.ext (XAt a C (some dx))))
structure XIni (P:Program) (w:World) (K:Frag) (mg:Str→Option Value) (base:Heap) (C R:Addr) (f:Str) (k:Nat):Prop where
 ex:∃ fI fd ps,FnOk P w K mg base CX0 k fI fd ps (spI C f)∧Binds K fd ps []∧PySem.W.findIn K (.ref C) "__init__" = some (some (.ref fI))∧PySem.W.isFn K (.ref fI)=true
 c:XCl K C (.ref R::vE)
 r:XCl K R vE
 ri:PySem.W.ownIn K "__init__" (.ref R)=some none
 kp:PySem.W.keepIn K (.ref C)=true
section
variable {X:Cx} {C R:Addr} {f:Str} {k:Nat}
end
end XE
namespace XE
open PySem PySem.Spec PyProof.Rows L2
structure Kp (xs fs:List Addr) (h h':Heap):Prop where
 keep:∀ b o,h.get? b=some o→b∉xs→b∉fs→h'.get? b=some o
 slot:∀ b o,h.get? b=some o→b∉xs→b∈fs→∃ sl,h'.get? b=some { o with slots:=sl }
 there:∀ b o,h.get? b=some o→∃ o',h'.get? b=some o'
theorem Kp.trans {xs fs:List Addr} {h h1 h2:Heap} (a:Kp xs fs h h1) (b:Kp xs fs h1 h2):Kp xs fs h h2 where
 keep:=fun c o q n m=>b.keep c o (a.keep c o q n m) n m
 slot:=fun c o q n m=>let ⟨_,e⟩:=a.slot c o q n m; let ⟨sl,e2⟩:=b.slot c _ e n m; ⟨sl,e2⟩
 there:=fun c o q=>let ⟨_,e⟩:=a.there c o q; b.there c _ e
theorem Kp.more {xs ys fs:List Addr} {h h':Heap} (a:Kp xs fs h h') (k:∀ x∈xs,x∈ys):Kp ys fs h h':=⟨fun b o q n m=>a.keep b o q (fun z=>n (k b z)) m,fun b o q n m=>a.slot b o q (fun z=>n (k b z)) m,a.there⟩
theorem Kp.fun_ {xs fs:List Addr} {h h' base:Heap} {l:List Env} (a:Kp xs fs h h') (n:∀ x∈xs,∃ o vs,h.get? x=some o∧o.data=.fields vs) (f:h.FunFrames base l):h'.FunFrames base l:=by
 refine f.of_keeps fun b o q nf=>?_
 have hx:b∉xs:=fun z=>by
  obtain ⟨o',vs,e1,e2⟩:=n b z
  rw [q] at e1
  cases e1
  exact nf vs e2
 by_cases hb:b∈fs
 ·obtain ⟨sl,e⟩:=a.slot b o q hx hb
  exact ⟨_,e,rfl⟩
 ·exact ⟨o,a.keep b o q hx hb,rfl⟩
def XR (e C dx:Addr) (tb:Value) (h:Heap):Prop:=∃ t,h.get? e=some { cls:=.ref C,dict:=some dx,data:=.fields #[.ref t,tb,.none,.none,.bool false,.none] }
def TB (T:Addr) (fl:Value) (h:Heap):Prop:=∃ oT ts,h.get? T=some oT∧oT.data=.fields ts∧ts[3]? = some fl
section
variable {M:Model} {A:Around} {E:Value→Shared→Prop} {s:Shared} {base:Heap} {env:Env} {outer:List Env} {L e C dx T:Addr}
end
end XE
namespace XE
open PySem PySem.Spec PyProof.Rows L2
def forget (a:Addr) (H:Hp):Hp:=fun b=>if b=a then none else H b
theorem c6 {a b:Addr} {H:Hp} (h:b≠a):forget a H b=H b:=by unfold forget; rw [if_neg h]
theorem fQ {a:Addr} {H:Hp}:forget a H a=none:=by unfold forget; rw [if_pos rfl]
theorem iM {a:Addr} {H:Hp} {o:HO} (h:H a=none):forget a (upd H a o)=H:=by
 funext b
 unfold forget upd
 by_cases e:b=a
 ·rw [if_pos e,e,h]
 ·rw [if_neg e,if_neg e]
section
variable {P:Program} {w:World} {K:Frag} {mg:Str→Option Value} {base:Heap} {N:List Str} {qual:Str} {scope:Scope} {f C R:Addr} {cdv:Value} {A:Around} {outer:List Env} {s0:Shared} {H0:Hp} {E:XK}
def sRaise (n0:Nat) (C:Addr) (E:XK) (te:TE):TS:=fun _ σ H=>te σ H fun v H2=>∃ a dx,v=.ref a∧n0≤a∧H2 a=some (.ext (XAt a C (some dx)))∧E (.ref C) (some dx) (forget a H2)
end
end XE
namespace XE
open PySem PySem.Spec PyProof.Rows L2
section
variable {X:Cx} {pins:List (Addr×Obj)} {σ:L2.St} {H:Hp} {s:Shared}
theorem name_goes {A:Around} {E:Value→Shared→Prop} {i:Nat} {n:Str} {pos:Pos} {Q:Unit→Shared→Prop} (I:L2.Inv X pins σ H s) (hN:X.N.Nodup) (hi:X.N[i]? = some n) (hl:X.env.scope.names.lookup n=some .local)
  (k:∀ s',L2.Inv X pins (σ.set i none) H s'→Q () s'):wpAny (model X.prog X.w) A (do bindName X.env n .none; unbindBehindTheSuite X.env n pos) Q E s:=by
 obtain ⟨m,hn,hm⟩:=id I.loc
 have hp:(X.env.scope.kind == .class || (X.env.scope.kind == .module && X.env.locals != X.env.globals))=false:=by rw [I.ok.kind]; rfl
 have hk:X.env.kindOf n=some .local:=hl
 refine wpAny_bind (wpAny_bindName (wpAny_storeName_local hk hn (fun h1 hn1 hs1=>?_) hp))
 unfold unbindBehindTheSuite
 refine wpAny_onRaise ?_
 unfold unbindName
 refine wpAny_bind (wpAny_point (wpAny_bind ?_))
 unfold deleteName
 simp only [hk,hp]
 rw [if_neg (by decide)]
 refine wpAny_bind (wpAny_nsDel_keeps hn1 fun h2 v hn2 hs2=>?_)
 simp only [if_true,Option.isSome_some,Bool.not_true,Bool.false_eq_true,if_false]
 refine wpAny_pure (wpAny_point (k _ ?_))
 have hs:=hs1.trans hs2
 have cne:=I.cne
 obtain ⟨oL,_,_,hoL,_⟩:=id hn
 have hiσ:i < σ.length:=by rw [I.len]; exact (List.getElem?_eq_some_iff.mp hi).1
 refine ⟨I.ok,I.os,I.bare,⟨fun b o e n hb hx=>?_,fun b o e n hb hx=>?_,I.base.free,fun b o e hx=>?_,I.base.tups,I.base.frzs,I.base.tbls⟩,⟨_,hn2,fun j y v' e1 e2 e3=>?_⟩,fun y c e=>?_,I.free,I.freeC,fun p hp=>?_,fun b ob e=>?_,by simpa using I.len⟩
 ·exact (hs.2 b (Nat.ne_of_lt (Nat.lt_of_lt_of_le (Heap.lt_size e) I.ok.above))).trans (I.base.keep b o e n hb hx)
 ·obtain ⟨sl,e1⟩:=I.base.slot b o e n hb hx
  exact ⟨sl,(hs.2 b (Nat.ne_of_lt (Nat.lt_of_lt_of_le (Heap.lt_size e) I.ok.above))).trans e1⟩
 ·obtain ⟨o',e1⟩:=I.base.there b o e hx
  exact ⟨o',(hs.2 b (Nat.ne_of_lt (Nat.lt_of_lt_of_le (Heap.lt_size e) I.ok.above))).trans e1⟩
 ·by_cases hj:j=i
  ·subst hj
   rw [List.getElem?_set_self hiσ] at e2
   cases e2
  ·rw [List.getElem?_set_ne (Ne.symm hj)] at e2
   obtain ⟨u',r',q⟩:=hm j y v' e1 e2 e3
   refine ⟨u',r',?_⟩
   rcases q with ⟨k,e⟩ | ⟨k,c,e,z⟩
   ·refine .inl ⟨k,?_⟩
    have:y≠n:=fun e=>hj (mi hN e1 (e ▸ hi))
    simp [this,e]
   ·exact .inr ⟨k,c,e,z.sameBut hs (cne y c e)⟩
 ·obtain ⟨w',z⟩:=I.cell y c e
  exact ⟨w',z.sameBut hs (cne y c e)⟩
 ·obtain ⟨e,n,ne,nf,d⟩:=I.pin p hp
  exact ⟨(hs.2 p.1 ne).trans e,n,ne,nf,d⟩
 ·refine (I.hok b ob e).stay (fun c w' hc q=>(hs.2 c ?_).trans q) (fun _ q=>q) fun _ _ q=>q
  rintro rfl
  rcases hc with rfl | hc
  ·rw [I.free] at e; cases e
  ·rw [I.free] at hc; cases hc
theorem wW {A:Around} {v:Option Value}:(A.mark v).frames=A.frames:=rfl
theorem yn {M:Model} {A:Around} {E:Value→Shared→Prop} {K:Frag} {C R e:Addr} {oe:Obj} {Q:Bool→Shared→Prop} (x:K.In s.heap) (c:XCl K C (.ref R::vE)) (r:XCl K R vE) (he:s.heap.get? e=some oe) (hc:oe.cls=.ref C) (q:Q true s) :
  wpAny M A (excMatches (.ref e) (.ref R)) Q E s:=by
 obtain ⟨nm,qn,N,bs,sn,sub,ab,col,dd,k0,k1,k2,k3,k5,l,_⟩:=c
 obtain ⟨nm',qn',N',bs',sn',sub',ab',col',dd',k0',k1',k2',k3',k5',l',_⟩:=r
 have hC:=x _ _ l
 have hR:=x _ _ l'
 have c1:(Value.ref R::vE).contains (.type "BaseException")=true:=by simp
 have c2:(Value.ref C::Value.ref R::vE).contains (.ref R)=true:=by simp
 have f:=tc_notTuple
 obtain ⟨hp,g,d,tk,os⟩:=s
 unfold excMatches
 repeat (first | (with_reducible refine wpAny_loadPart_at he ?_; rw [hc]) | with_reducible refine wpAny_loadPart_at hR ?_ | wp_step)
 refine wpAny_isSubtype_exc hR ?_
 rw [c1]
 repeat (first | (with_reducible refine wpAny_loadPart_at he ?_; rw [hc]) | with_reducible refine wpAny_loadPart_at hR ?_ | wp_step)
 refine wpAny_isSubtype_exc hC ?_
 rw [c2]
 repeat wp_step
 exact q
end
end XE
namespace XE
open PySem PySem.Spec PyProof.Rows L2
section
variable {X:Cx} {C R fa:Addr} {k:Nat} {fd:FuncData} {ps:List Str} {sp:Sp}
end
end XE
namespace XE
open PySem PySem.Spec PyProof.Rows L2
section
variable {prog:Program} {w:World} {A:Around} {E:Value→Shared→Prop} {h:Heap} {g:Array GenState} {d:Drawn} {t:Nat} {os:OsState} {K:Frag} {C R x:Addr} {ox:Obj} {od:Option Obj} {name:Str}
theorem AO:builtinKind "BaseException.__getattribute__" = some .slot:=by decide +kernel
theorem yO:splitId "BaseException.__getattribute__" = some ("BaseException","__getattribute__"):=by decide +kernel
theorem yM {tk:Nat} {Rr:Result→Shared→Prop} (hbm:PySem.W.mroIn K C (.type "BaseException")=some true) (X:K.In h) (I:PySem.W.InstAt h x ox C od)
  (k:wpAny (model prog w) A.in1 (Builtin.«object.__getattribute__» ⟨[.ref x,.str name tk],[]⟩) (fun fin s'=>match fin with | .done f=>Rr (.ok f) s' | .again c'=>c'.quiet=true∧codeAny (model prog w) A c' Rr s') (fun e s'=>Rr (.error e) s') ⟨h,g,d,t,os⟩) :
  codeAny (model prog w) A (.call (.builtin "BaseException.__getattribute__") ⟨[.ref x,.str name tk],[]⟩) Rr ⟨h,g,d,t,os⟩:=by
 have sub:PySem.W.Looks (model prog w) h (isInstance (.ref x) (.type "BaseException")) true:=I.type.andThen (PySem.W.looks_mroIn X hbm)
 have ha:=F.args_bexc_ga (.ref x) (.str name tk)
 exact codeAny_call_builtin PySem.F.excAttr_ValueError.ga.plain F.entry_bexc_ga (@PySem.W.check_slot (model prog w) _ _ ⟨h,g,d,t,os⟩ "BaseException.__getattribute__" "BaseException" "__getattribute__" (.ref x) [.str name tk] [] _ AO yO sub ha k)
structure XIs (K:Frag) (C:Addr):Prop where
 bm:PySem.W.mroIn K C (.type "BaseException")=some true
 gt:PySem.W.findIn K (.ref C) "__getattr__" = some none
 ga:PySem.W.findIn K (.ref C) "__getattribute__" = some (some (.builtin "BaseException.__getattribute__"))
 hc:(PySem.W.clsIn K C).isSome=true
 ca:PySem.W.findIn K (.ref C) "__class__" = some (some (.builtin "object.__class__"))
 hn:PySem.W.specialIn K (.builtin "object.__class__") "__get__" = some (some (.builtin "getset_descriptor.__get__"))
 tk:PySem.W.takesIn K (.builtin "object.__class__")=some true
 hm:PySem.W.mroIn K C (.type "object")=some true
end
end XE
namespace XE
open PySem PySem.Spec PyProof.Rows L2
theorem pF:∀ {Ds:List Addr} {us:List Value},Vals (Ds.map V.ref) us→us=Ds.map Value.ref
 | [],_,.nil=>rfl
 | a::r,_,.cons h1 h2=>by rw [List.map_cons,← pF h2]; cases (show _=Value.ref a from h1); rfl
section
variable {X:Cx} {C e dx:Addr} {oe:Obj}
structure Cau (X:Cx) (C e dx:Addr) (oe:Obj):Prop where
 pin:(e,oe)∈X.pn
 cls:oe.cls=.ref C
 dict:oe.dict=some dx
 data:∃ vs,oe.data=.fields vs
 is:XIs X.K C
 hd:PySem.W.hasDictIn X.K C=true
end
end XE
namespace XE
open PySem PySem.Spec PyProof.Rows L2 D
theorem qB {K:Frag} {O:Addr→Prop} {ts:List Addr} {H:Hp} {T:Tp} {vs:List V} {ws:List W} {N:List Str} (hc:HC K O ts H T) (rw':eJ K O ts H vs ws) (hn:bQ ws=true) :
  RS K O H [] ts O H (start N vs) (ws.map some++List.replicate (N.length - ws.length) none) T:=by
 have hlen:vs.length=ws.length:=Paired.length rw'
 have noL:∀ {i:Nat} {xs:PyData},(ws.map some++List.replicate (N.length - ws.length) none)[i]? = some (some (W.loc xs))→False:=fun {i xs} e=>iN hn (List.mem_of_getElem? (hG e))
 refine ⟨hc,fun i u e=>?_,fun _ h=>h,hc.own,.refl _ _,fun i xs a e1 _=>(noL e1).elim,fun i j xs ys v e1 _ _ _=>(noL e1).elim,fun f hf=>absurd hf (by simp),by simp [L2.start,hlen]⟩
 obtain ⟨v,h1,h2⟩:=jM rw' (hG e)
 refine ⟨v,?_,h2⟩
 unfold L2.start
 have hi:i < vs.length:=(List.getElem?_eq_some_iff.mp h1).1
 rw [List.getElem?_append_left (by simpa using hi),List.getElem?_map,h1]
 rfl
structure XB (K:Frag) (C R:Addr) (f:Str) (Ds:List Addr):Prop where
 c:XCl K C (.ref R::vE)
 r:XCl K R vE
 ri:PySem.W.ownIn K "__init__" (.ref R)=some none
 kp:PySem.W.keepIn K (.ref C)=true
 is:XIs K C
 hd:PySem.W.hasDictIn K C=true
 nn:PySem.W.findIn K (.ref C) f=some none
 sa:PySem.W.findIn K (.ref C) "__setattr__" = some (some (.builtin "object.__setattr__"))
 rd:PySem.W.readsIn K R (.type "type")=true
 fc:PySem.W.findCls K (.ref R) (.type "type") "__init__" = some (.val (.builtin "ValueError.__init__"))
 kC:PySem.W.kitOne K (.ref C) (.ref C)=some true
 kV:PySem.W.kitOne K (.ref C) (.type "ValueError")=some true
 kD:PySem.W.kitAny K (.ref C) (Ds.map Value.ref)=some false
def k6:Obj→Bool
 | ⟨_,_,.dict es _,_⟩=>es.toList.all fun e=>match e.key with
  | .str _ _=>true
  | _=>false
 | _=>false
theorem B9 {K:Frag} {C A:Addr} (h1:PySem.W.isClsIn K A=true) (h2:PySem.W.typeIn K (.ref A)=some (.type "type")) (h3:PySem.W.subIn K (.ref C) (.ref A)=some false) (h4:(Value.ref C == Value.ref A)=false):PySem.W.kitOne K (.ref C) (.ref A)=some false:=by
 unfold PySem.W.kitOne PySem.W.kitCls
 unfold PySem.W.isClsIn at h1
 rw [h4,if_neg Bool.false_ne_true]
 simp only [h1,h2,h3,beq_self_eq_true,Bool.and_true,if_true]
theorem B8 {K:Frag} {C:Addr} (h3:PySem.W.subIn K (.ref C) (.type "ValueError")=some true):PySem.W.kitOne K (.ref C) (.type "ValueError")=some true:=by
 have h4:(Value.ref C == Value.type "ValueError")=false:=by simp
 have h5:PySem.W.kitMeta "ValueError" = true:=by decide +kernel
 unfold PySem.W.kitOne PySem.W.kitCls
 rw [h4,if_neg Bool.false_ne_true]
 simp only [h5,h3,if_true]
end XE
namespace XE
open PySem PySem.Spec PyProof.Rows L2
section
variable {X:Cx} {C R:Addr}
end
end XE
namespace XE
open PySem PySem.Spec PyProof.Rows L2 D
def spG (P:V→Prop) (C:Addr) (f:Str):Sp:=fun vs H Q _=>∃ a v,vs=[.ref a,v]∧H a=some (.ext (XAt a C none))∧P v ∧
 ∀ dx,H dx=none→dx≠a→Q .non (upd (upd H dx (.xd [(f,v)])) a (.ext (XAt a C (some dx))))
structure XIniG (A:V→Prop) (P:Program) (w:World) (K:Frag) (mg:Str→Option Value) (base:Heap) (C R:Addr) (f:Str) (k:Nat):Prop where
 ex:∃ fI fd ps,FnOk P w K mg base CX0 k fI fd ps (spG A C f)∧Binds K fd ps []∧PySem.W.findIn K (.ref C) "__init__" = some (some (.ref fI))∧PySem.W.isFn K (.ref fI)=true
 c:XCl K C (.ref R::vE)
 r:XCl K R vE
 ri:PySem.W.ownIn K "__init__" (.ref R)=some none
 kp:PySem.W.keepIn K (.ref C)=true
section
variable {X:Cx} {C R:Addr} {f:Str} {k:Nat}
end
end XE
namespace XE
open PySem PySem.Spec PyProof.Rows L2 D
end XE
namespace D
open PySem PySem.Spec PyProof.Rows L2
def nI (n:Nat) (o:Option (PyData×Tp)):Option (W×Tp):=match o with
 | some (y,T)=>if T.length=n + 1 then some (.d y,T.take n) else none
 | none=>none
def i9 (mf:FnM) (xs:List PyData) (ws:List W) (T:Tp):Option (W×Tp):=if bQ ws=true then nI T.length (mf (.tp T.length::ws) (T++[xs])) else none
def sZ (mf:FnM) (g:FA) (ρ:Rho) (x:PyData) (T:Tp):Option (W×Tp):=match x with
 | .list xs=>bnd (g ρ T) (i9 mf xs)
 | _=>none
def de (mf mh:FnM) (g1 g2:FA):FE:=fun ρ T=>bnd (g1 ρ T) fun ws T1=>bnd (mh ws T1) (sZ mf g2 ρ)
theorem yg {mf:FnM} {g:FA} {ρ:Rho} {x:PyData} {T T':Tp} {w:W} (h:sZ mf g ρ x T=some (w,T')):∃ xs ws T3 y T5,x=.list xs∧g ρ T=some (ws,T3)∧bQ ws=true∧mf (.tp T3.length::ws) (T3++[xs])=some (y,T5)∧T5.length=T3.length + 1∧w=.d y∧T'=T5.take T3.length:=by
 cases x with
 | list xs=>
  obtain ⟨ws,T3,e1,e⟩:=aC (show bnd (g ρ T) (i9 mf xs)=_ from h)
  unfold i9 at e
  split at e
  ·rename_i hn
   unfold nI at e
   split at e
   ·rename_i y T5 e2
    split at e
    ·rename_i hl
     cases e
     exact ⟨xs,ws,T3,y,T5,rfl,e1,hn,e2,hl,rfl,rfl⟩
    ·cases e
   ·cases e
  ·cases e
 | _=>cases h
section
variable {X:Cx}
theorem mr {fname hname:Str} {ps qs:List Str} {kf kh:Nat} {mf mh:FnM} {a:Expr} {as es:List Expr} {g1 g2:FA} {p p2 c2 cpos:Pos} (Ff:Fn X.prog X.w X.K X.mg X.base fname ps kf (spM X.K ps.length mf)) (Fh:Fn X.prog X.w X.K X.mg X.base hname qs kh (spO X.K qs.length mh)) (hrf:Room kf X.A) (hrh:Room kh X.A) (hgf:Gl X fname) (hgh:Gl X hname)
  (ha:DA X (a::as) g1) (hl1:cO g1 qs.length) (he:DA X es g2) (hl2:cO (aa (fC .none) g2) ps.length) (hdf:(fname == ("__debug__" : Str))=false:=by decide) (hdh:(hname == ("__debug__" : Str))=false:=by decide)
  (hsh:starEach (a::as) X.env=(false,eval a X.env)::starEach as X.env:=by exact bb rfl) (hplh:(backTo c2 (starEach as X.env)).any (·.1)=false:=by exact bF rfl)
  (hsf:starEach (.Call (.Name hname p2) (a::as) [] c2::es) X.env=(false,eval (.Call (.Name hname p2) (a::as) [] c2) X.env)::starEach es X.env:=by exact bb rfl) (hplf:(backTo cpos (starEach es X.env)).any (·.1)=false:=by exact bF rfl) :
  DE X (.Call (.Name fname p) (.Call (.Name hname p2) (a::as) [] c2::es) [] cpos) (de mf mh g1 g2):=by
 refine ⟨?_⟩
 refine pe_imp (gQ Ff hrf hgf (aU (gQ Fh hrh hgh ha.pe hdh hsh hplh) he.pe hsf) hdf hsf hplf) fun σ H Q=>?_
 rintro ⟨O,ts,ρ,T,w,T',hc,re,e,q⟩
 obtain ⟨ws,T1,e1,e⟩:=aC e
 obtain ⟨x,T2,e2,e⟩:=aC e
 obtain ⟨xs,ws2,T3,y,T5,rfl,e3,hno,e4,hlen,rfl,rfl⟩:=yg e
 refine ⟨O,ts,ρ,T,ws,T1,hc,re,e1,fun vs H1 s1 hc1 r1=>?_⟩
 refine ⟨O,ts,T1,ws,_,_,hc1,by rw [List.append_nil]; exact r1,hl1 _ _ _ _ e1,e2,fun A v H2 s2 hA hc2 ov=>?_⟩
 obtain ⟨b,rfl,hAA,us,k1,k2⟩:=ov
 have hAb:=hA b ((hAA b).mpr rfl)
 have ntb:b∉ts:=fun z=>hAb.2 (hc1.own b z)
 have le2:Le O H1 (fun c=>O c∨A c) H2:=fun c o n z=>⟨fun y=>y.elim n fun y=>(by rw [(hA c y).1] at z; cases z),s2 c o (fun y=>n (hc1.own c y)) z⟩
 have re2:RelE X.K (fun c=>O c∨A c) ts H2 σ ρ:=fun i w e=>by
  obtain ⟨v,h1,h2⟩:=(re.mono hc s1) i w e
  refine ⟨v,h1,?_⟩
  cases w with
  | d x=>exact Rep.mono le2 h2
  | tp k=>exact h2
  | loc ys=>
   obtain ⟨a',ea,m1,m2,m3⟩:=h2
   exact ⟨a',ea,.inl m1,m2,m3.mono (fun o q=>s2 _ _ m2 q) le2⟩
 refine ⟨_,ts,ρ,T2,ws2,T3,hc2,re2,e3,fun vs2 H3 s3 hc3 r3=>?_⟩
 have kb3:H3 b=some (.lst us):=s3 b _ ntb k1
 have ru3:=k2.mono (hc2.le s3)
 have lt3:ts.length=T3.length:=hc3.len
 have hc4:HC X.K (fun c=>O c∨A c) (ts++[b]) H3 (T3++[xs]):=by
  refine ⟨fun c hc'=>?_,hc3.trk,?_,by simp [lt3],fun i c ys q1 q2=>?_⟩
  ·rcases List.mem_append.mp hc' with z | z
   ·exact hc3.own c z
   ·rw [List.mem_singleton.mp z]; exact .inr ((hAA b).mpr rfl)
  ·exact List.nodup_append.mpr ⟨hc3.nd,by simp,fun c hc' d hd z=>ntb (by rw [← List.mem_singleton.mp hd,← z]; exact hc')⟩
  ·by_cases hi:i < ts.length
   ·rw [List.getElem?_append_left hi] at q1
    rw [List.getElem?_append_left (by omega)] at q2
    exact hc3.tape i c ys q1 q2
   ·have hi':i=ts.length:=by
     have:=(List.getElem?_eq_some_iff.mp q1).1
     simp at this
     omega
    subst hi'
    rw [List.getElem?_append_right (Nat.le_refl _)] at q1
    rw [List.getElem?_append_right (by omega)] at q2
    simp [lt3] at q1 q2
    subst q1 q2
    exact .inl ⟨ru3.notO,us,kb3,ru3⟩
 have rw4:eJ X.K (fun c=>O c∨A c) (ts++[b]) H3 (.ref b::vs2) (.tp T3.length::ws2):=by
  refine .cons ⟨b,by rw [List.getElem?_append_right (by omega)]; simp [lt3],rfl⟩ ?_
  clear e4 hlen q e3
  induction r3 with
  | nil=>exact .nil
  | @cons v w vs ws h t ih=>
   cases w with
   | d x=>exact .cons h (ih hno)
   | tp i=>
    obtain ⟨c,h1,h2⟩:=h
    exact .cons ⟨c,by rw [List.getElem?_append_left (List.getElem?_eq_some_iff.mp h1).1]; exact h1,h2⟩ (ih hno)
   | loc _=>cases hno
 have hlw:(W.tp T3.length::ws2).length=ps.length:=by
  have:=hl2 ρ T2 (.d .none::ws2) T3 (by show bnd (some (W.d .none,T2)) _=_; rw [CC,e3]; rfl)
  simpa using this
 refine ⟨_,ts++[b],T3++[xs],.tp T3.length::ws2,y,T5,hc4,by rw [List.append_nil]; exact rw4,hlw,e4,fun v H4 s4 hc5 r5=>?_⟩
 have le5:Le (fun c=>O c∨A c) H4 O H4:=fun c o n z=>⟨fun y=>n (.inl y),z⟩
 refine q v H4 (fun c o n z=>?_) ⟨hc.own,fun c hc'=>hc5.trk c (.inl hc'),hc.nd,?_,fun i c ys q1 q2=>?_⟩ (Rep.mono le5 r5)
 ·have h1:=s1 c o n z
  have nb:c≠b:=fun y=>by rw [y,hAb.1] at h1; cases h1
  refine s4 c o (fun y=>?_) (s3 c o n (s2 c o n h1))
  rcases List.mem_append.mp y with z | z
  ·exact n z
  ·exact nb (List.mem_singleton.mp z)
 ·rw [List.length_take,hlen,lt3]
  omega
 ·have hi:i < ts.length:=(List.getElem?_eq_some_iff.mp q1).1
  rw [List.getElem?_take_of_lt (by omega)] at q2
  exact (hc5.tape i c ys (by rw [List.getElem?_append_left hi]; exact q1) q2).mono (fun _ h=>h) le5
end
section
variable {X:Cx}
variable {pos:Pos} {e:Expr} {fe:FE}
end
section
variable {prog:Program} {w:World} {A:Around} {E:Value→Shared→Prop}
end
section
variable {X:Cx} {pos:Pos}
end
section
variable {X:Cx} {pos:Pos} {e:Expr} {fe:FE}
theorem oV {h:Heap}:∀ {vs:List Value} {ds:List PyData} {as:List Addr} {i:Nat} {v:Value},ReadsAll h vs ds as→vs[i]? = some v→∃ d bs,ds[i]? = some d∧Reads h v d bs
 | _,_,_,i,_,.nil,hm=>by simp at hm
 | _,_,_,0,_,.cons r rs,hm=>by
  simp at hm
  subst hm
  exact ⟨_,_,rfl,r⟩
 | _,_,_,i + 1,_,.cons r rs,hm=>by
  obtain ⟨d,bs,h1,h2⟩:=oV (i:=i) rs (by simpa using hm)
  exact ⟨d,bs,by simpa using h1,h2⟩
def lJ (x:PyData):List PyData→Option Nat
 | []=>none
 | d::r=>if PyData.eqv d x=true then some 0 else (lJ x r).map (· + 1)
theorem rX {x:PyData}:∀ {ds:List PyData} {j:Nat},lJ x ds=some j→(∃ d,ds[j]? = some d∧PyData.eqv d x=true)∧∀ m d,m < j→ds[m]? = some d→PyData.eqv d x=false
 | [],_,h=>by cases h
 | d::r,j,h=>by
  unfold lJ at h
  split at h
  ·rename_i hx
   cases h
   exact ⟨⟨d,rfl,hx⟩,fun m _ hm=>absurd hm (Nat.not_lt_zero _)⟩
  ·rename_i hx
   obtain ⟨i,h1,rfl⟩:=Option.map_eq_some_iff.mp h
   obtain ⟨k1,k2⟩:=rX h1
   refine ⟨by simpa using k1,fun m e hm he=>?_⟩
   cases m with
   | zero=>simp at he; subst he; simpa using hx
   | succ m=>exact k2 m e (by omega) (by simpa using he)
def um (xs:List PyData) (w:W) (T:Tp):Option (W×Tp):=match w with
 | .d x=>if SeqAt.shaped x=true∧xs.all SeqAt.shaped=true then (match lJ x xs with
  | some j=>some (.d (.int (j:Int)),T)
  | none=>none) else none
 | _=>none
def uv (fo fe:FE):FE:=fun ρ T=>bnd (fo ρ T) fun w T1=>match w with
 | .d (.list xs)=>bnd (fe ρ T1) (um xs)
 | _=>none
end
section
variable {X:Cx}
end
section
variable {X:Cx} {pos:Pos} {e:Expr} {fe:FE}
end
def cE (ds:List (PyData×PyData)) (s:Str):List (PyData×PyData):=ds.filter fun p=>match p.1 with
 | .str x=>decide (x≠s)
 | _=>true
theorem qW {K:Frag} {O:Addr→Prop} {H:Hp} {s:Str}:∀ {kvs:List (Key×V)} {ds:List (PyData×PyData)},RepK K O H kvs ds→RepK K O H (cF kvs (Sum.inr s:Key)) (cE ds s)
 | _,_,.nil=>.nil
 | _,_,.cons (k:=k) (v:=v) (d:=d) (kvs:=kvs) (ds:=ds) r t=>by
  have ih:=qW (s:=s) t
  rcases k with i | x
  ·have e1:cF (((Sum.inl i:Key),v)::kvs) (Sum.inr s:Key)=((Sum.inl i:Key),v)::cF kvs (Sum.inr s:Key):=by simp [cF]
   have e2:cE ((cW (Sum.inl i),d)::ds) s=(cW (Sum.inl i),d)::cE ds s:=rfl
   rw [e1,e2]
   exact .cons r ih
  ·by_cases hx:x=s
   ·have e1:cF (((Sum.inr x:Key),v)::kvs) (Sum.inr s:Key)=cF kvs (Sum.inr s:Key):=by simp [cF,hx]
    have e2:cE ((cW (Sum.inr x),d)::ds) s=cE ds s:=by simp [cE,cW,hx]
    rw [e1,e2]
    exact ih
   ·have e1:cF (((Sum.inr x:Key),v)::kvs) (Sum.inr s:Key)=((Sum.inr x:Key),v)::cF kvs (Sum.inr s:Key):=by simp [cF,hx]
    have e2:cE ((cW (Sum.inr x),d)::ds) s=(cW (Sum.inr x),d)::cE ds s:=by simp [cE,cW,hx]
    rw [e1,e2]
    exact .cons r ih
section
variable {X:Cx} {pos:Pos} {e:Expr} {fe:FE}
end
section
variable {X:Cx} {pos:Pos}
def oq (o:Option PyData):Option (List (Str×PyData)):=match o with
 | some (.list ds)=>eA ds
 | _=>none
end
def Ed (_ j:Int):Prop:=0 < j∧j < 18446744073709551616
def lg:PyData→PyData→Option PyData:=iop fun i j=>if 0 < j∧j < 18446744073709551616 then some (.int (i / j)) else none
theorem Dk {x y:Int} (h:y.natAbs < 18446744073709551616):Builtin.divisionGoesByPylong x y=false:=by
 refine PyProof.noPylong_of_log2 ?_
 by_cases h0:y.natAbs=0
 ·rw [h0]; decide +kernel
 ·have h30:y.natAbs.log2 < 64:=(Nat.log2_lt h0).mpr h
  omega
section
variable {X:Cx}
theorem zi:OpR X (binaryOp .FloorDiv) (rI Ed fun i j=>.int (i / j)):=opI fun i j _ _ _ _ _ hc q=>by
 have h1:(0:Int) < j:=hc.1
 have h2:j < 18446744073709551616:=hc.2
 exact floordiv_int (by omega) (by rw [Int.fdiv_eq_ediv_of_nonneg i (by omega)]; exact q) (.inl (Dk (by omega)))
theorem rO:OpD X (binaryOp .FloorDiv) lg:=⟨_,zi,mX fun i j d e=>by
 split at e
 ·rename_i h; cases e; exact ⟨h,fun _ _=>.int _⟩
 ·cases e⟩
end
end D
namespace L2
open PySem PySem.Spec PyProof.Rows
section
variable {prog:Program} {w:World} {A:Around} {E:Value→Shared→Prop} {s:Shared}
end
section
variable {X:Cx} {e:Expr} {te:TE} {x y:Str} {p p' pos pos':Pos}
end
end L2
namespace D
open PySem PySem.Spec PyProof.Rows L2
def DC:PyData→Option PyData
 | .list xs=>some (.list xs.reverse)
 | _=>none
@[simp] theorem Gr {xs:List PyData}:DC (.list xs)=some (.list xs.reverse):=rfl
section
variable {X:Cx} {pos pos' p p':Pos} {e:Expr} {f:FE}
end
section
variable {X:Cx} {pos:Pos}
end
def dd:List Str→List Str
 | []=>[]
 | a::r=>if a∈r then dd r else a::dd r
section
variable {X:Cx} {pos:Pos}
end
end D
namespace L2
open PySem PySem.Spec PyProof.Rows
section
variable {P:Program} {w:World} {A:Around} {E:Value→Shared→Prop} {s:Shared}
end
def keyV:Value→Str
 | .str k _=>k
 | _=>""
section
variable {P:Program} {w:World} {A:Around} {s:Shared}
end
section
set_option maxRecDepth 100000
variable {P:Program} {w:World} {A:Around} {E:Value→Shared→Prop} {s:Shared}
end
section
set_option maxRecDepth 100000
set_option maxHeartbeats 3200000
variable {P:Program} {w:World} {A:Around} {E:Value→Shared→Prop} {s:Shared}
end
section
set_option maxRecDepth 100000
set_option maxHeartbeats 3200000
variable {P:Program} {w:World} {A:Around} {E:Value→Shared→Prop} {s:Shared}
end
section
set_option maxRecDepth 100000
variable {P:Program} {w:World} {A:Around} {E:Value→Shared→Prop} {s:Shared}
end
section
set_option maxRecDepth 100000
variable {P:Program} {w:World} {A:Around} {E:Value→Shared→Prop} {s:Shared}
def TupAt (h:Heap) (q:Addr) (pl:Array Value):Prop:=∃ o n,h.get? q=some o∧o.data=.seq pl n
end
section
set_option maxRecDepth 100000
variable {P:Program} {w:World} {A:Around} {E:Value→Shared→Prop} {s:Shared}
end
section
set_option maxRecDepth 100000
variable {P:Program} {w:World} {A:Around} {E:Value→Shared→Prop} {s:Shared}
end
end L2
namespace D
open PySem PySem.Spec PyProof.Rows L2
section
set_option maxRecDepth 100000
variable {X:Cx}
end
def EqW (P:Program) (w:World) (A:Around) (s:Shared) (y x:Value) (b:Bool):Prop:=∀ (E:Value→Shared→Prop) (Q:Bool→Shared→Prop),Q b s→wpAny (model P w) A (eqBool y x) Q E s
def fF (e:List (PyData×PyData)):List (PyData×PyData)→Option Bool
 | []=>some true
 | (.str k,v)::r=>match bq e k with
  | none=>some false
  | some u=>if SeqAt.shaped v=true∧SeqAt.shaped u=true then (fF e r).map fun b=>PyData.eqv v u && b else none
 | _=>none
def g7 (d e:List (PyData×PyData)):Option Bool:=if fF d d=some true then (if d.length=e.length then fF e d else some false) else none
def jF:PyData→PyData→Option Bool
 | .dict d,.dict e=>g7 d e
 | x,y=>if SeqAt.shaped x=true∧SeqAt.shaped y=true then some (PyData.eqv x y) else none
def fJ:List PyData→List PyData→Option (List Bool)
 | [],[]=>some []
 | x::r,y::t=>match jF x y,fJ r t with
  | some a,some b=>some (a::b)
  | _,_=>none
 | _,_=>none
def neP (x y:PyData):Option PyData:=match x,y with
 | .tuple xs,.tuple ys=>(fJ xs ys).map fun bs=>.bool (!bs.all id)
 | _,_=>none
section
set_option maxRecDepth 100000
variable {P:Program} {w:World} {A:Around} {E:Value→Shared→Prop} {s:Shared}
open PySem.SeqAt in
open PySem.SeqAt in
theorem Ai {l b:Addr} {items items2:Array Value} {e:Nat→Bool} {Q:Value→Shared→Prop} (hl:s.heap.IsTuple l items) (hb:s.heap.IsTuple b items2) (hu:A.units < cLine) (hz:items.size=items2.size)
  (he:∀ j (h1:j < items.size) (h2:j < items2.size),EqW P w A.in1 s items[j] items2[j] (e j)) (h:Q (.bool (!((List.range items.size).all e))) s):wpAny (model P w) A (compareOp .NotEq (.ref l) (.ref b)) Q E s:=by
 obtain ⟨⟨cls,dd,data,sl⟩,ho,hc,n,hd⟩:=id hl
 obtain ⟨⟨cls2,dd2,data2,sl2⟩,ho2,hc2,n2,hd2⟩:=id hb
 simp only at hc hd hc2 hd2
 subst hc hd hc2 hd2
 have t1:s.TypeIs (.ref l) "tuple":=⟨_,ho,rfl⟩
 have t2:s.TypeIs (.ref b) "tuple":=⟨_,ho2,rfl⟩
 refine wpAny_richCompare_same_room (op:=.NotEq) t1 t2 F.slot_tuple_ne (wpAny_call_entry F.slot_tuple_ne t1 F.entry_tuple_ne ?_ (F.args_tuple_ne_2 _ _)) hu
 obtain ⟨hp,g,d,tk,os⟩:=s
 have f2:=AutoSeq1.sub_tuple_tuple
 have hZ:(items.toList.zip items2.toList).length=items.size:=by simp [hz]
 wp_walk using AutoSeq1.wpAny_loadPart' ho,AutoSeq1.wpAny_loadPart' ho2,wpAny_forIn_list _ (fun rest b s'=>b.1=none∧s'=⟨hp,g,d,tk,os⟩∧∃ i,rest=(items.toList.zip items2.toList).drop i∧Q (.bool (!(((List.range items.size).drop i).all e))) ⟨hp,g,d,tk,os⟩) _
 case turn=>
  rintro ⟨y,x⟩ rest b s' ⟨hb',rfl,i,hz',hR⟩
  have hlt:i < (items.toList.zip items2.toList).length:=(Nat.lt_or_ge i _).elim id fun h'=>by rw [List.drop_of_length_le h'] at hz'; cases hz'
  have h1:i < items.size:=hZ ▸ hlt
  have h2:i < items2.size:=hz ▸ h1
  rw [List.drop_eq_getElem_cons hlt] at hz'
  injection hz' with hyx hrest
  obtain ⟨hy,hx⟩:y=items[i]∧x=items2[i]:=by simpa using hyx
  subst hy hx
  have hd:(List.range items.size).drop i=i::(List.range items.size).drop (i + 1):=by simp [List.drop_eq_getElem_cons,h1]
  rw [hd,List.all_cons] at hR
  refine wpAny_bind (he i h1 h2 _ _ ?_)
  cases hy:e i <;> rw [hy] at hR <;> wp_walk
  ·first | exact ⟨_,rfl,(fun x=>nomatch x),by simpa using hR⟩ | exact ⟨(fun x=>nomatch x),by simpa using hR⟩ | exact ⟨_,rfl,by simpa using hR⟩
  ·exact ⟨rfl,rfl,i + 1,hrest,by simpa using hR⟩
 case fin=>
  rintro ⟨b1,b2⟩ s' ⟨hb',rfl,i,hz',hR⟩
  simp only at hb'
  subst hb'
  have hge:items.size≤i:=(Nat.lt_or_ge i (items.toList.zip items2.toList).length).elim (fun h'=>by rw [List.drop_eq_getElem_cons h'] at hz'; cases hz') fun h'=>hZ ▸ h'
  rw [List.drop_of_length_le (by simpa using hge)] at hR
  wp_walk
  first | exact ⟨_,rfl,(fun x=>by cases x),by simpa [Builtin.Tuple.tupleCompareSizes,hz] using hR⟩ | exact ⟨_,rfl,by simp [Builtin.Tuple.tupleCompareSizes],by simpa [Builtin.Tuple.tupleCompareSizes,hz] using hR⟩
 case h=>
  exact ⟨rfl,rfl,0,rfl,by simpa using h⟩
theorem tG {y x:Value} {b:Bool} (h:SeqAt.EqAt A s y x b):EqW P w A s y x b:=fun E Q q=>h P w E Q q
theorem qS {a b:Addr} {ka kb:List (Key×Value)} {r:Bool} (hne:a≠b) (ha:(a == sysModules)=false) (hb:(b == sysModules)=false) (da:s.heap.DictOf (bh P w) a ka) (db:s.heap.DictOf (bh P w) b kb) (hu:A.units < cLine)
  (hits:ka.length=kb.length→PySem.W.KeqHits A.in1 s kb ka r):EqW P w A s (.ref a) (.ref b) (ka.length == kb.length && r):=fun E Q hq=>by
 unfold eqBool
 refine wpAny_holding ?_
 refine wpAny_ite_split (fun hab=>absurd (by have:=eq_of_beq hab; injection this) hne) (fun _=>?_)
 exact wpAny_bind (PySem.W.keq_eq ha hb da db hu hits (wpAny_truthy_bool hq))
end
section
variable {X:Cx} {pins:List (Addr×Obj)} {σ:L2.St} {H:Hp} {s:Shared} {O:Addr→Prop} {A:Around}
theorem rZ (I:Inv X pins σ H s) (hu:A.in1.units + 64 < cLine) {kb:List (Key×V)} {e:List (PyData×PyData)} {ub:List (Key×Value)} (re:RepK X.K O H kb e) (vb:KV kb ub):∀ {ka:List (Key×V)} {d:List (PyData×PyData)} {ua:List (Key×Value)} {b:Bool},RepK X.K O H ka d→KV ka ua→fF e d=some b→PySem.W.KeqHits A.in1 s ub ua b
 | _,_,_,_,.nil,.nil,h=>by cases h; exact .nil
 | _,_,_,b,.cons (k:=k) (v:=v) (d:=x) (ds:=ds) q t,.cons hkv vt,h=>by
  obtain ⟨e1,e2⟩:=hkv
  rename_i p _
  obtain ⟨k',u⟩:=p
  simp only at e1 e2
  subst e1
  cases k with
  | inl i=>cases h
  | inr y=>
   simp only [cW,fF] at h
   have hv:=vb.val (Sum.inr y:Key)
   rcases gD (s:=y) re with ⟨h1,h2⟩ | ⟨v',d',h1,h2,h3⟩
   ·rw [h1] at h
    cases h
    rw [h2] at hv
    exact .miss (RelO.none_of hv)
   ·rw [h1] at h
    dsimp only at h
    rw [h2] at hv
    obtain ⟨u',g1,g2⟩:=RelO.some_of hv
    split at h
    ·rename_i hs
     cases hr:fF e ds with
     | none=>rw [hr] at h; cases h
     | some b'=>
      rw [hr] at h
      cases h
      obtain ⟨as,r1,_⟩:=Rep.reads I q e2
      obtain ⟨bs,r2,_⟩:=Rep.reads I h3 g2
      exact .hit g1 (PySem.W.keq_at r1 r2 hs.1 hs.2 hu) (rZ I hu re vb t vt hr)
    ·cases h
theorem A6 {k:Nat} (hr:Room k X.A) (I:Inv X pins σ H s) {v v':V} {x y:PyData} {u u':Value} {b:Bool} (h1:Rep X.K O H v x) (r1:RelV v u) (h2:Rep X.K O H v' y) (r2:RelV v' u') (h:jF x y=some b):EqW X.prog X.w X.A.in1 s u u' b:=by
 have hun:=hr.un
 obtain ⟨as,q1,_⟩:=Rep.reads I h1 r1
 obtain ⟨bs,q2,_⟩:=Rep.reads I h2 r2
 have flat:SeqAt.shaped x=true∧SeqAt.shaped y=true→b=PyData.eqv x y→EqW X.prog X.w X.A.in1 s u u' b:=fun hs e=>by
  subst e
  exact tG (PySem.W.keq_at (A:=X.A) q1 q2 hs.1 hs.2 (by simp; omega))
 by_cases hd:∃ d e,x=.dict d∧y=.dict e
 ·obtain ⟨d,e,rfl,rfl⟩:=hd
  have h':g7 d e=some b:=h
  unfold g7 at h'
  split at h'
  ·rename_i hself
   cases h1 with
   | @dct a oa ka _ n1 t1 k1=>
    cases h2 with
    | @dct b' ob kb _ n2 t2 k2=>
     cases r1
     cases r2
     obtain ⟨za,la,ua,va,da⟩:=dD I.hok (.inr ⟨_,t1⟩)
     obtain ⟨zb,lb,ub,vb,db⟩:=dD I.hok (.inr ⟨_,t2⟩)
     by_cases hab:a=b'
     ·subst hab
      have e0:d=e:=by
       have:=(PySem.Reads.unique q1 _ _ q2).1
       injection this
      subst e0
      rw [if_pos rfl,hself] at h'
      cases h'
      exact tG (SeqAt.EqAt.same _)
     ·have ela:ua.length=d.length:=by rw [← va.length]; exact hU k1
      have elb:ub.length=e.length:=by rw [← vb.length]; exact hU k2
      by_cases hl:d.length=e.length
      ·rw [if_pos hl] at h'
       have:=qS (r:=b) (A:=X.A.in1) hab la lb da db (by simp; omega) (fun _=>rZ (A:=X.A.in1) I (by simp; omega) k2 vb k1 va h')
       rw [ela,elb,hl,beq_self_eq_true,Bool.true_and] at this
       exact this
      ·rw [if_neg hl] at h'
       cases h'
       have:=qS (r:=true) (A:=X.A.in1) hab la lb da db (by simp; omega) (fun q=>absurd (by rw [← ela,← elb]; exact q) hl)
       rw [ela,elb,beq_eq_false_iff_ne.mpr hl,Bool.false_and] at this
       exact this
  ·cases h'
 ·have h':(if SeqAt.shaped x=true∧SeqAt.shaped y=true then some (PyData.eqv x y) else none)=some b:=by
   unfold jF at h
   split at h
   ·exact absurd ⟨_,_,rfl,rfl⟩ hd
   ·exact h
  split at h'
  ·rename_i hs
   cases h'
   exact flat hs rfl
  ·cases h'
theorem sj {k:Nat} (hr:Room k X.A) (I:Inv X pins σ H s):∀ {vs vs':List V} {xs ys:List PyData} {us us':List Value} {bs:List Bool},Reps X.K O H vs xs→Vals vs us→Reps X.K O H vs' ys→Vals vs' us'→fJ xs ys=some bs →
  us.length=us'.length∧bs.length=us.length∧∀ (j:Nat) (h1:j < us.length) (h2:j < us'.length),EqW X.prog X.w X.A.in1 s us[j] us'[j] (bs.getD j false)
 | _,_,_,_,_,_,_,.nil,.nil,.nil,.nil,e=>by cases e; exact ⟨rfl,rfl,fun j h1 _=>absurd h1 (Nat.not_lt_zero _)⟩
 | _,_,_,_,_,_,_,.nil,.nil,.cons _ _,_,e=>by cases e
 | _,_,_,_,_,_,_,.cons _ _,_,.nil,.nil,e=>by cases e
 | _,_,_,_,_,_,_,.cons r t,.cons rv tv,.cons r' t',.cons rv' tv',e=>by
  unfold fJ at e
  split at e
  ·rename_i a b ha hb
   cases e
   obtain ⟨l1,l2,f⟩:=sj hr I t tv t' tv' hb
   refine ⟨by simp [l1],by simp [l2],fun j h1 h2=>?_⟩
   cases j with
   | zero=>exact A6 hr I r rv r' rv' ha
   | succ j=>exact f j (by simpa using h1) (by simpa using h2)
  ·cases e
theorem all_range {bs:List Bool}:(List.range bs.length).all (fun j=>bs.getD j false)=bs.all id:=by
 induction bs with
 | nil=>rfl
 | cons b r ih=>
  rw [List.length_cons,List.range_succ_eq_map,List.all_cons,List.all_map,List.all_cons]
  have:(fun j=>(b::r).getD j false) ∘ Nat.succ=fun j=>r.getD j false:=rfl
  rw [this,ih]
  rfl
theorem BS {k:Nat} (hr:Room k X.A):OpR X (compareOp .NotEq) (fun x y H Q=>∃ O xs ys bs,Vw X.K O H x (.tuple xs)∧Vw X.K O H y (.tuple ys)∧fJ xs ys=some bs∧Q (.bl (!bs.all id)) H):=by
 intro pins s σ H x y v u Q I rx ry h
 obtain ⟨O,xs,ys,bs,h1,h2,e,q⟩:=h
 obtain ⟨a,vs,rfl,t1,p1⟩:=h1.tup
 obtain ⟨b,vs',rfl,t2,p2⟩:=h2.tup
 cases rx
 cases ry
 obtain ⟨us,v1,i1,_⟩:=I.tuple t1.sq
 obtain ⟨us',v2,i2,_⟩:=I.tuple t2.sq
 obtain ⟨l1,l2,f⟩:=sj hr I p1 v1 p2 v2 e
 have hu:=hr.un
 refine Ai (e:=fun j=>bs.getD j false) i1 i2 (by omega) (by simpa using l1) (fun j h1 h2=>by simpa using f j (by simpa using h1) (by simpa using h2)) ?_
 rw [List.size_toArray,← l2,all_range]
 exact ⟨.bl _,H,I,rfl,q⟩
theorem B2 {x y d:PyData} (h:neP x y=some d):∃ xs ys bs,x=.tuple xs∧y=.tuple ys∧fJ xs ys=some bs∧d=.bool (!bs.all id):=by
 unfold neP at h
 split at h
 ·rename_i xs ys
  cases e:fJ xs ys with
  | none=>rw [e] at h; cases h
  | some bs=>rw [e] at h; cases h; exact ⟨xs,ys,bs,rfl,rfl,e,rfl⟩
 ·cases h
theorem Dj {k:Nat} (hr:Room k X.A):OpD X (compareOp .NotEq) neP:=⟨_,BS hr,fun O ts H T v1 v2 x y d Q hc h1 h2 e q=>by
 obtain ⟨xs,ys,bs,rfl,rfl,e',rfl⟩:=B2 e
 exact ⟨O,xs,ys,bs,h1,h2,e',q _ H (.refl _ _) hc (.bl _)⟩⟩
end
section
set_option maxRecDepth 100000
variable {P:Program} {w:World} {A:Around} {E:Value→Shared→Prop} {s:Shared}
end
section
variable {X:Cx} {pos:Pos}
end
section
variable {X:Cx} {pos:Pos} {e:Expr} {fe:FE}
theorem AK:MtM X "dict.pop" (fun x vs H Q=>∃ (a:Addr) (kvs:List (Key×V)) (s:Str),x=.ref a∧vs=[.str s,.non]∧H a=some (.dK kvs)∧((∃ v,aZ kvs (Sum.inr s:Key)=some v∧Q v (upd H a (.dK (cF kvs (Sum.inr s:Key)))))∨(aZ kvs (Sum.inr s:Key)=none∧Q .non H))):=by
 intro pins s σ H x vs v us Q I rx rv h
 obtain ⟨a,kvs,z,rfl,rfl,hA,h⟩:=h
 cases rx
 obtain ⟨u,w,rfl,ru,rw'⟩:=vals2 rv
 rcases h with ⟨y,hy,q⟩ | ⟨hy,q⟩
 ·exact D3 I hA (k:=Sum.inr z) ru hy (.inr ⟨_,rfl⟩) fun w' s' I' r'=>⟨_,_,I',r',q⟩
 ·exact CA I hA (k:=Sum.inr z) ru hy fun s' I'=>⟨_,_,I',rw',q⟩
def jj (i:Nat) (ρ:Rho) (w:W) (T:Tp) (o:Option (Option W)):Option ((Fl×Rho)×Tp):=match w,o with
 | .d (.str s),some (some (.loc (.dict ds)))=>some ((.nx,ρ.set i (some (.loc (.dict (if (bq ds s).isSome=true then cE ds s else ds))))),T)
 | _,_=>none
theorem y8 {i:Nat} {ρ ρ':Rho} {w:W} {T T':Tp} {fl:Fl} {o:Option (Option W)} (h:jj i ρ w T o=some ((fl,ρ'),T')):∃ s ds,w=.d (.str s)∧o=some (some (.loc (.dict ds)))∧((fl,ρ'),T')=((Fl.nx,ρ.set i (some (W.loc (.dict (if (bq ds s).isSome=true then cE ds s else ds))))),T):=by
 unfold jj at h
 split at h
 ·exact ⟨_,_,rfl,rfl,(Option.some.inj h).symm⟩
 ·cases h
def li (i:Nat) (f:FE):FS:=fun ρ T=>bnd (f ρ T) fun w T1=>jj i ρ w T1 ρ[i]?
theorem sv {i:Nat} {x:Str} {p apos cpos kp:Pos} {j:_} (he:DE X e fe) (hN:X.N[i]? = some x:=by rfl) (hv:Vis X.env.scope x:=by first | exact Or.inl rfl | exact Or.inr (Or.inl rfl) | exact Or.inr (Or.inr rfl)) (hd:(x == ("__debug__" : Str))=false:=by decide)
  (hcd:(x == ("__classdict__" : Str))=false:=by decide) (hbase:attributeBase (.Name x p) "pop" X.env (eval (.Name x p) X.env)=eval (.Name x p) X.env:=by rfl)
  (hfew:((backTo cpos (starEach [e,.Constant .none j kp] X.env)).all (fun x=>!x.1) && (backToKw cpos (keywordEach [] X.env)).all (fun x=>x.1.isSome)
   && decide (([e,.Constant .none j kp]:List Expr).length + ([]:List Keyword).length + (if ([]:List Keyword).isEmpty then 0 else 1) < 30))=true:=by exact u0 rfl rfl)
  (hline:(apos.endLine == cpos.line)=true:=by rfl) (hse:starEach [e,.Constant .none j kp] X.env=(false,eval e X.env)::starEach [.Constant .none j kp] X.env:=by exact bb rfl) (hse2:starEach [.Constant .none j kp] X.env=(false,eval (.Constant .none j kp) X.env)::starEach [] X.env:=by exact bb rfl) (hplain:(backTo cpos (starEach [.Constant .none j kp] X.env)).any (·.1)=false:=by exact bF rfl)
  (hs:swapsWith (.Call (.Attribute (.Name x p) "pop" apos) [e,.Constant .none j kp] [] cpos) none pos.line X.env=pure false:=by rfl) :
  DS X (.Expr (.Call (.Attribute (.Name x p) "pop" apos) [e,.Constant .none j kp] [] cpos) pos) (li i fe):=by
 refine ⟨?_⟩
 refine bW (gE (gR PySem.F.plainAttrs_dict PySem.F.slot_dict_pop PySem.F.type_dict_pop AK (pv i hN hv hd hcd) (aU he.pe (aU sW bx hse2) hse) hbase hfew hline hse hplain) hs) fun D σ H=>?_
 rintro ⟨O₀,H₀,F,ts,O,ρ,T,fl,ρ',T',rs,e,q⟩
 obtain ⟨w,T1,e1,e⟩:=aC e
 obtain ⟨s,ds,rfl,h2,e3⟩:=y8 e
 cases e3
 obtain ⟨v',m1,b,rfl,m2,m3,kvs,m4,m5⟩:=rs.re i _ h2
 refine ⟨_,m1,.inr (.inr (.inl ⟨rfl,.inl ⟨kvs,m4⟩⟩)),O,ts,ρ,T,_,_,rs.hc,rs.re,e1,fun u H1 s1 hc1 r1=>?_⟩
 cases (show Rep X.K O H1 u (.str s) from r1)
 have rs1:=rs.step s1 hc1
 have m4':=s1 _ _ m3 m4
 have m5':=m5.mono (rs.hc.le s1)
 refine ⟨b,kvs,s,rfl,rfl,m4',?_⟩
 rcases gD (s:=s) m5' with ⟨z1,z2⟩ | ⟨vy,dy,z1,z2,ry⟩
 ·refine .inr ⟨z2,q O _ _ ?_⟩
  rw [z1,if_neg (by decide)]
  have e4:ρ.set i (some (W.loc (.dict ds)))=ρ:=by
   refine List.ext_getElem? fun j=>?_
   by_cases z:i=j
   ·subst z
    rw [List.getElem?_set_self (List.getElem?_eq_some_iff.mp h2).1,h2]
   ·rw [List.getElem?_set_ne z]
  rw [e4]
  exact rs1
 ·refine .inl ⟨vy,z2,q O _ _ ?_⟩
  rw [z1,if_pos (show (some dy).isSome=true from rfl)]
  exact rs1.putO h2 m1 (o:=.dK (cF kvs (Sum.inr s:Key))) (ys:=.dict (cE ds s)) (.inr (.inl ⟨_,rfl⟩)) fun le=>⟨_,aR,qW (m5'.mono le)⟩
end
section
variable {K:Frag} {O₀:Addr→Prop} {H₀:Hp} {F:List ((Addr→Prop)×Hp)} {ts:List Addr} {O:Addr→Prop} {H H1:Hp} {σ:L2.St} {ρ:Rho} {T T1:Tp}
theorem jP {i j:Nat} {w:W} (e:(ρ.set i none)[j]? = some (some w)):i≠j∧ρ[j]? = some (some w):=by
 by_cases z:i=j
 ·subst z
  rw [List.getElem?_set_self'] at e
  cases h:ρ[i]? with
  | none=>rw [h] at e; cases e
  | some u=>rw [h] at e; cases e
 ·rw [List.getElem?_set_ne z] at e
  exact ⟨z,e⟩
theorem RS.unset {i:Nat} {v:V} (r:RS K O₀ H₀ F ts O H σ ρ T):RS K O₀ H₀ F ts O H (σ.set i (some v)) (ρ.set i none) T where
 hc:=r.hc
 re:=fun j u e=>by
  obtain ⟨z,e⟩:=jP e
  obtain ⟨x,h1,h2⟩:=r.re j u e
  exact ⟨x,by rw [List.getElem?_set_ne z]; exact h1,h2⟩
 sub:=r.sub
 ots:=r.ots
 same:=r.same
 fresh:=fun j xs a e1 e2=>by
  obtain ⟨z,e⟩:=jP e1
  rw [List.getElem?_set_ne z] at e2
  exact r.fresh j xs a e e2
 dist:=fun j k xs ys u e1 e2 e3 e4=>by
  obtain ⟨z1,e1⟩:=jP e1
  obtain ⟨z2,e2⟩:=jP e2
  rw [List.getElem?_set_ne z1] at e3
  rw [List.getElem?_set_ne z2] at e4
  exact r.dist j k xs ys u e1 e2 e3 e4
 frs:=r.frs
 len:=by simp [r.len]
end
section
variable {X:Cx} {pos:Pos}
def iq (ρ:Rho) (x:PyData) (T:Tp):Option ((Fl×Rho)×Tp):=match x with
 | .tuple [.dict d,.dict e]=>some ((.ro (.tuple [.dict d,.dict e]),ρ),T)
 | _=>none
theorem yc {ρ ρ':Rho} {x:PyData} {T T':Tp} {fl:Fl} (h:iq ρ x T=some ((fl,ρ'),T')):∃ d e,x=.tuple [.dict d,.dict e]∧fl=.ro x∧ρ'=ρ∧T'=T:=by
 unfold iq at h
 split at h
 ·cases h; exact ⟨_,_,rfl,rfl,rfl,rfl⟩
 ·cases h
def jb (m:FnM) (g:FA):FS:=fun ρ T=>bnd (g ρ T) fun ws T1=>bnd (m ws T1) (iq ρ)
theorem qU {name:Str} {ps:List Str} {kk:Nat} {m:FnM} {e:Expr} {es:List Expr} {g:FA} {p cpos:Pos} (F:Fn X.prog X.w X.K X.mg X.base name ps kk (spO X.K ps.length m)) (hr:Room kk X.A) (hg:Gl X name) (ha:DA X (e::es) g) (hl:cO g ps.length) (hdb:(name == ("__debug__" : Str))=false:=by decide)
  (he:starEach (e::es) X.env=(false,eval e X.env)::starEach es X.env:=by exact bb rfl) (hpl:(backTo cpos (starEach es X.env)).any (·.1)=false:=by exact bF rfl) :
  DS X (.Return (some (.Call (.Name name p) (e::es) [] cpos)) pos) (jb m g):=by
 refine ⟨?_⟩
 refine bW (i6 (gQ F hr hg ha.pe hdb he hpl)) fun D σ H=>?_
 rintro ⟨O₀,H₀,F,ts,O,ρ,T,fl,ρ',T',rs,e,q⟩
 obtain ⟨ws,T1,e1,e⟩:=aC e
 obtain ⟨x0,T2,e2,e⟩:=aC e
 obtain ⟨d,d',rfl,rfl,rfl,rfl⟩:=yc e
 refine ⟨O,ts,_,T,ws,T1,rs.hc,rs.re,e1,fun vs H1 s1 hc1 r1=>?_⟩
 have rs1:=rs.step s1 hc1
 refine ⟨O,ts,T1,ws,_,_,hc1,by rw [List.append_nil]; exact r1,hl _ _ _ _ e1,e2,fun A v H2 s2 hA hc2 ov=>?_⟩
 have rs2:=rs1.widen s2 hA hc2
 obtain ⟨c,le⟩:=rs2.keep (A:=A) (fun c hc=>.inr hc)
 refine q A v H2 (rs1.same.trans s2) (fun c hc=>?_) c (OwnV.mono (fun b u n z=>le b u n z) ov)
 obtain ⟨h1,h2⟩:=hA c hc
 have nt:c∉ts:=fun z=>h2 (hc1.own c z)
 refine ⟨?_,fun z=>h2 (rs1.sub c z)⟩
 cases z:H₀ c with
 | none=>rfl
 | some o=>have:=rs1.same c o nt z; rw [h1] at this; cases this
def iZ (x:PyData) (T:Tp):Option (W×Tp):=match x with
 | .tuple [.dict d,.dict e]=>some (.d (.tuple [.dict d,.dict e]),T)
 | _=>none
theorem xS {x:PyData} {T T':Tp} {w:W} (h:iZ x T=some (w,T')):∃ d e,x=.tuple [.dict d,.dict e]∧w=.d x∧T'=T:=by
 unfold iZ at h
 split at h
 ·cases h; exact ⟨_,_,rfl,rfl,rfl⟩
 ·cases h
def iX (m:FnM) (g:FA):FE:=fun ρ T=>bnd (g ρ T) fun ws T1=>bnd (m ws T1) iZ
theorem lY {name:Str} {ps:List Str} {k:Nat} {m:FnM} {e:Expr} {es:List Expr} {g:FA} {p cpos:Pos} (F:Fn X.prog X.w X.K X.mg X.base name ps k (spO X.K ps.length m)) (hr:Room k X.A) (hg:Gl X name) (ha:DA X (e::es) g) (hl:cO g ps.length) (hdb:(name == ("__debug__" : Str))=false:=by decide)
  (he:starEach (e::es) X.env=(false,eval e X.env)::starEach es X.env:=by exact bb rfl) (hpl:(backTo cpos (starEach es X.env)).any (·.1)=false:=by exact bF rfl):DE X (.Call (.Name name p) (e::es) [] cpos) (iX m g):=by
 refine ⟨?_⟩
 refine pe_imp (jk (gQ F hr hg ha.pe hdb he hpl)) fun σ H Q=>?_
 rintro ⟨O,ts,ρ,T,w,T',hc,re,e,q⟩
 obtain ⟨ws,T1,e1,e⟩:=aC e
 obtain ⟨x,T2,e2,e⟩:=aC e
 obtain ⟨d,d',rfl,rfl,rfl⟩:=xS e
 refine ⟨O,ts,ρ,T,ws,T1,hc,re,e1,fun vs H1 s1 hc1 r1=>?_⟩
 refine ⟨O,ts,T1,ws,_,_,hc1,by rw [List.append_nil]; exact r1,hl _ _ _ _ e1,e2,fun A v H2 s2 hA hc2 ov=>?_⟩
 obtain ⟨p,a,b,rfl,hab,hAA,np,hp,⟨ka,h1,h2⟩,⟨kb,h3,h4⟩⟩:=ov
 have hAa:=hA a ((hAA a).mpr (.inl rfl))
 have hAb:=hA b ((hAA b).mpr (.inr rfl))
 have nta:a∉ts:=fun z=>hAa.2 (hc1.own a z)
 have ntb:b∉ts:=fun z=>hAb.2 (hc1.own b z)
 have hpa:p≠a:=fun z=>np (.inr ((hAA p).mpr (.inl z)))
 have hpb:p≠b:=fun z=>np (.inr ((hAA p).mpr (.inr z)))
 refine .frz h1 fun o=>.frz ((aD (Ne.symm hab)).trans h3) fun o'=>.done ?_
 have old:∀ c,c≠a→c≠b→upd (upd H2 a (.frz o (.dK ka))) b (.frz o' (.dK kb)) c=H2 c:=fun c z z'=>by rw [aD z',aD z]
 have le:Le (fun b=>O b∨A b) H2 O (upd (upd H2 a (.frz o (.dK ka))) b (.frz o' (.dK kb))):=fun c u n z=>⟨fun y=>n (.inl y),by
  rw [old c (fun y=>n (.inr ((hAA c).mpr (.inl y)))) (fun y=>n (.inr ((hAA c).mpr (.inr y))))]; exact z⟩
 refine q _ _ (fun c u n z=>?_) ⟨hc1.own,fun c hb=>?_,hc2.nd,hc2.len,fun j c ys q1 q2=>?_⟩ (.tup (.inl ⟨fun z=>np (.inl z),.inl ((old p hpa hpb).trans hp)⟩) (.cons (.dct hAa.2 ((aD hab).trans aR) (h2.mono le)) (.cons (.dct hAb.2 aR (h4.mono le)) .nil)))
 ·have z1:=s1 c u n z
  rw [old c (fun y=>by rw [y,hAa.1] at z1; cases z1) (fun y=>by rw [y,hAb.1] at z1; cases z1)]
  exact s2 c u n z1
 ·rw [old c (fun y=>hAa.2 (y ▸ hb)) (fun y=>hAb.2 (y ▸ hb))]
  exact hc2.trk c (.inl hb)
 ·have hm:=List.mem_of_getElem? q1
  exact (hc2.tape j c ys q1 q2).mono (fun _ h=>by rw [old c (fun z=>nta (z ▸ hm)) (fun z=>ntb (z ▸ hm))]; exact h) le
end
section
variable {X:Cx} {pos pos2 pos3:Pos}
def iA (b:Bool) (s:Str) (x:PyData) (y:PyData):Option PyData:=match y with
 | .tuple [.dict d,.dict e]=>if (if b then e else d).length≤1000 then some (if b then .tuple [.dict d,.dict (putN e s x)] else .tuple [.dict (putN d s x),.dict e]) else none
 | _=>none
def md (ix:Nat) (b:Bool) (ρ:Rho) (y:PyData) (w wk:W) (T:Tp):Option ((Fl×Rho)×Tp):=match w,wk with
 | .d x,.d (.str s)=>if ix < ρ.length then (iA b s x y).map fun z=>((.ro z,ρ),T) else none
 | _,_=>none
def iW (ix:Nat) (b:Bool) (m:FnM) (g:FA) (fk fv:FE):FS:=fun ρ T=>bnd (g ρ T) fun ws T1=>bnd (m ws T1) fun y T2=>bnd (fv (ρ.set ix none) T2) fun w T3=>bnd (fk (ρ.set ix none) T3) fun wk T4=>md ix b (ρ.set ix none) y w wk T4
theorem yU {b:Bool} {s:Str} {x y z:PyData} (h:iA b s x y=some z):∃ d e,y=.tuple [.dict d,.dict e]∧(if b then e else d).length≤1000∧z=(if b then .tuple [.dict d,.dict (putN e s x)] else .tuple [.dict (putN d s x),.dict e]):=by
 unfold iA at h
 split at h
 ·rename_i d e
  by_cases hl:(if b then e else d).length≤1000
  ·rw [if_pos hl] at h
   exact ⟨d,e,rfl,hl,(Option.some.inj h).symm⟩
  ·rw [if_neg hl] at h
   cases h
 ·cases h
theorem wI {ix:Nat} {b:Bool} {ρ ρ':Rho} {y:PyData} {w wk:W} {T T':Tp} {fl:Fl} (h:md ix b ρ y w wk T=some ((fl,ρ'),T')):ix < ρ.length∧∃ x s d e,w=.d x∧wk=.d (.str s)∧y=.tuple [.dict d,.dict e]∧(if b then e else d).length≤1000∧fl=.ro (if b then .tuple [.dict d,.dict (putN e s x)] else .tuple [.dict (putN d s x),.dict e])∧ρ'=ρ∧T'=T:=by
 unfold md at h
 split at h
 ·split at h
  ·rename_i x s hi
   cases hz:iA b s x y with
   | none=>rw [hz] at h; cases h
   | some z=>
    rw [hz] at h
    obtain ⟨d,e,h1,h2,h3⟩:=yU hz
    cases h
    exact ⟨hi,_,_,_,_,rfl,rfl,h1,h2,by rw [h3],rfl,rfl⟩
  ·cases h
 ·cases h
theorem pw {ix:Nat} {b:Bool} {name x:Str} {ps:List Str} {kk k:Nat} {m:FnM} {e:Expr} {es:List Expr} {g:FA} {fk fv:FE} {kx ve:Expr} {p cpos pos' p2 sp ip pos'' p3:Pos} {j:_} (F:Fn X.prog X.w X.K X.mg X.base name ps kk (spO X.K ps.length m)) (hr:Room kk X.A) (hg:Gl X name) (hN:X.N.Nodup) (ha:DA X (e::es) g) (hl:cO g ps.length) (hr2:Room k X.A) (hk:DE X kx fk) (hve:DE X ve fv) (hdb:(name == ("__debug__" : Str))=false:=by decide)
  (he:starEach (e::es) X.env=(false,eval e X.env)::starEach es X.env:=by exact bb rfl) (hpl:(backTo cpos (starEach es X.env)).any (·.1)=false:=by exact bF rfl) (hi:X.N[ix]? = some x:=by rfl) (hx:Loc X.env.scope x:=by first | exact Or.inl rfl | exact Or.inr rfl)
  (hs:swapsWith (.Call (.Name name p) (e::es) [] cpos) (some (.Name x pos')) pos.line X.env=pure false:=by rfl) (hf:X.fn x=true∨X.env.scope.names.lookup x=some .local:=by first | exact .inl rfl | exact .inr rfl | assumption)
  (hv:Vis X.env.scope x:=by first | exact Or.inl rfl | exact Or.inr (Or.inl rfl) | exact Or.inr (Or.inr rfl)) (hd:(x == ("__debug__" : Str))=false:=by decide) (hcd:(x == ("__classdict__" : Str))=false:=by decide)
  (hs2:swapsWith ve (some (.Subscript (.Subscript (.Name x p2) (.Constant (.int (if b then 1 else 0)) j ip) sp) kx pos'')) pos2.line X.env=pure false:=by rfl) :
  DSs X [.Assign [.Name x pos'] (.Call (.Name name p) (e::es) [] cpos) pos,.Assign [.Subscript (.Subscript (.Name x p2) (.Constant (.int (if b then 1 else 0)) j ip) sp) kx pos''] ve pos2,.Return (some (.Name x p3)) pos3] (iW ix b m g fk fv):=by
 refine ⟨?_⟩
 refine fU (cH (er hN hi hx (gQ F hr hg ha.pe hdb he hpl) hs hf) (cH (rJ (jo hr2) (nU tw (pv ix hi hv hd hcd) sX (fun _ _=>rfl)) hk.pe hve.pe hs2) (ib (i6 (pv ix hi hv hd hcd))))) fun D σ H=>?_
 rintro ⟨O₀,H₀,F,ts,O,ρ,T,fl,ρ',T',rs,e,q⟩
 obtain ⟨ws,T1,e1,e⟩:=aC e
 obtain ⟨y0,T2,e2,e⟩:=aC e
 obtain ⟨w,T3,e3,e⟩:=aC e
 obtain ⟨wk,T4,e4,e⟩:=aC e
 obtain ⟨hix,xv,s,d,d',rfl,rfl,rfl,hlen,rfl,rfl,rfl⟩:=wI e
 rw [List.length_set] at hix
 refine ⟨O,ts,ρ,T,ws,T1,rs.hc,rs.re,e1,fun vs H1 s1 hc1 r1=>?_⟩
 have rs1:=rs.step s1 hc1
 refine ⟨O,ts,T1,ws,_,_,hc1,by rw [List.append_nil]; exact r1,hl _ _ _ _ e1,e2,fun A v H2 s2 hA hc2 ov=>?_⟩
 have rs2:=rs1.widen s2 hA hc2
 obtain ⟨c,a,a',rfl,hab,hAA,np,hp,⟨ka,h1,h2⟩,⟨kb,h3,h4⟩⟩:=ov
 have hAa:=(hAA a).mpr (.inl rfl)
 have hAb:=(hAA a').mpr (.inr rfl)
 have nta:a∉ts:=fun z=>(hA a hAa).2 (hc1.own a z)
 have ntb:a'∉ts:=fun z=>(hA a' hAb).2 (hc1.own a' z)
 have ntc:c∉ts:=fun z=>np (hc2.own c z)
 have rs3:=rs2.unset (i:=ix) (v:=.ref c)
 have hσ:(σ.set ix (some (V.ref c)))[ix]? = some (some (.ref c)):=List.getElem?_set_self (by rw [rs.len]; exact hix)
 refine ⟨_,ts,_,T2,_,T3,rs3.hc,rs3.re,e3,fun v3 H3 s3 hc3 r3=>?_⟩
 have rs4:=rs3.step s3 hc3
 refine ⟨_,hσ,?_⟩
 refine .inr (.inl ⟨c,[.ref a,.ref a'],(if b then 1 else 0),.ref (if b then a' else a),rfl,rfl,.inl (.inl (s3 _ _ ntc hp)),by cases b <;> rfl,?_⟩)
 refine ⟨_,ts,_,T3,_,_,rs4.hc,rs4.re,e4,fun v4 H4 s4 hc4 r4=>?_⟩
 have rs5:=rs4.step s4 hc4
 cases (show Rep X.K (fun b=>O b∨A b) H4 v4 (.str s) from r4)
 have rx:Rep X.K (fun b=>O b∨A b) H4 v3 xv:=RepW.mono (w:=.d xv) r3 hc3 s4
 have le24:Le (fun b=>O b∨A b) H2 (fun b=>O b∨A b) H4:=(hc2.le s3).trans (hc3.le s4)
 have g1:H4 a=some (.dK ka):=s4 _ _ nta (s3 _ _ nta h1)
 have g3:H4 a'=some (.dK kb):=s4 _ _ ntb (s3 _ _ ntb h3)
 have g2:RepK X.K (fun b=>O b∨A b) H4 ka d:=h2.mono le24
 have g4:RepK X.K (fun b=>O b∨A b) H4 kb d':=h4.mono le24
 have gp:H4 c=some (.tup [.ref a,.ref a']):=s4 _ _ ntc (s3 _ _ ntc hp)
 have fin:∀ (z:Addr) (kz:List (Key×V)),A z→(∀ w,w=a∨w=a'→w≠z→H4 w=upd H4 z (.dK kz) w)→∀ y:PyData,(Le (fun b=>O b∨A b) H4 (fun b=>O₀ b∨A b) (upd H4 z (.dK kz))→OwnV X.K (fun b=>O₀ b∨A b) A (upd H4 z (.dK kz)) (.ref c) y)→(∀ (A:Addr→Prop) v H',SameX ts H₀ H'→(∀ b,A b→H₀ b=none∧¬ O₀ b)→HC X.K (fun b=>O₀ b∨A b) ts H' T'→OwnV X.K (fun b=>O₀ b∨A b) A H' v y→D.rt v H')→D.rt (.ref c) (upd H4 z (.dK kz)):=fun z kz hz _ y ov q=>by
  have le:Le (fun b=>O b∨A b) H4 (fun b=>O₀ b∨A b) (upd H4 z (.dK kz)):=fun w o n e=>⟨fun y=>n (y.elim (fun y=>.inl (rs.sub w y)) .inr),by rw [aD (show w≠z from fun y=>n (.inr (y ▸ hz)))]; exact e⟩
  obtain ⟨ck,_⟩:=rs5.keep (A:=A) (fun w hw=>.inr hw)
  refine q A (.ref c) _ (fun w o n e=>?_) (fun w hw=>?_) ⟨ck.own,fun w hw=>?_,ck.nd,ck.len,fun i w ys q1 q2=>?_⟩ (ov le)
  ·have e1:=rs1.same w o n e
   rw [aD (show w≠z from fun y=>by rw [y,(hA z hz).1] at e1; cases e1)]
   exact s4 _ _ n (s3 _ _ n (s2 _ _ n e1))
  ·obtain ⟨k1,k2⟩:=hA w hw
   have nt:w∉ts:=fun z=>k2 (hc1.own w z)
   refine ⟨?_,fun z=>k2 (rs1.sub w z)⟩
   cases e:H₀ w with
   | none=>rfl
   | some o=>have:=rs1.same w o nt e; rw [k1] at this; cases this
  ·by_cases y:w=z
   ·rw [y,aR]; exact .inr (.inl ⟨_,rfl⟩)
   ·rw [aD y]; exact ck.trk w hw
  ·have hm:=List.mem_of_getElem? q1
   have nz:w≠z:=fun y=>(hA z hz).2 (hc1.own z (y ▸ hm))
   exact (hc4.tape i w ys q1 q2).mono (fun _ h=>by rw [aD nz]; exact h) le
 cases b with
 | false=>
  have hlen':ka.length < sizeLine:=by rw [hU g2]; exact Nat.lt_of_le_of_lt hlen (by decide)
  refine ⟨a,_,rfl,DPut.k (k:=(Sum.inr s:Key)) g1 hlen',?_⟩
  refine ⟨_,hσ,fin a _ hAa (fun w _ n=>(aD n).symm) (.tuple [.dict (putN d s xv),.dict d']) (fun le=>⟨c,a,a',rfl,hab,hAA,fun z=>np (z.elim (fun y=>.inl (rs.sub c y)) .inr),?_,⟨_,aR,mB (Rep.mono le rx) (g2.mono le)⟩,⟨_,(aD (Ne.symm hab)).trans g3,g4.mono le⟩⟩) q⟩
  rw [aD (show c≠a from fun z=>np (.inr ((hAA c).mpr (.inl z))))]
  exact gp
 | true=>
  have hlen':kb.length < sizeLine:=by rw [hU g4]; exact Nat.lt_of_le_of_lt hlen (by decide)
  refine ⟨a',_,rfl,DPut.k (k:=(Sum.inr s:Key)) g3 hlen',?_⟩
  refine ⟨_,hσ,fin a' _ hAb (fun w _ n=>(aD n).symm) (.tuple [.dict d,.dict (putN d' s xv)]) (fun le=>⟨c,a,a',rfl,hab,hAA,fun z=>np (z.elim (fun y=>.inl (rs.sub c y)) .inr),?_,⟨_,(aD hab).trans g1,g2.mono le⟩,⟨_,aR,mB (Rep.mono le rx) (g4.mono le)⟩⟩) q⟩
  rw [aD (show c≠a' from fun z=>np (.inr ((hAA c).mpr (.inr z))))]
  exact gp
end
inductive LnT (P:Hp→(Bool→Hp→Prop)→Prop):Hp→(Bool→Hp→Prop)→Prop where
 | done {H:Hp} {Q:Bool→Hp→Prop}:P H Q→LnT P H Q
 | frz {H:Hp} {Q:Bool→Hp→Prop} {a:Addr} {kvs:List (Key×V)}:H a=some (.dK kvs)→(∀ o,LnT P (upd H a (.frz o (.dK kvs))) (fun b H2=>H2 a=some (.frz o (.dK kvs))∧Q b (upd H2 a (.dK kvs))))→LnT P H Q
section
variable {X:Cx} {pos pos2 pos3 pos4:Pos}
end
section
variable {X:Cx} {pos:Pos}
def sP (ρ:Rho) (T:Tp) (o:Option (List (Str×PyData))):Option ((Fl×Rho)×Tp):=match o with
 | some l=>if lE l=true then some ((.ro (.dict (aG l)),ρ),T) else none
 | none=>none
def Cg (f:FE):FS:=fun ρ T=>bnd (f ρ T) fun w T1=>sP ρ T1 (oq (view T1 w))
end
end D
namespace XO
open PySem PySem.Spec PyProof.Rows L2
open XE (Kp forget c6 fQ iM XCl vE XAt)
def XR (e C:Addr) (dx:Option Addr) (tb:Value) (h:Heap):Prop:=∃ t,h.get? e=some { cls:=.ref C,dict:=dx,data:=.fields #[.ref t,tb,.none,.none,.bool false,.none] }
def TB (T:Addr) (fl:Value) (h:Heap):Prop:=∃ oT ts,h.get? T=some oT∧oT.data=.fields ts∧ts[3]? = some fl
section
variable {M:Model} {A:Around} {E:Value→Shared→Prop} {s:Shared} {base:Heap} {env:Env} {outer:List Env} {L e C T:Addr} {dx:Option Addr}
theorem sk {head tb:Value} {hn:Bool} {Q:Unit→Shared→Prop} (hfr:A.frames=some (env::outer)) (hl:s.heap.FunFrames base (env::outer)) (hf:env.frame=some L) (hx:XR e C dx tb s.heap)
  (k:∀ h' T,s.heap.objs.size≤T→XR e C dx (.ref T) h'→TB T (rawInt L) h'→T≠e→Kp [e] (frs (env::outer)) s.heap h'→Q () { s with heap:=h' }) :
  wpAny M A (do let a ← frameOf env; let pl ← entryPlaceOf L hn; let b ← EntryCells.newEntry head a .none (rawInt L) .none pl; setField (.ref e) 1 b) Q E s:=by
 obtain ⟨t,he⟩:=hx
 have hen:e∉(env::outer).filterMap (·.frame):=fun hm=>by
  obtain ⟨_,o,ho,hnf⟩:=hl.mem hm
  rw [he] at ho
  cases ho
  exact hnf _ rfl
 refine wpAny_bind (wpAny_frameOf_fun hfr hl hf fun h1 hs=>?_)
 refine wpAny_bind (wpAny_entryPlaceOf fun pl hpl=>?_)
 unfold EntryCells.newEntry newFields
 refine wpAny_bind (wpAny_newObj_type ?_ (hpl.sizeOk5 _ _ _ _ _))
 have he1:=(hs.2.1 e hen).trans he
 generalize eo:(Obj.mk (.type "traceback") none (.fields ([head,.ref L,.none,rawInt L,.none]++(if pl.isEmpty then List.replicate 6 Value.none else pl)).toArray) #[])=oT
 have eT:oT.data=.fields ([head,.ref L,.none,rawInt L,.none]++(if pl.isEmpty then List.replicate 6 Value.none else pl)).toArray:=by rw [← eo]
 have he2:=Heap.get?_push_of_some (h:=h1) oT he1
 refine wpAny_setField he2 rfl (by simp) ?_
 have ne:h1.objs.size≠e:=Nat.ne_of_gt (Heap.lt_size he1)
 have sz:h1.objs.size=s.heap.objs.size:=hs.1
 refine k _ h1.objs.size (by rw [sz]; exact Nat.le_refl _) ⟨t,?_⟩ ⟨oT,_,?_,eT,by simp⟩ ne ⟨fun b o q n m=>?_,fun b o q n m=>?_,fun b o q=>?_⟩
 ·rw [Heap.get?_update_self _ he2 rfl]
  rfl
 ·rw [Heap.get?_update_other _ _ ne.symm]
  exact Heap.get?_push_at rfl (Obj.isFreed_of_fields eT)
 ·rw [Heap.get?_update_other _ _ (fun z=>n (by simp [z]))]
  exact Heap.get?_push_of_some _ ((hs.2.1 b m).trans q)
 ·obtain ⟨sl,q'⟩:=hs.2.2 b o q
  refine ⟨sl,?_⟩
  rw [Heap.get?_update_other _ _ (fun z=>n (by simp [z]))]
  exact Heap.get?_push_of_some _ q'
 ·by_cases hb:b=e
  ·subst hb
   exact ⟨_,Heap.get?_update_self _ he2 rfl⟩
  ·obtain ⟨sl,q'⟩:=hs.2.2 b o q
   exact ⟨_,(Heap.get?_update_other _ _ (Ne.symm hb)).trans (Heap.get?_push_of_some _ q')⟩
theorem xB {Q:Unit→Shared→Prop} (hfr:A.frames=some (env::outer)) (hl:s.heap.FunFrames base (env::outer)) (hf:env.frame=some L) (hx:XR e C dx .none s.heap)
  (k:∀ h' T,s.heap.objs.size≤T→XR e C dx (.ref T) h'→TB T (rawInt L) h'→T≠e→Kp [e] (frs (env::outer)) s.heap h'→Q () { s with heap:=h' }):wpAny M A (noteFrame (.ref e) env) Q E s:=by
 obtain ⟨t,he⟩:=id hx
 unfold noteFrame
 simp only [hf]
 refine wpAny_bind (wpAny_field he rfl (x:=.none) rfl ?_)
 rw [if_neg (by decide)]
 exact sk hfr hl hf hx k
theorem ng {fl:Value} {Q:Unit→Shared→Prop} (hx:XR e C dx (.ref T) s.heap) (ht:TB T fl s.heap) (ne:T≠e) (k:∀ h',XR e C dx (.ref T) h'→TB T .none h'→Kp [T] [] s.heap h'→Q () { s with heap:=h' }) :
  wpAny M A (setFlight (.ref e) none) Q E s:=by
 obtain ⟨t,he⟩:=hx
 obtain ⟨oT,ts,hT,hd,h3⟩:=ht
 have sz:=(Array.getElem?_eq_some_iff.mp h3).1
 unfold setFlight
 refine wpAny_bind (wpAny_field he rfl (x:=.ref T) rfl ?_)
 rw [if_pos (show (Value.ref T != Value.none)=true from by simp)]
 have dt:=Obj.data_mapFields hd (·.setIfInBounds 3 Value.none)
 have self:=Heap.get?_update_self (Obj.mapFields (·.setIfInBounds 3 Value.none)) hT (Obj.isFreed_of_fields dt)
 refine wpAny_setField hT hd sz (k _ ⟨t,?_⟩ ⟨_,_,self,dt,by simp [sz]⟩ ⟨fun b o q n _=>?_,fun b o q n m=>absurd m (by simp),fun b o q=>?_⟩)
 ·rw [Heap.get?_update_other _ _ ne]
  exact he
 ·rw [Heap.get?_update_other _ _ (fun z=>n (by simp [z]))]
  exact q
 ·by_cases hb:T=b
  ·subst hb; exact ⟨_,self⟩
  ·exact ⟨o,by rw [Heap.get?_update_other _ _ hb]; exact q⟩
theorem rP {Q:Unit→Shared→Prop} (hfr:A.frames=some (env::outer)) (hl:s.heap.FunFrames base (env::outer)) (hf:env.frame=some L) (hx:XR e C dx (.ref T) s.heap) (ht:TB T .none s.heap) (ne:T≠e)
  (k:∀ h' T',s.heap.objs.size≤T'→XR e C dx (.ref T') h'→TB T' (rawInt L) h'→T'≠e→Kp [e,T] (frs (env::outer)) s.heap h'→Q () { s with heap:=h' }):wpAny M A (noteFrame (.ref e) env) Q E s:=by
 obtain ⟨t,he⟩:=id hx
 obtain ⟨oT,ts,hT,hd,h3⟩:=id ht
 have sz:=(Array.getElem?_eq_some_iff.mp h3).1
 unfold noteFrame
 simp only [hf]
 refine wpAny_bind (wpAny_field he rfl (x:=.ref T) rfl ?_)
 rw [if_pos (show (Value.ref T != Value.none)=true from by simp)]
 refine wpAny_bind (wpAny_field hT hd h3 ?_)
 rw [if_neg (show ¬ ((Value.none == rawInt L)=true) from by simp [rawInt])]
 have dt:=Obj.data_mapFields hd (·.setIfInBounds 3 Value.none)
 have self:=Heap.get?_update_self (Obj.mapFields (·.setIfInBounds 3 Value.none)) hT (Obj.isFreed_of_fields dt)
 have kp:Kp [e,T] (frs (env::outer)) s.heap (s.heap.update T (Obj.mapFields (·.setIfInBounds 3 Value.none))):=by
  refine ⟨fun b o q n _=>?_,fun b o q n m=>⟨o.slots,?_⟩,fun b o q=>?_⟩
  ·rw [Heap.get?_update_other _ _ (fun z=>n (by simp [z]))]
   exact q
  ·rw [Heap.get?_update_other _ _ (fun z=>n (by simp [z]))]
   exact q
  ·by_cases hb:T=b
   ·subst hb; exact ⟨_,self⟩
   ·exact ⟨o,by rw [Heap.get?_update_other _ _ hb]; exact q⟩
 have fn:=kp.fun_ (fun x hx=>by
  rcases List.mem_cons.mp hx with z | z
  ·exact ⟨_,_,z ▸ he,rfl⟩
  ·exact ⟨_,_,(List.mem_singleton.mp z) ▸ hT,hd⟩) hl
 refine wpAny_bind (wpAny_setField hT hd sz ?_)
 refine sk (base:=base) hfr fn hf ⟨t,by rw [Heap.get?_update_other _ _ ne]; exact he⟩ fun h' T' g1 g2 g3 g4 g5=>?_
 refine k h' T' ?_ g2 g3 g4 (kp.trans (g5.more fun x hx=>by simp at hx; simp [hx]))
 have:(s.heap.update T (Obj.mapFields (·.setIfInBounds 3 Value.none))).objs.size=s.heap.objs.size:=by first | exact Heap.size_update _ _ _ | simp
 rw [← this]
 exact g1
end
theorem CM {fs fs' xs:List Addr} {H0 H2:Hp} {h0 h2 h3:Heap} {a:Addr} (u:Un fs [] H0 H2 h0 h2) (k:Kp xs fs' h2 h3) (nx:∀ x∈xs,h0.objs.size≤x) (nf:∀ x∈fs',x∈fs∨h0.objs.size≤x) (ha:∀ o,H2 a=some o→∃ φ,o=.ext φ) :
  Un fs [] H0 (forget a H2) h0 h3:=by
 have lt:∀ {b:Addr} {o:Obj},h0.get? b=some o→b < h0.objs.size:=fun e=>Heap.lt_size e
 have nx':∀ {b:Addr} {o:Obj},h0.get? b=some o→b∉xs:=fun e z=>Nat.lt_irrefl _ (Nat.lt_of_lt_of_le (lt e) (nx _ z))
 refine ⟨fun b o q n m x=>?_,fun b o q n m x=>?_,fun b o q n x=>?_,fun b o q x=>?_,fun b xs e=>?_,fun b o u' e=>?_,fun b ps e=>?_⟩
 ·refine k.keep b o (u.keep b o q n m x) (nx' q) fun z=>?_
  rcases nf b z with z | z
  ·exact m z
  ·exact Nat.lt_irrefl _ (Nat.lt_of_lt_of_le (lt q) z)
 ·obtain ⟨sl,e⟩:=u.slot b o q n m x
  by_cases z:b∈fs'
  ·obtain ⟨sl',e'⟩:=k.slot b _ e (nx' q) z
   exact ⟨sl',e'⟩
  ·exact ⟨sl,k.keep b _ e (nx' q) z⟩
 ·have e:=u.free b o q n x
  by_cases z:b=a
  ·rw [z]; exact fQ
  ·rw [c6 z]; exact e
 ·obtain ⟨o',e⟩:=u.there b o q x
  exact k.there b o' e
 ·have e':=u.tups b xs e
  rw [c6 (fun z=>by rw [z] at e'; obtain ⟨_,w⟩:=ha _ e'; cases w)]
  exact e'
 ·have e':=u.frzs b o u' e
  rw [c6 (fun z=>by rw [z] at e'; obtain ⟨_,w⟩:=ha _ e'; cases w)]
  exact e'
 ·obtain ⟨more,e'⟩:=u.tbls b ps e
  refine ⟨more,?_⟩
  rw [c6 (fun z=>by rw [z] at e'; obtain ⟨_,w⟩:=ha _ e'; cases w)]
  exact e'
theorem Cd {P:Program} {w:World} {xs fs:List Addr} {H:Hp} {h h':Heap} {a:Addr} (x:HOk P w H h) (k:Kp xs fs h h') (nx:∀ y∈xs,y=a∨H y=none) (nf:∀ y∈fs,H y=none) (ha:∀ o,H a=some o→∃ φ,o=.ext φ):HOk P w (forget a H) h':=by
 intro b o e
 have nb:b≠a:=fun z=>by rw [z,fQ] at e; cases e
 rw [c6 nb] at e
 refine (x b o e).stay (fun c u hc q=>?_) (fun c q=>?_) fun c ys q=>?_
 ·have tr:∃ v,H c=some v∧c≠a:=by
   rcases hc with rfl | hc
   ·exact ⟨_,e,nb⟩
   ·exact ⟨_,hc,fun z=>by rw [z] at hc; obtain ⟨_,w⟩:=ha _ hc; cases w⟩
  obtain ⟨v,t1,t2⟩:=tr
  refine k.keep c u q (fun z=>?_) fun z=>?_
  ·rcases nx c z with z | z
   ·exact t2 z
   ·rw [t1] at z; cases z
  ·have:=nf c z
   rw [t1] at this; cases this
 ·rw [c6 (fun z=>by rw [z] at q; obtain ⟨_,w⟩:=ha _ q; cases w)]; exact q
 ·rw [c6 (fun z=>by rw [z] at q; obtain ⟨_,w⟩:=ha _ q; cases w)]; exact q
def CXo (P:Program) (w:World):CXT:=fun outer H s E v s'=>∃ e C dx T H',v=.ref e∧s'.os=s.os∧AllBare s'.gens∧Un (frs outer) [] H H' s.heap s'.heap∧HOk P w H' s'.heap∧s.heap.objs.size≤e∧s.heap.objs.size≤T∧T≠e ∧
 XR e C dx (.ref T) s'.heap∧TB T .none s'.heap∧H' e=none∧H' T=none∧E (.ref C) dx H'
section
variable {P:Program} {w:World} {K:Frag} {mg:Str→Option Value} {base:Heap} {N:List Str} {qual:Str} {scope:Scope} {f C R:Addr} {cdv:Value} {A:Around} {outer:List Env} {s0:Shared} {H0:Hp} {E:XK}
theorem gone {A':Around} {X':Value→Shared→Prop} {pins:List (Addr×Obj)} {σ:L2.St} {H2:Hp} {s2:Shared} {h3:Heap} {a T:Addr} {dx:Option Addr} {fl:Value} {xs:List Addr} (I2:L2.Inv (bM (CXo P w) P w K mg base N qual scope f cdv A outer s0 H0 E) pins σ H2 s2) (ha:∀ o,H2 a=some o→∃ φ,o=.ext φ) (ge:s0.heap.objs.size≤a)
  (g1:s0.heap.objs.size≤T) (hT:H2 T=none) (g2:XR a C dx (.ref T) h3) (g3:TB T fl h3) (g4:T≠a) (g5:Kp (a::xs) (frs (envOfC qual scope s0.heap.objs.size f cdv::outer)) s2.heap h3) (nx:∀ y∈xs,s0.heap.objs.size≤y∧H2 y=none) (q:E (.ref C) dx (forget a H2)) :
  wpAny (model P w) A' (setFlight (.ref a) none) (fun _ s''=>CXo P w outer H0 s0 E (.ref a) s'') X' { s2 with heap:=h3 }:=by
 have st:=I2.env0
 have un:Un (frs outer) [] H0 H2 s0.heap s2.heap:=I2.base
 have osq:s2.os=s0.os:=I2.os
 have hok:HOk P w H2 s2.heap:=I2.hok
 refine ng g2 g3 g4 fun h4 j1 j2 j3=>?_
 have kp:Kp (a::T::xs) (frs (envOfC qual scope s0.heap.objs.size f cdv::outer)) s2.heap h4:=by
  refine (g5.more fun x hx=>by simp at hx; rcases hx with z | z <;> simp [z]).trans ?_
  refine ⟨fun b o q n _=>j3.keep b o q (fun z=>n (by simp at z; simp [z])) (by simp),fun b o q n m=>⟨o.slots,?_⟩,j3.there⟩
  exact j3.keep b o q (fun z=>n (by simp at z; simp [z])) (by simp)
 refine ⟨a,C,dx,T,forget a H2,rfl,osq,I2.bare,CM un kp (fun x hx=>?_) (fun x hx=>?_) ha,Cd hok kp (fun y hy=>?_) st.frf ha,ge,g1,g4,j1,j2,fQ,?_,q⟩
 ·simp at hx
  rcases hx with rfl | rfl | z
  ·exact ge
  ·exact g1
  ·exact (nx x z).1
 ·have hx':x∈frs (envOfC qual scope s0.heap.objs.size f cdv::outer):=hx
  unfold frs at hx'
  rw [List.filterMap_cons] at hx'
  have hfr:(envOfC qual scope s0.heap.objs.size f cdv).frame=some s0.heap.objs.size:=rfl
  rw [hfr] at hx'
  rcases List.mem_cons.mp hx' with z | z
  ·exact .inr (Nat.le_of_eq z.symm)
  ·exact .inl z
 ·simp at hy
  rcases hy with rfl | rfl | z
  ·exact .inl rfl
  ·exact .inr hT
  ·exact .inr (nx y z).2
 ·rw [c6 g4]; exact hT
theorem wX {a:Addr} {H:Hp} (h:H a=none):forget a H=H:=by
 funext b
 by_cases e:b=a
 ·rw [e,fQ,h]
 ·exact c6 e
theorem passes:iw (CXo P w) (bM (CXo P w) P w K mg base N qual scope f cdv A outer s0 H0 E) E:=by
 intro pins σ H1 s1 v s2 I1 hq
 obtain ⟨a,C,dx,T,H2,rfl,os2,bare2,un2,hok2,ge,geT,neT,xr,tb,fe,fT,q⟩:=hq
 have I2:L2.Inv (bM (CXo P w) P w K mg base N qual scope f cdv A outer s0 H0 E) pins σ H2 s2:=I1.call' (ch:=[]) os2 un2 hok2 bare2 (fun b z=>absurd z (by simp))
 have st:=I2.env0
 have sz1:s0.heap.objs.size≤s1.heap.objs.size:=I1.sz
 have sz:s0.heap.objs.size≤s2.heap.objs.size:=I2.sz
 show wpAny (model P w) (A.deeper (envOfC qual scope s0.heap.objs.size f cdv)) (leaving (envOfC qual scope s0.heap.objs.size f cdv) (.ref a)) (fun _ s''=>CXo P w outer H0 s0 E (.ref a) s'') (fun e' s''=>CXo P w outer H0 s0 E e' s'') s2
 unfold leaving
 refine wpAny_bind (rP (base:=base) (outer:=outer) (C:=C) (dx:=dx) (T:=T) st.frames st.funs rfl xr tb neT fun h3 T3 g1 g2 g3 g4 g5=>gone (xs:=[T]) I2 (fun o ho=>by rw [fe] at ho; cases ho) (Nat.le_trans sz1 ge) (Nat.le_trans sz g1) (hok2.fresh g1) g2 g3 g4 g5 (fun y hy=>?_) (by rw [wX fe]; exact q))
 rw [List.mem_singleton.mp hy]
 exact ⟨Nat.le_trans sz1 geT,fT⟩
def sRaise (n0:Nat) (C:Addr) (E:XK) (te:TE):TS:=fun _ σ H=>te σ H fun v H2=>∃ a dx,v=.ref a∧n0≤a∧H2 a=some (.ext (XAt a C dx))∧E (.ref C) dx (forget a H2)
theorem yY {e:Expr} {te:TE} {pos:Pos} (c:XCl K C (.ref R::vE)) (he:PE (bM (CXo P w) P w K mg base N qual scope f cdv A outer s0 H0 E) e te) :
  PS (bM (CXo P w) P w K mg base N qual scope f cdv A outer s0 H0 E) (.Raise (some e) none pos) (sRaise s0.heap.objs.size C E te):=by
 intro pins s σ H D I h
 rw [arm_exec_Raise]
 refine wpAny_bind (wpAny_standAt ?_)
 simp only [evalOpt,Option.map]
 unfold raiseStmt
 refine wpAny_bind (wpAny_bind (thn (he pins s σ H _ I h) fun v s2 ⟨x,H2,I2,r2,a,dx,ex,ge,ha,q⟩=>wpAny_bind (wpAny_standAt (wpAny_pure ?_))))
 subst ex
 obtain rfl:v=.ref a:=r2
 obtain ⟨t,hat⟩:=XAt.of I2.hok ha
 obtain ⟨nm,qn,Nn,bs,sn,sub,ab,col,dd,k0,k1,k2,k3,k5,l,_⟩:=c
 have hC:=I2.kIn _ _ l
 have hcB:(Value.ref C::Value.ref R::vE).contains (.type "BaseException")=true:=by simp
 have hh:=I2.ok.hd rfl
 have st:=I2.env0
 have sz:s0.heap.objs.size≤s2.heap.objs.size:=I2.sz
 have hok:HOk P w H2 s2.heap:=I2.hok
 have fin:(bM (CXo P w) P w K mg base N qual scope f cdv A outer s0 H0 E).xe (.ref a) s2:=by
  show wpAny (model P w) (A.deeper (envOfC qual scope s0.heap.objs.size f cdv)) (leaving (envOfC qual scope s0.heap.objs.size f cdv) (.ref a)) (fun _ s''=>CXo P w outer H0 s0 E (.ref a) s'') (fun e' s''=>CXo P w outer H0 s0 E e' s'') s2
  unfold leaving
  exact wpAny_bind (xB (base:=base) (outer:=outer) (C:=C) (dx:=dx) st.frames st.funs rfl ⟨t,hat⟩ fun h3 T g1 g2 g3 g4 g5=>gone (xs:=[]) I2 (fun o ho=>by rw [ha] at ho; cases ho; exact ⟨_,rfl⟩) ge (Nat.le_trans sz g1) (hok.fresh g1) g2 g3 g4 g5 (fun _ z=>nomatch z) q)
 obtain ⟨hp,g,d,tk,os⟩:=s2
 repeat (first | with_reducible refine wpAny_loadPart_at hat ?_ | with_reducible refine wpAny_loadPart_at hC ?_ | wp_step)
 refine wpAny_isSubtype_exc hC ?_
 rw [hcB]
 repeat (first | with_reducible refine wpAny_loadPart_at hat ?_ | with_reducible refine wpAny_loadPart_at hC ?_ | wp_step)
 exact wpAny_raiseNew_none hh fin
end
end XO
namespace XO
open PySem PySem.Spec PyProof.Rows L2 D
open XE (Kp forget c6 fQ iM XCl vE XAt)
structure XB0 (K:Frag) (C R:Addr):Prop where
 c:XCl K C (.ref R::vE)
 r:XCl K R vE
 ci:PySem.W.findIn K (.ref C) "__init__" = some (some (.builtin "ValueError.__init__"))
 ri:PySem.W.ownIn K "__init__" (.ref R)=some none
 kp:PySem.W.keepIn K (.ref C)=true
section
variable {prog:Program} {w:World} {A:Around} {E:Value→Shared→Prop} {h:Heap} {g:Array GenState} {d:Drawn} {t:Nat} {os:OsState} {K:Frag} {C R:Addr}
theorem Bn {us:List Value} {Q:Value→Shared→Prop} (X:K.In h) (c:XCl K C (.ref R::vE)) (r:XCl K R vE) (ri:PySem.W.ownIn K "__init__" (.ref R)=some none)
  (hi:PySem.W.findIn K (.ref C) "__init__" = some (some (.builtin "ValueError.__init__"))) (hz:us.length≤sizeLine)
  (k:∀ h',(∀ b o,h.get? b=some o→h'.get? b=some o)→XAt (h.objs.size + 1) C none h'→Q (.ref (h.objs.size + 1)) ⟨h',g,d,t,os⟩) :
  wpAny (model prog w) A (call (.ref C) us) Q E ⟨h,g,d,t,os⟩:=by
 have T:=XE.Ab X r ri
 obtain ⟨nm,q,N,bs,sn,sub,ab,col,dd,k0,k1,k2,k3,k5,l,_⟩:=c
 have hC:=X _ _ l
 have FB:=PySem.F.excBase_ValueError
 have f1:=tc_lookup
 have f2:=tc_bind (.ref C)
 have hT:(⟨h,g,d,t,os⟩:Shared).TypeIs (.ref C) "type":=⟨_,hC,rfl⟩
 refine wpAny_call (codeAny_of_tree ?_)
 show wpAny _ _ (callAny (.ref C) _) _ _ _
 repeat (any_goals (first | assumption | with_reducible refine wpAny_loadPart_at hC ?_ | wp_step))
 refine ⟨rfl,codeAny_call_builtin_at (Code.quiet_builtin _ (by decide +kernel)) entry_typeCall (wpAny_check_type_call_sub hC ?_)⟩
 repeat (first | with_reducible refine wpAny_loadPart_at hC ?_ | with_reducible refine wpAny_madeBy_exc hC ?_ | wp_step)
 refine codeAny_call_builtin_code (Code.quiet_builtin _ FB.quiet) (wpAny_check_new_subU FB (by decide +kernel) T hC (codeAny_exc_new_subU FB (by decide +kernel) FB T hC ?_ hz))
 show wpAny _ _ _ _ _ _
 have up:∀ b o,h.get? b=some o→((h.push { cls:=.type "tuple",data:=.seq us.toArray }).push { cls:=.ref C,data:=.fields #[.ref h.objs.size,.none,.none,.none,.bool false,.none] }).get? b=some o:=
  fun b o e=>Heap.get?_push_of_some _ (Heap.get?_push_of_some _ e)
 have at1:((h.push { cls:=.type "tuple",data:=.seq us.toArray }).push { cls:=.ref C,data:=.fields #[.ref h.objs.size,.none,.none,.none,.bool false,.none] }).get? (h.objs.size + 1)
   = some { cls:=.ref C,data:=.fields #[.ref h.objs.size,.none,.none,.none,.bool false,.none] }:=by heap_get
 have hC1:=up _ _ hC
 have cc:(Value.ref C::Value.ref R::vE).contains (.ref C)=true:=by simp
 unfold isInstance
 repeat (first | with_reducible refine wpAny_loadPart_at at1 ?_ | wp_step)
 refine wpAny_isSubtype_exc hC1 ?_
 rw [cc]
 repeat (first | with_reducible refine wpAny_loadPart_at at1 ?_ | wp_step)
 show wpAny _ _ (typeLookup (.ref C) _) _ _ _
 refine PySem.W.looks_findIn (X.keeps up) hi _ _ _ _ (fun _ _ e=>e) ?_
 refine wpAny_holding (wpAny_bind (wpAny_of_eq (FB.init.bind _) ?_))
 refine wpAny_bind (wpAny_call (codeAny_call_builtin FB.init.plain FB.initEntry (wpAny_check_init_subU FB (T.keeps up) hC1 at1 rfl ?_)))
 wp_walk
 have ne:∀ {b:Addr} {o:Obj},h.get? b=some o→h.objs.size + 1≠b:=fun e=>Nat.ne_of_gt (Nat.lt_succ_of_lt (Heap.lt_size e))
 refine k _ (fun b o e=>?_) ⟨h.objs.size + 2,?_⟩
 ·exact (Heap.get?_update_other _ _ (ne e)).trans (Heap.get?_push_of_some _ (up b o e))
 ·refine (Heap.get?_update_self _ (Heap.get?_push_of_some _ at1) rfl).trans ?_
  simp only [Heap.size_push]
  rfl
end
def tX0 (n0:Nat) (C:Addr) (te:TE):TE:=fun σ H Q=>te σ H fun _ H1=>∀ a,n0≤a→H1 a=none→Q (.ref a) (upd H1 a (.ext (XAt a C none)))
theorem Av {X:Cx} {C R:Addr} {cn:Str} {e:Expr} {te:TE} {p pos:Pos} (G:XB0 X.K C R) (hg:Gl X cn) (hm:X.mg cn=some (.ref C)) (he:PE X e te) (hdb:(cn == ("__debug__" : Str))=false:=by decide) (hs:starEach [e] X.env=[(false,eval e X.env)]:=by rfl) :
  PE X (.Call (.Name cn p) [e] [] pos) (tX0 X.s₀.heap.objs.size C te):=by
 intro pins s σ H Q I h
 refine wpAny_Call_Name_kw (ic I hg hm ?_ hdb)
 have pa:PA X [e] (nM te oj):=aU he bx (by rw [hs]; rfl)
 have hA:=pa pos pins s σ H (fun vs H1=>match vs with
  | [_]=>∀ a,X.s₀.heap.objs.size≤a→H1 a=none→Q (.ref a) (upd H1 a (.ext (XAt a C none)))
  | _=>False) I h
 refine PySem.W.callWith_K (h₀:=X.base) I.ok.mod.kin G.kp (thn hA fun us s1 ⟨vs,H1,I1,r1,q⟩=>⟨I1.kIn,?_⟩) (by rw [hs]; rfl) rfl
 dsimp only at q
 split at q
 ·have hl:us.length=1:=by rw [← r1.length]; rfl
  have I1':=I1
  obtain ⟨hp,g,d,tk,os⟩:=s1
  refine Bn I1.kIn G.c G.r G.ri G.ci (by simp [hl]; decide) fun h' kp at1=>?_
  have I2:=I1'.laid (h':=h') (a:=hp.objs.size + 1) (o:=.ext (XAt (hp.objs.size + 1) C none)) (t':=tk) kp (Nat.le_succ _) at1.ok
  exact ⟨.ref (hp.objs.size + 1),_,I2,rfl,q _ (Nat.le_trans I1.sz (Nat.le_succ _)) (I1.hok.fresh (Nat.le_succ _))⟩
 ·exact False.elim q
end XO
namespace XO
open PySem PySem.Spec PyProof.Rows L2 D
open XE (Kp forget c6 fQ iM XCl vE XAt)
abbrev FX:=Rho→Tp→Option (Nat×Tp)
inductive LiftXP (K:Frag) (cs:Nat→Addr) (E:XK) (f:FX) (σ:L2.St) (H:Hp):Prop where
 | mk (O₀:Addr→Prop) (H₀:Hp) (F:List ((Addr→Prop)×Hp)) (ts:List Addr) (O:Addr→Prop) (ρ:Rho) (T:Tp) (c:Nat) (T':Tp) (rs:RS K O₀ H₀ F ts O H σ ρ T) (e:f ρ T=some (c,T')) (q:∀ H',SameX ts H₀ H'→HC K O₀ ts H' T'→E (.ref (cs c)) none H'):LiftXP K cs E f σ H
def DD (K:Frag) (cs:Nat→Addr) (E:XK) (f:FX):TS:=fun _ σ H=>LiftXP K cs E f σ H
structure DX (X:Cx) (cs:Nat→Addr) (E:XK) (s:List Stmt) (f:FX):Prop where
 pe:PSs X s (DD X.K cs E f)
theorem ma {X:Cx} {s:List Stmt}:PSs X s (fun _ _ _=>False):=fun _ _ _ _ _ _ h=>h.elim
def cM (f:FS) (g:FX):FX:=fun ρ T=>bnd (f ρ T) fun p T1=>match (p:Fl×Rho) with
 | (.nx,ρ1)=>g ρ1 T1
 | _=>none
def cu (f:FT) (c:Nat):FX:=fun ρ T=>bnd (f ρ T) fun b T1=>if b=true then some (c,T1) else none
def aY (m:List W→Tp→Option (Nat×Tp)) (g:FA):FX:=fun ρ T=>bnd (g ρ T) fun ws T1=>if bQ ws=true then m ws T1 else none
def cm (f g:FX):FX:=fun ρ T=>match f ρ T with
 | some r=>some r
 | none=>g ρ T
def spF (K:Frag) (n:Nat) (cs:Nat→Addr) (m:List W→Tp→Option (Nat×Tp)):Sp:=fun vs H _ E=>∃ (O:Addr→Prop) (ts:List Addr) (T:Tp) (ws:List W) (c:Nat) (T':Tp),HC K O ts H T∧eJ K O ts H vs ws∧ws.length=n∧bQ ws=true∧m ws T=some (c,T') ∧
 ∀ H',SameX ts H H'→HC K O ts H' T'→E (.ref (cs c)) none H'
structure FnX (P:Program) (w:World) (K:Frag) (mg:Str→Option Value) (base:Heap) (name:Str) (ps:List Str) (k:Nat) (sp:Sp):Prop where
 ex:∃ f fd,FnOk P w K mg base (CXo P w) k f fd ps sp∧Binds K fd ps []∧PySem.W.keepIn K (.ref f)=true∧mg name=some (.ref f)
section
variable {X:Cx} {cs:Nat→Addr} {E:XK} {pos:Pos}
theorem jv {st:Stmt} {sts:List Stmt} {f:FS} {g:FX} (h1:DS X st f) (h2:DX X cs E sts g):DX X cs E (st::sts) (cM f g):=by
 refine ⟨fU (cH h1.pe h2.pe) fun D σ H h=>?_⟩
 obtain ⟨O₀,H₀,F,ts,O,ρ,T,c,T',rs,e,q⟩:=h
 unfold cM at e
 obtain ⟨⟨fl,ρ1⟩,T1,e1,e⟩:=aC e
 cases fl with
 | nx=>exact ⟨O₀,H₀,F,ts,O,ρ,T,.nx,ρ1,T1,rs,e1,fun O' σ' H' rs'=>⟨O₀,H₀,F,ts,O',ρ1,T1,c,T',rs',e,q⟩⟩
 | _=>cases e
theorem ju {sts:List Stmt} {f g:FX} (h1:DX X cs E sts f) (h2:DX X cs E sts g):DX X cs E sts (cm f g):=by
 refine ⟨fun pins s σ H D I h=>?_⟩
 obtain ⟨O₀,H₀,F,ts,O,ρ,T,c,T',rs,e,q⟩:=h
 unfold cm at e
 split at e
 ·rename_i r e1
  cases e
  exact h1.pe pins s σ H D I ⟨O₀,H₀,F,ts,O,ρ,T,c,T',rs,e1,q⟩
 ·exact h2.pe pins s σ H D I ⟨O₀,H₀,F,ts,O,ρ,T,c,T',rs,e,q⟩
theorem fails {n:Nat} {m:List W→Tp→Option (Nat×Tp)} {g:FA} {σ:L2.St} {H:Hp} {Q:VK} (hl:cO g n) (h:LiftXP X.K cs E (aY m g) σ H):jh (spF X.K n cs m) [] E (k8 X.K g) σ H Q:=by
 obtain ⟨O₀,H₀,F,ts,O,ρ,T,c,T',rs,e,q⟩:=h
 unfold aY at e
 obtain ⟨ws,T1,e1,e⟩:=aC e
 split at e
 ·rename_i hn
  refine ⟨O,ts,ρ,T,ws,T1,rs.hc,rs.re,e1,fun vs H1 s1 hc1 r1=>?_⟩
  show spF X.K n cs m (vs++[]) H1 Q E
  rw [List.append_nil]
  refine ⟨O,ts,T1,ws,c,T',hc1,r1,hl _ _ _ _ e1,hn,e,fun H' s2 hc2=>q H' ((rs.same.trans s1).trans s2) ?_⟩
  exact ((rs.step s1 hc1).step s2 hc2).frzH
 ·cases e
section
variable {name:Str} {ps:List Str} {k:Nat} {m:List W→Tp→Option (Nat×Tp)} {e:Expr} {es:List Expr} {g:FA} {p cpos:Pos} {sts:List Stmt}
theorem mO (G:FnX X.prog X.w X.K X.mg X.base name ps k (spF X.K ps.length cs m)) (hr:Room k X.A) (hg:Gl X name) (hp:iw (CXo X.prog X.w) X E) (ha:DA X (e::es) g) (hl:cO g ps.length) (hdb:(name == ("__debug__" : Str))=false:=by decide)
  (he:starEach (e::es) X.env=(false,eval e X.env)::starEach es X.env:=by exact bb rfl) (hpl:(backTo cpos (starEach es X.env)).any (·.1)=false:=by exact bF rfl) (hs:swapsWith (.Call (.Name name p) (e::es) [] cpos) none pos.line X.env=pure false:=by rfl) :
  DX X cs E (.Expr (.Call (.Name name p) (e::es) [] cpos) pos::sts) (aY m g):=by
 obtain ⟨f,fd,F,hb,hk,hm⟩:=G.ex
 exact ⟨fU (cH (gE (mE F hr hg hm hk hb .nil hp ha.pe hdb he hpl) hs) ma) fun D σ H h=>fails hl h⟩
theorem tJ {i:Nat} {x:Str} {pos':Pos} (G:FnX X.prog X.w X.K X.mg X.base name ps k (spF X.K ps.length cs m)) (hr:Room k X.A) (hg:Gl X name) (hp:iw (CXo X.prog X.w) X E) (hN:X.N.Nodup) (ha:DA X (e::es) g) (hl:cO g ps.length) (hdb:(name == ("__debug__" : Str))=false:=by decide)
  (he:starEach (e::es) X.env=(false,eval e X.env)::starEach es X.env:=by exact bb rfl) (hpl:(backTo cpos (starEach es X.env)).any (·.1)=false:=by exact bF rfl) (hi:X.N[i]? = some x:=by rfl) (hx:Loc X.env.scope x:=by first | exact Or.inl rfl | exact Or.inr rfl)
  (hs:swapsWith (.Call (.Name name p) (e::es) [] cpos) (some (.Name x pos')) pos.line X.env=pure false:=by rfl) (hf:X.fn x=true∨X.env.scope.names.lookup x=some .local:=by first | exact .inl rfl | exact .inr rfl | assumption) :
  DX X cs E (.Assign [.Name x pos'] (.Call (.Name name p) (e::es) [] cpos) pos::sts) (aY m g):=by
 obtain ⟨f,fd,F,hb,hk,hm⟩:=G.ex
 exact ⟨fU (cH (er hN hi hx (mE F hr hg hm hk hb .nil hp ha.pe hdb he hpl) hs hf) ma) fun D σ H h=>fails hl h⟩
end
end
section
variable {P:Program} {w:World} {K:Frag} {mg:Str→Option Value} {base:Heap} {N:List Str} {qual:Str} {scope:Scope} {f:Addr} {cdv:Value} {A:Around} {outer:List Env} {s0:Shared} {H0:Hp} {E:XK} {cs:Nat→Addr}
theorem iR {e:Expr} {ft:FT} {R:Addr} {cn x:Str} {c:Nat} {j:_} {p p1 cpos rpos pos:Pos} {sts:List Stmt} (G:XB0 K (cs c) R) (hm:mg cn=some (.ref (cs c))) (ht:DT (bM (CXo P w) P w K mg base N qual scope f cdv A outer s0 H0 E) e ft)
  (hg:Gl (bM (CXo P w) P w K mg base N qual scope f cdv A outer s0 H0 E) cn:=by rfl) (hdb:(cn == ("__debug__" : Str))=false:=by decide) :
  DX (bM (CXo P w) P w K mg base N qual scope f cdv A outer s0 H0 E) cs E (.If e [.Raise (some (.Call (.Name cn p) [.Constant (.str x) j p1] [] cpos)) none rpos] [] pos::sts) (cu ft c):=by
 refine ⟨fU (cH (t7 ht.pe (ib (yY G.c (Av G hg hm mZ hdb))) rH) ma) fun D σ H h=>?_⟩
 obtain ⟨O₀,H₀,F,ts,O,ρ,T,c',T',rs,e,q⟩:=h
 unfold cu at e
 obtain ⟨b,T1,e1,e⟩:=aC e
 cases b with
 | false=>cases e
 | true=>
  cases e
  refine ⟨O,ts,ρ,T,true,_,rs.hc,rs.re,e1,fun H2 s2 hc2=>fE ?_⟩
  refine fun a ge ha=>⟨a,none,rfl,ge,aR,?_⟩
  rw [iM ha]
  exact q _ (rs.same.trans s2) (rs.step s2 hc2).frzH
end
def mkX (N:Nat) (m:FX):List W→Tp→Option (Nat×Tp):=fun ws T=>if bQ ws=true then m (ws.map some++List.replicate (N - ws.length) none) T else none
theorem jG {P:Program} {w:World} {K:Frag} {mg:Str→Option Value} {base:Heap} {x qual:Str} {st:Stmt} {f:Addr} {fd:FuncData} {N ps:List Str} {k:Nat} {m:FX} {cs:Nat→Addr} (F:Fun K x qual st f fd) (S:FnScope N ps (aE st))
  (hbody:∀ (cdv:Value) (A:Around) (outer:List Env) (s:Shared) (H:Hp) (E:XK),Room k (A.deeper (envOfC qual (aE st) s.heap.objs.size f cdv))→DX (bM (CXo P w) P w K mg base N qual (aE st) f cdv A outer s H E) cs E (bV st) m) :
  FnOk P w K mg base (CXo P w) (k + 1) f fd ps (spF K ps.length cs (mkX N.length m)):=by
 obtain ⟨oc,od,kV,doc,pm,an,cdv,ct,osl,rfl,lk,hcd⟩:=F.ex
 refine ur lk hcd S (fun vs H Q E h=>?_) fun A outer s H vs Q E hr h=>⟨_,(hbody cdv A outer s H E hr).pe,?_⟩
 ·obtain ⟨O,ts,T,ws,c,T',hc,rw',hl,_⟩:=h
  exact (Paired.length rw').trans hl
 ·obtain ⟨O,ts,T,ws,c,T',hc,rw',hl,hn,e,q⟩:=h
  unfold mkX at e
  rw [if_pos hn] at e
  exact ⟨O,H,[],ts,O,_,T,c,T',XE.qB hc rw' hn,e,q⟩
end XO
namespace XO
open PySem PySem.Spec PyProof.Rows L2 D
open XE (Kp forget c6 fQ iM XCl vE XAt name_goes wW)
def XL (e C:Addr):Heap→Prop:=fun h=>∃ vs,h.get? e=some { cls:=.ref C,dict:=none,data:=.fields vs }
theorem XL.ok {P:Program} {w:World} {H:Hp} {e C:Addr} {h:Heap} (x:XL e C h):ObjOk P w H h e (.ext (XL e C)):=⟨x,let ⟨_,y⟩:=x; ⟨_,y⟩,fun _ _ ⟨vs,y⟩ k=>⟨vs,k _ y⟩⟩
theorem XL.of {P:Program} {w:World} {H:Hp} {e C:Addr} {h:Heap} (ok:HOk P w H h) (x:H e=some (.ext (XL e C))):XL e C h:=(ok _ _ x).1
inductive LiftYP (K:Frag) (cs:Nat→Addr) (E:XK) (f:FX) (σ:L2.St) (H:Hp):Prop where
 | mk (O₀:Addr→Prop) (H₀:Hp) (F:List ((Addr→Prop)×Hp)) (ts:List Addr) (O:Addr→Prop) (ρ:Rho) (T:Tp) (c:Nat) (T':Tp) (rs:RS K O₀ H₀ F ts O H σ ρ T) (e:f ρ T=some (c,T')) (q:∀ H',RS K O₀ H₀ F ts O H' σ ρ T'→E (.ref (cs c)) none H'):LiftYP K cs E f σ H
theorem Cf {X:Cx} {cs:Nat→Addr} {E:XK} {n:Nat} {m:List W→Tp→Option (Nat×Tp)} {g:FA} {σ:L2.St} {H:Hp} {Q:VK} (hl:cO g n) (h:LiftYP X.K cs E (aY m g) σ H):jh (spF X.K n cs m) [] E (k8 X.K g) σ H Q:=by
 obtain ⟨O₀,H₀,F,ts,O,ρ,T,c,T',rs,e,q⟩:=h
 unfold aY at e
 obtain ⟨ws,T1,e1,e⟩:=aC e
 split at e
 ·rename_i hn
  refine ⟨O,ts,ρ,T,ws,T1,rs.hc,rs.re,e1,fun vs H1 s1 hc1 r1=>?_⟩
  show spF X.K n cs m (vs++[]) H1 Q E
  rw [List.append_nil]
  exact ⟨O,ts,T1,ws,c,T',hc1,r1,hl _ _ _ _ e1,hn,e,fun H' s2 hc2=>q H' ((rs.step s1 hc1).step s2 hc2)⟩
 ·cases e
structure DF (X:Cx) (cs:Nat→Addr) (body:List Stmt) (f:FX):Prop where
 pe:∀ (pins:List (Addr×Obj)) (s:Shared) (σ:L2.St) (H:Hp) (Eh:XK),L2.Inv X pins σ H s→LiftYP X.K cs Eh f σ H→wpAny (model X.prog X.w) X.A (execs body X.env) (fun _ _=>False) (fun v s'=>∃ H1 s1,L2.Inv X pins σ H1 s1∧CXo X.prog X.w X.stack H1 s1 Eh v s') s
def cJ (f:FT) (a b:FX):FX:=fun ρ T=>bnd (f ρ T) fun c T1=>if c=true then a ρ T1 else b ρ T1
section
variable {X:Cx} {cs:Nat→Addr}
theorem uB {e:Expr} {ft:FT} {a b:List Stmt} {fa fb:FX} {pos:Pos} (ht:DT X.nox e ft) (ha:DF X cs a fa) (hb:DF X cs b fb):DF X cs [.If e a b pos] (cJ ft fa fb):=by
 refine ⟨fun pins s σ H Eh I h=>?_⟩
 obtain ⟨O₀,H₀,F,ts,O,ρ,T,c,T',rs,e,q⟩:=h
 unfold cJ at e
 obtain ⟨d,T1,e1,e⟩:=aC e
 refine wpAny_execs_cons (wpAny_If (wpAny_mono (ht.pe pins s σ H (fun d' H1=>d'=d∧RS X.K O₀ H₀ F ts O H1 σ ρ T1) (I.wish _) ⟨O,ts,ρ,T,d,T1,rs.hc,rs.re,e1,fun H1 s1 hc1=>⟨rfl,rs.step s1 hc1⟩⟩) (fun d' s1 ⟨H1,I1,e2,rs1⟩=>?_) fun _ _ z=>False.elim z))
 subst e2
 cases d' with
 | true=>exact wpAny_mono (ha.pe pins s1 σ H1 Eh I1.unwish ⟨O₀,H₀,F,ts,O,ρ,T1,c,T',rs1,by simpa using e,q⟩) (fun _ _ z=>False.elim z) fun _ _ z=>z
 | false=>exact wpAny_mono (hb.pe pins s1 σ H1 Eh I1.unwish ⟨O₀,H₀,F,ts,O,ρ,T1,c,T',rs1,by simpa using e,q⟩) (fun _ _ z=>False.elim z) fun _ _ z=>z
theorem nF {x name:Str} {ps:List Str} {k:Nat} {m:List W→Tp→Option (Nat×Tp)} {e:Expr} {es:List Expr} {g:FA} {p cpos pos' pos:Pos} (G:FnX X.prog X.w X.K X.mg X.base name ps k (spF X.K ps.length cs m)) (hr:Room k X.A) (hg:Gl X name) (ha:DA X.nox (e::es) g) (hl:cO g ps.length) (hdb:(name == ("__debug__" : Str))=false:=by decide)
  (he:starEach (e::es) X.env=(false,eval e X.env)::starEach es X.env:=by exact bb rfl) (hpl:(backTo cpos (starEach es X.env)).any (·.1)=false:=by exact bF rfl)
  (hs:swapsWith (.Call (.Name name p) (e::es) [] cpos) (some (.Name x pos')) pos.line X.env=pure false:=by rfl) :
  DF X cs [.Assign [.Name x pos'] (.Call (.Name name p) (e::es) [] cpos) pos] (aY m g):=by
 refine ⟨fun pins s σ H Eh I h=>?_⟩
 obtain ⟨f,fd,F,hb,hk,hm⟩:=G.ex
 have h2:=Cf (X:=X) (Q:=fun _ _=>False) hl h
 refine wpAny_execs_cons (wpAny_Assign_Name ?_ hs)
 refine wpAny_Call_Name_kw (ic I hg hm ?_ hdb)
 refine PySem.W.callWith_K (h₀:=X.base) I.ok.mod.kin hk ?_ he hpl
 refine wpAny_mono (ha.pe cpos pins s σ H _ (I.wish _) h2) (fun us s1 ⟨vs,H1,I1',rv,q⟩=>?_) fun _ _ z=>False.elim z
 have I1:L2.Inv X pins σ H1 s1:=I1'.unwish
 refine ⟨I1.kIn,?_⟩
 have q:spF X.K ps.length cs m (vs++[]) H1 (fun _ _=>False) Eh:=q
 rw [List.append_nil] at q
 have hlen:us.length=ps.length:=by rw [← rv.length]; exact F.len _ _ _ _ q
 refine wpAny_call (codeAny_mono (F.run X.A X.stack s1 H1 ⟨us,[]⟩ us vs _ _ hr I1.env0 (by simpa using hb s1 us I1.kIn (by simpa using hlen)) rv q) fun res s2 hq=>?_)
 cases res with
 | ok fl=>
  cases fl with
  | ret u=>
   obtain ⟨v,H2,I2,r2,q2⟩:=I1.after hq
   exact False.elim q2
  | next=>exact False.elim hq
  | brk=>exact False.elim hq
  | cont=>exact False.elim hq
 | error x=>exact ⟨H1,s1,I1,hq⟩
def hnd (X:Cx) (e:Addr):Cx:={ X with A:=X.A.mark (some (.ref e)),calm:=false,xe:=fun _ _=>False }
theorem Ce {e:Addr} (ok:X.Ok):(hnd X e).Ok:=⟨ok.mod,ok.kind,ok.glob,ok.blt,ok.above,ok.inj,ok.has,ok.cab,fun z=>(nomatch z),ok.frames,ok.stk,ok.exf,ok.bs,ok.bsz,ok.noex,ok.exfs,ok.funs,ok.frf⟩
theorem rY {e:Addr} {pins:List (Addr×Obj)} {σ:L2.St} {H:Hp} {s:Shared} (I:L2.Inv X pins σ H s):L2.Inv (hnd X e) pins σ H s:=⟨Ce I.ok,I.os,I.bare,I.base,I.loc,I.cell,I.free,I.freeC,I.pin,I.hok,I.len⟩
theorem jR {e:Addr} {pins:List (Addr×Obj)} {σ:L2.St} {H:Hp} {s:Shared} (ok:X.Ok) (I:L2.Inv (hnd X e) pins σ H s):L2.Inv X pins σ H s:=⟨ok,I.os,I.bare,I.base,I.loc,I.cell,I.free,I.freeC,I.pin,I.hok,I.len⟩
theorem known {pins:List (Addr×Obj)} {σ:L2.St} {H1 H2:Hp} {s1 s6:Shared} {a C:Addr} (I1:L2.Inv X pins σ H1 s1) (ho:s6.os=s1.os) (bare:AllBare s6.gens) (un:Un (frs X.stack) [] H1 H2 s1.heap s6.heap) (hok:HOk X.prog X.w H2 s6.heap) (ge:s1.heap.objs.size≤a) (fa:H2 a=none) (x:XL a C s6.heap) :
  L2.Inv X pins σ (upd H2 a (.ext (XL a C))) s6:=by
 have up:∀ {c:Addr} {u:HO},H2 c=some u→upd H2 a (.ext (XL a C)) c=some u:=fun {c u} e=>(aD (fun z=>by rw [z,fa] at e; cases e)).trans e
 refine I1.call' (ch:=[]) ho ⟨un.keep,un.slot,fun b o q n m=>?_,un.there,fun b xs e=>up (un.tups b xs e),fun b o u e=>up (un.frzs b o u e),fun b ps e=>?_⟩ (fun b o e=>?_) bare (fun b z=>absurd z (by simp))
 ·exact (aD (Nat.ne_of_lt (Nat.lt_of_lt_of_le (Heap.lt_size q) ge))).trans (un.free b o q n m)
 ·obtain ⟨more,z⟩:=un.tbls b ps e
  exact ⟨more,up z⟩
 ·by_cases hb:b=a
  ·subst hb
   rw [aR] at e
   cases e
   exact x.ok
  ·rw [aD hb] at e
   exact (hok b o e).stay (fun _ _ _ q=>q) (fun _ q=>up q) fun _ _ q=>up q
def CW (K:Frag) (cs:Nat→Addr) (n i:Nat) (f:FX) (ts:Addr→TS):TS:=fun D σ H=>LiftYP K cs (fun cv od H2=>∃ c,c < n∧cv=.ref (cs c)∧od=none ∧
 ∀ e,H2 e=none→ts e { nx:=fun σ'=>D.nx (σ'.set i none),rt:=D.rt,bk:=fun σ'=>D.bk (σ'.set i none),ct:=fun σ'=>D.ct (σ'.set i none) } (σ.set i (some (.ref e))) (upd H2 e (.ext (XL e (cs c))))) f σ H
theorem Ao {R:Addr} {rn n:Str} {i k:Nat} {f:FX} {body:List Stmt} {b0:Stmt} {suite:List Stmt} {ts:Addr→TS} {p2 hpos pos:Pos} (hB:DF X cs body f) (c:∀ j,j < k→XCl X.K (cs j) (.ref R::vE)) (r:XCl X.K R vE) (hgR:Gl X rn) (hmR:X.mg rn=some (.ref R)) (hN:X.N.Nodup) (hs:∀ e,PSs (hnd X e) (b0::suite) (ts e))
  (hi:X.N[i]? = some n:=by rfl) (hl:X.env.scope.names.lookup n=some .local:=by rfl) (hfr:X.env.frame=some X.env.locals:=by rfl) (hst:X.stack=X.env::X.outer:=by rfl) (hdR:(rn == ("__debug__" : Str))=false:=by decide) :
  PS X (.Try body [.ExceptHandler (some (.Name rn p2)) (some n) (b0::suite) hpos] [] [] pos) (CW X.K cs k i f ts):=by
 intro pins s σ H D I h
 refine wpAny_Try_except (wpAny_mono (hB.pe pins s σ H _ I h) (fun _ _ z=>False.elim z) fun x s2 hx=>?_)
 obtain ⟨H1,s1,I1,hq⟩:=hx
 obtain ⟨a,C',dx,T,H2,rfl,os2,bare2,un2,hok2,ge,geT,neT,xr,tb,fe,fT,cc,ck,ec,ed,qx⟩:=hq
 cases ec
 cases ed
 have I2:L2.Inv X pins σ H2 s2:=I1.call' (ch:=[]) os2 un2 hok2 bare2 (fun b z=>absurd z (by simp))
 have st:=I2.env0
 have neL:∀ y,s1.heap.objs.size≤y→y≠X.env.locals:=fun y hy z=>Nat.lt_irrefl _ (Nat.lt_of_lt_of_le (z ▸ I1.lt) hy)
 have nef:∀ y,s1.heap.objs.size≤y→y∉frs X.stack:=fun y hy z=>by
  obtain ⟨_,o,ho,_⟩:=I1.stack.mem z
  exact Nat.lt_irrefl _ (Nat.lt_of_lt_of_le (Heap.lt_size ho) hy)
 have goU:∀ (xs:List Addr) (h':Heap),(∀ y∈xs,s1.heap.get? y=none∧H2 y=none)→Kp xs (frs X.stack) s2.heap h'→Un (frs X.stack) [] H1 H2 s1.heap h'∧HOk X.prog X.w H2 h':=fun xs h' nx kp=>by
  have lt:∀ {b:Addr} {o:Obj},s1.heap.get? b=some o→b∉xs:=fun q z=>by rw [(nx _ z).1] at q; cases q
  refine ⟨⟨fun b o q n m _=>?_,fun b o q n m _=>?_,un2.free,fun b o q _=>?_,un2.tups,un2.frzs,un2.tbls⟩,fun b o e=>?_⟩
  ·exact kp.keep b o (un2.keep b o q n m (by simp)) (lt q) m
  ·obtain ⟨sl,e1⟩:=un2.slot b o q n m (by simp)
   obtain ⟨sl',e2⟩:=kp.slot b _ e1 (lt q) m
   exact ⟨sl',e2⟩
  ·obtain ⟨o',e1⟩:=un2.there b o q (by simp)
   exact kp.there b o' e1
  ·refine (hok2 b o e).stay (fun c' u hc q=>?_) (fun _ q=>q) fun _ _ q=>q
   have tr:∃ v,H2 c'=some v:=by
    rcases hc with rfl | hc
    ·exact ⟨_,e⟩
    ·exact ⟨_,hc⟩
   obtain ⟨v,tr⟩:=tr
   refine kp.keep c' u q (fun z=>?_) fun z=>?_
   ·rw [(nx c' z).2] at tr; cases tr
   ·rw [I2.stkFree c' z] at tr; cases tr
 have go:∀ (xs:List Addr) (h':Heap),(∀ y∈xs,s1.heap.get? y=none∧H2 y=none)→Kp xs (frs X.stack) s2.heap h'→L2.Inv X pins σ H2 { s2 with heap:=h' }:=fun xs h' nx kp=>I1.call' (ch:=[]) (s':={ s2 with heap:=h' }) os2 (goU xs h' nx kp).1 (goU xs h' nx kp).2 bare2 (fun b z=>absurd z (by simp))
 have frs':X.A.frames=some (X.env::X.outer):=by rw [← hst]; exact st.frames
 have funs':s2.heap.FunFrames X.base (X.env::X.outer):=by rw [← hst]; exact st.funs
 refine rP (base:=X.base) (outer:=X.outer) (L:=X.env.locals) frs' funs' hfr xr tb neT fun h3 T3 g1 g2 g3 g4 g5=>?_
 rw [← hst] at g5
 have fT3:H2 T3=none:=hok2.fresh g1
 refine ng g2 g3 g4 fun h4 j1 j2 j3=>?_
 have wid:∀ {x:Addr} {u v:Heap},Kp [x] [] u v→Kp [x] (frs X.stack) u v:=fun k=>⟨fun b o q n _=>k.keep b o q n (by simp),fun b o q n _=>⟨o.slots,k.keep b o q n (by simp)⟩,k.there⟩
 have kp4:Kp [a,T,T3] (frs X.stack) s2.heap h4:=(g5.more fun x hx=>by simp at hx; rcases hx with z | z <;> simp [z]).trans ((wid j3).more fun x hx=>by simp at hx; simp [hx])
 have nx:∀ y∈[a,T,T3],s1.heap.get? y=none∧H2 y=none:=fun y hy=>by
  simp at hy
  rcases hy with rfl | rfl | rfl
  ·exact ⟨Heap.get?_none_of_le ge,fe⟩
  ·exact ⟨Heap.get?_none_of_le geT,fT⟩
  ·refine ⟨?_,fT3⟩
   cases z:s1.heap.get? y with
   | none=>rfl
   | some o=>
    obtain ⟨o',e1⟩:=un2.there y o z (by simp)
    exact absurd (Heap.lt_size e1) (Nat.not_lt.mpr g1)
 have I4:=go _ h4 nx kp4
 obtain ⟨t4,he4⟩:=id j1
 have I5:L2.Inv (hnd X a) pins σ H2 { s2 with heap:=h4 }:=rY I4
 refine wpAny_handleBy_cons (codeAny_handlers_test ?_) (by intro z; cases z)
 refine ic (X:=hnd X a) I5 hgR hmR ?_ hdR
 refine XE.yn I5.kIn (c cc ck) r he4 rfl ?_
 refine codeAny_handlers_suite_as ?_
 refine ng j1 j2 g4 fun h6 l1 l2 l3=>?_
 have u6:=goU _ h6 nx (kp4.trans ((wid l3).more fun x hx=>by simp at hx; simp [hx]))
 have he6:XL a (cs cc) h6:=⟨_,l3.keep a _ he4 (by simp; exact g4.symm) (by simp)⟩
 have I7:L2.Inv (hnd X a) pins σ (upd H2 a (.ext (XL a (cs cc)))) { s2 with heap:=h6 }:=rY (known (s6:={ s2 with heap:=h6 }) I1 os2 bare2 u6.1 u6.2 ge fe he6)
 refine jQ (X:=hnd X a) (i:=i) (v:=.ref a) I7 hN hi (.inl hl) rfl (fun s8 I8=>?_) (.inr hl)
 refine wpAny_mono (hs a pins s8 _ _ _ I8 (qx a fe)) (fun f s9 sp9=>?_) fun _ _ z=>False.elim z
 show wpAny _ _ (do bindName X.env n .none; unbindBehindTheSuite X.env n hpos) _ _ _
 cases f with
 | next=>
  obtain ⟨σ9,H9,I9,q9⟩:=sp9
  exact name_goes (jR I.ok I9) hN hi hl fun s' I'=>⟨_,_,I',q9⟩
 | brk=>
  obtain ⟨σ9,H9,I9,q9⟩:=sp9
  exact name_goes (jR I.ok I9) hN hi hl fun s' I'=>⟨_,_,I',q9⟩
 | cont=>
  obtain ⟨σ9,H9,I9,q9⟩:=sp9
  exact name_goes (jR I.ok I9) hN hi hl fun s' I'=>⟨_,_,I',q9⟩
 | ret u=>
  obtain ⟨v9,σ9,H9,I9,r9,q9⟩:=sp9
  exact name_goes (jR I.ok I9) hN hi hl fun s' I'=>⟨_,_,_,I',r9,q9⟩
end
end XO
namespace XO
open PySem PySem.Spec PyProof.Rows L2
open XE (XIs)
section
variable {prog:Program} {w:World} {A:Around} {E:Value→Shared→Prop} {h:Heap} {g:Array GenState} {d:Drawn} {t:Nat} {os:OsState} {K:Frag} {C R x:Addr} {ox:Obj} {od:Option Obj} {name:Str}
theorem zG {a g:Value} (hc:(PySem.W.clsIn K C).isSome=true) (ha:PySem.W.findIn K (.ref C) name=some (some a)) (hg:PySem.W.specialIn K a "__get__" = some (some g)) (ht:PySem.W.takesIn K a=some true):PySem.W.findObj K C none name=some (.bind g a):=by
 obtain ⟨cd,e⟩:=Option.isSome_iff_exists.mp hc
 simp [PySem.W.findObj,e,ha,hg,ht]
theorem CK {Q:Option Value→Shared→Prop} (hbm:PySem.W.mroIn K C (.type "BaseException")=some true) (hgt:PySem.W.findIn K (.ref C) "__getattr__" = some none) (hga:PySem.W.findIn K (.ref C) "__getattribute__" = some (some (.builtin "BaseException.__getattribute__")))
  (hc:(PySem.W.clsIn K C).isSome=true) (ha:PySem.W.findIn K (.ref C) "__class__" = some (some (.builtin "object.__class__"))) (hn:PySem.W.specialIn K (.builtin "object.__class__") "__get__" = some (some (.builtin "getset_descriptor.__get__")))
  (htk:PySem.W.takesIn K (.builtin "object.__class__")=some true) (hm:PySem.W.mroIn K C (.type "object")=some true) (X:K.In h) (I:PySem.W.InstAt h x ox C none) (k:Q (some (.ref C)) ⟨h,g,d,t + 1,os⟩) :
  wpAny (model prog w) A (getAttr? (.ref x) "__class__") Q E ⟨h,g,d,t,os⟩:=by
 have hf:PySem.W.findObj K C none "__class__" = some (.bind (.builtin "getset_descriptor.__get__") (.builtin "object.__class__")):=zG hc ha hn htk
 have L0:=I.type (M:=model prog w)
 have L1:=PySem.W.looks_findIn (M:=model prog w) X hga
 have L2:=PySem.W.looks_find (M:=model prog w) X I hf
 have f3:=PySem.F.excAttr_ValueError.ga.bind (.ref x)
 unfold getAttr? getAttrBy? getAttrBy
 refine wpAny_bind (wpAny_mkText (wpAny_bind (wpAny_attempt (wpAny_holding (wpAny_bind (L0.at (wpAny_bind (L1.at ?_))))))))
 repeat (any_goals (first | assumption | wp_step))
 refine PySem.W.looks_findIn X hgt _ _ _ _ (fun _ _ e=>e) ?_
 repeat (any_goals (first | assumption | wp_step))
 refine XE.yM hbm X I ?_
 unfold Builtin.«object.__getattribute__»
 refine wpAny_bind (wpAny_pure (wpAny_bind (wpAny_pure (wpAny_bind (L0.here (wpAny_bind (L2.here ?_)))))))
 show wpAny _ _ (Builtin.ObjectAttr.bindTo _ _ _ _) _ _ _
 unfold Builtin.ObjectAttr.bindTo
 repeat wp_step
 refine PySem.W.class_get X I hm ?_
 refine wpAny_pure ?_
 show wpAny _ _ (handedOut (.ref C)) _ _ _
 rw [PySem.W.handedOut_of (v:=.ref C) rfl]
 exact wpAny_pure (wpAny_pure k)
theorem uY (q:XIs K C):PySem.W.KitX K (.ref x) (.ref C) (fun h=>PySem.W.InstAt h x ox C none) where
 ty:=fun _ _ _ I=>I.type
 it:=fun _ _ X _=>by
  obtain ⟨cd,hcd⟩:=Option.isSome_iff_exists.mp q.hc
  unfold PySem.W.clsIn at hcd
  split at hcd
  ·rename_i c' d' cd' sl' ho
   intro A' Q' E' s' k q
   unfold isType loadHead
   exact wpAny_bind (wpAny_loadPart (k _ _ (X _ _ ho)) (wpAny_pure q))
  ·cases hcd
 ne:=fun h tp dd its n sl X htp=>by
  obtain ⟨cd,hcd⟩:=Option.isSome_iff_exists.mp q.hc
  refine Bool.eq_false_iff.mpr fun z=>?_
  have e:C=tp:=Value.ref.inj (beq_iff_eq.mp z)
  subst e
  unfold PySem.W.clsIn at hcd
  split at hcd
  ·rename_i c' d' cd' sl' ho
   cases (X _ _ ho).symm.trans htp
  ·cases hcd
 ca:=fun {_ _ _ _ _ s} X I k=>by
  obtain ⟨h,g,d,t,os⟩:=s
  exact CK q.bm q.gt q.ga q.hc q.ca q.hn q.tk q.hm X I k
end
section
variable {X:Cx} {C e:Addr}
theorem DK {pins:List (Addr×Obj)} {σ:L2.St} {H:Hp} {s:Shared} (I:L2.Inv X pins σ H s) (h:H e=some (.ext (XL e C))):∃ oe,PySem.W.InstAt s.heap e oe C none:=by
 obtain ⟨vs,y⟩:=XL.of I.hok h
 exact ⟨_,y,rfl,rfl,trivial⟩
theorem mw (is:XIs X.K C):CallR X (.builtin "isinstance") fun xs H Q=>∃ v b,xs=[.ref e,v]∧H e=some (.ext (XL e C))∧((∀ u,RelV v u→PySem.W.kitOne X.K (.ref C) u=some b)∨∃ tp ws,v=.ref tp∧H tp=some (.tup ws)∧∀ us,Vals ws us→PySem.W.kitAny X.K (.ref C) us=some b)∧Q (.bl b) H:=by
 intro pins s σ H xs us Q I r h
 obtain ⟨v,b,rfl,hx,hk,q⟩:=h
 obtain ⟨u,w',rfl,ru,rw'⟩:=vals2 r
 cases (show u=Value.ref e from ru)
 obtain ⟨oe,inst⟩:=DK I hx
 have fin:∀ tk,EP X pins σ Q (.bool b) { s with toks:=tk }:=fun tk=>⟨.bl _,H,I.tok _,rfl,q⟩
 rcases hk with hk | ⟨tp,ws,rfl,ht,hk⟩
 ·exact PySem.W.kia_one (uY is) I.kIn inst (hk _ rw') (fun z=>nomatch z) fin
 ·cases (show w'=Value.ref tp from rw')
  obtain ⟨_,its,rv,⟨dd,c',n,sl⟩,e0,e1,m,e2⟩:=(show ObjOk X.prog X.w H s.heap tp (.tup ws) from I.hok tp _ ht)
  dsimp only at e1 e2
  subst e1 e2
  exact PySem.W.kia_tup (uY is) I.kIn inst e0 (hk _ rv) (fun z=>nomatch z) fin
end
end XO
namespace D
open PySem PySem.Spec PyProof.Rows L2
theorem tN {h:Heap} {d1:PyData}:∀ {its:List Value} {ds:List PyData} {as:List Addr},ReadsAll h its ds as→its.countP (gj h d1)=ds.countP fun d=>PyData.eqv d d1
 | _,_,_,.nil=>rfl
 | _,_,_,.cons r rs=>by rw [List.countP_cons,List.countP_cons,tN rs,ki r]
section
variable {X:Cx} {e:Expr} {fe:FE}
theorem ym (hu:X.A.units + 200 < cLine):MtR X "list.count" (fun x vs H Q=>∃ (O:Addr→Prop) (d1:PyData) (a:Addr) (us:List V) (ds:List PyData) (y:V),x=.ref a∧vs=[y]∧Vw X.K O H y d1∧SqL X.K H a us∧Reps X.K O H us ds∧SeqAt.shaped d1=true∧ds.all SeqAt.shaped=true∧Q (.int ((ds.countP fun d=>PyData.eqv d d1:Nat):Int)) H):=by
 intro pins s σ H x vs v us Q I rx rv h
 obtain ⟨O,d1,a,xs,ds,y,rfl,rfl,h1,h2,h3,s1,s2,q⟩:=h
 cases rx
 obtain ⟨u,rfl,ru⟩:=rv.one
 obtain ⟨as,r1⟩:=h1.reads I ru
 obtain ⟨its,rvl,p1,hz⟩:=I.list h2
 obtain ⟨bs,r2,hlen⟩:=h3.reads I rvl
 obtain ⟨⟨c,d,dt,sl⟩,n,eo,hc,hd,hs⟩:=p1
 dsimp only at hc hd hs
 subst hc hd hs
 refine call_meets PySem.F.slot_list_count ⟨_,eo,rfl⟩ PySem.F.entry_list_count (PySem.F.args_list_count_2 _ _) (PySem.SeqAt.list_countAt a its.toArray n none sl u (gj s.heap d1)) ⟨eo,fun v hv=>?_,⟨.int _,H,I.tok _,⟨s.toks,?_⟩,q⟩⟩
 ·obtain ⟨d,cs,hd,rd⟩:=readsAll_mem r2 (show v∈its by simpa using hv)
  rw [ki rd]
  have sd:=List.all_eq_true.mp s2 d hd
  refine SeqAt.eqAt_reads d d1 _ s v u _ _ rd r1 (SeqAt.canLay_of_shaped sd) (SeqAt.canLay_of_shaped s1) (SeqAt.room_of_shaped sd ?_)
  show X.A.in1.units + 64 < cLine
  have e:X.A.in1.units≤X.A.units + 1:=by simp [Around.in1]
  omega
 ·rw [← tN r2]
def uD (xs:List PyData) (w:W) (T:Tp):Option (W×Tp):=match w with
 | .d x=>if SeqAt.shaped x=true∧xs.all SeqAt.shaped=true then some (.d (.int ((xs.countP fun d=>PyData.eqv d x:Nat):Int)),T) else none
 | _=>none
def ux (fo fe:FE):FE:=fun ρ T=>bnd (fo ρ T) fun w T1=>match w with
 | .d (.list xs)=>bnd (fe ρ T1) (uD xs)
 | _=>none
theorem yD (hu:X.A.units + 200 < cLine) {o:Expr} {fo:FE} {apos cpos:Pos} (ho:DE X o fo) (he:DE X e fe)
  (hbase:attributeBase o "count" X.env (eval o X.env)=eval o X.env:=by rfl)
  (hfew:((backTo cpos (starEach [e] X.env)).all (fun x=>!x.1) && (backToKw cpos (keywordEach [] X.env)).all (fun x=>x.1.isSome)
   && decide (([e]:List Expr).length + ([]:List Keyword).length + (if ([]:List Keyword).isEmpty then 0 else 1) < 30))=true:=by exact oy rfl)
  (hline:(apos.endLine == cpos.line)=true:=by rfl) (hse:starEach [e] X.env=(false,eval e X.env)::starEach [] X.env:=by exact bb rfl) (hplain:(backTo cpos (starEach [] X.env)).any (·.1)=false:=by exact bF rfl) :
  DE X (.Call (.Attribute o "count" apos) [e] [] cpos) (ux fo fe):=by
 refine ⟨?_⟩
 refine pe_imp (gR PySem.F.plainAttrs_list PySem.F.slot_list_count PySem.F.type_list_count (ym hu) ho.pe (aU he.pe bx hse) hbase hfew hline hse hplain) fun σ H Q=>?_
 rintro ⟨O,ts,ρ,T,w,T',hc,re,e,q⟩
 obtain ⟨w1,T1,e1,e⟩:=aC e
 split at e
 ·rename_i xs
  obtain ⟨w2,T2,e2,e⟩:=aC e
  refine ⟨O,ts,ρ,T,_,T1,hc,re,e1,fun v1 H1 s1 hc1 r1=>?_⟩
  obtain ⟨a1,vs1,rfl,t1,q1⟩:=(Vw.rep (show Rep X.K O H1 v1 (.list xs) from r1)).lst
  refine ⟨.inl ⟨rfl,vs1,t1⟩,O,ts,ρ,T1,w2,T2,hc1,re.mono hc s1,e2,fun v2 H2 s2 hc2 r2=>?_⟩
  have r1':=Rep.mono (hc1.le s2) r1
  obtain ⟨a2,vs2,ea,t2,q2⟩:=(Vw.rep (show Rep X.K O H2 (.ref a1) (.list xs) from r1')).lst
  cases ea
  unfold uD at e
  split at e
  ·rename_i y
   split at e
   ·rename_i hs
    cases e
    exact ⟨O,y,a1,vs2,xs,v2,rfl,rfl,.rep (show Rep X.K O H2 v2 y from r2),t2,q2,hs.1,hs.2,q _ H2 (s1.trans s2) hc2 (.int _)⟩
   ·cases e
  ·cases e
 ·cases e
theorem yl (hu:X.A.units + 200 < cLine):MtR X "list.index" (fun x vs H Q=>∃ (O:Addr→Prop) (d1:PyData) (a:Addr) (us:List V) (ds:List PyData) (y:V) (j:Nat),x=.ref a∧vs=[y]∧Vw X.K O H y d1∧SqL X.K H a us∧Reps X.K O H us ds∧SeqAt.shaped d1=true∧ds.all SeqAt.shaped=true∧(∃ d,ds[j]? = some d∧PyData.eqv d d1=true)∧(∀ m d,m < j→ds[m]? = some d→PyData.eqv d d1=false)∧Q (.int j) H):=by
 intro pins s σ H x vs v us Q I rx rv h
 obtain ⟨O,d1,a,xs,ds,y,j,rfl,rfl,h1,h2,h3,s1,s2,⟨dj,hj,ej⟩,hno,q⟩:=h
 cases rx
 obtain ⟨u,rfl,ru⟩:=rv.one
 obtain ⟨as,r1⟩:=h1.reads I ru
 obtain ⟨its,rvl,p1,hz⟩:=I.list h2
 obtain ⟨bs,r2,hlen⟩:=h3.reads I rvl
 have hrl:=h3.length
 have hil:=rvl.length
 obtain ⟨⟨c,d,dt,sl⟩,n,eo,hc,hd,hs⟩:=p1
 dsimp only at hc hd hs
 subst hc hd hs
 have hjl:j < its.length:=by have:=(List.getElem?_eq_some_iff.mp hj).1; omega
 have hz':(j:Int) < 2 ^ 63 - 1:=by
  have h1:j < sizeLine:=Nat.lt_of_lt_of_le hjl (by omega)
  have h2:(sizeLine:Int)≤2 ^ 63 - 1:=by decide
  omega
 have at_:∀ (m:Nat) (hm:m < its.length),∃ d,ds[m]? = some d∧gj s.heap d1 its[m]=PyData.eqv d d1:=fun m hm=>by
  obtain ⟨d,cs,hd,rd⟩:=oV r2 (List.getElem?_eq_getElem hm)
  exact ⟨d,hd,ki rd⟩
 refine call_meets PySem.F.slot_list_index ⟨_,eo,rfl⟩ PySem.F.entry_list_index (PySem.F.args_list_index_2 _ _) (PySem.SeqAt.list_indexAt a its.toArray n none sl u (gj s.heap d1) j (by simpa using hjl) hz' ?_ fun m hm hmj=>?_) ⟨eo,fun v hv=>?_,⟨.int j,H,I.tok _,⟨_,rfl⟩,q⟩⟩
 ·obtain ⟨d,hd,k⟩:=at_ j hjl
  show gj s.heap d1 its[j]=true
  rw [k]
  rw [hj] at hd
  cases hd
  exact ej
 ·have hm':m < its.length:=by simpa using hm
  obtain ⟨d,hd,k⟩:=at_ m hm'
  show gj s.heap d1 its[m]=false
  rw [k]
  exact hno m d hmj hd
 ·obtain ⟨d,cs,hd,rd⟩:=readsAll_mem r2 (show v∈its by simpa using hv)
  rw [ki rd]
  have sd:=List.all_eq_true.mp s2 d hd
  refine SeqAt.eqAt_reads d d1 _ s v u _ _ rd r1 (SeqAt.canLay_of_shaped sd) (SeqAt.canLay_of_shaped s1) (SeqAt.room_of_shaped sd ?_)
  show X.A.in1.units + 64 < cLine
  have e:X.A.in1.units≤X.A.units + 1:=by simp [Around.in1]
  omega
theorem yC (hu:X.A.units + 200 < cLine) {o:Expr} {fo:FE} {apos cpos:Pos} (ho:DE X o fo) (he:DE X e fe)
  (hbase:attributeBase o "index" X.env (eval o X.env)=eval o X.env:=by rfl)
  (hfew:((backTo cpos (starEach [e] X.env)).all (fun x=>!x.1) && (backToKw cpos (keywordEach [] X.env)).all (fun x=>x.1.isSome)
   && decide (([e]:List Expr).length + ([]:List Keyword).length + (if ([]:List Keyword).isEmpty then 0 else 1) < 30))=true:=by exact oy rfl)
  (hline:(apos.endLine == cpos.line)=true:=by rfl) (hse:starEach [e] X.env=(false,eval e X.env)::starEach [] X.env:=by exact bb rfl) (hplain:(backTo cpos (starEach [] X.env)).any (·.1)=false:=by exact bF rfl) :
  DE X (.Call (.Attribute o "index" apos) [e] [] cpos) (uv fo fe):=by
 refine ⟨?_⟩
 refine pe_imp (gR PySem.F.plainAttrs_list PySem.F.slot_list_index PySem.F.type_list_index (yl hu) ho.pe (aU he.pe bx hse) hbase hfew hline hse hplain) fun σ H Q=>?_
 rintro ⟨O,ts,ρ,T,w,T',hc,re,e,q⟩
 obtain ⟨w1,T1,e1,e⟩:=aC e
 split at e
 ·rename_i xs
  obtain ⟨w2,T2,e2,e⟩:=aC e
  refine ⟨O,ts,ρ,T,_,T1,hc,re,e1,fun v1 H1 s1 hc1 r1=>?_⟩
  obtain ⟨a1,vs1,rfl,t1,q1⟩:=(Vw.rep (show Rep X.K O H1 v1 (.list xs) from r1)).lst
  refine ⟨.inl ⟨rfl,vs1,t1⟩,O,ts,ρ,T1,w2,T2,hc1,re.mono hc s1,e2,fun v2 H2 s2 hc2 r2=>?_⟩
  have r1':=Rep.mono (hc1.le s2) r1
  obtain ⟨a2,vs2,ea,t2,q2⟩:=(Vw.rep (show Rep X.K O H2 (.ref a1) (.list xs) from r1')).lst
  cases ea
  unfold um at e
  split at e
  ·rename_i y
   split at e
   ·rename_i hs
    split at e
    ·rename_i j h1
     cases e
     obtain ⟨k1,k2⟩:=rX h1
     exact ⟨O,y,a1,vs2,xs,v2,j,rfl,rfl,.rep (show Rep X.K O H2 v2 y from r2),t2,q2,hs.1,hs.2,k1,k2,q _ H2 (s1.trans s2) hc2 (.int _)⟩
    ·cases e
   ·cases e
  ·cases e
 ·cases e
end
section
variable {X:Cx}
def lI (k:Kd):Bool:=bR k .str || bR k .int
theorem gT (K:Frag) (a:Kd):PySem.W.kitAny K (.type a.name) [.type "str",.type "int"]=some (lI a):=by
 have h1:=eS a .str (by decide)
 have h2:=eS a .int (by decide)
 have e1:PySem.W.kitOne K (.type a.name) (.type "str")=some (bR a .str):=h1
 have e2:PySem.W.kitOne K (.type a.name) (.type "int")=some (bR a .int):=h2
 cases a <;> (simp only [PySem.W.kitAny,e1,e2]; rfl)
theorem xO:CallR X (.builtin "isinstance") (fun xs H Q=>∃ (x:V) (tp:Addr) (O:Addr→Prop) (d:PyData),xs=[x,.ref tp]∧Vw X.K O H x d∧H tp=some (.tup [.ty "str",.ty "int"])∧Q (.bl (lI (kd d))) H):=by
 intro pins s σ H xs us Q I r h
 obtain ⟨x,tp,O,d,rfl,vw,ht,q⟩:=h
 obtain ⟨u,w',rfl,ru,rw'⟩:=vals2 r
 cases (show w'=Value.ref tp from rw')
 have fin:∀ tk,EP X pins σ Q (.bool (lI (kd d))) { s with toks:=tk }:=fun tk=>⟨.bl _,H,I.tok _,rfl,q⟩
 obtain ⟨_,its,rv,⟨dd,c,n,sl⟩,e0,e1,m,e2⟩:=(show ObjOk X.prog X.w H s.heap tp (.tup [.ty "str",.ty "int"]) from I.hok tp _ ht)
 obtain ⟨u1,u2,rfl,r1,r2⟩:=vals2 rv
 cases (show u1=Value.type "str" from r1)
 cases (show u2=Value.type "int" from r2)
 dsimp only at e1 e2
 subst e1 e2
 cases d with
 | none=>cases vw.non; cases (show u=Value.none from ru); exact PySem.W.kia_tup PySem.W.kitx_none I.kIn True.intro e0 (gT X.K .non) (fun z=>nomatch z) fin
 | bool b=>cases vw.bl; cases (show u=Value.bool b from ru); exact PySem.W.kia_tup PySem.W.kitx_bool I.kIn True.intro e0 (gT X.K .bl) (fun z=>nomatch z) fin
 | int i=>cases vw.int; obtain ⟨t,e⟩:=(show ∃ t,u=Value.int i t from ru); cases e; exact PySem.W.kia_tup PySem.W.kitx_int I.kIn True.intro e0 (gT X.K .int) (fun z=>nomatch z) fin
 | str z=>cases vw.str; obtain ⟨t,e⟩:=(show ∃ t,u=Value.str z t from ru); cases e; exact PySem.W.kia_tup PySem.W.kitx_str I.kIn True.intro e0 (gT X.K .str) (fun z=>nomatch z) fin
 | list ds=>
  obtain ⟨a,vs,rfl,t,r⟩:=vw.lst
  cases (show u=Value.ref a from ru)
  obtain ⟨its,_,pl,_⟩:=I.list t
  obtain ⟨o,n,e,c1,_⟩:=pl
  exact PySem.W.kia_tup PySem.W.kitx_list I.kIn ⟨o,e,c1⟩ e0 (gT X.K .lst) (fun z=>nomatch z) fin
 | tuple ds=>
  obtain ⟨a,vs,rfl,t,r⟩:=vw.tup
  cases (show u=Value.ref a from ru)
  obtain ⟨its,_,pl,_⟩:=I.tuple t.sq
  obtain ⟨o,e,c1,_⟩:=pl
  exact PySem.W.kia_tup PySem.W.kitx_tuple I.kIn ⟨o,e,c1⟩ e0 (gT X.K .tup) (fun z=>nomatch z) fin
 | dict ds=>
  obtain ⟨a,vs,rfl,t,r⟩:=vw.dct
  cases (show u=Value.ref a from ru)
  obtain ⟨_,_,_,_,o,_,_,e,c1,_⟩:=dD I.hok t
  exact PySem.W.kia_tup PySem.W.kitx_dict I.kIn ⟨o,e,c1.1⟩ e0 (gT X.K .dct) (fun z=>nomatch z) fin
def jn (x:PyData):Option PyData:=some (.bool (lI (kd x)))
theorem zN {e:Expr} {f:FE} {p1 p2 p' pos tpos:Pos} {k:Nat} (hi:X.mg "isinstance" = none) (he:DE X e f) (hm1:X.mg "str" = none) (hm2:X.mg "int" = none) (hg:Gl X "isinstance":=by rfl) (hT1:Gl X "str":=by rfl) (hT2:Gl X "int":=by rfl)
  (hs:starEach [e,.Tuple [.Name "str" p1,.Name "int" p2] k tpos] X.env=(false,eval e X.env)::starEach [.Tuple [.Name "str" p1,.Name "int" p2] k tpos] X.env:=by exact bb rfl)
  (hs2:starEach [.Tuple [.Name "str" p1,.Name "int" p2] k tpos] X.env=(false,eval (.Tuple [.Name "str" p1,.Name "int" p2] k tpos) X.env)::starEach [] X.env:=by exact bb rfl)
  (hs3:starEach [.Name "str" p1,.Name "int" p2] X.env=(false,eval (.Name "str" p1) X.env)::starEach [.Name "int" p2] X.env:=by exact bb rfl) (hs4:starEach [.Name "int" p2] X.env=(false,eval (.Name "int" p2) X.env)::starEach [] X.env:=by exact bb rfl)
  (hpl:(backTo pos (starEach [.Tuple [.Name "str" p1,.Name "int" p2] k tpos] X.env)).any (·.1)=false:=by exact bF rfl) :
  DE X (.Call (.Name "isinstance" p') [e,.Tuple [.Name "str" p1,.Name "int" p2] k tpos] [] pos) (fUn jn f):=by
 refine ⟨?_⟩
 refine pe_imp (hV xO hg hi PyProof.Rows.boot_isinstance (aU he.pe (aU (kB (aU (j7 (v:=.ty "str") hT1 hm1 boot_str rfl) (aU (j7 (v:=.ty "int") hT2 hm2 boot_int rfl) bx hs4) hs3)) bx hs2) hs) (by decide) (by decide) hs hpl) fun σ H Q=>?_
 rintro ⟨O,ts,ρ,T,w,T',hc,re,e,q⟩
 obtain ⟨w1,T1,e1,e⟩:=aC e
 obtain ⟨x,d,h1,h3,rfl,rfl⟩:=gH e
 cases h3
 refine ⟨O,ts,ρ,T,w1,T',hc,re,e1,fun v1 H1 s1 hc1 r1=>?_⟩
 refine ⟨by decide,fun tp htp=>?_⟩
 have hc2:=hc1.new htp (.tup [.ty "str",.ty "int"])
 have s2:SameX ts H1 (upd H1 tp (.tup [.ty "str",.ty "int"])):=.new htp _
 exact ⟨v1,tp,O,x,rfl,hc2.view (r1.mono hc1 s2) h1,aR,q _ _ (s1.trans s2) hc2 (.bl _)⟩
end
def b2n (b:Bool):Int:=if b then 1 else 0
theorem yA {prog:Program} {w:World} {A:Around} {E:Value→Shared→Prop} {s:Shared} {b:Bool} {Q:Int→Shared→Prop} (h:Q (hashInt (b2n b)) { s with toks:=s.toks + 1 }):wpAny (model prog w) A (pyHash (.bool b)) Q E s:=by
 show wpAny (model prog w) A (pyHashByItsType (.bool b)) Q E s
 refine PySem.W.pyHash_slot (T:="bool") (by first | rfl | trivial | exact ⟨_,rfl⟩ | simp [Shared.TypeIs]) PySem.F.slot_bool_hash entry_int_hash (PySem.args_int_hash _) rfl (.inl rfl) ?_
 have e0:hashInt (b2n false)=PySem.reduceHash 0:=by decide +kernel
 have e1:hashInt (b2n true)=PySem.reduceHash 1:=by decide +kernel
 cases b with
 | false=>rw [e0] at h; exact (show wpAny _ _ (do ret (← mkInt 0)) _ _ s from wpAny_bind (wpAny_mkInt (wpAny_pure ⟨_,_,rfl,h⟩)))
 | true=>rw [e1] at h; exact (show wpAny _ _ (do ret (← mkInt 1)) _ _ s from wpAny_bind (wpAny_mkInt (wpAny_pure ⟨_,_,rfl,h⟩)))
def jH (k:Key) (v:Value):Bool:=match v with
 | .bool b=>decide (k=.inl (b2n b))
 | v=>dg k v
theorem dO {k:Key} {v:Value} (h:jH k v=true):(∃ b,k=.inl (b2n b)∧v=.bool b)∨(∃ i t,k=.inl i∧v=.int i t)∨∃ x t,k=.inr x∧v=.str x t:=by
 unfold jH at h
 split at h
 ·exact .inl ⟨_,of_decide_eq_true h,rfl⟩
 ·rcases cQ h with ⟨i,t,rfl,rfl⟩ | ⟨x,t,rfl,rfl⟩
  ·exact .inr (.inl ⟨i,t,rfl,rfl⟩)
  ·exact .inr (.inr ⟨x,t,rfl,rfl⟩)
theorem nG (i j:Int):decide ((Sum.inl i:Key)=Sum.inl j)=decide (i=j):=by
 by_cases h:i=j
 ·subst h; simp
 ·rw [decide_eq_false h,decide_eq_false (fun q=>h (Sum.inl.inj q))]
theorem Be:∀ {a b:Bool},decide (b2n a=b2n b)=(a == b):=by intro a b; cases a <;> cases b <;> rfl
def jT (prog:Program) (w:World):PySem.KeyKind prog w Key where
 is:=jH
 hash:=ow w
 inj:=fun v a b ha hb=>by
  rcases dO ha with ⟨i,rfl,rfl⟩ | ⟨i,t,rfl,rfl⟩ | ⟨x,t,rfl,rfl⟩
  ·rcases dO hb with ⟨j,rfl,e⟩ | ⟨j,u,rfl,e⟩ | ⟨y,u,rfl,e⟩
   ·injection e with e1; rw [e1]
   ·exact nomatch e
   ·exact nomatch e
  ·rcases dO hb with ⟨j,rfl,e⟩ | ⟨j,u,rfl,e⟩ | ⟨y,u,rfl,e⟩
   ·exact nomatch e
   ·injection e with e1 _; rw [e1]
   ·exact nomatch e
  ·rcases dO hb with ⟨j,rfl,e⟩ | ⟨j,u,rfl,e⟩ | ⟨y,u,rfl,e⟩
   ·exact nomatch e
   ·exact nomatch e
   ·injection e with e1 _; rw [e1]
 byValue:=fun k v h=>by
  rcases dO h with ⟨i,rfl,rfl⟩ | ⟨i,t,rfl,rfl⟩ | ⟨x,t,rfl,rfl⟩ <;> rfl
 pyHash:=fun hv h=>by
  rcases dO hv with ⟨i,rfl,rfl⟩ | ⟨i,t,rfl,rfl⟩ | ⟨x,t,rfl,rfl⟩
  ·exact yA h
  ·exact wpAny_pyHash_int h
  ·exact wpAny_pyHash_str h
 eqBool:=fun hu hv h=>by
  rcases dO hu with ⟨i,rfl,rfl⟩ | ⟨i,t,rfl,rfl⟩ | ⟨x,t,rfl,rfl⟩
  ·rcases dO hv with ⟨j,rfl,rfl⟩ | ⟨j,u,rfl,rfl⟩ | ⟨y,u,rfl,rfl⟩
   ·rw [nG,Be] at h; exact SeqAt.EqAt.bool_bool i j _ _ _ _ h
   ·rw [nG] at h; exact SeqAt.EqAt.bool_int i j u _ _ _ _ h
   ·rw [kL] at h; exact SeqAt.EqAt.bool_str i y u _ _ _ _ h
  ·rcases dO hv with ⟨j,rfl,rfl⟩ | ⟨j,u,rfl,rfl⟩ | ⟨y,u,rfl,rfl⟩
   ·rw [nG] at h; exact SeqAt.EqAt.int_bool i t j _ _ _ _ h
   ·rw [ni] at h; exact wpAny_eqBool_int h
   ·rw [kL] at h; exact SeqAt.EqAt.int_str i t y u _ _ _ _ h
  ·rcases dO hv with ⟨j,rfl,rfl⟩ | ⟨j,u,rfl,rfl⟩ | ⟨y,u,rfl,rfl⟩
   ·rw [kJ] at h; exact SeqAt.EqAt.str_bool x t j _ _ _ _ h
   ·rw [kJ] at h; exact SeqAt.EqAt.str_int x t j u _ _ _ _ h
   ·rw [nh] at h; exact wpAny_eqBool_str h
 «strs»:=fun k x t v h=>by
  rcases dO h with ⟨i,rfl,e⟩ | ⟨i,u,rfl,e⟩ | ⟨y,u,rfl,e⟩
  ·exact nomatch e
  ·exact nomatch e
  ·injection e with e1 _
   subst e1
   cases v <;> rfl
theorem rT {k:Key} {v:Value} (h:dg k v=true):jH k v=true:=by rcases cQ h with ⟨i,t,rfl,rfl⟩ | ⟨x,t,rfl,rfl⟩ <;> exact h
theorem rM {P:Program} {w:World}:∀ {es:List DictEntry} {vs:List (Key×Value)},Pairs (bh P w) es vs→Pairs (jT P w) es vs
 | _,_,.nil=>.nil
 | _,_,.cons h1 h2 t=>.cons (rT h1) h2 (rM t)
theorem Cw {P:Program} {w:World} {h:Heap} {a:Addr} {vs:List (Key×Value)} (d:h.DictOf (bh P w) a vs):h.DictOf (jT P w) a vs:=by
 obtain ⟨o,es,ep,e1,e2,e3,e4,e5,e6⟩:=d
 refine ⟨o,es,ep,e1,e2,e3,fun e he=>?_,rM e5,e6⟩
 obtain ⟨k,k1,k2⟩:=e4 e he
 exact ⟨k,rT k1,k2⟩
def gW (ds:List (PyData×PyData)):Bool:=ds.all fun p=>match p.1 with
 | .str _=>true
 | _=>false
theorem mx {K:Frag} {O:Addr→Prop} {H:Hp} {i:Int}:∀ {kvs:List (Key×V)} {ds:List (PyData×PyData)},RepK K O H kvs ds→gW ds=true→aZ kvs (Sum.inl i:Key)=none
 | _,_,.nil,_=>rfl
 | _,_,.cons (k:=k) (v:=v) (kvs:=kvs) (ds:=ds) r t,h=>by
  unfold gW at h
  rw [List.all_cons,Bool.and_eq_true] at h
  have ih:=mx (i:=i) t (by unfold gW; exact h.2)
  cases k with
  | inl j=>exact absurd h.1 (by simp [cW])
  | inr y=>
   unfold aZ at ih ⊢
   rw [List.find?_cons]
   simpa using ih
section
variable {X:Cx}
theorem xl {k:Nat} (hr:Room k X.A):OpR X (compareOp .NotIn) (fun x y H Q=>∃ a kvs i,x=.int i∧y=.ref a∧Rd H a (.dK kvs)∧Q (.bl (!(aZ kvs (Sum.inl i:Key)).isSome)) H):=by
 intro pins s σ H x y v u Q I rx ry h
 obtain ⟨a,kvs,z,rfl,rfl,e,q⟩:=h
 cases (show u=Value.ref a from ry)
 exact sH (jo hr) I (DGet.rd (k:=Sum.inl z) e) (show RelV (kV (Sum.inl z)) v from rx) fun s' I'=>⟨.bl _,H,I',rfl,q⟩
theorem xn:OpR X (compareOp .NotIn) (fun x y H Q=>∃ a kvs b,x=.bl b∧y=.ref a∧Rd H a (.dK kvs)∧Q (.bl (!(aZ kvs (Sum.inl (b2n b):Key)).isSome)) H):=by
 intro pins s σ H x y v u Q I rx ry h
 obtain ⟨a,kvs,b,rfl,rfl,e,q⟩:=h
 cases (show v=Value.bool b from rx)
 cases (show u=Value.ref a from ry)
 obtain ⟨z,hd,vs,rel,dd⟩:=dD I.hok e
 refine wpAny_notIn_of (knd:=jT X.prog X.w) (k:=.inl (b2n b)) (by simp [jT,jH]) hd (Cw dd).mapOf ?_
 rw [← (rel.val (Sum.inl (b2n b):Key)).isSome_eq]
 exact ⟨.bl _,H,I.tok _,rfl,q⟩
end
def dQ (x y:PyData):Option PyData:=match x,y with
 | .int _,.dict ds=>if gW ds=true then some (.bool true) else none
 | .bool _,.dict ds=>if gW ds=true then some (.bool true) else none
 | x,y=>m8 x y
theorem qJ {X:Cx} {k:Nat} (hr:Room k X.A):OpD X (compareOp .NotIn) dQ:=by
 obtain ⟨r0,h0,s0⟩:=zo (X:=X) hr
 refine ⟨_,h0.or ((xl hr).or xn),fun O ts H T v1 v2 x y d Q hc h1 h2 e q=>?_⟩
 unfold dQ at e
 split at e
 ·split at e
  ·rename_i hs
   cases e
   obtain ⟨a,kvs,rfl,t,r⟩:=h2.dct
   cases h1.int
   refine .inr (.inl ⟨a,kvs,_,rfl,rfl,t,?_⟩)
   rw [mx r hs]
   exact q _ H (.refl _ _) hc (.bl _)
  ·cases e
 ·split at e
  ·rename_i hs
   cases e
   obtain ⟨a,kvs,rfl,t,r⟩:=h2.dct
   cases h1.bl
   refine .inr (.inr ⟨a,kvs,_,rfl,rfl,t,?_⟩)
   rw [mx r hs]
   exact q _ H (.refl _ _) hc (.bl _)
  ·cases e
 ·exact .inl (s0 O ts H T v1 v2 x y d Q hc h1 h2 e q)
end D
namespace XO
open PySem PySem.Spec PyProof.Rows L2 D
open XE (XCl vE XIs k6)
def KN (K:Frag) (C A:Addr):Prop:=PySem.W.kitOne K (.ref C) (.ref A)=some false
theorem DJ {K:Frag} {C A:Addr} (h1:PySem.W.isClsIn K A=true) (h2:PySem.W.typeIn K (.ref A)=some (.type "type")) (h3:PySem.W.subIn K (.ref C) (.ref A)=some false) (h4:(Value.ref C == Value.ref A)=false):KN K C A:=XE.B9 h1 h2 h3 h4
theorem zx {K:Frag} {C:Addr}:PySem.W.kitOne K (.ref C) (.ref C)=some true:=by
 unfold PySem.W.kitOne
 rw [if_pos (by simp)]
theorem qO {K:Frag} {C:Addr}:∀ {As:List Addr},(∀ a∈As,KN K C a)→PySem.W.kitAny K (.ref C) (As.map Value.ref)=some false
 | [],_=>rfl
 | a::r,h=>by
  have h1:PySem.W.kitOne K (.ref C) (.ref a)=some false:=h a List.mem_cons_self
  simp only [List.map,PySem.W.kitAny,h1]
  exact qO fun x hx=>h x (List.mem_cons_of_mem _ hx)
structure XJ (K:Frag) (C R:Addr):Prop where
 b:XB0 K C R
 is:XIs K C
 kv:PySem.W.kitOne K (.ref C) (.type "ValueError")=some true
theorem CJ {K:Frag} {C R:Addr} {nm q nm' q':Str} {N N':Addr} {bs bs' sub sub':List Value} {sn sn':List Str} {ab ab':Bool} {col col':Option Bool} {dd dd':Option Addr} {k0 k1 k2 k3 k5 j0 j1 j2 j3 j5:Option Value} {oN oN':Obj}
  (lC:K.lookup C=some (excClassObj nm q C N bs (.ref R::vE) true sn sub ab col dd k0 k1 k2 k3 k5 "ValueError.__new__")) (nC:K.lookup N=some oN)
  (lR:K.lookup R=some (excClassObj nm' q' R N' bs' vE true sn' sub' ab' col' dd' j0 j1 j2 j3 j5 "ValueError.__new__")) (nR:K.lookup N'=some oN') (ri:PySem.W.nsIn K N' "__init__" = some none) (ci:PySem.W.findIn K (.ref C) "__init__" = some (some (.builtin "ValueError.__init__"))) (kp:PySem.W.keepIn K (.ref C)=true)
  (bm:PySem.W.mroIn K C (.type "BaseException")=some true) (gt:PySem.W.findIn K (.ref C) "__getattr__" = some none) (ga:PySem.W.findIn K (.ref C) "__getattribute__" = some (some (.builtin "BaseException.__getattribute__")))
  (ca:PySem.W.findIn K (.ref C) "__class__" = some (some (.builtin "object.__class__"))) (hn:PySem.W.specialIn K (.builtin "object.__class__") "__get__" = some (some (.builtin "getset_descriptor.__get__")))
  (tk:PySem.W.takesIn K (.builtin "object.__class__")=some true) (hm:PySem.W.mroIn K C (.type "object")=some true) (kV:PySem.W.subIn K (.ref C) (.type "ValueError")=some true) (oC:k6 oN=true) (oR:k6 oN'=true):XJ K C R:=by
 have no:∀ {N:Addr} {o:Obj},K.lookup N=some o→k6 o=true→PySem.W.nsOkIn K N=true:=fun {N o} h1 h2=>by
  obtain ⟨oc,od,dt,sl⟩:=o
  unfold PySem.W.nsOkIn
  rw [h1]
  cases dt with
  | dict es ep=>
   have h3:(es.toList.all fun e=>match e.key with
    | .str _ _=>true
    | _=>false)=true:=h2
   rw [Array.all_toList] at h3
   exact h3
  | _=>cases h2
 refine ⟨⟨⟨_,_,_,_,_,_,_,_,_,_,_,_,_,_,lC,no nC oC⟩,⟨_,_,_,_,_,_,_,_,_,_,_,_,_,_,lR,no nR oR⟩,ci,?_,kp⟩,⟨bm,gt,ga,?_,ca,hn,tk,hm⟩,XE.B8 kV⟩
 ·simp only [PySem.W.ownIn]
  rw [lR]
  exact ri
 ·unfold PySem.W.clsIn
  rw [lC]
  rfl
section
variable {X:Cx} {C e:Addr}
def uK (i:Nat) (e C:Addr) (v:V):TE:=fun σ H Q=>σ[i]? = some (some (.ref e))∧H e=some (.ext (XL e C))∧Q v H
theorem i8 {i:Nat} {n cn:Str} {b:Bool} {D:Addr} {p p1 p2 pos:Pos} (is:XIs X.K C) (hv:PE X (.Name n p1) (jy i)) (hg:Gl X "isinstance") (hi:X.mg "isinstance" = none) (hgD:Gl X cn) (hm:X.mg cn=some (.ref D)) (hk:PySem.W.kitOne X.K (.ref C) (.ref D)=some b)
  (hd:(cn == ("__debug__" : Str))=false:=by decide) (hs:starEach [.Name n p1,.Name cn p2] X.env=[(false,eval (.Name n p1) X.env),(false,eval (.Name cn p2) X.env)]:=by rfl) (hs2:starEach [.Name cn p2] X.env=[(false,eval (.Name cn p2) X.env)]:=by rfl) :
  PE X (.Call (.Name "isinstance" p) [.Name n p1,.Name cn p2] [] pos) (uK i e C (.bl b)):=by
 refine _root_.D.pe_imp (hV (mw (e:=e) is) hg hi PyProof.Rows.boot_isinstance (aU hv (aU (cB (v:=.ref D) hgD hm rfl hd) bx (by rw [hs2]; rfl)) (by rw [hs,hs2])) (by decide) (by decide) (by rw [hs,hs2]) (by rw [hs2]; rfl)) fun σ H Q ⟨h0,hx,q⟩=>?_
 exact ⟨_,h0,.ref D,b,rfl,hx,.inl fun u hu=>by cases (show u=Value.ref D from hu); exact hk,q⟩
theorem Aw {i:Nat} {n:Str} {b:Bool} {p p1 p2 pos:Pos} (is:XIs X.K C) (hv:PE X (.Name n p1) (jy i)) (hg:Gl X "isinstance") (hi:X.mg "isinstance" = none) (hgT:Gl X "ValueError") (hm:X.mg "ValueError" = none) (hk:PySem.W.kitOne X.K (.ref C) (.type "ValueError")=some b)
  (hs:starEach [.Name n p1,.Name "ValueError" p2] X.env=[(false,eval (.Name n p1) X.env),(false,eval (.Name "ValueError" p2) X.env)]:=by rfl) (hs2:starEach [.Name "ValueError" p2] X.env=[(false,eval (.Name "ValueError" p2) X.env)]:=by rfl) :
  PE X (.Call (.Name "isinstance" p) [.Name n p1,.Name "ValueError" p2] [] pos) (uK i e C (.bl b)):=by
 refine _root_.D.pe_imp (hV (mw (e:=e) is) hg hi PyProof.Rows.boot_isinstance (aU hv (aU (j7 (v:=.ty "ValueError") hgT hm (by first | rfl | decide +kernel) rfl) bx (by rw [hs2]; rfl)) (by rw [hs,hs2])) (by decide) (by decide) (by rw [hs,hs2]) (by rw [hs2]; rfl)) fun σ H Q ⟨h0,hx,q⟩=>?_
 exact ⟨_,h0,.ty "ValueError",b,rfl,hx,.inl fun u hu=>by cases (show u=Value.type "ValueError" from hu); exact hk,q⟩
def CQ (i:Nat) (e C:Addr) (v:V) (ws:List V):TE:=fun σ H Q=>σ[i]? = some (some (.ref e))∧H e=some (.ext (XL e C))∧∀ p,H p=none→Q v (upd H p (.tup ws))
theorem rL {i:Nat} {n:Str} {b:Bool} {Ds:List Addr} {es:List Expr} {ta:TA} {p p1 tpos pos:Pos} {k:Nat} (is:XIs X.K C) (hv:PE X (.Name n p1) (jy i)) (hg:Gl X "isinstance") (hi:X.mg "isinstance" = none) (ht:PA X es ta) (hta:∀ σ H Q,Q (Ds.map V.ref) H→ta σ H Q)
  (hz:Ds.length≤100) (hk:PySem.W.kitAny X.K (.ref C) (Ds.map Value.ref)=some b) (hs:starEach [.Name n p1,.Tuple es k tpos] X.env=[(false,eval (.Name n p1) X.env),(false,eval (.Tuple es k tpos) X.env)]:=by rfl) (hs2:starEach [.Tuple es k tpos] X.env=[(false,eval (.Tuple es k tpos) X.env)]:=by rfl) :
  PE X (.Call (.Name "isinstance" p) [.Name n p1,.Tuple es k tpos] [] pos) (CQ i e C (.bl b) (Ds.map V.ref)):=by
 refine _root_.D.pe_imp (hV (mw (e:=e) is) hg hi PyProof.Rows.boot_isinstance (aU hv (aU (kB ht) bx (by rw [hs2]; rfl)) (by rw [hs,hs2])) (by decide) (by decide) (by rw [hs,hs2]) (by rw [hs2]; rfl)) fun σ H Q ⟨h0,hx,q⟩=>?_
 refine ⟨_,h0,hta σ H _ ⟨by rw [List.length_map]; exact Nat.le_trans hz (by decide),fun tp htp=>?_⟩⟩
 refine ⟨.ref tp,b,rfl,by rw [aD (bA hx htp)]; exact hx,.inr ⟨tp,_,rfl,aR,fun us hu=>?_⟩,q tp htp⟩
 rw [XE.pF hu]
 exact hk
end
def spK (K:Frag) (cs:Nat→Addr):Sp:=fun vs H Q _=>∃ (O:Addr→Prop) (ts:List Addr) (T:Tp) (e:Addr) (c:Nat),HC K O ts H T∧vs=[.ref e]∧c < 5∧H e=some (.ext (XL e (cs c)))∧∀ v H',SameX ts H H'→HC K O ts H' T→Rep K O H' v (.int ((c:Int) + 1))→Q v H'
end XO
namespace XO
open PySem PySem.Spec PyProof.Rows L2 D
structure RoomH (k:Nat) (A:Around):Prop where
 dp:A.depth + 3 * k + 5 < recursionLimit
 un:A.units + 16 * k + 200 < cLine
theorem CZ {k:Nat} {A:Around} {v:Option Value} (r:Room k A):RoomH k (A.mark v):=⟨r.dp,r.un⟩
structure FnOkH (P:Program) (w:World) (K:Frag) (mg:Str→Option Value) (base:Heap) (k:Nat) (f:Addr) (fd:FuncData) (ps:List Str) (sp:Sp):Prop where
 len:∀ vs H Q E,sp vs H Q E→vs.length=ps.length
 run:∀ (A:Around) (outer:List Env) (s:Shared) (H:Hp) (args:Args) (us:List Value) (vs:List V) (Q:VK),RoomH k A→Env0 P w K mg base A outer s H→BindsTo s fd args (ps.zip us)→Vals vs us→sp vs H Q E0→codeAny (model P w) A (.call (.ref f) args) (CR CX0 outer P w H s Q E0) s
def tW (X:Cx):Cx:={ X with calm:=false,xe:=fun _ _=>False }
def mY (A:Around):Around:={ A with handled:=none }
section
variable {P:Program} {w:World} {K:Frag} {mg:Str→Option Value} {base:Heap}
theorem x6 {N:List Str} {qual:Str} {scope:Scope} {f:Addr} {cd:Value} {A:Around} {outer:List Env} {s s1:Shared} {H H':Hp} {E:XK} {σ:L2.St} (I:L2.Inv (bM CX0 P w K mg base N qual scope f cd (mY A) outer s H E) [] σ H' s1):L2.Inv (tW (bM CX0 P w K mg base N qual scope f cd A outer s H E)) [] σ H' s1:=⟨⟨I.ok.mod,I.ok.kind,I.ok.glob,I.ok.blt,I.ok.above,I.ok.inj,I.ok.has,I.ok.cab,fun z=>(nomatch z),I.ok.frames,I.ok.stk,I.ok.exf,I.ok.bs,I.ok.bsz,I.ok.noex,I.ok.exfs,I.ok.funs,I.ok.frf⟩,I.os,I.bare,I.base,I.loc,I.cell,I.free,I.freeC,I.pin,I.hok,I.len⟩
theorem okH {x qual:Str} {st:Stmt} {f:Addr} {fd:FuncData} {N ps:List Str} {k:Nat} {sp:Sp} (F:Fun K x qual st f fd) (S:FnScope N ps (aE st)) (len:∀ vs H Q E,sp vs H Q E→vs.length=ps.length)
  (hbody:∀ (cdv:Value) (A:Around) (outer:List Env) (s:Shared) (H:Hp) (vs:List V) (Q:VK),RoomH k (A.deeper (envOfC qual (aE st) s.heap.objs.size f cdv))→sp vs H Q E0 →
   ∃ t,PSs (tW (bM CX0 P w K mg base N qual (aE st) f cdv A outer s H E0)) (bV st) t∧t { nx:=fun _ H'=>Q .non H',rt:=Q } (L2.start N vs) H):FnOkH P w K mg base (k + 1) f fd ps sp:=by
 obtain ⟨oc,od,kV,doc,pm,an,cdv,ct,osl,rfl,lk,hcd⟩:=F.ex
 refine ⟨len,fun A outer s H args us vs Q hr e0 hb r hsp=>?_⟩
 have hl:=len _ _ _ _ hsp
 have kept:∀ b o,base.get? b=some o→s.heap.get? b=some o:=fun b o e=>(e0.bs b o e).1
 have KX:=e0.mod.kin.keeps kept
 have e1:Env0 P w K mg base (mY A) outer s H:=⟨e0.frames,e0.mod,e0.bs,e0.bsz,e0.funs,e0.frf,e0.hok,e0.bare⟩
 refine codeAny_call_function (by have:=hr.dp; omega) (KX _ _ lk) rfl S.co S.gen rfl
  (PySem.W.codeRec_of KX hcd) (hb _ _ _ _ (wpAny_newFunctionEnv_cells S.kind (fun ⟨n,v⟩ hy=>?_)
   fun env he s1 x=>?_))
 ·exact (S.par n (List.of_mem_zip hy).1).elim .inl fun q=>.inr ⟨q,PySem.W.cellsFrom_some _ _ _ (.inl q)⟩
 ·subst he
  refine ⟨(e0.mod.nolimit.keeps kept).keeps x.toInCall.keep,codeAny_func ?_⟩
  have hr':RoomH k (A.deeper (envOfC qual (aE st) s.heap.objs.size f cdv)):=
   ⟨by have:=hr.dp; show A.depth + 1 + 3 * k + 5 < _; omega,by have:=hr.un; show A.units + 3 + 16 * k + 200 < _; omega⟩
  obtain ⟨t,ht,hq⟩:=hbody cdv A outer s H vs Q hr' hsp
  have I:=x6 (E:=E0) (p7 (CX:=CX0) (E:=E0) (A:=mY A) S rfl e1 hl r x)
  refine wpAny_mono (ht _ _ _ _ _ I hq) (fun fl s' hs=>?_) fun e s' z=>False.elim z
  cases fl with
  | ret u=>
   obtain ⟨v,σ',H',J,rv,q⟩:=hs
   exact ⟨v,H',J.os,J.bare,J.base,J.hok,rv,q⟩
  | next=>
   obtain ⟨σ',H',J,q⟩:=hs
   exact ⟨.non,H',J.os,J.bare,J.base,J.hok,rfl,q⟩
  | brk=>exact let ⟨_,_,_,q⟩:=hs; False.elim q
  | cont=>exact let ⟨_,_,_,q⟩:=hs; False.elim q
end
structure FnH (P:Program) (w:World) (K:Frag) (mg:Str→Option Value) (base:Heap) (name:Str) (ps:List Str) (k:Nat) (sp:Sp):Prop where
 ex:∃ f fd,FnOkH P w K mg base k f fd ps sp∧Binds K fd ps []∧PySem.W.keepIn K (.ref f)=true∧mg name=some (.ref f)
theorem BO {X:Cx} {name:Str} {ps:List Str} {k:Nat} {sp:Sp} {e:Expr} {es:List Expr} {t:TA} {p pos:Pos} (G:FnH X.prog X.w X.K X.mg X.base name ps k sp) (hr:RoomH k X.A) (hg:Gl X name) (ha:PA X (e::es) t) (hdb:(name == ("__debug__" : Str))=false:=by decide)
  (he:starEach (e::es) X.env=(false,eval e X.env)::starEach es X.env:=by rfl) (hpl:(backTo pos (starEach es X.env)).any (·.1)=false:=by rfl):PE X (.Call (.Name name p) (e::es) [] pos) (jh sp [] E0 t):=by
 obtain ⟨f,fd,F,hb,hk,hm⟩:=G.ex
 intro pins s σ H Q I h
 refine wpAny_Call_Name_kw (ic I hg hm ?_ hdb)
 refine PySem.W.callWith_K (h₀:=X.base) I.ok.mod.kin hk (thn (ha pos pins s σ H _ I h) fun us s1 ⟨vs,H1,I1,rv,q⟩=>⟨I1.kIn,?_⟩) he hpl
 have q:sp (vs++[]) H1 Q E0:=q
 rw [List.append_nil] at q
 have hlen:us.length=ps.length:=by rw [← rv.length]; exact F.len _ _ _ _ q
 refine wpAny_call (codeAny_mono (F.run X.A X.stack s1 H1 ⟨us,[]⟩ us vs _ hr I1.env0 (by simpa using hb s1 us I1.kIn (by simpa using hlen)) rv q) fun res s2 hq=>?_)
 cases res with
 | ok fl=>
  cases fl with
  | ret u=>exact I1.after hq
  | next=>exact False.elim hq
  | brk=>exact False.elim hq
  | cont=>exact False.elim hq
 | error x=>exact False.elim hq
theorem fnH {P:Program} {w:World} {K:Frag} {mg:Str→Option Value} {base h:Heap} {name:Str} {st:Stmt} {ps:List Str} {k:Nat} {sp:Sp} (d:Df K name st) (X:K.In h) (G:h.Ns mainGlobals mg)
  (hb:∀ (kV doc pm:Value) (an:Option Addr) (cdv ct:Value) (us:List Value),us.length=ps.length→bindArgs (PySem.W.fnOf name name (dC st) (bV st) (aE st) .none kV doc pm an cdv ct) ⟨us,[]⟩=pure (ps.zip us))
  (ok:∀ f fd,Fun K name name st f fd→FnOkH P w K mg base k f fd ps sp):FnH P w K mg base name ps k sp:=by
 obtain ⟨f,oc,od,an,sl,kV,dc,pm,cd,ct,a,l,c,kp⟩:=d.ex
 have F:=kO (st:=st) l c kp
 exact ⟨f,_,ok f _ F,F.binds hb,kp,PySem.W.mg_of X G a⟩
theorem fnX {P:Program} {w:World} {K:Frag} {mg:Str→Option Value} {base h:Heap} {name:Str} {st:Stmt} {ps:List Str} {k:Nat} {sp:Sp} (d:Df K name st) (X:K.In h) (G:h.Ns mainGlobals mg)
  (hb:∀ (kV doc pm:Value) (an:Option Addr) (cdv ct:Value) (us:List Value),us.length=ps.length→bindArgs (PySem.W.fnOf name name (dC st) (bV st) (aE st) .none kV doc pm an cdv ct) ⟨us,[]⟩=pure (ps.zip us))
  (ok:∀ f fd,Fun K name name st f fd→FnOk P w K mg base (CXo P w) k f fd ps sp):FnX P w K mg base name ps k sp:=by
 obtain ⟨f,oc,od,an,sl,kV,dc,pm,cd,ct,a,l,c,kp⟩:=d.ex
 have F:=kO (st:=st) l c kp
 exact ⟨f,_,ok f _ F,F.binds hb,kp,PySem.W.mg_of X G a⟩
end XO
namespace G
open PySem PySem.Spec PyProof.Rows L2 D

def gA:FnM:=aV 1 (aH (bC (fUn (cL .int) (ae 0)) (n5 (fUn (cL .bl) (ae 0)))))
def dY:FnM:=aV 2 (aH (fCB gm (aa (cf (bZ (ae 0)) bB (ai inD (ae 0) (ae 2))) ah)))
def cR:FnM:=aV 1 (aH (bC (fUn (cL .str) (ae 0)) (bC (gM leD leD (fC (.int 1)) (fCB aT (aa (ae 0) ah)) (fC (.int 8))) (aq dY (aa (ae 0) (aa (fC (.str "abcdefghijklmnopqrstuvwxyz")) ah))))))
def gw:FnM:=aV 1 (ap (fIf (aX (aq gA (aa (ae 0) ah))) (aH (ai leD (fCB lK (aa (ae 0) ah)) (ai dF (fC (.int 10)) (fC (.int 18))))) aF) (aH (bC (fUn (cL .str) (ae 0)) (bC (ai leD (fCB aT (aa (ae 0) ah)) (fC (.int 20))) (aq dY (aa (ae 0) (aa (fC (.str "abcdefghijklmnopqrstuvwxyz0123456789-")) ah)))))))
def cZ:Nat→FnM
 | 0=>fun _ _=>none
 | n + 1=>aV 2 (ap (fIf (bo (aX (fUn (cL .tup) (ae 0)))) (aH (aq gw (aa (ae 0) ah))) aF) (ap (fIf (cq (av (ai eqD (ae 1) (fC (.int 0)))) (av (ai gtD (fCB aT (aa (ae 0) ah)) (fC (.int 8))))) (aH (fC (.bool false))) aF) (aH (fCB gm (aa (cf (bZ (ae 0)) bB (aq (cZ n) (aa (ae 0) (aa (ai dE (ae 2) (fC (.int 1))) ah)))) ah)))))
def dZ:Nat→FnM
 | 0=>fun _ _=>none
 | n + 1=>aV 1 (ap (fIf (bo (aX (fUn (cL .tup) (ae 0)))) (aH (fC (.int 1))) aF) (aH (ai aP (fC (.int 1)) (fCB lA (aa (cf (bZ (ae 0)) bB (aq (dZ n) (aa (ae 0) ah))) ah)))))
def dB:FnM:=aV 1 (aH (bC (aq (cZ 25) (aa (ae 0) (aa (fC (.int 4)) ah))) (ai leD (aq (dZ 25) (aa (ae 0) ah)) (fC (.int 40)))))
def dA:FnM:=aV 3 (ap (fIf (av (ai eqD (ae 0) (fC (.str "put")))) (aH (aq dB (aa (ae 1) ah))) aF) (ap (fIf (av (ai eqD (ae 0) (fC (.str "got")))) (aH (bC (aq gA (aa (ae 1) ah)) (gM leD ltD (fC (.int 0)) (ae 1) (ae 2)))) aF) (aH (bC (ai eqD (ae 0) (fC (.str "row"))) (bC (fUn (cL .tup) (ae 1)) (ai leD (fCB aT (aa (ae 1) ah)) (fC (.int 8))))))))
def dz:FnM:=aV 2 (ap (fIf (cq (bo (aX (fUn (cL .tup) (ae 0)))) (cq (av (ai ltD (fCB aT (aa (ae 0) ah)) (fC (.int 2)))) (bo (aX (fUn (cL .str) (ai ixD (ae 0) (fC (.int 0)))))))) (aH (fC (.bool false))) aF) (ap (fIf (av (fUn (inT [("many",1),("part",2),("sum",2),("join",2),("same",2),("less",2)]) (ai ixD (ae 0) (fC (.int 0))))) (aH (ai eqD (fCB aT (aa (ae 0) ah)) (ai aP (fC (.int 1)) (fUn (atT [("many",1),("part",2),("sum",2),("join",2),("same",2),("less",2)]) (ai ixD (ae 0) (fC (.int 0))))))) aF) (aH (bC (ai eqD (fCB aT (aa (ae 0) ah)) (fC (.int 2))) (aq dA (aa (ai ixD (ae 0) (fC (.int 0))) (aa (ai ixD (ae 0) (fC (.int 1))) (aa (ae 1) ah))))))))
def eN:FnM:=aV 1 (ap (fIf (cq (av (ai eqD (ai ixD (ae 0) (fC (.int 0))) (fC (.str "put")))) (av (ai eqD (ai ixD (ae 0) (fC (.int 0))) (fC (.str "got"))))) (aH (au .list ah)) aF) (ap (fIf (av (ai eqD (ai ixD (ae 0) (fC (.int 0))) (fC (.str "row")))) (aH (fCB iC (aa (ai ixD (ae 0) (fC (.int 1))) ah))) aF) (aH (fCB iC (aa (fSl (ae 0) (fP (fC (.int 1))) cX) ah)))))
def gv:FnM:=aV 2 (aH (iJ (av (ai inD (ae 0) (fC (.tuple [.str "want",.str "peek"])))) (ai aP (ae 1) (fC (.int 1))) (ae 1)))
def eM:FnM:=aV 4 (ap (ar 1 (ai ixD (ae 0) (fC (.int 1)))) (ap (ar 2 (ai ixD (ae 0) (fC (.int 2)))) (ap (fIf (av (ai eqD (ai ixD (ae 0) (fC (.int 0))) (fC (.str "expr")))) (aH (cf (bZ (aq eN (aa (ae 1) ah))) bB (au .tuple (aa (fC (.str "expr")) (aa (ae 0) (aa (ae 3) ah)))))) aF) (ap (fIf (av (ai eqD (ai ixD (ae 1) (fC (.int 0))) (fC (.str "fail")))) (aH (au .list ah)) aF) (ap (ar 3 (aq gv (aa (ai ixD (ae 1) (fC (.int 0))) (aa (ae 2) ah)))) (aH (ai aP (au .list (aa (au .tuple (aa (fC (.str "expr")) (aa (ai ixD (ae 1) (fC (.int 1))) (aa (ae 2) ah)))) ah)) (cf (bZ (fSl (ae 1) (fP (fC (.int 2))) cX)) bB (au .tuple (aa (fC (.str "recipe")) (aa (ae 0) (aa (ae 4) ah))))))))))))
def gs:FnM:=aV 3 (ap (js 1 ah) (ap (dH 2 (bZ (ae 0)) (jE 1 (aq eM (aa (ae 2) ah)))) (aH (ae 1))))
def cY:FnM:=aV 1 (ap (fIf (cq (bo (aX (fUn (cL .tup) (ae 0)))) (cq (av (ai ltD (fCB aT (aa (ae 0) ah)) (fC (.int 2)))) (bo (aX (fUn (cL .str) (ai ixD (ae 0) (fC (.int 0)))))))) (aH (fC (.bool false))) aF) (ap (fIf (cq (av (fUn (lG [("say",0),("fail",0),("want",1),("peek",1),("when",2)]) (ai ixD (ae 0) (fC (.int 0))))) (av (ai neD (fCB aT (aa (ae 0) ah)) (ai aP (fC (.int 2)) (fUn (atT [("say",0),("fail",0),("want",1),("peek",1),("when",2)]) (ai ixD (ae 0) (fC (.int 0)))))))) (aH (fC (.bool false))) aF) (aH (oz (ai neD (ai ixD (ae 0) (fC (.int 0))) (fC (.str "fail"))) (aq cR (aa (ai ixD (ae 0) (fC (.int 1))) ah))))))
def dX:FnM:=aV 1 (ap (fIf (av (ai gtD (ai ixD (ae 0) (fC (.int 2))) (fC (.int 12)))) (aH (fC (.bool false))) aF) (ap (fIf (av (ai eqD (ai ixD (ae 0) (fC (.int 0))) (fC (.str "expr")))) (aH (aq dz (aa (ai ixD (ae 0) (fC (.int 1))) (aa (ai ixD (ae 0) (fC (.int 2))) ah)))) aF) (aH (aq cY (aa (ai ixD (ae 0) (fC (.int 1))) ah)))))
def dM:FnM:=aV 4 (ap (ar 1 (au .list (aa (au .tuple (aa (fC (.str "recipe")) (aa (ae 0) (aa (fC (.int 0)) ah)))) ah))) (ap (ar 2 (fC (.int 0))) (ap (dH 3 (di (fC (.int 20))) (ap (ar 2 (ai aP (ae 2) (fCB aT (aa (ae 1) ah)))) (ap (fIf (cq (av (ai gtD (ae 2) (fC (.int 60)))) (bo (aX (fCB gm (aa (cf (bZ (ae 1)) bB (aq dX (aa (ae 0) ah))) ah))))) (aH (fC (.bool false))) aF) (ar 1 (aq gs (aa (ae 1) ah)))))) (aH (ai eqD (fCB aT (aa (ae 1) ah)) (fC (.int 0)))))))
def eO:FnM:=aV 1 (aH (fCB kX (aa (ai aP (fCB fg (aa (ai ixD (ae 0) (fC (.int 0))) ah)) (fCB fg (aa (ai ixD (ae 0) (fC (.int 1))) ah))) ah)))
def cy:FnM:=aV 2 (ap (fIf (av (ai inA (ae 1) (ai ixD (ae 0) (fC (.int 0))))) (aH (fC (.str "told"))) aF) (ap (fIf (av (ai inA (ae 1) (ai ixD (ae 0) (fC (.int 1))))) (aH (fC (.str "made"))) aF) (aH (fC (.str "lacks")))))
def cx:FnM:=aV 1 (fIf (bo (aX (aq cR (aa (ae 0) ah)))) fj aF)
def eQ:FnM:=eG 4 (ap (kP 2 (ai ixD (ae 0) (fC (.int 0)))) (ap (kP 3 (ai ixD (ae 0) (fC (.int 1)))) (ap (li 2 (ae 1)) (ap (li 3 (ae 1)) (kR 2 3)))))
def gz:FnM:=eG 2 (ap (fIf (bp (av (ai eqD (aq cy (aa (ae 0) (aa (ae 1) ah))) (fC (.str "lacks")))) (av (ai geD (fCB aT (aa (aq eO (aa (ae 0) ah)) ah)) (fC (.int 40))))) fj aF) (jb eQ (aa (ae 0) (aa (ae 1) ah))))
def fN:FnM:=eG 4 (ap (f9 (aq cx (aa (ae 1) ah))) (ap (fIf (bo (aX (aq dB (aa (ae 2) ah)))) fj aF) (iW 3 false gz (aa (ae 0) (aa (ae 1) ah)) (ae 1) (ae 2))))
def fO:FnM:=eG 4 (ap (f9 (aq cx (aa (ae 1) ah))) (ap (fIf (bo (aX (aq dM (aa (ae 2) ah)))) fj aF) (iW 3 true gz (aa (ae 0) (aa (ae 1) ah)) (ae 1) (ae 2))))
def fR:FnM:=eG 2 (ap (f9 (aq cx (aa (ae 1) ah))) (ap (fIf (av (ai eqD (aq cy (aa (ae 0) (aa (ae 1) ah))) (fC (.str "lacks")))) fj aF) (jb eQ (aa (ae 0) (aa (ae 1) ah)))))
def bI:FnM:=eG 2 (ap (fIf (av (ai eqD (fCB aT (aa (ae 0) ah)) (fC (.int 0)))) (kQ (aa (fC (.int 0)) (aa (fC (.int 0)) (aa (ae 1) ah)))) aF) (kQ (aa (ai ixD (ae 0) (ai eK (ae 1) (fCB aT (aa (ae 0) ah)))) (aa (fC (.int 0)) (aa (ae 1) ah)))))
def aB:FnM:=aV 4 (ap (jC (ae 0) (fC (.int 1)) (ai aP (ai ixD (ae 0) (fC (.int 1))) (fC (.int 1)))) (ap (fIf (av (ai geD (ai ixD (ae 0) (fC (.int 0))) (ai dF (fC (.int 10)) (fC (.int 18))))) (ap (ar 2 (ai eK (ai ixD (ae 0) (fC (.int 0))) (ae 1))) (ap (jC (ae 0) (fC (.int 0)) (ai lg (ai ixD (ae 0) (fC (.int 0))) (ae 1))) (aH (ae 2)))) aF) (ap (ar 3 (ai aP (ai aP (ai eK (ai ixD (ae 0) (fC (.int 0))) (fC (.int 2147483647))) (ai dG (fC (.int 40692)) (ai ixD (ae 0) (fC (.int 1))))) (ai dG (fC (.int 7919)) (ai ixD (ae 0) (fC (.int 2)))))) (ap (ar 3 (ai eK (ai dG (ai aP (ae 3) (fC (.int 12345))) (fC (.int 48271))) (fC (.int 2147483647)))) (aH (ai eK (ai eK (ai dG (ai eK (ai aP (ai dG (ae 3) (fC (.int 69621))) (ai ixD (ae 0) (fC (.int 1)))) (fC (.int 2147483399))) (fC (.int 16807))) (fC (.int 2147483563))) (ae 1)))))))
def fM:FnM:=aV 8 (ap (ar 2 (au .list (aa (fC (.str "made")) (aa (fC (.str "told")) (aa (fC (.str "say")) (aa (fC (.str "want")) (aa (fC (.str "fails")) (aa (fC (.str "got")) (aa (fC (.str "put")) (aa (fC (.str "lacks")) ah)))))))))) (ap (ar 3 (fC (.str "abcdefghijklmnopqrstuvwxyz"))) (ap (js 4 ah) (ap (dH 5 (di (ae 1)) (ap (ar 6 (aq aB (aa (ae 0) (aa (fC (.int 5)) ah)))) (ap (ar 7 (ai ixD (ae 3) (aq aB (aa (ae 0) (aa (fC (.int 26)) ah))))) (ap (fIf (av (ai eqD (ae 6) (fC (.int 0)))) (ar 7 (ai ixD (ae 2) (aq aB (aa (ae 0) (aa (fC (.int 8)) ah))))) aF) (ap (fIf (bp (av (ai eqD (ae 6) (fC (.int 1)))) (av (ai gtD (fCB aT (aa (ae 4) ah)) (fC (.int 0))))) (ar 7 (fSl (ai aP (ai ixD (ae 4) (fUn fz (fC (.int 1)))) (ae 7)) cX (fP (fC (.int 8))))) aF) (ap (fIf (av (ai eqD (ae 6) (fC (.int 2)))) (ar 7 (ai dG (ai aP (ae 7) (ai ixD (ae 3) (aq aB (aa (ae 0) (aa (fC (.int 26)) ah))))) (fC (.int 4)))) aF) (ap (fIf (av (ai inD (ae 7) (ae 4))) (ar 7 (ai ixD (cf (bZ (ae 3)) (av (ai eB (ae 0) (ae 5))) (ae 0)) (fC (.int 0)))) aF) (jD 4 (aq aB (aa (ae 0) (aa (ai aP (fCB aT (aa (ae 4) ah)) (fC (.int 1))) ah))) (ae 7))))))))) (aH (ae 4))))))
def cP:FnM:=aV 4 (ap (ar 2 (au .list (aa (fC (.int 0)) (aa (fC (.int 1)) (aa (fC (.str "")) (aa (au .tuple ah) (aa (fC (.int 2)) (aa (fC (.str "a")) (aa (au .tuple (aa (fC (.int 0)) ah)) (aa (au .tuple (aa (fC (.int 1)) (aa (fC (.str "")) ah))) (aa (fUn fz (fC (.int 7))) (aa (ai dF (fC (.int 10)) (fC (.int 18))) (aa (fC (.str "x-0")) (aa (au .tuple (aa (au .tuple ah) (aa (au .tuple (aa (fC (.str "b")) (aa (fC (.int 3)) ah))) ah))) (aa (au .tuple (aa (fC (.int 0)) (aa (fC (.int 1)) (aa (fC (.int 2)) ah)))) (aa (ai dE (fC (.int 1)) (ai dF (fC (.int 10)) (fC (.int 18)))) ah)))))))))))))))) (ap (ar 3 (aq aB (aa (ae 0) (aa (fC (.int 18)) ah)))) (ap (fIf (av (ai ltD (ae 3) (fC (.int 14)))) (aH (ai ixD (ae 2) (ae 3))) aF) (ap (fIf (av (ai eqD (ae 3) (fC (.int 14)))) (aH (aq aB (aa (ae 0) (aa (ai dF (fC (.int 10)) (fC (.int 18))) ah)))) aF) (aH (ai ixD (ae 1) (aq aB (aa (ae 0) (aa (fCB aT (aa (ae 1) ah)) ah)))))))))
def dJ:FnM:=aV 1 (ap (fIf (cq (bo (aX (fUn (cL .str) (ae 0)))) (bo (av (gM leD leD (fC (.int 1)) (fCB aT (aa (ae 0) ah)) (fC (.int 8)))))) (aH (fC (.bool false))) aF) (aH (fCB gm (aa (cf (bZ (ae 0)) bB (ai inD (ae 0) (fC (.str "abcdefghijklmnopqrstuvwxyz")))) ah))))
def bO:Nat→FnM
 | 0=>fun _ _=>none
 | n + 1=>aV 7 (ap (ar 4 (aq aB (aa (ae 0) (aa (fC (.int 12)) ah)))) (ap (fIf (bp (av (ai ltD (ae 4) (fC (.int 4)))) (av (ai gtD (ae 1) (fC (.int 0))))) (aH (au .tuple (aa (fC (.str "got")) (aa (aq aB (aa (ae 0) (aa (ae 1) ah))) ah)))) aF) (ap (fIf (cq (av (ai eqD (ae 3) (fC (.int 0)))) (av (ai ltD (ae 4) (fC (.int 7))))) (aH (au .tuple (aa (fC (.str "put")) (aa (aq cP (aa (ae 0) (aa (ae 2) ah))) ah)))) aF) (ap (ar 5 (aq (bO n) (aa (ae 0) (aa (ae 1) (aa (ae 2) (aa (ai dE (ae 3) (fC (.int 1))) ah)))))) (ap (fIf (av (ai eqD (ae 4) (fC (.int 7)))) (aH (au .tuple (aa (fC (.str "many")) (aa (ae 5) ah)))) aF) (ap (ar 6 (aq (bO n) (aa (ae 0) (aa (ae 1) (aa (ae 2) (aa (ai dE (ae 3) (fC (.int 1))) ah)))))) (ap (fIf (av (ai eqD (ae 4) (fC (.int 8)))) (aH (au .tuple (aa (fC (.str "row")) (aa (fSl (au .tuple (aa (ae 5) (aa (ae 6) ah))) cX (fP (aq aB (aa (ae 0) (aa (fC (.int 3)) ah))))) ah)))) aF) (aH (au .tuple (aa (ai ixD (au .list (aa (fC (.str "part")) (aa (fC (.str "sum")) (aa (fC (.str "join")) (aa (fC (.str "same")) (aa (fC (.str "less")) ah)))))) (aq aB (aa (ae 0) (aa (fC (.int 5)) ah)))) (aa (ae 5) (aa (ae 6) ah))))))))))))
def fL:FnM:=aV 4 (ap (ar 3 (aq aB (aa (ae 0) (aa (fC (.int 10)) ah)))) (ap (fIf (av (ai ltD (ae 3) (fC (.int 7)))) (aH (au .tuple (aa (fC (.str "put")) (aa (ai ixD (ae 2) (aq aB (aa (ae 0) (aa (fCB aT (aa (ae 2) ah)) ah)))) ah)))) aF) (ap (fIf (av (ai eqD (ae 3) (fC (.int 7)))) (aH (au .tuple (aa (fC (.str "join")) (aa (au .tuple (aa (fC (.str "put")) (aa (ai ixD (ae 2) (aq aB (aa (ae 0) (aa (fCB aT (aa (ae 2) ah)) ah)))) ah))) (aa (au .tuple (aa (fC (.str "put")) (aa (fC (.str "")) ah))) ah))))) aF) (aH (aq (bO 25) (aa (ae 0) (aa (ae 1) (aa (ae 2) (aa (fC (.int 1)) ah)))))))))
def bS:Nat→FnM
 | 0=>fun _ _=>none
 | n + 1=>aV 10 (ap (ar 6 (aq aB (aa (ae 0) (aa (fC (.int 8)) ah)))) (ap (fIf (bp (av (ai ltD (ae 6) (fC (.int 4)))) (av (ai gtD (ae 3) (fC (.int 0))))) (ap (ar 7 (iJ (bp (aX (ae 5)) (av (ai eqD (aq aB (aa (ae 0) (aa (fC (.int 3)) ah))) (fC (.int 0))))) (fC (.str "peek")) (fC (.str "want")))) (ap (ar 8 (aq fL (aa (ae 0) (aa (ae 1) (aa (ae 2) ah))))) (aH (au .tuple (aa (ae 7) (aa (ae 8) (aa (aq (bS n) (aa (ae 0) (aa (ai aP (ae 1) (fC (.int 1))) (aa (ae 2) (aa (ai dE (ae 3) (fC (.int 1))) (aa (ae 4) (aa (ae 5) ah))))))) ah))))))) aF) (ap (fIf (bp (av (ai inD (ae 6) (au .tuple (aa (fC (.int 4)) (aa (fC (.int 5)) ah))))) (av (ai gtD (ae 4) (fC (.int 0))))) (ap (ar 8 (aq (bO 25) (aa (ae 0) (aa (ae 1) (aa (ae 2) (aa (fC (.int 1)) ah)))))) (ap (ar 9 (aq (bS n) (aa (ae 0) (aa (ae 1) (aa (ae 2) (aa (ae 3) (aa (ai dE (ae 4) (fC (.int 1))) (aa (ae 5) ah)))))))) (aH (au .tuple (aa (fC (.str "when")) (aa (ae 8) (aa (ae 9) (aa (aq (bS n) (aa (ae 0) (aa (ae 1) (aa (ae 2) (aa (ae 3) (aa (ai dE (ae 4) (fC (.int 1))) (aa (ae 5) ah))))))) ah)))))))) aF) (ap (fIf (bp (av (ai eqD (ae 6) (fC (.int 6)))) (av (ai eqD (aq aB (aa (ae 0) (aa (fC (.int 2)) ah))) (fC (.int 0))))) (aH (au .tuple (aa (fC (.str "fail")) (aa (ai ixD (ae 2) (aq aB (aa (ae 0) (aa (fCB aT (aa (ae 2) ah)) ah)))) ah)))) aF) (aH (au .tuple (aa (fC (.str "say")) (aa (aq (bO 25) (aa (ae 0) (aa (ae 1) (aa (ae 2) (aa (fC (.int 1)) ah))))) ah))))))))
def cw:FnM:=aV 5 (ap (g6 3 4 (ai ixD (au .list (aa (au .tuple (aa (fC (.int 4)) (aa (fC (.int 1)) ah))) (aa (au .tuple (aa (fC (.int 2)) (aa (fC (.int 2)) ah))) (aa (au .tuple (aa (fC (.int 1)) (aa (fC (.int 1)) ah))) (aa (au .tuple (aa (fC (.int 3)) (aa (fC (.int 1)) ah))) (aa (au .tuple (aa (fC (.int 0)) (aa (fC (.int 1)) ah))) ah)))))) (aq aB (aa (ae 0) (aa (fC (.int 5)) ah))))) (aH (aq (bS 25) (aa (ae 0) (aa (fC (.int 0)) (aa (ae 1) (aa (ae 3) (aa (ae 4) (aa (ae 2) ah)))))))))
def gy:FnM:=aV 9 (ap (iE 4) (ap (iE 5) (ap (dH 6 (di (fCB aT (aa (ae 2) ah))) (iu 7 bI (aa (ae 0) (aa (ai aP (ae 1) (ae 6)) ah)) (ap (ar 8 (aq aB (aa (ae 7) (aa (fC (.int 8)) ah)))) (fIf (av (ai ltD (ae 8) (fC (.int 2)))) (iF 4 (ai ixD (ae 2) (ae 6)) (aq cP (aa (ae 7) (aa (ae 2) ah)))) (fIf (av (ai ltD (ae 8) (fC (.int 7)))) (iF 5 (ai ixD (ae 2) (ae 6)) (aq cw (aa (ae 7) (aa (ae 2) (aa (ae 3) ah))))) aF))))) (aH (au .tuple (aa (ae 4) (aa (ae 5) ah)))))))
def gu:FnM:=aV 2 (ap (ar 1 (au .list (aa (fC (.str "")) (aa (fC (.str "A")) (aa (fC (.str "a1")) (aa (fC (.str "a b")) (aa (fC (.str "abcdefghi")) (aa (fC (.str "a-")) (aa (fC (.str " a")) (aa (fC (.str "a~")) ah)))))))))) (aH (ai ixD (ai aP (ae 1) (au .list (aa (fC (.int 0)) (aa (fC .none) (aa (fC (.bool true)) (aa (au .tuple (aa (fC (.str "a")) ah)) (aa (au .list (aa (fC (.str "a")) ah)) (aa (uw "a" (fC (.int 1))) (aa (fC (.str "_")) (aa (fC (.str "aB")) ah)))))))))) (ae 0))))
def gr:FnM:=aV 4 (ap (ar 1 (au .tuple (aa (au .tuple (aa (au .tuple (aa (au .tuple (aa (au .tuple ah) ah)) ah)) ah)) ah))) (ap (ar 2 (au .tuple (aa (fC (.int 0)) (aa (fC (.int 0)) (aa (fC (.int 0)) (aa (fC (.int 0)) (aa (fC (.int 0)) (aa (fC (.int 0)) (aa (fC (.int 0)) (aa (fC (.int 0)) (aa (fC (.int 0)) ah))))))))))) (ap (ar 3 (au .list (aa (fC .none) (aa (fC (.bool true)) (aa (fC (.bool false)) (aa (au .list ah) (aa (au .list (aa (fC (.int 1)) ah)) (aa (fC (.dict [])) (aa (fC (.str "A")) (aa (fC (.str "a b")) (aa (fC (.str "abcdefghijklmnopqrstu")) (aa (ai aP (ai dF (fC (.int 10)) (fC (.int 18))) (fC (.int 1))) ah)))))))))))) (aH (ai ixD (ai aP (ae 3) (au .list (aa (ai dE (fUn fz (ai dF (fC (.int 10)) (fC (.int 18)))) (fC (.int 1))) (aa (ae 1) (aa (au .tuple (aa (fC .none) ah)) (aa (au .tuple (aa (fC (.int 1)) (aa (au .list (aa (fC (.int 2)) ah)) ah))) (aa (ae 2) (aa (au .tuple (aa (au .tuple (aa (fC (.bool true)) ah)) (aa (fC (.int 0)) ah))) ah)))))))) (ae 0))))))
def gq:FnM:=aV 4 (ap (ar 1 (au .tuple (aa (fC (.str "put")) (aa (fC (.int 1)) ah)))) (ap (ar 2 (au .tuple (aa (fC (.str "say")) (aa (ae 1) ah)))) (ap (ar 3 (au .list (aa (fC .none) (aa (fC (.int 7)) (aa (fC (.str "say put 1")) (aa (au .tuple ah) (aa (au .tuple (aa (fC (.str "say")) ah)) (aa (au .tuple (aa (fC (.str "say")) (aa (fC (.int 1)) ah))) (aa (au .list (aa (fC (.str "say")) (aa (ae 1) ah))) (aa (au .tuple (aa (fC (.str "say")) (aa (ae 1) (aa (ae 1) ah)))) (aa (au .tuple (aa (fC (.str "fail")) (aa (fC (.str "A")) ah))) ah))))))))))) (ap (ar 3 (ai aP (ae 3) (au .list (aa (au .tuple (aa (fC (.str "fail")) (aa (fC (.int 1)) ah))) (aa (au .tuple (aa (fC (.str "say")) (aa (au .tuple (aa (fC (.str "got")) (aa (fC (.int 0)) ah))) ah))) (aa (au .tuple (aa (fC (.str "want")) (aa (ae 1) ah))) (aa (au .tuple (aa (fC (.str "when")) (aa (ae 1) (aa (ae 2) ah)))) ah))))))) (ap (ar 3 (ai aP (ae 3) (au .list (aa (au .tuple (aa (fC (.str "want")) (aa (ae 1) (aa (au .tuple (aa (fC (.str "say")) (aa (au .tuple (aa (fC (.str "got")) (aa (fC (.int 1)) ah))) ah))) ah)))) (aa (au .tuple (aa (fC (.str "say")) (aa (au .tuple (aa (fC (.str "put")) (aa (fC (.bool true)) ah))) ah))) ah))))) (aH (ai ixD (ai aP (ae 3) (au .list (aa (au .tuple (aa (fC (.str "want")) (aa (au .tuple (aa (fC (.str "got")) (aa (fC (.int 0)) ah))) (aa (au .tuple (aa (fC (.str "fail")) (aa (fC (.str "a")) ah))) ah)))) ah))) (ae 0))))))))
def c7:List W→Tp→Option (Nat×Tp):=XO.mkX 1 (XO.cu (bo (aX (aq cR (aa (ae 0) ah)))) 0)
def gG:List W→Tp→Option (Nat×Tp):=XO.mkX 2 (XO.cu (bp (av (ai eqD (aq cy (aa (ae 0) (aa (ae 1) ah))) (fC (.str "lacks")))) (av (ai geD (fCB aT (aa (aq eO (aa (ae 0) ah)) ah)) (fC (.int 40))))) 3)
def eW:List W→Tp→Option (Nat×Tp):=XO.mkX 4 (XO.cm (XO.aY c7 (aa (ae 1) ah)) (XO.cM (f9 (aq cx (aa (ae 1) ah))) (XO.cm (XO.cu (bo (aX (aq dB (aa (ae 2) ah)))) 1) (XO.cM (fIf (bo (aX (aq dB (aa (ae 2) ah)))) fj aF) (XO.aY gG (aa (ae 0) (aa (ae 1) ah)))))))
def eX:List W→Tp→Option (Nat×Tp):=XO.mkX 4 (XO.cm (XO.aY c7 (aa (ae 1) ah)) (XO.cM (f9 (aq cx (aa (ae 1) ah))) (XO.cm (XO.cu (bo (aX (aq dM (aa (ae 2) ah)))) 2) (XO.cM (fIf (bo (aX (aq dM (aa (ae 2) ah)))) fj aF) (XO.aY gG (aa (ae 0) (aa (ae 1) ah)))))))
def eP:List W→Tp→Option (Nat×Tp):=XO.mkX 2 (XO.cm (XO.aY c7 (aa (ae 1) ah)) (XO.cM (f9 (aq cx (aa (ae 1) ah))) (XO.cu (av (ai eqD (aq cy (aa (ae 0) (aa (ae 1) ah))) (fC (.str "lacks")))) 4)))
def cz:XO.FX:=XO.cJ (av (ai eqD (ae 0) (fC (.int 0)))) (XO.aY eW (aa (ae 1) (aa (ae 2) (aa (ae 3) ah)))) (XO.cJ (av (ai eqD (ae 0) (fC (.int 1)))) (XO.aY eX (aa (ae 1) (aa (ae 2) (aa (ae 3) ah)))) (XO.aY eP (aa (ae 1) (aa (ae 2) ah))))
def lh:FS:=aH (iJ (cq (av (ai isD (ae 4) (fC .none))) (aX (fUn (cL .tup) (ae 4)))) (ae 5) (fC (.int 9)))
def jZ:FnM:=aV 7 (ap (ar 4 (fC .none)) (ap (ar 5 (fC (.int 0))) (ap (fIf (av (ai eqD (ae 0) (fC (.int 0)))) (ar 4 (iX fN (aa (ae 1) (aa (ae 2) (aa (ae 3) ah))))) (fIf (av (ai eqD (ae 0) (fC (.int 1)))) (ar 4 (iX fO (aa (ae 1) (aa (ae 2) (aa (ae 3) ah))))) (ar 4 (iX fR (aa (ae 1) (aa (ae 2) ah)))))) lh)))
def ie:List W→Tp→Option (Nat×Tp):=XO.mkX 7 (XO.cM (ar 4 (fC .none)) (XO.cM (ar 5 (fC (.int 0))) cz))
def dw:FnM:=fun ws T=>match ie ws T with
 | some (c,T')=>if c < 5 then some (.int ((c:Int) + 1),T') else none
 | none=>jZ ws T
def gx:FnM:=aV 2 (ap (ar 1 (fC (.str "abcdefghijklmnopqrstuvwxyz"))) (aH (cf (di (ae 0)) bB (ai aP (ai aP (fC (.str "q")) (ai ixD (fC (.str "xyz")) (ai lg (ae 0) (fC (.int 26))))) (ai ixD (ae 2) (ai eK (ae 0) (fC (.int 26))))))))
def k7:FnM:=aV 13 (ap (ar 1 (de fM bI (aa (ae 0) (aa (fC (.int 0)) ah)) (aa (ai aP (fC (.int 3)) (de aB bI (aa (ae 0) (aa (fC (.int 1)) ah)) (aa (fC (.int 5)) ah))) ah))) (ap (ar 2 (aq gy (aa (ae 0) (aa (fC (.int 3)) (aa (fSl (ae 1) (fP (fC (.int 1))) cX) (aa (ai eqD (de aB bI (aa (ae 0) (aa (fC (.int 2)) ah)) (aa (fC (.int 3)) ah)) (fC (.int 0))) ah)))))) (ap (dH 3 (di (fC (.int 10))) (iu 4 bI (aa (ae 0) (aa (ai aP (fC (.int 12)) (ae 3)) ah)) (ap (ar 5 (aq aB (aa (ae 4) (aa (fC (.int 3)) ah)))) (ap (ar 6 (ai aP (ae 1) (fSl (fCB fg (aa (ai ixD (ae 2) (fC (.int 0))) ah)) cX (fP (fC (.int 3)))))) (ap (ar 7 (ai ixD (ae 6) (aq aB (aa (ae 4) (aa (fCB aT (aa (ae 6) ah)) ah))))) (ap (fIf (av (ai eqD (aq aB (aa (ae 4) (aa (fC (.int 4)) ah))) (fC (.int 0)))) (ar 7 (aq gu (aa (aq aB (aa (ae 4) (aa (fC (.int 16)) ah))) ah))) aF) (ap (ar 8 (ai ixD (au .list (aa (aq cP (aa (ae 4) (aa (ae 1) ah))) (aa (aq cw (aa (ae 4) (aa (ae 1) (aa (fC (.bool true)) ah)))) (aa (fC .none) ah)))) (ae 5))) (ap (ar 9 (bC (ai ltD (ae 5) (fC (.int 2))) (ai gtD (aq aB (aa (ae 4) (aa (fC (.int 4)) ah))) (fC (.int 0))))) (ap (fIf (bp (av (ai eqD (ae 5) (fC (.int 0)))) (bo (aX (ae 9)))) (ar 8 (aq gr (aa (aq aB (aa (ae 4) (aa (fC (.int 16)) ah))) ah))) aF) (ap (fIf (bp (av (ai eqD (ae 5) (fC (.int 1)))) (bo (aX (ae 9)))) (ar 8 (aq gq (aa (aq aB (aa (ae 4) (aa (fC (.int 16)) ah))) ah))) aF) (ap (ar 10 (fC (.int 0))) (ap (ar 11 (bC (fUn jn (ae 7)) (bC (ai dQ (ae 7) (ai ixD (ae 2) (fC (.int 0)))) (ai dQ (ae 7) (ai ixD (ae 2) (fC (.int 1))))))) (ap (fIf (bo (aX (aq dJ (aa (ae 7) ah)))) (ar 10 (fC (.int 1))) (fIf (bp (av (ai ltD (ae 5) (fC (.int 2)))) (bo (aX (ae 9)))) (ar 10 (ai aP (fC (.int 2)) (ae 5))) (fIf (bp (av (ai ltD (ae 5) (fC (.int 2)))) (bp (aX (ae 11)) (av (ai geD (ai aP (fCB aT (aa (ai ixD (ae 2) (fC (.int 0))) ah)) (fCB aT (aa (ai ixD (ae 2) (fC (.int 1))) ah))) (fC (.int 40)))))) (ar 10 (fC (.int 4))) (fIf (bp (av (ai eqD (ae 5) (fC (.int 2)))) (aX (ae 11))) (ar 10 (fC (.int 5))) aF)))) (ap (ar 12 (au .tuple (aa (gb (ai ixD (ae 2) (fC (.int 0)))) (aa (gb (ai ixD (ae 2) (fC (.int 1)))) ah)))) (ap (fIf (cq (av (ai neD (aq dw (aa (ae 5) (aa (ae 12) (aa (ae 7) (aa (ae 8) ah))))) (ae 10))) (av (ai neP (ae 12) (ae 2)))) (aH (fC (.bool false))) aF) (fIf (av (ai eqD (aq aB (aa (ae 4) (aa (fC (.int 3)) ah))) (fC (.int 0)))) (ar 2 (au .tuple (aa (jt (cf (bZ (aq gx (aa (ai aP (fC (.int 39)) (aq aB (aa (ae 4) (aa (fC (.int 2)) ah)))) ah))) bB (au .tuple (aa (ae 0) (aa (fC (.int 0)) ah))))) (aa (fC (.dict [])) ah)))) aF)))))))))))))))) (aH (fC (.bool true))))))
def lQ:FS:=(ap (ar 6 (aq aB (aa (ae 0) (aa (fC (.int 5)) ah)))) (ap (ar 7 (ai ixD (ae 3) (aq aB (aa (ae 0) (aa (fC (.int 26)) ah))))) (ap (fIf (av (ai eqD (ae 6) (fC (.int 0)))) (ar 7 (ai ixD (ae 2) (aq aB (aa (ae 0) (aa (fC (.int 8)) ah))))) aF) (ap (fIf (bp (av (ai eqD (ae 6) (fC (.int 1)))) (av (ai gtD (fCB aT (aa (ae 4) ah)) (fC (.int 0))))) (ar 7 (fSl (ai aP (ai ixD (ae 4) (fUn fz (fC (.int 1)))) (ae 7)) cX (fP (fC (.int 8))))) aF) (ap (fIf (av (ai eqD (ae 6) (fC (.int 2)))) (ar 7 (ai dG (ai aP (ae 7) (ai ixD (ae 3) (aq aB (aa (ae 0) (aa (fC (.int 26)) ah))))) (fC (.int 4)))) aF) (ap (fIf (av (ai inD (ae 7) (ae 4))) (ar 7 (ai ixD (cf (bZ (ae 3)) (av (ai eB (ae 0) (ae 5))) (ae 0)) (fC (.int 0)))) aF) (jD 4 (aq aB (aa (ae 0) (aa (ai aP (fCB aT (aa (ae 4) ah)) (fC (.int 1))) ah))) (ae 7))))))))
theorem xG:fM=aV 8 (ap (ar 2 (au .list (aa (fC (.str "made")) (aa (fC (.str "told")) (aa (fC (.str "say")) (aa (fC (.str "want")) (aa (fC (.str "fails")) (aa (fC (.str "got")) (aa (fC (.str "put")) (aa (fC (.str "lacks")) ah)))))))))) (ap (ar 3 (fC (.str "abcdefghijklmnopqrstuvwxyz"))) (ap (js 4 ah) (ap (dH 5 (di (ae 1)) lQ) (aH (ae 4)))))):=rfl
def hJ:FS:=(ap (ar 8 (aq aB (aa (ae 7) (aa (fC (.int 8)) ah)))) (fIf (av (ai ltD (ae 8) (fC (.int 2)))) (iF 4 (ai ixD (ae 2) (ae 6)) (aq cP (aa (ae 7) (aa (ae 2) ah)))) (fIf (av (ai ltD (ae 8) (fC (.int 7)))) (iF 5 (ai ixD (ae 2) (ae 6)) (aq cw (aa (ae 7) (aa (ae 2) (aa (ae 3) ah))))) aF)))
def l0:FS:=(iu 7 bI (aa (ae 0) (aa (ai aP (ae 1) (ae 6)) ah)) hJ)
theorem yr:gy=aV 9 (ap (iE 4) (ap (iE 5) (ap (dH 6 (di (fCB aT (aa (ae 2) ah))) l0) (aH (au .tuple (aa (ae 4) (aa (ae 5) ah))))))):=rfl
def jV:FS:=(ap (ar 5 (aq aB (aa (ae 4) (aa (fC (.int 3)) ah)))) (ap (ar 6 (ai aP (ae 1) (fSl (fCB fg (aa (ai ixD (ae 2) (fC (.int 0))) ah)) cX (fP (fC (.int 3)))))) (ap (ar 7 (ai ixD (ae 6) (aq aB (aa (ae 4) (aa (fCB aT (aa (ae 6) ah)) ah))))) (ap (fIf (av (ai eqD (aq aB (aa (ae 4) (aa (fC (.int 4)) ah))) (fC (.int 0)))) (ar 7 (aq gu (aa (aq aB (aa (ae 4) (aa (fC (.int 16)) ah))) ah))) aF) (ap (ar 8 (ai ixD (au .list (aa (aq cP (aa (ae 4) (aa (ae 1) ah))) (aa (aq cw (aa (ae 4) (aa (ae 1) (aa (fC (.bool true)) ah)))) (aa (fC .none) ah)))) (ae 5))) (ap (ar 9 (bC (ai ltD (ae 5) (fC (.int 2))) (ai gtD (aq aB (aa (ae 4) (aa (fC (.int 4)) ah))) (fC (.int 0))))) (ap (fIf (bp (av (ai eqD (ae 5) (fC (.int 0)))) (bo (aX (ae 9)))) (ar 8 (aq gr (aa (aq aB (aa (ae 4) (aa (fC (.int 16)) ah))) ah))) aF) (ap (fIf (bp (av (ai eqD (ae 5) (fC (.int 1)))) (bo (aX (ae 9)))) (ar 8 (aq gq (aa (aq aB (aa (ae 4) (aa (fC (.int 16)) ah))) ah))) aF) (ap (ar 10 (fC (.int 0))) (ap (ar 11 (bC (fUn jn (ae 7)) (bC (ai dQ (ae 7) (ai ixD (ae 2) (fC (.int 0)))) (ai dQ (ae 7) (ai ixD (ae 2) (fC (.int 1))))))) (ap (fIf (bo (aX (aq dJ (aa (ae 7) ah)))) (ar 10 (fC (.int 1))) (fIf (bp (av (ai ltD (ae 5) (fC (.int 2)))) (bo (aX (ae 9)))) (ar 10 (ai aP (fC (.int 2)) (ae 5))) (fIf (bp (av (ai ltD (ae 5) (fC (.int 2)))) (bp (aX (ae 11)) (av (ai geD (ai aP (fCB aT (aa (ai ixD (ae 2) (fC (.int 0))) ah)) (fCB aT (aa (ai ixD (ae 2) (fC (.int 1))) ah))) (fC (.int 40)))))) (ar 10 (fC (.int 4))) (fIf (bp (av (ai eqD (ae 5) (fC (.int 2)))) (aX (ae 11))) (ar 10 (fC (.int 5))) aF)))) (ap (ar 12 (au .tuple (aa (gb (ai ixD (ae 2) (fC (.int 0)))) (aa (gb (ai ixD (ae 2) (fC (.int 1)))) ah)))) (ap (fIf (cq (av (ai neD (aq dw (aa (ae 5) (aa (ae 12) (aa (ae 7) (aa (ae 8) ah))))) (ae 10))) (av (ai neP (ae 12) (ae 2)))) (aH (fC (.bool false))) aF) (fIf (av (ai eqD (aq aB (aa (ae 4) (aa (fC (.int 3)) ah))) (fC (.int 0)))) (ar 2 (au .tuple (aa (jt (cf (bZ (aq gx (aa (ai aP (fC (.int 39)) (aq aB (aa (ae 4) (aa (fC (.int 2)) ah)))) ah))) bB (au .tuple (aa (ae 0) (aa (fC (.int 0)) ah))))) (aa (fC (.dict [])) ah)))) aF))))))))))))))
def jU:FS:=(iu 4 bI (aa (ae 0) (aa (ai aP (fC (.int 12)) (ae 3)) ah)) jV)
theorem zh:k7=aV 13 (ap (ar 1 (de fM bI (aa (ae 0) (aa (fC (.int 0)) ah)) (aa (ai aP (fC (.int 3)) (de aB bI (aa (ae 0) (aa (fC (.int 1)) ah)) (aa (fC (.int 5)) ah))) ah))) (ap (ar 2 (aq gy (aa (ae 0) (aa (fC (.int 3)) (aa (fSl (ae 1) (fP (fC (.int 1))) cX) (aa (ai eqD (de aB bI (aa (ae 0) (aa (fC (.int 2)) ah)) (aa (fC (.int 3)) ah)) (fC (.int 0))) ah)))))) (ap (dH 3 (di (fC (.int 10))) jU) (aH (fC (.bool true)))))):=rfl
abbrev Dc:=List (PyData×PyData)
theorem sz:sizeLine=16777216:=by decide
theorem len_app (a b:Str):(a++b).length=a.length + b.length:=by
 show (a++b).cps.size=_
 rw [PySem.Str.cps_append,Array.size_append]
 rfl
theorem kS {α:Type} {xs:List α} {i:Int} (h0:0≤i) (h1:i < xs.length):∃ x,atI xs i=some x∧x∈xs:=by
 unfold atI ixN
 rw [if_pos h0,if_pos h1]
 have hl:i.toNat < xs.length:=by omega
 exact ⟨xs[i.toNat],by simp [hl],List.getElem_mem hl⟩
theorem mG {i:Nat} {body:FS} {I:Nat→Rho→Tp→Prop} {N:Nat}:∀ (ds:List PyData) (k:Nat) (ρ:Rho) (T:Tp),k + ds.length≤N→I k ρ T →
  (∀ k d ρ T,d∈ds→k < N→I k ρ T→∃ ρ' T',body (ρ.set i (some (.d d))) T=some ((.nx,ρ'),T')∧I (k + 1) ρ' T')→∃ ρ' T',forL i body ds ρ T=some ((.nx,ρ'),T')∧I (k + ds.length) ρ' T'
 | [],k,ρ,T,_,h,_=>⟨ρ,T,rfl,h⟩
 | d::r,k,ρ,T,hN,h,hs=>by
  rw [List.length_cons] at hN
  obtain ⟨ρ1,T1,e1,h1⟩:=hs k d ρ T List.mem_cons_self (by omega) h
  obtain ⟨ρ2,T2,e2,h2⟩:=mG (body:=body) (I:=I) r (k + 1) ρ1 T1 (by omega) h1 fun k d ρ T hd=>hs k d ρ T (List.mem_cons_of_mem _ hd)
  refine ⟨ρ2,T2,?_,by rw [List.length_cons,show k + (r.length + 1)=k + 1 + r.length by omega]; exact h2⟩
  unfold forL
  rw [e1]
  exact e2
theorem zp {n:Nat} {d:PyData} (h:d∈bK 0 n):∃ j:Int,d=.int j∧0≤j∧j < n:=by
 obtain ⟨k,hk,rfl⟩:=List.mem_map.mp h
 have:=List.mem_range.mp hk
 exact ⟨0 + (k:Int),rfl,by omega,by omega⟩
theorem iP (n:Nat):(bK 0 n).length=n:=by simp [bK]
theorem rng_ok {j:Int} (h0:0≤j) (h1:j≤1000):eF j=true:=by
 unfold eF
 simp
 omega
def Fr (xs:List PyData):Prop:=∃ c n k:Int,xs=[.int c,.int n,.int k]
theorem uT {o:PyData→PyData→Option PyData} {c:Int} {xs:List PyData} {r:Tp} {y:PyData}:op2 o ((.int c::xs)::r) (.tp 0) (.d y)=mkD ((.int c::xs)::r) (o (.list (.int c::xs)) y):=rfl
theorem rW {c:Int} {r:List PyData}:isO (.int c::r)=false:=rfl
theorem zH {i j:Int}:lg (.int i) (.int j)=if 0 < j∧j < 18446744073709551616 then some (.int (i / j)) else none:=rfl
theorem ix0:ixN 3 0=some 0:=rfl
theorem nS:dF (.int 10) (.int 18)=some (.int 1000000000000000000):=rfl
theorem bc {xs:List PyData} (h:Fr xs) {m:Int} (h1:0 < m) (h2:m≤1000000000000000000):∃ r xs',aB [.tp 0,.d (.int m)] [xs]=some (.int r,[xs'])∧Fr xs'∧0≤r∧r < m:=by
 obtain ⟨c,n,k,rfl⟩:=h
 by_cases hc:1000000000000000000≤c
 ·refine ⟨c % m,[.int (c / m),.int (n + 1),.int k],?_,⟨_,_,_,rfl⟩,Int.emod_nonneg _ (by omega),Int.emod_lt_of_pos _ h1⟩
  have h3:m < 18446744073709551616:=by omega
  simp [aB,jC,uT,rW,at0,at1,at2,ix0,ix1,ix2,nS,hc,h1,h3,zH]
 ·have e:∃ z:Int,aB [.tp 0,.d (.int m)] [[.int c,.int n,.int k]]=some (.int (z % m),[[.int c,.int (n + 1),.int k]]):=by
   refine ⟨?_,?_⟩
   rotate_left
   ·simp [aB,jC,uT,rW,at0,at1,at2,ix0,ix1,ix2,nS,hc,h1]
    rfl
  obtain ⟨z,e⟩:=e
  exact ⟨z % m,_,e,⟨_,_,_,rfl⟩,Int.emod_nonneg _ (by omega),Int.emod_lt_of_pos _ h1⟩
@[simp] theorem Hl {N:Nat} {s:FS} {ws:List W} {T:Tp}:eG N s ws T=if bQ ws=true then nq (s (ws.map some++List.replicate (N - ws.length) none) T) else none:=rfl
@[simp] theorem GL {x:PyData} {r:Rho} {T:Tp}:nq (some ((.ro x,r),T))=some (x,T):=rfl
@[simp] theorem Fj {a:FA} {ρ:Rho} {T:Tp}:kQ a ρ T=bnd (a ρ T) fun ws T1=>ku ρ (dq ws) T1:=rfl
@[simp] theorem EV {xs:List PyData} {ρ:Rho} {T:Tp}:ku ρ (some xs) T=if xs.length≤1000 then some ((.ro (.list xs),ρ),T) else none:=rfl
@[simp] theorem Fg {s:FS} {x:PyData} {ρ:Rho} {T:Tp}:iH s (.ro x,ρ) T=some ((.ro x,ρ),T):=rfl
theorem jf (ns:List Int) (k:Int) (hk:0≤k):∃ xs,Fr xs∧∀ T,bI [.d (.list (ns.map PyData.int)),.d (.int k)] T=some (.list xs,T):=by
 cases ns with
 | nil=>exact ⟨_,⟨0,0,k,rfl⟩,fun T=>by simp [bI]⟩
 | cons a r=>
  have hp:(0:Int) < (((a::r).map PyData.int).length:Int):=by simp
  obtain ⟨d,e1,hm⟩:=kS (xs:=(a::r).map PyData.int) (i:=k % (((a::r).map PyData.int).length:Int)) (Int.emod_nonneg _ (by omega)) (Int.emod_lt_of_pos _ hp)
  obtain ⟨c,_,rfl⟩:=List.mem_map.mp hm
  refine ⟨_,⟨c,0,k,rfl⟩,fun T=>?_⟩
  generalize (a::r).map PyData.int=l at hp e1
  have h0:¬ (l.length:Int)=0:=by omega
  have h3:0 < l.length:=by omega
  have h0':l≠[]:=fun z=>by rw [z] at hp; simp at hp
  simp [bI,hp,e1,h0,h0',h3]
open K1 (has LET TXT single bz bX lsz isName bf tdp gU ldp)
mutual
def smB:PyData→Bool
 | .str x=>decide (x.length≤60000) && x.cps.toList.all fun c=>decide (c < 128)
 | .tuple ds=>gf ds
 | _=>true
def gf:List PyData→Bool
 | []=>true
 | d::r=>smB d && gf r
end
def Sm (d:PyData):Prop:=smB d=true
theorem Sm.both {x:Str} (h:Sm (.str x)):x.length≤60000∧∀ c∈x.cps.toList,c < 128:=by
 have h':(decide (x.length≤60000) && x.cps.toList.all fun c=>decide (c < 128))=true:=by
  have:smB (.str x)=true:=h
  rw [smB] at this
  exact this
 rw [Bool.and_eq_true,List.all_eq_true] at h'
 exact ⟨of_decide_eq_true h'.1,fun c hc=>of_decide_eq_true (h'.2 c hc)⟩
theorem Sm.str {x:Str} (h:Sm (.str x)):x.cps.size≤60000:=h.both.1
theorem Sm.mkS {x:Str} (h:x.length≤60000) (h2:∀ c∈x.cps.toList,c < 128):Sm (.str x):=by
 show smB (.str x)=true
 rw [smB,Bool.and_eq_true,List.all_eq_true]
 exact ⟨decide_eq_true h,fun c hc=>decide_eq_true (h2 c hc)⟩
theorem Sm.ok {x:Str} (h:Sm (.str x)):PyData.strOk x=true:=by
 unfold PyData.strOk
 rw [Array.all_eq_true']
 intro c hc
 exact decide_eq_true (Nat.lt_trans (h.both.2 c (by simpa using hc)) (by decide))
theorem qv:∀ {ds:List PyData} {d:PyData},gf ds=true→d∈ds→smB d=true
 | e::r,d,h,hd=>by
  have h':(smB e && gf r)=true:=by simpa [gf] using h
  rw [Bool.and_eq_true] at h'
  rcases List.mem_cons.mp hd with z | z
  ·rw [z]; exact h'.1
  ·exact qv h'.2 z
theorem Sm.part {ds:List PyData} {d:PyData} (h:Sm (.tuple ds)) (hd:d∈ds):Sm d:=qv (by simpa [Sm,smB] using h) hd
theorem rA:∀ {ds:List PyData},(∀ d∈ds,Sm d)→gf ds=true
 | [],_=>by simp [gf]
 | d::r,h=>by
  have h1:smB d=true:=h d List.mem_cons_self
  simp [gf,h1,rA (ds:=r) fun x hx=>h x (List.mem_cons_of_mem _ hx)]
theorem Sm.tup {ds:List PyData} (h:∀ d∈ds,Sm d):Sm (.tuple ds):=by simp [Sm,smB,rA h]
def whole:PyData→Bool
 | .int _=>true
 | _=>false
theorem i4 (x:PyData) (T:Tp):gA [.d x] T=some (.bool (whole x),T):=by cases x <;> rfl
theorem pO (y x:Str):(D.signs x).all (mW y)=has y x:=by
 unfold D.signs has
 rw [List.all_map]
 congr 1
 funext c
 exact zC y c
theorem uF {x y:Str} (T:Tp) (h:x.length≤sizeLine):dY [.d (.str x),.d (.str y)] T=some (.bool (has y x),T):=by
 have hc:bG bB (ai inD (ae 0) (ae 2)) [some (.d (.str x)),some (.d (.str y))] (D.signs x) T=some ((D.signs x).map fun d=>.bool (mW y d),T):=gB fun d hd=>by
  obtain ⟨c,_,rfl⟩:=pN hd
  rfl
 simp [dY,h,hc,pO]
theorem zX {d:PyData} (T:Tp) (h:Sm d):gw [.d d] T=some (.bool (single d),T):=by
 cases d with
 | str x=>
  have hz:x.length≤sizeLine:=Nat.le_trans h.str (by decide)
  have hh:∀ T,dY [.d (.str x),.d (.str "abcdefghijklmnopqrstuvwxyz0123456789-")] T=some (.bool (has TXT x),T):=fun T=>uF T hz
  have e:single (.str x)=(decide (x.length≤20) && has TXT x):=rfl
  have hi:bR .str .str=true:=rfl
  by_cases hk:x.length≤20
  ·have hk':(x.length:Int)≤20:=by omega
   simp [gw,i4,whole,hh,hz,hi,e,hk,hk']
  ·have hk':¬ (x.length:Int)≤20:=by omega
   simp [gw,i4,whole,hh,hz,hi,e,hk,hk']
 | _=>rfl
theorem kM {d:PyData} (h:kd d=.tup):∃ ds,d=.tuple ds:=by cases d <;> first | exact ⟨_,rfl⟩ | cases h
theorem j8 {d:PyData} (h:kd d≠.tup):bR (kd d) .tup=false:=by
 revert h
 cases kd d <;> simp [bR]
theorem wZ {n:Nat} {d:PyData} (h:kd d≠.tup):bz n d=single d:=by cases d <;> first | (cases n <;> rfl) | exact absurd rfl h
theorem xF {n:Nat} {d:PyData} (h:kd d≠.tup):bX n d=1:=by cases d <;> first | (cases n <;> rfl) | exact absurd rfl h
theorem Ee {d:PyData} (h:tdp 0 d=true):kd d≠.tup:=by
 intro z
 cases d <;> first | cases h; done | cases z
theorem bT:bR .tup .tup=true:=rfl
theorem sL:∀ (n k:Nat) (d:PyData) (T:Tp),Sm d→n < k→cZ k [.d d,.d (.int n)] T=some (.bool (bz n d),T)
 | n,0,d,T,_,hk=>absurd hk (Nat.not_lt_zero _)
 | n,k + 1,d,T,hg,hk=>by
  by_cases ht:kd d=.tup
  ·obtain ⟨ds,rfl⟩:=kM ht
   cases n with
   | zero=>simp [cZ,bT,bz]
   | succ n=>
    have e:bz (n + 1) (.tuple ds)=(decide (ds.length≤8) && ds.all (bz n)):=rfl
    have h0:¬ ((n + 1:Nat):Int)=0:=by omega
    have h0':¬ (n:Int) + 1=0:=by omega
    by_cases h8:ds.length≤8
    ·have h8':¬ (8:Int) < (ds.length:Int):=by omega
     have hs:((n + 1:Nat):Int) - 1=(n:Int):=by omega
     have hc:bG bB (aq (cZ k) (aa (ae 0) (aa (ai dE (ae 2) (fC (.int 1))) ah))) [some (.d (.tuple ds)),some (.d (.int ((n + 1:Nat):Int)))] ds T=some (ds.map fun x=>.bool (bz n x),T):=gB fun x hx=>by
      have:=sL n k x T (hg.part hx) (by omega)
      simp [hs,this]
     simp [cZ,bT,e,h0,h0',h8,h8'] at hc ⊢
     simp [hc]
    ·have h8':(8:Int) < (ds.length:Int):=by omega
     simp [cZ,bT,e,h0,h0',h8,h8']
  ·simp [cZ,j8 ht,wZ ht,zX T hg]
theorem tS:∀ (n k:Nat) (d:PyData) (T:Tp),tdp n d=true→n < k→dZ k [.d d] T=some (.int (bX n d),T)
 | n,0,d,T,_,hk=>absurd hk (Nat.not_lt_zero _)
 | n,k + 1,d,T,hg,hk=>by
  by_cases ht:kd d=.tup
  ·cases n with
   | zero=>exact absurd ht (Ee hg)
   | succ n=>
    obtain ⟨ds,rfl⟩:=kM ht
    have hg':ds.all (tdp n)=true:=hg
    have e:bX (n + 1) (.tuple ds)=1 + (ds.map (bX n)).sum:=rfl
    have hc:bG bB (aq (dZ k) (aa (ae 0) ah)) [some (.d (.tuple ds))] ds T=some (ds.map fun x=>.int (bX n x),T):=gB fun x hx=>by
     have:=tS n k x T (List.all_eq_true.mp hg' x hx) (by omega)
     simp [this]
    simp [dZ,bT,e,hc]
  ·simp [dZ,j8 ht,xF ht]
theorem mT {d:PyData} (T:Tp) (h:Sm d):dB [.d d] T=some (.bool (bf d),T):=by
 have h1:=sL 4 25 d T h (by decide)
 have h1':cZ 25 [.d d,.d (.int 4)] T=some (.bool (bz 4 d),T):=h1
 have e:bf d=(bz 4 d && decide (bX 4 d≤40)):=rfl
 cases hb:bz 4 d with
 | false=>simp [dB,h1',e,hb]
 | true=>
  have h2:=tS 4 25 d T (K1.qi 4 d hb) (by decide)
  simp [dB,h1',h2,e,hb]
@[simp] theorem FG {a b:String}:Str.ofString a=Str.ofString b↔a=b:=by
 constructor
 ·intro h
  have h2:(Str.ofString a).cps.toList=(Str.ofString b).cps.toList:=by rw [h]
  rw [signs_ofString,signs_ofString] at h2
  have inj:Function.Injective Char.toNat:=fun x y e=>Char.ext (UInt32.toNat_inj.mp e)
  exact String.toList_inj.mp ((List.map_inj_right (fun x y e=>inj e)).mp h2)
 ·rintro rfl; rfl
theorem mz {n:Nat} (h:n≤2000):n≤sizeLine:=Nat.le_trans h (by decide)
theorem gL:bR .str .str=true:=rfl
theorem ms {α:Type} {xs:List α} {i:Int} (h0:0≤i) (h1:i≤(xs.length:Int)):bN xs (some i) none=xs.drop i.toNat:=by
 unfold bN
 have e:i=(i.toNat:Int):=by omega
 rw [HT.qz]
 rw [e,HT.rD]
 have:min i.toNat xs.length=i.toNat:=by omega
 rw [Int.toNat_natCast,this]
 exact List.take_of_length_le (by simp)
section
variable {α:Type} (ok:α→Bool) (kids:α→List α)
def cnt:Nat→α→Nat
 | 0,_=>100
 | n + 1,a=>if ok a=true then 1 + ((kids a).map (cnt n)).sum else 100
def lay:Nat→Nat→List α→Bool
 | 0,_,l=>decide (l.length=0)
 | n + 1,c,l=>if (decide (60 < c + l.length) || !l.all ok)=true then false else lay n (c + l.length) (l.flatMap kids)
theorem pJ {f:α→Nat} {k:Nat}:∀ {l:List α},(∀ a∈l,f a=k)→(l.map f).sum=l.length * k
 | [],_=>by simp
 | a::r,h=>by
  have ih:=pJ (l:=r) fun x hx=>h x (List.mem_cons_of_mem _ hx)
  simp only [List.map_cons,List.sum_cons,List.length_cons,ih,h a List.mem_cons_self,Nat.add_mul]
  omega
theorem rl {f:α→Nat}:∀ {l:List α} {a:α},a∈l→f a≤(l.map f).sum
 | b::r,a,h=>by
  simp only [List.map_cons,List.sum_cons]
  rcases List.mem_cons.mp h with e | e
  ·subst e; omega
  ·have:=rl (f:=f) e
   omega
theorem qr {f:α→Nat}:∀ (l:List α),(∀ a∈l,ok a=true)→(l.map (cnt ok kids (n + 1))).sum=l.length + ((l.flatMap kids).map (cnt ok kids n)).sum
 | [],_=>by simp
 | a::r,h=>by
  have ih:=qr (f:=f) (n:=n) r fun x hx=>h x (List.mem_cons_of_mem _ hx)
  simp only [List.map_cons,List.sum_cons,List.length_cons,ih,List.flatMap_cons,List.map_append,List.sum_append]
  rw [show cnt ok kids (n + 1) a=1 + ((kids a).map (cnt ok kids n)).sum from if_pos (h a List.mem_cons_self)]
  omega
theorem rS:∀ (n c:Nat) (l:List α),c≤60→lay ok kids n c l=decide (c + (l.map (cnt ok kids n)).sum≤60)
 | 0,c,l,hc=>by
  rw [pJ (f:=cnt ok kids 0) (k:=100) fun a _=>rfl]
  show decide (l.length=0)=_
  congr 1
  apply propext
  omega
 | n + 1,c,l,hc=>by
  show (if (decide (60 < c + l.length) || !l.all ok)=true then false else lay ok kids n (c + l.length) (l.flatMap kids))=_
  by_cases ha:∀ a∈l,ok a=true
  ·have hl:l.all ok=true:=List.all_eq_true.mpr ha
   have e:=qr (f:=fun _=>0) ok kids (n:=n) l ha
   rw [hl]
   by_cases hb:60 < c + l.length
   ·rw [decide_eq_true hb,e]
    rw [decide_eq_false (by omega)]
    rfl
   ·rw [decide_eq_false hb,e]
    show lay ok kids n (c + l.length) (l.flatMap kids)=_
    rw [rS n (c + l.length) (l.flatMap kids) (by omega)]
    congr 1
    apply propext
    omega
  ·have hl:l.all ok=false:=by
    cases hh:l.all ok with
    | false=>rfl
    | true=>exact absurd (List.all_eq_true.mp hh) ha
   rw [hl]
   have:∃ a∈l,ok a=false:=by
    rw [List.all_eq_false] at hl
    obtain ⟨a,h1,h2⟩:=hl
    exact ⟨a,h1,by simpa using h2⟩
   obtain ⟨a,h1,h2⟩:=this
   have q:=rl (f:=cnt ok kids (n + 1)) h1
   have q2:cnt ok kids (n + 1) a=100:=if_neg (by rw [h2]; exact Bool.false_ne_true)
   rw [show decide (c + (l.map (cnt ok kids (n + 1))).sum≤60)=false from decide_eq_false (by omega)]
   simp
end
def wn (w:Str):Nat:=if w=Str.ofString "many" then 1 else if w=Str.ofString "part"∨w=Str.ofString "sum"∨w=Str.ofString "join"∨w=Str.ofString "same"∨w=Str.ofString "less" then 2 else 0
abbrev WTb:List (Str×Int):=[("many",1),("part",2),("sum",2),("join",2),("same",2),("less",2)]
theorem ul (w:Str):inT WTb (.str w)=some (.bool (decide (wn w≠0))):=by
 show some (PyData.bool (WTb.any fun p=>decide (w=p.1)))=_
 congr 2
 unfold wn
 by_cases h1:w=Str.ofString "many"
 ·simp [h1]
 by_cases h2:w=Str.ofString "part"
 ·subst h2; simp [h1]
 by_cases h3:w=Str.ofString "sum"
 ·subst h3; simp [h1]
 by_cases h4:w=Str.ofString "join"
 ·subst h4; simp [h1]
 by_cases h5:w=Str.ofString "same"
 ·subst h5; simp [h1]
 by_cases h6:w=Str.ofString "less"
 ·subst h6; simp [h1]
 ·simp [h1,h2,h3,h4,h5,h6]
theorem Ea {w:Str} (h:wn w≠0):atT WTb (.str w)=some (.int (wn w)):=by
 show ((WTb.find? fun p=>decide (w=p.1)).map fun p=>PyData.int p.2)=_
 unfold wn at h ⊢
 by_cases h1:w=Str.ofString "many"
 ·simp [h1]
 by_cases h2:w=Str.ofString "part"
 ·subst h2; simp [h1,List.find?_cons]
 by_cases h3:w=Str.ofString "sum"
 ·subst h3; simp [h1,h2,List.find?_cons]
 by_cases h4:w=Str.ofString "join"
 ·subst h4; simp [h1,h2,h3,List.find?_cons]
 by_cases h5:w=Str.ofString "same"
 ·subst h5; simp [h1,h2,h3,h4,List.find?_cons]
 by_cases h6:w=Str.ofString "less"
 ·subst h6; simp [h1,h2,h3,h4,h5,List.find?_cons]
 ·simp [h1,h2,h3,h4,h5,h6] at h
def kN:PyData→Bool
 | .tuple _=>true
 | _=>false
def fA:PyData→Int
 | .tuple ds=>ds.length
 | _=>0
def jB (m:Int):PyData→Bool
 | .int i=>decide (0≤i) && decide (i < m)
 | _=>false
def fil (m:Int) (w:Str) (x:PyData):Bool:=if w=Str.ofString "put" then bf x else if w=Str.ofString "got" then jB m x else decide (w=Str.ofString "row") && (kN x && decide (fA x≤8))
def shp (m:Int):PyData→Bool
 | .tuple (.str w::x::r)=>if wn w≠0 then decide (r.length + 1=wn w) else decide (r.length=0) && fil m w x
 | _=>false
def kids:PyData→List PyData
 | .tuple (.str w::x::r)=>if w=Str.ofString "put"∨w=Str.ofString "got" then [] else if w=Str.ofString "row" then (match x with | .tuple es=>es | _=>[]) else x::r
 | _=>[]
theorem cN {α:Type} {a:α} {r:List α}:atI (a::r) 0=some a:=by simp [atI,ixN]
theorem gk {α:Type} {a b:α} {r:List α}:atI (a::b::r) 1=some b:=by
 unfold atI ixN
 rw [if_pos (by decide),if_pos (by simp only [List.length_cons]; omega)]
 rfl
theorem D6 {α:Type} {a:α} {r:List α}:bN (a::r) (some 1) none=r:=by
 rw [ms (by decide) (by simp only [List.length_cons]; omega)]
 rfl
theorem z6 {m:Int} {w:Str} {x:PyData} (T:Tp) (h:Sm x):dA [.d (.str w),.d x,.d (.int m)] T=some (.bool (fil m w x),T):=by
 unfold fil
 by_cases h1:w=Str.ofString "put"
 ·simp [dA,h1,mT T h]
 by_cases h2:w=Str.ofString "got"
 ·subst h2
  cases x with
  | int i=>
   by_cases h0:0≤i
   ·simp [dA,i4,whole,jB,h0]
   ·simp [dA,i4,whole,jB,h0]
  | _=>simp [dA,i4,whole,jB]
 ·by_cases h3:w=Str.ofString "row"
  ·subst h3
   cases x with
   | tuple ds=>
    simp [dA,kN,fA,bT]
    exact decide_eq_decide.mpr Iff.rfl
   | _=>simp [dA,kN,fA,bR]
  ·simp [dA,h1,h2,h3]
theorem Af {a b:PyData} {r:List PyData} (h:Sm (.tuple (a::b::r))):Sm b:=h.part (by simp)
theorem zY {m:Int} {d:PyData} (T:Tp) (h:Sm d):dz [.d d,.d (.int m)] T=some (.bool (shp m d),T):=by
 by_cases ht:kd d=.tup
 ·obtain ⟨ds,rfl⟩:=kM ht
  match ds,h with
  | [],h=>simp [dz,bT,shp]
  | [a],h=>simp [dz,bT,shp]
  | a::b::r,h=>
   have hl:¬ ((r.length:Int) + 1 + 1 < 2):=by omega
   by_cases hs:kd a=.str
   ·obtain ⟨w,rfl⟩:∃ w,a=.str w:=by cases a <;> first | exact ⟨_,rfl⟩ | cases hs
    have hf:=z6 (m:=m) (w:=w) T (Af h)
    by_cases hw:wn w=0
    ·have i1:=ul w
     rw [hw] at i1
     simp only [ne_eq,not_true_eq_false,decide_false] at i1
     show _=some (PyData.bool (if wn w≠0 then decide (r.length + 1=wn w) else decide (r.length=0) && fil m w b),T)
     rw [if_neg (by simp [hw])]
     by_cases hr:r.length=0
     ·have hr':(r.length:Int) + 1 + 1=2:=by omega
      simp [dz,bT,gL,cN,gk,hl,i1,hf,hr,hr']
     ·have hr':¬ ((r.length:Int) + 1 + 1=2):=by omega
      simp [dz,bT,gL,cN,gk,hl,i1,hr,hr']
    ·have i1:=ul w
     have i2:=Ea hw
     rw [decide_eq_true (show wn w≠0 from hw)] at i1
     show _=some (PyData.bool (if wn w≠0 then decide (r.length + 1=wn w) else decide (r.length=0) && fil m w b),T)
     rw [if_pos hw]
     have e:decide ((r.length:Int) + 1 + 1=1 + (wn w:Int))=decide (r.length + 1=wn w):=by
      congr 1
      apply propext
      omega
     simp [dz,bT,gL,cN,gk,hl,i1,i2,e]
   ·have hs':bR (kd a) .str=false:=by cases a <;> first | rfl | exact absurd rfl hs
    have e:shp m (.tuple (a::b::r))=false:=by cases a <;> first | rfl | exact absurd rfl hs
    simp [dz,bT,cN,hl,hs',e]
 ·have e:shp m d=false:=by cases d <;> first | rfl | exact absurd rfl ht
  simp [dz,j8 ht,e]
theorem qy {m:Int} {d:PyData} (h:shp m d=true):∃ w x r,d=.tuple (.str w::x::r)∧(if wn w≠0 then decide (r.length + 1=wn w) else decide (r.length=0) && fil m w x)=true:=by
 unfold shp at h
 split at h
 ·exact ⟨_,_,_,rfl,h⟩
 ·cases h
theorem CL (w:Str):wn w≤2:=by
 unfold wn
 split
 ·omega
 ·split <;> omega
theorem rB {m:Int} {x:PyData} {r:List PyData} (h:(if wn "row"≠0 then decide (r.length + 1=wn "row") else decide (r.length=0) && fil m "row" x)=true):∃ es,x=.tuple es∧es.length≤8∧r=[]:=by
 have w0:wn "row" = 0:=by simp [wn]
 rw [w0] at h
 simp [fil] at h
 obtain ⟨h1,h2,h3⟩:=h
 cases x with
 | tuple es=>
  refine ⟨es,rfl,?_,h1⟩
  simp [fA] at h3
  omega
 | _=>cases h2
theorem AR {w:Str} {x:PyData} {r:List PyData}:kids (.tuple (.str w::x::r))=if w=Str.ofString "put"∨w=Str.ofString "got" then [] else if w=Str.ofString "row" then (match x with | .tuple es=>es | _=>[]) else x::r:=rfl
theorem zy {m:Int} {d:PyData} (h:shp m d=true):(kids d).length≤8:=by
 obtain ⟨w,x,r,rfl,g⟩:=qy h
 rw [AR]
 split
 ·exact Nat.zero_le _
 ·split
  ·rename_i hw
   subst hw
   obtain ⟨es,rfl,he,_⟩:=rB g
   exact he
  ·have:=CL w
   split at g
   ·have:=of_decide_eq_true g
    simp only [List.length_cons]
    omega
   ·rw [Bool.and_eq_true] at g
    have:=of_decide_eq_true g.1
    simp only [List.length_cons]
    omega
theorem r8 {i:Nat} {body:FS} {d:PyData} {r:List PyData} {ρ ρ1:Rho} {T T1:Tp} (h:body (ρ.set i (some (.d d))) T=some ((.nx,ρ1),T1)):forL i body (d::r) ρ T=forL i body r ρ1 T1:=by
 conv=>lhs; unfold forL
 rw [h]
 rfl
theorem r6 {i:Nat} {body:FS} {d x:PyData} {r:List PyData} {ρ ρ1:Rho} {T T1:Tp} (h:body (ρ.set i (some (.d d))) T=some ((.rt x,ρ1),T1)):forL i body (d::r) ρ T=some ((.rt x,ρ1),T1):=by
 conv=>lhs; unfold forL
 rw [h]
 rfl
theorem AQ {d:PyData} (h:Sm d):∀ k∈kids d,Sm k:=by
 intro k hk
 unfold kids at hk
 split at hk
 ·rename_i w x r
  split at hk
  ·cases hk
  ·split at hk
   ·have hx:Sm x:=h.part (by simp)
    split at hk
    ·exact hx.part hk
    ·cases hk
   ·exact h.part (List.mem_cons_of_mem _ hk)
 ·cases hk
theorem zW {m:Int} {d:PyData} (T:Tp) (h:shp m d=true):eN [.d d] T=some (.list (kids d),T):=by
 obtain ⟨w,x,r,rfl,h⟩:=qy h
 by_cases h1:w=Str.ofString "put"
 ·subst h1
  simp [eN,cN,kids]
 by_cases h2:w=Str.ofString "got"
 ·subst h2
  simp [eN,cN,kids]
 by_cases h3:w=Str.ofString "row"
 ·subst h3
  obtain ⟨es,rfl,he,rfl⟩:=rB h
  simp [eN,cN,gk,kids]
 ·simp [eN,cN,h1,h2,h3,kids,D6]
theorem Co {i:Nat} {f:FE} {ρ:Rho} {T T1:Tp} {ys xs:List PyData} (h:f ρ T=some (.d (.list ys),T1)) (h2:ρ[i]? = some (some (.loc (.list xs)))) (h3:xs.length + ys.length≤sizeLine):jE i f ρ T=some ((.nx,ρ.set i (some (.loc (.list (xs++ys))))),T1):=by
 unfold jE
 rw [h,eC]
 simp only [h2]
 rw [if_pos h3]
abbrev ec (m:Int):Nat→PyData→Nat:=cnt (shp m) kids
theorem nL {d:PyData} (T:Tp) (h:Sm d):cR [.d d] T=some (.bool (isName d),T):=by
 cases d with
 | str x=>
  have hz:x.length≤sizeLine:=Nat.le_trans h.str (by decide)
  have hh:∀ T,dY [.d (.str x),.d (.str "abcdefghijklmnopqrstuvwxyz")] T=some (.bool (has LET x),T):=fun T=>uF T hz
  have e:isName (.str x)=(decide (1≤x.length) && decide (x.length≤8) && has LET x):=rfl
  have hi:bR .str .str=true:=rfl
  by_cases h1:1≤x.length
  ·have h1':(1:Int)≤(x.length:Int):=by omega
   by_cases h2:x.length≤8
   ·have h2':(x.length:Int)≤8:=by omega
    simp [cR,hh,hz,hi,e,h1,h1',h2,h2']
   ·have h2':¬ (x.length:Int)≤8:=by omega
    simp [cR,hh,hz,hi,e,h1,h1',h2,h2']
  ·have h1':¬ (1:Int)≤(x.length:Int):=by omega
   simp [cR,hh,hz,hi,e,h1,h1']
 | _=>rfl
def rn (w:Str):Option Nat:=if w=Str.ofString "say"∨w=Str.ofString "fail" then some 0 else if w=Str.ofString "want"∨w=Str.ofString "peek" then some 1 else if w=Str.ofString "when" then some 2 else none
abbrev RTb:List (Str×Int):=[("say",0),("fail",0),("want",1),("peek",1),("when",2)]
theorem DL (w:Str):lG RTb (.str w)=some (.bool (!(rn w).isSome)):=by
 show some (PyData.bool (!RTb.any fun p=>decide (w=p.1)))=_
 congr 2
 unfold rn
 by_cases h1:w=Str.ofString "say"
 ·simp [h1]
 by_cases h2:w=Str.ofString "fail"
 ·subst h2; simp
 by_cases h3:w=Str.ofString "want"
 ·subst h3; simp
 by_cases h4:w=Str.ofString "peek"
 ·subst h4; simp
 by_cases h5:w=Str.ofString "when"
 ·subst h5; simp
 ·simp [h1,h2,h3,h4,h5]
theorem Eb {w:Str} {n:Nat} (h:rn w=some n):atT RTb (.str w)=some (.int n):=by
 show ((RTb.find? fun p=>decide (w=p.1)).map fun p=>PyData.int p.2)=_
 unfold rn at h
 by_cases h1:w=Str.ofString "say"
 ·subst h1; simp at h; subst h; simp [List.find?_cons]
 by_cases h2:w=Str.ofString "fail"
 ·subst h2; simp at h; subst h; simp [List.find?_cons]
 by_cases h3:w=Str.ofString "want"
 ·subst h3; simp at h; subst h; simp [List.find?_cons]
 by_cases h4:w=Str.ofString "peek"
 ·subst h4; simp at h; subst h; simp [List.find?_cons]
 by_cases h5:w=Str.ofString "when"
 ·subst h5; simp at h; subst h; simp [List.find?_cons]
 ·simp [h1,h2,h3,h4,h5] at h
def asks (w:Str):Bool:=decide (w=Str.ofString "want") || decide (w=Str.ofString "peek")
def rsh:PyData→Bool
 | .tuple (.str w::x::r)=>decide (rn w=some r.length) && (!decide (w=Str.ofString "fail") || isName x)
 | _=>false
abbrev Pla:=Bool×PyData×Nat
def kw:Bool→String
 | true=>"expr"
 | false=>"recipe"
def pd:Pla→PyData
 | (b,d,g)=>.tuple [.str (Str.ofString (kw b)),d,.int (g:Int)]
def rok:Pla→Bool
 | (true,d,g)=>decide (g≤12) && shp (g:Int) d
 | (false,d,g)=>decide (g≤12) && rsh d
def more (w:Str) (g:Nat):Nat:=if asks w=true then g + 1 else g
def bv:Pla→List Pla
 | (true,d,g)=>(kids d).map fun x=>(true,x,g)
 | (false,.tuple (.str w::x::r),g)=>if w=Str.ofString "fail" then [] else (true,x,g)::r.map fun y=>(false,y,more w g)
 | (false,_,_)=>[]
theorem yJ {d:PyData} (T:Tp) (h:Sm d):cY [.d d] T=some (.bool (rsh d),T):=by
 by_cases ht:kd d=.tup
 ·obtain ⟨ds,rfl⟩:=kM ht
  match ds,h with
  | [],h=>simp [cY,bT,rsh]
  | [a],h=>simp [cY,bT,rsh]
  | a::b::r,h=>
   have hl:¬ ((r.length:Int) + 1 + 1 < 2):=by omega
   by_cases hs:kd a=.str
   ·obtain ⟨w,rfl⟩:∃ w,a=.str w:=by cases a <;> first | exact ⟨_,rfl⟩ | cases hs
    have hb:Sm b:=h.part (by simp)
    have hn:=nL T hb
    have e:rsh (.tuple (.str w::b::r))=(decide (rn w=some r.length) && (!decide (w=Str.ofString "fail") || isName b)):=rfl
    have i1:=DL w
    cases hw:rn w with
    | none=>
     rw [hw] at i1 e
     simp at i1
     rw [e]
     simp [cY,bT,gL,cN,hl,i1]
    | some n=>
     have i2:=Eb hw
     rw [hw] at i1 e
     simp at i1
     rw [e]
     by_cases hr:n=r.length
     ·subst hr
      have hne:(r.length:Int) + 1 + 1=2 + (r.length:Int):=by omega
      have hl2:¬ (2 + (r.length:Int) < 2):=by omega
      have hl3:2≤2 + (r.length:Int):=by omega
      by_cases hf:w=Str.ofString "fail"
      ·subst hf
       simp [cY,bT,gL,cN,gk,hl,i1,i2,hne,hn,hl2,hl3]
      ·simp [cY,bT,gL,cN,gk,hl,i1,i2,hne,hf,hl2,hl3]
     ·have hne:¬ ((r.length:Int) + 1 + 1=2 + (n:Int)):=by omega
      simp [cY,bT,gL,cN,gk,hl,i1,i2,hne,hr]
   ·have hs':bR (kd a) .str=false:=by cases a <;> first | rfl | exact absurd rfl hs
    have e:rsh (.tuple (a::b::r))=false:=by cases a <;> first | rfl | exact absurd rfl hs
    simp [cY,bT,cN,hl,hs',e]
 ·have e:rsh d=false:=by cases d <;> first | rfl | exact absurd rfl ht
  simp [cY,j8 ht,e]
theorem yL {p:Pla} (T:Tp) (h:Sm p.2.1):dX [.d (pd p)] T=some (.bool (rok p),T):=by
 obtain ⟨b,d,g⟩:=p
 have h':Sm d:=h
 by_cases hg:g≤12
 ·have hg':¬ (12:Int) < (g:Int):=by omega
  cases b with
  | true=>simp [dX,pd,kw,at0,at1,at2,hg',rok,hg,zY T h']
  | false=>simp [dX,pd,kw,at0,at1,at2,hg',rok,hg,yJ T h']
 ·have hg':(12:Int) < (g:Int):=by omega
  cases b <;> simp [dX,pd,at0,at1,at2,hg',rok,hg]
theorem Ew (x a b:Str):inD (.str x) (.tuple [.str a,.str b])=some (.bool (decide (x=a) || decide (x=b))):=by
 have e:inD (.str x) (.tuple [.str a,.str b])=some (.bool (decide (a=x) || (decide (b=x) || false))):=rfl
 rw [e,Bool.or_false]
 congr 2
 rw [decide_eq_decide.mpr (show a=x↔x=a from ⟨fun z=>z.symm,fun z=>z.symm⟩),decide_eq_decide.mpr (show b=x↔x=b from ⟨fun z=>z.symm,fun z=>z.symm⟩)]
theorem z7 {w:Str} {g:Nat} (T:Tp):gv [.d (.str w),.d (.int (g:Int))] T=some (.int ((more w g:Nat):Int),T):=by
 have h:gv [.d (.str w),.d (.int (g:Int))] T=if asks w=true then some (.int ((g:Int) + 1),T) else some (.int (g:Int),T):=by
  unfold asks
  by_cases h1:w=Str.ofString "want" <;> by_cases h2:w=Str.ofString "peek" <;> simp [gv,Ew,h1,h2]
 rw [h]
 unfold more
 split <;> simp
theorem D5 {α:Type} {a b:α} {r:List α}:bN (a::b::r) (some 2) none=r:=by
 rw [ms (by decide) (by simp only [List.length_cons]; omega)]
 rfl
theorem qA {d:PyData} (h:rsh d=true):∃ w x r,d=.tuple (.str w::x::r)∧rn w=some r.length∧(w=Str.ofString "fail"→isName x=true):=by
 unfold rsh at h
 split at h
 ·rename_i w x r
  rw [Bool.and_eq_true] at h
  refine ⟨w,x,r,rfl,of_decide_eq_true h.1,fun hw=>?_⟩
  have:=h.2
  rw [decide_eq_true hw] at this
  simpa using this
 ·cases h
theorem t5 {w:Str} {n:Nat} (h:rn w=some n):n≤2:=by
 unfold rn at h
 split at h
 ·cases h; omega
 ·split at h
  ·cases h; omega
  ·split at h
   ·cases h; omega
   ·cases h
theorem tZ {d:PyData} {g:Nat} (h:rok (true,d,g)=true):g≤12∧shp (g:Int) d=true:=by
 have h':(decide (g≤12) && shp (g:Int) d)=true:=h
 rw [Bool.and_eq_true] at h'
 exact ⟨of_decide_eq_true h'.1,h'.2⟩
theorem tY {d:PyData} {g:Nat} (h:rok (false,d,g)=true):g≤12∧rsh d=true:=by
 have h':(decide (g≤12) && rsh d)=true:=h
 rw [Bool.and_eq_true] at h'
 exact ⟨of_decide_eq_true h'.1,h'.2⟩
theorem z5 {p:Pla} (T:Tp) (h:rok p=true):eM [.d (pd p)] T=some (.list ((bv p).map pd),T):=by
 obtain ⟨b,d,g⟩:=p
 cases b with
 | true=>
  obtain ⟨_,hs⟩:=tZ h
  have e:=zW T hs
  have hc:bG bB (au .tuple (aa (fC (.str "expr")) (aa (ae 0) (aa (ae 3) ah)))) [some (.d (pd (true,d,g))),some (.d d),some (.d (.int (g:Int))),none] (kids d) T=some ((kids d).map fun x=>pd (true,x,g),T):=gB fun x hx=>by
   simp [pd,kw]
  have e2:(bv (true,d,g)).map pd=(kids d).map fun x=>pd (true,x,g):=by
   show ((kids d).map fun x=>(true,x,g)).map pd=_
   rw [List.map_map]
   rfl
  rw [e2]
  simp only [pd,kw] at hc ⊢
  simp [eM,at0,at1,at2,e,hc]
 | false=>
  obtain ⟨_,hs⟩:=tY h
  obtain ⟨w,x,r,rfl,hn,_⟩:=qA hs
  have hr:=t5 hn
  by_cases hf:w=Str.ofString "fail"
  ·subst hf
   simp [eM,pd,kw,at0,at1,at2,cN,bv]
  ·have e2:(bv (false,.tuple (.str w::x::r),g)).map pd=pd (true,x,g)::r.map fun y=>pd (false,y,more w g):=by
    show (if w=Str.ofString "fail" then [] else (true,x,g)::r.map fun y=>(false,y,more w g)).map pd=_
    rw [if_neg hf,List.map_cons,List.map_map]
    rfl
   have hc:bG bB (au .tuple (aa (fC (.str "recipe")) (aa (ae 0) (aa (ae 4) ah)))) [some (.d (pd (false,.tuple (.str w::x::r),g))),some (.d (.tuple (.str w::x::r))),some (.d (.int (g:Int))),some (.d (.int ((more w g:Nat):Int)))] r T=some (r.map fun y=>pd (false,y,more w g),T):=gB fun y hy=>by
    simp [pd,kw]
   rw [e2]
   simp only [pd,kw] at hc ⊢
   have hz:1 + r.length≤sizeLine:=mz (by omega)
   simp [eM,at0,at1,at2,cN,gk,hf,z7,D5,hc,hz]
theorem yb {p:Pla} (h:rok p=true):((bv p).map pd).length≤8:=by
 rw [List.length_map]
 obtain ⟨b,d,g⟩:=p
 cases b with
 | true=>
  obtain ⟨_,hs⟩:=tZ h
  have:=zy hs
  show ((kids d).map fun x=>((true,x,g):Pla)).length≤8
  rw [List.length_map]
  exact this
 | false=>
  obtain ⟨_,hs⟩:=tY h
  obtain ⟨w,x,r,rfl,hn,_⟩:=qA hs
  have hr:=t5 hn
  show (if w=Str.ofString "fail" then [] else ((true,x,g):Pla)::r.map fun y=>(false,y,more w g)).length≤8
  split
  ·simp
  ·simp only [List.length_cons,List.length_map]
   omega
theorem yS {p:Pla} (h:Sm p.2.1):∀ q∈bv p,Sm q.2.1:=by
 obtain ⟨b,d,g⟩:=p
 intro q hq
 cases b with
 | true=>
  obtain ⟨x,hx,rfl⟩:=List.mem_map.mp hq
  exact AQ h x hx
 | false=>
  unfold bv at hq
  split at hq
  ·rename_i heq
   cases heq
  ·rename_i w x r g' heq
   cases heq
   split at hq
   ·cases hq
   ·rcases List.mem_cons.mp hq with z | z
    ·rw [z]; exact Sm.part h (by simp)
    ·obtain ⟨y,hy,rfl⟩:=List.mem_map.mp z
     exact Sm.part h (by simp [hy])
  ·cases hq
theorem p9 {α:Type} {pd:α→PyData} {f:α→List PyData} {g:FnM} {T:Tp} {L:Option D.W}:∀ (l:List α) (acc:List PyData) (o:Option D.W),(∀ d∈l,g [.d (pd d)] T=some (.list (f d),T)∧(f d).length≤8)→acc.length + 8 * l.length≤2000 →
  ∃ o',forL 2 (jE 1 (aq g (aa (ae 2) ah))) (l.map pd) [L,some (.loc (.list acc)),o] T=some ((.nx,[L,some (.loc (.list (acc++l.flatMap f))),o']),T)
 | [],acc,o,_,_=>⟨o,by simp [forL]⟩
 | d::r,acc,o,h,hl=>by
  obtain ⟨h1,h2⟩:=h d List.mem_cons_self
  simp only [List.length_cons] at hl
  obtain ⟨o',ih⟩:=p9 (pd:=pd) r (acc++f d) (some (.d (pd d))) (fun x hx=>h x (List.mem_cons_of_mem _ hx)) (by rw [List.length_append]; omega)
  refine ⟨o',?_⟩
  have e:=Co (i:=1) (f:=aq g (aa (ae 2) ah)) (ρ:=[L,some (.loc (.list acc)),some (.d (pd d))]) (T:=T) (T1:=T) (ys:=f d) (xs:=acc) (by simp [h1]) rfl (mz (by omega))
  rw [List.flatMap_cons,← List.append_assoc,← ih,List.map_cons]
  exact r8 e
theorem Bl {l:List Pla} (T:Tp) (h:∀ d∈l,rok d=true) (hl:l.length≤60):gs [.d (.list (l.map pd))] T=some (.list ((l.flatMap bv).map pd),T):=by
 obtain ⟨o',e⟩:=p9 (g:=eM) (pd:=pd) (f:=fun p=>(bv p).map pd) (T:=T) (L:=some (.d (.list (l.map pd)))) l [] none (fun d hd=>⟨z5 T (h d hd),yb (h d hd)⟩) (by simp; omega)
 rw [List.nil_append] at e
 have e2:(l.flatMap fun p=>(bv p).map pd)=(l.flatMap bv).map pd:=by rw [List.map_flatMap]
 rw [e2] at e
 simp [gs,e]
def fu:FS:=(ap (ar 2 (ai aP (ae 2) (fCB aT (aa (ae 1) ah)))) (ap (fIf (cq (av (ai gtD (ae 2) (fC (.int 60)))) (bo (aX (fCB gm (aa (cf (bZ (ae 1)) bB (aq dX (aa (ae 0) ah))) ah))))) (aH (fC (.bool false))) aF) (ar 1 (aq gs (aa (ae 1) ah)))))
theorem lP {α:Type} {e:FE} {ρ:Rho} {T:Tp} {q:α→PyData} {g:α→PyData}:∀ {ds:List α},(∀ d∈ds,e (some (.d (q d))::ρ) T=some (.d (g d),T))→bG bB e ρ (ds.map q) T=some (ds.map g,T)
 | [],_=>rfl
 | d::r,h=>by
  have ih:=lP (ds:=r) fun x hx=>h x (List.mem_cons_of_mem _ hx)
  have h0:=h d List.mem_cons_self
  rw [List.map_cons,List.map_cons]
  unfold bG
  simp [h0,ih]
theorem qE {T:Tp} {d0:PyData}:∀ (ds:List PyData) (l:List Pla) (c:Nat) (o:Option D.W),c≤60→(∀ x∈l,Sm x.2.1) →
  (∃ ρ',forL 3 fu ds [some (.d d0),some (.d (.list (l.map pd))),some (.d (.int c)),o] T=some ((.rt (.bool false),ρ'),T)∧lay rok bv ds.length c l=false) ∨
  (∃ (l':List Pla) (c':Int) (o':Option D.W),forL 3 fu ds [some (.d d0),some (.d (.list (l.map pd))),some (.d (.int c)),o] T=some ((.nx,[some (.d d0),some (.d (.list (l'.map pd))),some (.d (.int c')),(o':Option D.W)]),T)∧lay rok bv ds.length c l=decide (l'.length=0))
 | [],l,c,o,_,_=>.inr ⟨l,c,o,rfl,rfl⟩
 | d::ds,l,c,o,hc,hs=>by
  have hcm:bG bB (aq dX (aa (ae 0) ah)) [some (.d d0),some (.d (.list (l.map pd))),some (.d (.int ((c:Int) + (l.length:Int)))),some (.d d)] (l.map pd) T=some (l.map fun x=>.bool (rok x),T):=lP fun x hx=>by
   simp [yL T (hs x hx)]
  by_cases hb:60 < c + l.length
  ·have hb':(60:Int) < (c:Int) + (l.length:Int):=by omega
   refine .inl ⟨[some (.d d0),some (.d (.list (l.map pd))),some (.d (.int ((c:Int) + (l.length:Int)))),some (.d d)],r6 (by simp [fu,hb']),?_⟩
   show (if (decide (60 < c + l.length) || !l.all rok)=true then false else _)=false
   rw [decide_eq_true hb]
   rfl
  ·have hb':¬ (60:Int) < (c:Int) + (l.length:Int):=by omega
   by_cases ha:l.all rok=true
   ·have ha':=List.all_eq_true.mp ha
    have e1:=Bl T ha' (by omega)
    have step:fu [some (.d d0),some (.d (.list (l.map pd))),some (.d (.int c)),some (.d d)] T=some ((.nx,[some (.d d0),some (.d (.list ((l.flatMap bv).map pd))),some (.d (.int ((c + l.length:Nat):Int))),some (.d d)]),T):=by
     generalize (l.flatMap bv).map pd=Z at e1 ⊢
     simp [fu,hb',hcm,ha,e1]
    have ih:=qE (T:=T) (d0:=d0) ds (l.flatMap bv) (c + l.length) (some (.d d)) (by omega) (fun x hx=>by
     obtain ⟨y,hy,hxy⟩:=List.mem_flatMap.mp hx
     exact yS (hs y hy) x hxy)
    have el:lay rok bv (d::ds).length c l=lay rok bv ds.length (c + l.length) (l.flatMap bv):=by
     show (if (decide (60 < c + l.length) || !l.all rok)=true then false else _)=_
     rw [decide_eq_false hb,ha]
     rfl
    rw [el,r8 step]
    exact ih
   ·have ha2:l.all rok=false:=by
     cases h:l.all rok with
     | false=>rfl
     | true=>exact absurd h ha
    refine .inl ⟨[some (.d d0),some (.d (.list (l.map pd))),some (.d (.int ((c:Int) + (l.length:Int)))),some (.d d)],r6 (by simp [fu,hb',hcm,ha2]),?_⟩
    show (if (decide (60 < c + l.length) || !l.all rok)=true then false else _)=false
    rw [ha2]
    simp
abbrev rc:Nat→Pla→Nat:=cnt rok bv
theorem oZ {d:PyData} (T:Tp) (h:Sm d):dM [.d d] T=some (.bool (decide (rc 20 (false,d,0)≤60)),T):=by
 have key:=qE (T:=T) (d0:=d) (bK 0 20) [(false,d,0)] 0 none (by decide) (fun x hx=>by rw [List.mem_singleton.mp hx]; exact h)
 have r20:eF 20=true:=by decide
 have e:=rS rok bv 20 0 [(false,d,0)] (by decide)
 simp only [List.map_cons,List.map_nil,List.sum_cons,List.sum_nil,Nat.zero_add,Nat.add_zero] at e
 have en:(bK 0 20).length=20:=iP 20
 rw [en,e] at key
 have hm:dM=aV 4 (ap (ar 1 (au .list (aa (au .tuple (aa (fC (.str "recipe")) (aa (ae 0) (aa (fC (.int 0)) ah)))) ah))) (ap (ar 2 (fC (.int 0))) (ap (dH 3 (di (fC (.int 20))) fu) (aH (ai eqD (fCB aT (aa (ae 1) ah)) (fC (.int 0))))))):=rfl
 rcases key with ⟨ρ',k1,k2⟩ | ⟨l',c',o',k1,k2⟩
 ·have k1':forL 3 fu (bK 0 20) [some (.d d),some (.d (.list [.tuple [.str "recipe",d,.int 0]])),some (.d (.int 0)),none] T=_:=k1
  rw [hm]
  simp [r20,k1']
  simpa using k2
 ·have k1':forL 3 fu (bK 0 20) [some (.d d),some (.d (.list [.tuple [.str "recipe",d,.int 0]])),some (.d (.int 0)),none] T=_:=k1
  rw [hm,k2]
  simp [r20,k1']
end G
namespace D
open PySem PySem.Spec PyProof.Rows L2
def cd (x:Str):List Nat:=x.cps.toList
theorem nJ (x:Str):(cd x).length=x.length:=Array.length_toList
theorem pT {α:Type} (xs:List α) (a:Nat):∀ k:Nat,(List.range k).filterMap (fun m=>xs[a + m]?)=(xs.drop a).take k
 | 0=>by simp
 | k + 1=>by
  rw [List.range_succ,List.filterMap_append,pT xs a k,List.take_add_one]
  congr 1
  simp only [List.filterMap_cons,List.filterMap_nil,List.getElem?_drop]
  cases xs[a + k]? <;> rfl
theorem qw {x:Str} {i j:Int} (h0:0≤i) (h1:0≤j):cd (Txt.slice x (some i) (some j))=((cd x).drop i.toNat).take (j.toNat - i.toNat):=by
 have hl:x.cps.toList.length=x.length:=Array.length_toList
 have e:Builtin.Str.strSliceIndices (some i) (some j) 1 x.length=(List.range ((min j.toNat x.length) - (min i.toNat x.length))).map fun k=>min i.toNat x.length + k:=by
  unfold Builtin.Str.strSliceIndices sliceRange
  simp only [show (1:Int) > 0 by decide,if_true,show ¬ i < 0 by omega,show ¬ j < 0 by omega,if_false]
  have ea:max 0 (min i (x.length:Int))=((min i.toNat x.length:Nat):Int):=by omega
  have eb:max 0 (min j (x.length:Int))=((min j.toNat x.length:Nat):Int):=by omega
  rw [ea,eb]
  have ec:(if ((min i.toNat x.length:Nat):Int) < ((min j.toNat x.length:Nat):Int) then (((min j.toNat x.length:Nat):Int) - ((min i.toNat x.length:Nat):Int) + 1 - 1) / 1 else 0).toNat=(min j.toNat x.length) - (min i.toNat x.length):=by
   split
   ·rw [Int.ediv_one]; omega
   ·omega
  rw [ec]
  refine List.map_congr_left fun k _=>?_
  omega
 have pk:(Builtin.Str.strSliceIndices (some i) (some j) 1 x.length).filterMap (x.cps[·]?)=(x.cps.toList.drop (min i.toNat x.length)).take ((min j.toNat x.length) - (min i.toNat x.length)):=by
  rw [e,List.filterMap_map,← pT]
  congr 1
  funext m
  simp
 have fin:(x.cps.toList.drop (min i.toNat x.length)).take ((min j.toNat x.length) - (min i.toNat x.length))=((cd x).drop i.toNat).take (j.toNat - i.toNat):=by
  unfold cd
  by_cases hi:i.toNat≤x.length
  ·have e1:min i.toNat x.length=i.toNat:=by omega
   rw [e1]
   by_cases hj:j.toNat≤x.length
   ·have e2:min j.toNat x.length=j.toNat:=by omega
    rw [e2]
   ·have e2:min j.toNat x.length=x.length:=by omega
    rw [e2,List.take_of_length_le (by rw [List.length_drop,hl]; omega),List.take_of_length_le (by rw [List.length_drop,hl]; omega)]
  ·have e1:min i.toNat x.length=x.length:=by omega
   rw [e1,List.drop_eq_nil_of_le (by omega),List.drop_eq_nil_of_le (by omega)]
   simp
 unfold Txt.slice
 split
 ·rename_i h
  have h':(Builtin.Str.strSliceIndices (some i) (some j) 1 x.length).length=x.length:=by simpa using h
  rw [e,List.length_map,List.length_range] at h'
  rw [← fin]
  show x.cps.toList=_
  by_cases hz:x.length=0
  ·have:x.cps.toList=[]:=List.length_eq_zero_iff.mp (by omega)
   rw [this]; simp
  ·have e1:min i.toNat x.length=0:=by omega
   have e2:min j.toNat x.length=x.length:=by omega
   rw [e1,e2,List.drop_zero,Nat.sub_zero,List.take_of_length_le (by omega)]
 ·rw [← fin,← pk]
  rfl
end D
namespace G
open PySem PySem.Spec PyProof.Rows L2 D
def nm (l:List Str):List PyData:=l.map PyData.str
theorem cC (l:List Str):(nm l).length=l.length:=by simp [nm]
theorem nY (w:Str) (xs:List Str):inD (.str w) (.list (nm xs))=some (.bool (decide (w∈xs))):=by
 have h:(xs.map PyData.str).all bY=true:=by simp [bY]
 show (if bY (.str w) && (xs.map PyData.str).all bY then some ((xs.map PyData.str).any fun y=>eqF y (.str w)) else none).map PyData.bool=_
 rw [h]
 simp [bY,eqF,List.any_map]
 induction xs with
 | nil=>simp
 | cons a r ih=>
  have ih':=ih (by simp [bY])
  simp only [List.any_cons,ih',List.mem_cons,Function.comp,eqF]
  by_cases e:w=a
  ·subst e; simp
  ·have e':¬ a=w:=fun z=>e z.symm
   simp [e,e']
theorem B1 (w:Str) (xs:List Str):eB (.str w) (.list (nm xs))=some (.bool (!decide (w∈xs))):=by
 have h:=nY w xs
 unfold inD at h
 unfold eB
 cases hb:inS (.str w) (.list (nm xs)) with
 | none=>rw [hb] at h; cases h
 | some b=>
  rw [hb] at h
  simp at h
  simp [h]
theorem lw {l:List Str} {i:Int} (h0:0≤i) (h1:i < (l.length:Int)):∃ x,atI (nm l) i=some (.str x)∧x∈l:=by
 obtain ⟨d,e,hm⟩:=kS (xs:=nm l) h0 (by rw [cC]; exact h1)
 obtain ⟨x,hx,rfl⟩:=List.mem_map.mp hm
 exact ⟨x,e,hx⟩
def sfC (c:Nat):Bool:=decide (c∈K1.LET.cps.toList)
def Sf (x:Str):Prop:=∀ c∈x.cps.toList,sfC c=true
theorem nP {x:Str} (h:(x.cps.toList.all sfC)=true):Sf x:=fun c hc=>List.all_eq_true.mp h c hc
theorem Sf.app {x y:Str} (h:Sf x) (g:Sf y):Sf (x++y):=fun c hc=>by
 rw [PySem.Str.cps_append,Array.toList_append] at hc
 rcases List.mem_append.mp hc with z | z
 ·exact h c z
 ·exact g c z
def Nx (n:Nat) (x:Str):Prop:=x.length≤n∧Sf x∧1≤x.length
theorem Nx.mono {n m:Nat} {x:Str} (h:Nx n x) (l:n≤m):Nx m x:=⟨Nat.le_trans h.1 l,h.2⟩
def Ns (l:List Str):Prop:=∀ x∈l,Nx 8 x
def LT:Str:=Str.ofString "abcdefghijklmnopqrstuvwxyz"
def LTs:List Str:=LT.cps.toList.map fun c=>(⟨#[c]⟩:Str)
theorem B7:LTs.Nodup:=by decide +kernel
theorem AL:LTs.length=26:=by decide +kernel
theorem rQ {x:Str} (h:x∈LTs):x.length=1:=by
 obtain ⟨c,_,rfl⟩:=List.mem_map.mp h
 rfl
theorem nc {x:Str} (h:x∈LTs):Nx 1 x:=by
 have:(LTs.all fun x=>x.cps.toList.all sfC)=true:=by decide +kernel
 exact ⟨by rw [rQ h]; exact Nat.le_refl 1,nP (List.all_eq_true.mp this x h),by rw [rQ h]; exact Nat.le_refl 1⟩
theorem mj:D.signs LT=nm LTs:=by
 unfold D.signs nm LTs
 rw [List.map_map]
 rfl
theorem tj:LT.length=26:=by decide +kernel
theorem ug {i:Int} (h0:0≤i) (h1:i < 26):∃ x∈LTs,ixD (.str LT) (.int i)=some (.str x):=by
 have hl:LT.cps.toList.length=26:=by decide +kernel
 obtain ⟨c,e,hm⟩:=kS (xs:=LT.cps.toList) h0 (by rw [hl]; exact h1)
 refine ⟨⟨#[c]⟩,List.mem_map.mpr ⟨c,hm,rfl⟩,?_⟩
 rw [Ck,if_pos (by rw [tj,sz]; decide),e]
 rfl
theorem m9 {α:Type} [DecidableEq α]:∀ {L N:List α},L.Nodup→N.length < L.length→∃ x∈L,x∉N
 | [],N,_,h=>absurd h (by simp)
 | a::L,N,nd,h=>by
  rw [List.nodup_cons] at nd
  by_cases ha:a∈N
  ·have hp:(N.erase a).length < L.length:=by
    have h1:=List.length_erase_of_mem ha
    have h2:0 < N.length:=List.length_pos_of_mem ha
    rw [List.length_cons] at h
    omega
   obtain ⟨x,hx,nx⟩:=m9 nd.2 hp
   refine ⟨x,List.mem_cons_of_mem _ hx,fun z=>nx ?_⟩
   exact (List.mem_erase_of_ne (fun (q:x=a)=>nd.1 (q ▸ hx))).mpr z
  ·exact ⟨a,List.mem_cons_self,ha⟩
theorem wV {l:List Str} (h:l.length < 26) (ρ:Rho) (T:Tp) (hv:∀ d,ae 5 (some (.d d)::ρ) T=some (.loc (.list (nm l)),T)) :
  ∃ x ys,(x∈LTs∧x∉l)∧bG (av (ai eB (ae 0) (ae 5))) (ae 0) ρ (D.signs LT) T=some (.str x::ys,T):=by
 have c:bG (av (ai eB (ae 0) (ae 5))) (ae 0) ρ (D.signs LT) T=some ((D.signs LT).filter (fun d=>match d with | .str x=>!decide (x∈l) | _=>false),T):=oQ fun d hd=>by
  rw [mj] at hd
  obtain ⟨x,hx,rfl⟩:=List.mem_map.mp hd
  have:op2 eB T (.d (.str x)) (.loc (.list (nm l)))=mkD T (eB (.str x) (.list (nm l))):=rfl
  simp [hv,this,B1]
 rw [c]
 obtain ⟨x,hx,nx⟩:=m9 (N:=l) B7 (by rw [AL]; exact h)
 have hm:PyData.str x∈(D.signs LT).filter (fun d=>match d with | .str x=>!decide (x∈l) | _=>false):=by
  rw [List.mem_filter,mj]
  exact ⟨List.mem_map.mpr ⟨x,hx,rfl⟩,by simp [nx]⟩
 cases hf:(D.signs LT).filter (fun d=>match d with | .str x=>!decide (x∈l) | _=>false) with
 | nil=>rw [hf] at hm; cases hm
 | cons d r=>
  have hd:d∈(D.signs LT).filter (fun d=>match d with | .str x=>!decide (x∈l) | _=>false):=by rw [hf]; exact List.mem_cons_self
  rw [List.mem_filter,mj] at hd
  obtain ⟨y,hy,rfl⟩:=List.mem_map.mp hd.1
  exact ⟨y,r,⟨hy,by simpa using hd.2⟩,rfl⟩
theorem yP (z:Str) (n:Nat):(Txt.slice z none (some (n:Int))).length≤n:=by
 have e:Builtin.Str.strSliceIndices none (some (n:Int)) 1 z.length=Builtin.Str.strSliceIndices (some 0) (some (n:Int)) 1 z.length:=by
  have hm:max 0 (min (0:Int) (z.length:Int))=0:=by omega
  unfold Builtin.Str.strSliceIndices sliceRange
  simp [hm]
 have e2:Txt.slice z none (some (n:Int))=Txt.slice z (some 0) (some (n:Int)):=by
  unfold Txt.slice
  rw [e]
 rw [e2,← nJ,qw (by omega) (by omega),List.length_take]
 omega
theorem yR {z:Str} (h:1≤z.length):1≤(Txt.slice z none (some (8:Int))).length:=by
 have e:Builtin.Str.strSliceIndices none (some (8:Int)) 1 z.length=Builtin.Str.strSliceIndices (some 0) (some (8:Int)) 1 z.length:=by
  have hm:max 0 (min (0:Int) (z.length:Int))=0:=by omega
  unfold Builtin.Str.strSliceIndices sliceRange
  simp [hm]
 have e2:Txt.slice z none (some (8:Int))=Txt.slice z (some 0) (some (8:Int)):=by
  unfold Txt.slice
  rw [e]
 rw [e2,← nJ,qw (by omega) (by omega),List.length_take,List.length_drop,nJ]
 show 1≤min ((8:Int).toNat - (0:Int).toNat) _
 simp
 omega
theorem AJ (x:Str):x.length≤(Txt.mul x 4).length:=by
 unfold Txt.mul
 by_cases h:x.length=0
 ·simp [h]
 ·have h2:¬ ((4:Int) == 1 || x.length == 0)=true:=by simp [h]
  rw [if_neg (by decide),if_neg h2]
  show _≤((List.replicate 4 x.cps).foldl (·++·) #[]).size
  have e:x.length=x.cps.size:=rfl
  rw [e]
  simp [List.replicate]
theorem zr (x:Str):(Txt.mul x 4).length≤4 * x.length:=by
 unfold Txt.mul
 by_cases h:x.length=0
 ·simp [h]
 ·have h2:¬ ((4:Int) == 1 || x.length == 0)=true:=by simp [h]
  rw [if_neg (by decide),if_neg h2]
  show ((List.replicate 4 x.cps).foldl (·++·) #[]).size≤_
  have e:x.length=x.cps.size:=rfl
  rw [e]
  simp [List.replicate]
  omega
theorem AI {x:Str} (h:Sf x):Sf (Txt.mul x 4):=by
 unfold Txt.mul
 by_cases h0:x.length=0
 ·simp [h0]; exact h
 ·have h2:¬ ((4:Int) == 1 || x.length == 0)=true:=by simp [h0]
  rw [if_neg (by decide),if_neg h2]
  intro c hc
  have hc':c∈((List.replicate 4 x.cps).foldl (·++·) #[]).toList:=hc
  simp [List.replicate] at hc'
  exact h c (by simpa using hc')
theorem yQ {x:Str} {l u:Option Int} (h:Sf x):Sf (Txt.slice x l u):=fun c hc=>h c (x9 hc)
def WD:List Str:=["made","told","say","want","fails","got","put","lacks"]
theorem Bo {x:Str} (h:x∈WD):Nx 8 x:=by
 have h1:(WD.all fun x=>decide (x.length≤8))=true:=by decide +kernel
 have h2:(WD.all fun x=>x.cps.toList.all sfC)=true:=by decide +kernel
 have h3:(WD.all fun x=>decide (1≤x.length))=true:=by decide +kernel
 exact ⟨of_decide_eq_true (List.all_eq_true.mp h1 x h),nP (List.all_eq_true.mp h2 x h),of_decide_eq_true (List.all_eq_true.mp h3 x h)⟩
theorem br {a b:FS} {ρ ρ1:Rho} {T T1:Tp} (h:a ρ T=some ((.nx,ρ1),T1)):ap a b ρ T=b ρ1 T1:=by
 rw [Cj,h]
 rfl
def ρN (m:PyData) (l:List Str) (o5:Option W) (w:Int) (x:Str):Rho:=[some (.tp 0),some (.d m),some (.d (.list (nm WD))),some (.d (.str LT)),some (.loc (.list (nm l))),o5,some (.d (.int w)),some (.d (.str x))]
section
variable {m:PyData} {l:List Str} {o5:Option W} {w:Int} {x:Str} {xs:List PyData}
theorem B4 (hf:Fr xs) (hx:Nx 1 x):∃ x' xs',fIf (av (ai eqD (ae 6) (fC (.int 0)))) (ar 7 (ai ixD (ae 2) (aq aB (aa (ae 0) (aa (fC (.int 8)) ah))))) aF (ρN m l o5 w x) [xs]=some ((.nx,ρN m l o5 w x'),[xs'])∧Nx 8 x'∧(w≠0→x'=x)∧Fr xs':=by
 by_cases hw:w=0
 ·obtain ⟨r,xs',e,h',r0,r1⟩:=bc hf (m:=8) (by decide) (by decide)
  obtain ⟨y,ey,my⟩:=lw (l:=WD) r0 (by simpa [WD] using r1)
  refine ⟨y,xs',?_,Bo my,fun z=>absurd hw z,h'⟩
  simp [ρN,hw,e,ey]
 ·exact ⟨x,xs,by simp [ρN,hw],hx.mono (by decide),fun _=>rfl,hf⟩
theorem Bf {l:List Str} (h:0 < l.length):∃ y∈l,atI (nm l) (-1)=some (.str y):=by
 unfold atI ixN
 rw [cC,if_neg (by omega),if_pos (by omega)]
 have hl:(-1 + (l.length:Int)).toNat < l.length:=by omega
 exact ⟨l[(-1 + (l.length:Int)).toNat],List.getElem_mem hl,by simp [nm,hl]⟩
theorem Di {o:PyData→PyData→Option PyData} {ys:List PyData} {T:Tp} {y:PyData}:op2 o T (.loc (.list ys)) (.d y)=mkD T (o (.list ys) y):=rfl
theorem ud {o:PyData→PyData→Option PyData} {ys:List PyData} {T:Tp} {y:PyData}:op2 o T (.d y) (.loc (.list ys))=mkD T (o y (.list ys)):=rfl
theorem B5 (hl:Ns l) (hx:Nx 8 x):∃ x',fIf (bp (av (ai eqD (ae 6) (fC (.int 1)))) (av (ai gtD (fCB aT (aa (ae 4) ah)) (fC (.int 0))))) (ar 7 (fSl (ai aP (ai ixD (ae 4) (fUn fz (fC (.int 1)))) (ae 7)) cX (fP (fC (.int 8))))) aF (ρN m l o5 w x) [xs]=some ((.nx,ρN m l o5 w x'),[xs])∧Nx 8 x'∧(w≠1→x'=x):=by
 by_cases hw:w=1
 ·by_cases h0:0 < l.length
  ·obtain ⟨y,my,ey⟩:=Bf h0
   have hy:=hl y my
   have z:y.length + x.length≤sizeLine:=by have:=hy.1; have:=hx.1; rw [sz]; omega
   have z2:(y++x).length≤sizeLine:=by rw [len_app]; exact z
   refine ⟨Txt.slice (y++x) none (some 8),?_,⟨yP (y++x) 8,yQ (hy.2.1.app hx.2.1),yR (by rw [len_app]; have:=hx.2.2; omega)⟩,fun z=>absurd hw z⟩
   simp [ρN,hw,cC,h0,Di,ey,z,z2]
  ·have h1:l=[]:=List.eq_nil_of_length_eq_zero (by omega)
   exact ⟨x,by simp [ρN,hw,h1,nm],hx,fun z=>absurd hw z⟩
 ·exact ⟨x,by simp [ρN,hw],hx,fun _=>rfl⟩
theorem Du (hf:Fr xs) (hx:Nx 8 x) (h2:w=2→x.length≤1):∃ x' xs',fIf (av (ai eqD (ae 6) (fC (.int 2)))) (ar 7 (ai dG (ai aP (ae 7) (ai ixD (ae 3) (aq aB (aa (ae 0) (aa (fC (.int 26)) ah))))) (fC (.int 4)))) aF (ρN m l o5 w x) [xs]=some ((.nx,ρN m l o5 w x'),[xs'])∧Nx 8 x'∧Fr xs':=by
 by_cases hw:w=2
 ·obtain ⟨r,xs',e,h',r0,r1⟩:=bc hf (m:=26) (by decide) (by decide)
  obtain ⟨y,my,ey⟩:=ug r0 r1
  have hy:=nc my
  have hy1:=hy.1
  have hx1:=hx.1
  have z:x.length + y.length≤sizeLine:=by rw [sz]; omega
  have z2:(x++y).length≤1000:=by rw [len_app]; omega
  have z3:=zr (x++y)
  rw [len_app] at z3
  have h2':=h2 hw
  have z4:=AJ (x++y)
  rw [len_app] at z4
  have hx3:=hx.2.2
  refine ⟨Txt.mul (x++y) 4,xs',?_,⟨by omega,AI (hx.2.1.app hy.2.1),by omega⟩,h'⟩
  simp only [ρN,hw,DU,Ci,nE,mL,mK,mJ,mI,sg,sf,se,A0,eC,mN,u5,nv,Cp,nB,A1,Cm,decide_true,if_true,nu,si,mM,mq,nA,e,ey,A4,z,A2,z2,sh]
  rfl
 ·exact ⟨x,xs,by simp [ρN,hw],hx.mono (by decide),hf⟩
theorem Dw (h26:l.length < 26) (hx:Nx 8 x):∃ x',fIf (av (ai inD (ae 7) (ae 4))) (ar 7 (ai ixD (cf (bZ (ae 3)) (av (ai eB (ae 0) (ae 5))) (ae 0)) (fC (.int 0)))) aF (ρN m l o5 w x) [xs]=some ((.nx,ρN m l o5 w x'),[xs])∧Nx 8 x'∧x'∉l:=by
 by_cases hi:x∈l
 ·obtain ⟨y,ys,⟨my,ny⟩,c⟩:=wV h26 (ρN m l o5 w x) [xs] (fun d=>rfl)
  have hy:=nc my
  refine ⟨y,?_,hy.mono (by decide),ny⟩
  have z:LT.length≤sizeLine:=by rw [tj,sz]; decide
  have a0:atI (PyData.str y::ys) 0=some (.str y):=by simp [atI,ixN]
  unfold ρN at c
  simp [ρN,ud,nY,hi,z,c,a0]
 ·exact ⟨x,by simp [ρN,ud,nY,hi],hx,hi⟩
theorem Dv (hf:Fr xs) (h6:l.length≤20) (nd:l.Nodup) (nx:x∉l):∃ l' xs',jD 4 (aq aB (aa (ae 0) (aa (ai aP (fCB aT (aa (ae 4) ah)) (fC (.int 1))) ah))) (ae 7) (ρN m l o5 w x) [xs]=some ((.nx,ρN m l' o5 w x),[xs'])∧Fr xs'∧l'.length=l.length + 1∧l'.Nodup∧∀ y∈l',y=x∨y∈l:=by
 obtain ⟨r,xs',e,h',r0,r1⟩:=bc hf (m:=(l.length:Int) + 1) (by omega) (by omega)
 refine ⟨l.take r.toNat++x::l.drop r.toNat,xs',?_,h',by simp; omega,?_,fun y hy=>?_⟩
 ·have h3:0≤r∧r≤((nm l).length:Int)∧(nm l).length≤1000:=⟨r0,by rw [cC]; omega,by rw [cC]; omega⟩
  have k:jA 4 (ρN m l o5 w x) (.d (.int r)) (.d (.str x)) [xs'] (some (some (.loc (.list (nm l)))))=some ((.nx,(ρN m l o5 w x).set 4 (some (.loc (.list ((nm l).take r.toNat++.str x::(nm l).drop r.toNat))))),[xs']):=by
   unfold jA
   dsimp only
   rw [if_pos h3]
  unfold jD
  have e1:aq aB (aa (ae 0) (aa (ai aP (fCB aT (aa (ae 4) ah)) (fC (.int 1))) ah)) (ρN m l o5 w x) [xs]=some (.d (.int r),[xs']):=by
   simp [ρN,cC,e]
  have e2:ae 7 (ρN m l o5 w x) [xs']=some (.d (.str x),[xs']):=rfl
  rw [e1]
  dsimp only [eC]
  rw [e2]
  refine Eq.trans k ?_
  simp [ρN,nm]
 ·have e:(x::(l.take r.toNat++l.drop r.toNat)).Nodup:=by
   rw [List.take_append_drop]
   exact List.nodup_cons.mpr ⟨nx,nd⟩
  exact List.perm_middle.symm.nodup e
 ·rcases List.mem_append.mp hy with q | q
  ·exact .inr (List.mem_of_mem_take q)
  ·rcases List.mem_cons.mp q with q | q
   ·exact .inl q
   ·exact .inr (List.mem_of_mem_drop q)
end
theorem Bj {xs:List PyData} (hf:Fr xs) {m:Int} (h0:0≤m) (h1:m≤20):∃ l xs',fM [.tp 0,.d (.int m)] [xs]=some (.list (nm l),[xs'])∧Ns l∧l.Nodup∧(l.length:Int)=m:=by
 have lp:=mG (i:=5) (body:=lQ) (N:=20) (I:=fun k ρ T=>∃ l xs o5 o6 o7,ρ=[some (.tp 0),some (.d (.int m)),some (.d (.list (nm WD))),some (.d (.str LT)),some (.loc (.list (nm l))),o5,o6,o7]∧T=[xs]∧Fr xs∧Ns l∧l.length=k∧l.Nodup)
  (bK 0 m.toNat) 0 [some (.tp 0),some (.d (.int m)),some (.d (.list (nm WD))),some (.d (.str LT)),some (.loc (.list (nm []))),none,none,none] [xs] (by rw [iP]; omega) ⟨[],xs,none,none,none,rfl,rfl,hf,(fun _ z=>nomatch z),rfl,by simp⟩ (fun k d ρ T hd hk hI=>by
   obtain ⟨l,xs,o5,o6,o7,rfl,rfl,hf,hn,hl,hnd⟩:=hI
   obtain ⟨w,x1,e1,f1,_,_⟩:=bc hf (m:=5) (by decide) (by decide)
   obtain ⟨r,x2,e2,f2,r0,r1⟩:=bc f1 (m:=26) (by decide) (by decide)
   obtain ⟨y,my,ey⟩:=ug r0 r1
   have hy:=nc my
   obtain ⟨y3,x3,e3,h3,u3,f3⟩:=B4 (m:=.int m) (l:=l) (o5:=some (.d d)) (w:=w) f2 hy
   obtain ⟨y4,e4,h4,u4⟩:=B5 (m:=.int m) (o5:=some (.d d)) (w:=w) (xs:=x3) hn h3
   obtain ⟨y5,x5,e5,h5,f5⟩:=Du (m:=.int m) (l:=l) (o5:=some (.d d)) (w:=w) f3 h4 (fun z=>by rw [u4 (by omega),u3 (by omega)]; exact hy.1)
   obtain ⟨y6,e6,h6,n6⟩:=Dw (m:=.int m) (o5:=some (.d d)) (w:=w) (xs:=x5) (show l.length < 26 by omega) h5
   obtain ⟨l',x7,e7,f7,h7,d7,m7⟩:=Dv (m:=.int m) (l:=l) (o5:=some (.d d)) (w:=w) (x:=y6) f5 (by omega) hnd n6
   refine ⟨ρN (.int m) l' (some (.d d)) w y6,[x7],?_,⟨l',x7,_,_,_,rfl,rfl,f7,fun y hy=>?_,by omega,d7⟩⟩
   ·unfold lQ
    have s1:ar 6 (aq aB (aa (ae 0) (aa (fC (.int 5)) ah))) (List.set [some (.tp 0),some (.d (.int m)),some (.d (.list (nm WD))),some (.d (.str LT)),some (.loc (.list (nm l))),o5,o6,o7] 5 (some (.d d))) [xs]=some ((.nx,[some (.tp 0),some (.d (.int m)),some (.d (.list (nm WD))),some (.d (.str LT)),some (.loc (.list (nm l))),some (.d d),some (.d (.int w)),o7]),[x1]):=by
     simp [e1]
    have s2:ar 7 (ai ixD (ae 3) (aq aB (aa (ae 0) (aa (fC (.int 26)) ah)))) [some (.tp 0),some (.d (.int m)),some (.d (.list (nm WD))),some (.d (.str LT)),some (.loc (.list (nm l))),some (.d d),some (.d (.int w)),o7] [x1]=some ((.nx,ρN (.int m) l (some (.d d)) w y),[x2]):=by
     simp only [nu,nE,mL,mK,mJ,mI,eC,mN,si,mM,mq,nA,u5,e2,nv,ey,nB,sh]
     rfl
    rw [br s1,br s2,br e3,br e4,br e5,br e6,e7]
   ·rcases m7 y hy with rfl | q
    ·exact h6
    ·exact hn y q)
 obtain ⟨ρ',T',e,l,xs',o5,o6,o7,rfl,rfl,_,hn,hl,hnd⟩:=lp
 rw [iP] at hl
 refine ⟨l,xs',?_,hn,hnd,by omega⟩
 have ro:eF m=true:=rng_ok h0 (by omega)
 have wd:(PyData.list [.str "made",.str "told",.str "say",.str "want",.str "fails",.str "got",.str "put",.str "lacks"])=.list (nm WD):=rfl
 have lt:Str.ofString "abcdefghijklmnopqrstuvwxyz" = LT:=rfl
 have n0:([]:List PyData)=nm []:=rfl
 rw [xG]
 simp [wd,lt,ro]
 rw [n0,e]
 simp
theorem Nx.name {x:Str} (h:Nx 8 x):K1.isName (.str x)=true:=by
 have h3:K1.has K1.LET x=true:=List.all_eq_true.mpr fun c hc=>h.2.1 c hc
 show (decide (1≤x.length) && decide (x.length≤8) && K1.has K1.LET x)=true
 rw [h3,decide_eq_true h.1,decide_eq_true h.2.2]
 rfl
open K1 (isName bf single bz bX)
def MN:List PyData:=[.int 0,.int 1,.str "",.tuple [],.int 2,.str "a",.tuple [.int 0],.tuple [.int 1,.str ""],.int (-7),.int 1000000000000000000,.str "x-0",.tuple [.tuple [],.tuple [.str "b",.int 3]],.tuple [.int 0,.int 1,.int 2],.int (1 - 1000000000000000000)]
theorem Dx {v:PyData} (h:v∈MN):bf v=true:=by
 have:(MN.all bf)=true:=by decide +kernel
 exact List.all_eq_true.mp this v h
theorem AW {i:Int} (h0:0≤i) (h1:i≤1000000000000000000):bf (.int i)=true:=by
 show (single (.int i) && decide ((1:Int)≤40))=true
 have:single (.int i)=true:=decide_eq_true (by rw [if_neg (by omega)]; exact h1)
 rw [this]
 rfl
theorem Nx.val {x:Str} (h:Nx 8 x):bf (.str x)=true:=by
 have sub:∀ c∈K1.LET.cps.toList,c∈K1.TXT.cps.toList:=by decide +kernel
 have h3:K1.has K1.TXT x=true:=List.all_eq_true.mpr fun c hc=>decide_eq_true (sub c (of_decide_eq_true (h.2.1 c hc)))
 show ((decide (x.length≤20) && K1.has K1.TXT x) && decide ((1:Int)≤40))=true
 rw [h3,decide_eq_true (by have:=h.1; omega)]
 rfl
theorem kU {xs:List PyData} (hf:Fr xs) {l:List Str} (hn:Ns l) (h0:0 < l.length) (h1:l.length≤20):∃ v xs',cP [.tp 0,.d (.list (nm l))] [xs]=some (v,[xs'])∧bf v=true∧Fr xs':=by
 have mn:(PyData.list [.int 0,.int 1,.str "",.tuple [],.int 2,.str "a",.tuple [.int 0],.tuple [.int 1,.str ""],.int (-7),.int 1000000000000000000,.str "x-0",.tuple [.tuple [],.tuple [.str "b",.int 3]],.tuple [.int 0,.int 1,.int 2],.int (1 - 1000000000000000000)])=.list MN:=rfl
 obtain ⟨k,x1,e1,f1,k0,k1⟩:=bc hf (m:=18) (by decide) (by decide)
 have s1:ar 2 (au .list (aa (fC (.int 0)) (aa (fC (.int 1)) (aa (fC (.str "")) (aa (au .tuple ah) (aa (fC (.int 2)) (aa (fC (.str "a")) (aa (au .tuple (aa (fC (.int 0)) ah)) (aa (au .tuple (aa (fC (.int 1)) (aa (fC (.str "")) ah))) (aa (fUn fz (fC (.int 7))) (aa (ai dF (fC (.int 10)) (fC (.int 18))) (aa (fC (.str "x-0")) (aa (au .tuple (aa (au .tuple ah) (aa (au .tuple (aa (fC (.str "b")) (aa (fC (.int 3)) ah))) ah))) (aa (au .tuple (aa (fC (.int 0)) (aa (fC (.int 1)) (aa (fC (.int 2)) ah)))) (aa (ai dE (fC (.int 1)) (ai dF (fC (.int 10)) (fC (.int 18)))) ah))))))))))))))) [some (.tp 0),some (.d (.list (nm l))),none,none] [xs]=some ((.nx,[some (.tp 0),some (.d (.list (nm l))),some (.d (.list MN)),none]),[xs]):=rfl
 have s2:ar 3 (aq aB (aa (ae 0) (aa (fC (.int 18)) ah))) [some (.tp 0),some (.d (.list (nm l))),some (.d (.list MN)),none] [xs]=some ((.nx,[some (.tp 0),some (.d (.list (nm l))),some (.d (.list MN)),some (.d (.int k))]),[x1]):=by simp [e1]
 unfold cP
 rw [uy]
 simp only [yB,qa,qb,if_true]
 show ∃ v xs',fi (ap _ _ [some (.tp 0),some (.d (.list (nm l))),none,none] [xs])=_∧_
 rw [br s1,br s2]
 by_cases h14:k < 14
 ·obtain ⟨v,ev,mv⟩:=kS (xs:=MN) k0 (by simpa [MN] using h14)
  exact ⟨v,x1,by simp [h14,ev],Dx mv,f1⟩
 ·by_cases he:k=14
  ·obtain ⟨r,x2,e2,f2,r0,r1⟩:=bc f1 (m:=1000000000000000000) (by decide) (by decide)
   exact ⟨.int r,x2,by simp [h14,he,nS,e2],AW r0 (by omega),f2⟩
  ·obtain ⟨r,x2,e2,f2,r0,r1⟩:=bc f1 (m:=(l.length:Int)) (by omega) (by omega)
   obtain ⟨y,ey,my⟩:=lw r0 r1
   exact ⟨.str y,x2,by simp [h14,he,cC,e2,ey],(hn y my).val,f2⟩
def uH (w:String):Prop:=w = "sum"∨w = "join"∨w = "same"∨w = "part"∨w = "less"
def exP (v:PyData):PyData:=.tuple [.str "put",v]
def exG (k:Int):PyData:=.tuple [.str "got",.int k]
def exM (a:PyData):PyData:=.tuple [.str "many",a]
def exR (es:List PyData):PyData:=.tuple [.str "row",.tuple es]
def ex2 (w:String) (a b:PyData):PyData:=.tuple [.str (Str.ofString w),a,b]
inductive Lf (k:Nat):PyData→Prop where
 | put {v:PyData}:bf v=true→Lf k (exP v)
 | got {i:Int}:0≤i→i < k→Lf k (exG i)
inductive Ex (k:Nat):PyData→Prop where
 | lf {e:PyData}:Lf k e→Ex k e
 | two {w:String} {a b:PyData}:uH w→Lf k a→Lf k b→Ex k (ex2 w a b)
 | row {es:List PyData}:es.length≤2→(∀ e∈es,Lf k e)→Ex k (exR es)
 | many {a:PyData}:Lf k a→Ex k (exM a)
section
variable {l:List Str} (hn:Ns l) (h0:0 < l.length) (h1:l.length≤20)
include hn h0 h1 in
theorem nK {xs:List PyData} (hf:Fr xs):∃ y xs' r,aB [.tp 0,.d (.int (l.length:Int))] [xs]=some (.int r,[xs'])∧atI (nm l) r=some (.str y)∧y∈l∧Fr xs':=by
 obtain ⟨r,x2,e2,f2,r0,r1⟩:=bc hf (m:=(l.length:Int)) (by omega) (by omega)
 obtain ⟨y,ey,my⟩:=lw r0 r1
 exact ⟨y,x2,r,e2,ey,my,f2⟩
include hn h0 h1 in
theorem sJ {xs:List PyData} (hf:Fr xs) (k:Nat) (hk:k≤1000) (n:Nat):∃ e xs',bO (n + 1) [.tp 0,.d (.int k),.d (.list (nm l)),.d (.int 0)] [xs]=some (e,[xs'])∧Lf k e∧Fr xs':=by
 obtain ⟨w,x1,e1,f1,w0,w1⟩:=bc hf (m:=12) (by decide) (by decide)
 by_cases hg:w < 4∧0 < k
 ·obtain ⟨r,x2,e2,f2,r0,r1⟩:=bc f1 (m:=(k:Int)) (by omega) (by omega)
  exact ⟨exG r,x2,by simp [bO,e1,hg.1,hg.2,e2,exG],.got r0 r1,f2⟩
 ·obtain ⟨v,x2,e2,hv,f2⟩:=kU f1 hn h0 h1
  refine ⟨exP v,x2,?_,.put hv,f2⟩
  by_cases h4:w < 4
  ·have hk0:¬ 0 < k:=fun z=>hg ⟨h4,z⟩
   simp [bO,e1,h4,hk0,e2,exP]
  ·simp [bO,e1,h4,e2,exP]
theorem ED {r:Int} (h0:0≤r) (h1:r < 5):∃ w,uH w∧atI [PyData.str "part",.str "sum",.str "join",.str "same",.str "less"] r=some (.str (Str.ofString w)):=by
 have:r=0∨r=1∨r=2∨r=3∨r=4:=by omega
 rcases this with rfl | rfl | rfl | rfl | rfl
 ·exact ⟨"part",.inr (.inr (.inr (.inl rfl))),rfl⟩
 ·exact ⟨"sum",.inl rfl,rfl⟩
 ·exact ⟨"join",.inr (.inl rfl),rfl⟩
 ·exact ⟨"same",.inr (.inr (.inl rfl)),rfl⟩
 ·exact ⟨"less",.inr (.inr (.inr (.inr rfl))),rfl⟩
theorem EG {r:Int} (h0:0≤r) (h1:r < 3) (a b:PyData):(bN [a,b] none (some r)).length≤2∧∀ e∈bN [a,b] none (some r),e=a∨e=b:=by
 have:r=0∨r=1∨r=2:=by omega
 rcases this with rfl | rfl | rfl
 ·have e:bN [a,b] none (some 0)=[]:=rfl
  rw [e]; exact ⟨by simp,fun _ h=>nomatch h⟩
 ·have e:bN [a,b] none (some 1)=[a]:=rfl
  rw [e]; exact ⟨by simp,fun e h=>by simp at h; exact .inl h⟩
 ·have e:bN [a,b] none (some 2)=[a,b]:=rfl
  rw [e]; exact ⟨by simp,fun e h=>by simpa using h⟩
include hn h0 h1 in
theorem km {xs:List PyData} (hf:Fr xs) (k:Nat) (hk:k≤1000) (n:Nat):∃ e xs',bO (n + 2) [.tp 0,.d (.int k),.d (.list (nm l)),.d (.int 1)] [xs]=some (e,[xs'])∧Ex k e∧Fr xs':=by
 obtain ⟨w,x1,e1,f1,w0,w1⟩:=bc hf (m:=12) (by decide) (by decide)
 by_cases hg:w < 4∧0 < k
 ·obtain ⟨r,x2,e2,f2,r0,r1⟩:=bc f1 (m:=(k:Int)) (by omega) (by omega)
  refine ⟨exG r,x2,?_,.lf (.got r0 r1),f2⟩
  unfold bO
  simp [e1,hg.1,hg.2,e2,exG]
 ·by_cases h7:w < 7
  ·obtain ⟨v,x2,e2,hv,f2⟩:=kU f1 hn h0 h1
   refine ⟨exP v,x2,?_,.lf (.put hv),f2⟩
   unfold bO
   by_cases h4:w < 4
   ·have hk0:¬ 0 < k:=fun z=>hg ⟨h4,z⟩
    simp [e1,h4,h7,hk0,e2,exP]
   ·simp [e1,h4,h7,e2,exP]
  ·have h4:¬ w < 4:=by omega
   obtain ⟨a,x2,e2,ha,f2⟩:=sJ hn h0 h1 f1 k hk n
   by_cases h8:w=7
   ·refine ⟨exM a,x2,?_,.many ha,f2⟩
    unfold bO
    simp [e1,h4,h7,e2,h8,exM]
   ·obtain ⟨b,x3,e3,hb,f3⟩:=sJ hn h0 h1 f2 k hk n
    by_cases h9:w=8
    ·obtain ⟨r,x4,e4,f4,r0,r1⟩:=bc f3 (m:=3) (by decide) (by decide)
     obtain ⟨c1,c2⟩:=EG r0 r1 a b
     refine ⟨exR (bN [a,b] none (some r)),x4,?_,.row c1 fun e he=>?_,f4⟩
     ·unfold bO
      simp [e1,h4,h7,e2,h8,e3,h9,e4,exR]
     ·rcases c2 e he with rfl | rfl
      ·exact ha
      ·exact hb
    ·obtain ⟨r,x4,e4,f4,r0,r1⟩:=bc f3 (m:=5) (by decide) (by decide)
     obtain ⟨v,hv,ev⟩:=ED r0 r1
     refine ⟨ex2 v a b,x4,?_,.two hv ha hb,f4⟩
     unfold bO
     simp [e1,h4,h7,e2,h8,e3,h9,e4,ev,ex2]
include hn h0 h1 in
theorem rj {xs:List PyData} (hf:Fr xs) (k:Nat) (hk:k≤1000):∃ e xs',fL [.tp 0,.d (.int k),.d (.list (nm l))] [xs]=some (e,[xs'])∧Ex k e∧Fr xs':=by
 obtain ⟨w,x1,e1,f1,w0,w1⟩:=bc hf (m:=10) (by decide) (by decide)
 by_cases h7:w < 7
 ·obtain ⟨y,x2,r,e2,ey,my,f2⟩:=nK hn h0 h1 f1
  exact ⟨exP (.str y),x2,by simp [fL,e1,h7,cC,e2,ey,exP],.lf (.put (hn y my).val),f2⟩
 ·by_cases h8:w=7
  ·obtain ⟨y,x2,r,e2,ey,my,f2⟩:=nK hn h0 h1 f1
   exact ⟨ex2 "join" (exP (.str y)) (exP (.str "")),x2,by simp [fL,e1,h7,h8,cC,e2,ey,exP,ex2],.two (.inr (.inl rfl)) (.put (hn y my).val) (.put (by decide +kernel)),f2⟩
  ·obtain ⟨e,x2,e2,he,f2⟩:=km hn h0 h1 f1 k hk 23
   exact ⟨e,x2,by simp [fL,e1,h7,h8,e2],he,f2⟩
def fq (e:PyData):PyData:=.tuple [.str "say",e]
def jr (w:Str):PyData:=.tuple [.str "fail",.str w]
def ff (b:Bool) (e r:PyData):PyData:=.tuple [.str (Str.ofString (if b then "peek" else "want")),e,r]
def iy (e p q:PyData):PyData:=.tuple [.str "when",e,p,q]
def R:Nat→Nat→Nat
 | a,0=>4 * a + 4
 | a,b + 1=>2 * R a b + 4
theorem oG:∀ a b,4≤R a b
 | a,0=>by simp [R]
 | a,b + 1=>by simp [R]
theorem kT (a:Nat):∀ b,R a b + 4≤R (a + 1) b
 | 0=>by simp [R]; omega
 | b + 1=>by have:=kT a b; simp only [R]; omega
inductive RC:Nat→Nat→Nat→PyData→Prop where
 | say {h k c:Nat} {e:PyData}:4≤c→Ex k e→RC h k c (fq e)
 | fail {h k c:Nat} {w:Str}:4≤c→Nx 8 w→RC h k c (jr w)
 | want {h k c c':Nat} {b:Bool} {e r:PyData}:c' + 4≤c→Ex k e→RC h (k + 1) c' r→RC (h + 1) k c (ff b e r)
 | when {h k c c1 c2:Nat} {e p q:PyData}:c1 + c2 + 4≤c→Ex k e→RC h k c1 p→RC h k c2 q→RC (h + 1) k c (iy e p q)
theorem RC.up {h k c m d:Nat} {r:PyData} (x:RC h k c r) (l:h≤m) (l2:c≤d):RC m k d r:=by
 induction x generalizing m d with
 | say z h=>exact .say (by omega) h
 | fail z h=>exact .fail (by omega) h
 | want z h _ ih=>
  obtain ⟨j,rfl⟩:∃ j,m=j + 1:=⟨m - 1,by omega⟩
  exact .want (Nat.le_trans z l2) h (ih (by omega) (Nat.le_refl _))
 | when z h _ _ i1 i2=>
  obtain ⟨j,rfl⟩:∃ j,m=j + 1:=⟨m - 1,by omega⟩
  exact .when (Nat.le_trans z l2) h (i1 (by omega) (Nat.le_refl _)) (i2 (by omega) (Nat.le_refl _))
theorem g0 (w:Int):inD (.int w) (.tuple [.int 4,.int 5])=some (.bool (decide (w=4) || decide (w=5))):=by
 have e:inD (.int w) (.tuple [.int 4,.int 5])=some (.bool (decide ((4:Int)=w) || (decide ((5:Int)=w) || false))):=rfl
 rw [e,Bool.or_false]
 congr 2
 rw [decide_eq_decide.mpr (show (4:Int)=w↔w=4 from ⟨fun z=>z.symm,fun z=>z.symm⟩),decide_eq_decide.mpr (show (5:Int)=w↔w=5 from ⟨fun z=>z.symm,fun z=>z.symm⟩)]
include hn h0 h1 in
theorem sQ {xs:List PyData} {pk:Bool} {h k a b n:Nat} {w:Int} {x1:List PyData} (hk:k≤1000) (e1:aB [.tp 0,.d (.int 8)] [xs]=some (.int w,[x1])) (f1:Fr x1) (hA:¬ (w < 4∧0 < a)) (hB:¬ ((w=4∨w=5)∧0 < b)):∃ r xs',bS (n + 1) [.tp 0,.d (.int k),.d (.list (nm l)),.d (.int a),.d (.int b),.d (.bool pk)] [xs]=some (r,[xs'])∧RC h k (R a b) r∧Fr xs':=by
 have cA:∀ {α:Type} (p q:α),(if w < 4 then (if 0 < a then p else q) else q)=q:=fun p q=>by
  by_cases z:w < 4
  ·rw [if_pos z,if_neg fun y=>hA ⟨z,y⟩]
  ·rw [if_neg z]
 by_cases h6:w=6
 ·obtain ⟨r,x2,e2,f2,r0,r1⟩:=bc f1 (m:=2) (by decide) (by decide)
  by_cases hr:r=0
  ·obtain ⟨y,x3,r3,e3,ey,my,f3⟩:=nK hn h0 h1 f2
   refine ⟨jr y,x3,?_,.fail (oG a b) (hn y my),f3⟩
   unfold bS
   simp [e1,h6,g0,e2,hr,cC,e3,ey,jr]
  ·obtain ⟨e,x3,e3,he,f3⟩:=km hn h0 h1 f2 k (by omega) 23
   refine ⟨fq e,x3,?_,.say (oG a b) he,f3⟩
   unfold bS
   simp [e1,h6,g0,e2,hr,e3,fq]
 ·obtain ⟨e,x3,e3,he,f3⟩:=km hn h0 h1 f1 k (by omega) 23
  refine ⟨fq e,x3,?_,.say (oG a b) he,f3⟩
  unfold bS
  by_cases h45:w=4∨w=5
  ·have hb:¬ 0 < b:=fun z=>hB ⟨h45,z⟩
   rcases h45 with rfl | rfl <;> simp [e1,g0,e3,fq,hb]
  ·have h4:¬ w=4:=fun z=>h45 (.inl z)
   have h5:¬ w=5:=fun z=>h45 (.inr z)
   by_cases hw:w < 4
   ·have ha:¬ 0 < a:=fun z=>hA ⟨hw,z⟩
    simp [e1,hw,ha,h4,h5,h6,g0,e3,fq]
   ·simp [e1,hw,h4,h5,h6,g0,e3,fq]
include hn h0 h1 in
theorem zZ (pk:Bool):∀ (h:Nat) {xs:List PyData} (_:Fr xs) (k a b n:Nat),a + b=h→k + h≤100→h≤n→∃ r xs',bS (n + 1) [.tp 0,.d (.int k),.d (.list (nm l)),.d (.int a),.d (.int b),.d (.bool pk)] [xs]=some (r,[xs'])∧RC h k (R a b) r∧Fr xs':=by
 intro h
 induction h with
 | zero=>
  intro xs hf k a b n hab hk hn'
  obtain ⟨w,x1,e1,f1,w0,w1⟩:=bc hf (m:=8) (by decide) (by decide)
  exact sQ hn h0 h1 (by omega) e1 f1 (by omega) (by omega)
 | succ h ih=>
  intro xs hf k a b n hab hk hn'
  obtain ⟨j,rfl⟩:∃ j,n=j + 1:=⟨n - 1,by omega⟩
  obtain ⟨w,x1,e1,f1,w0,w1⟩:=bc hf (m:=8) (by decide) (by decide)
  by_cases hA:w < 4∧0 < a
  ·obtain ⟨a',rfl⟩:∃ a',a=a' + 1:=⟨a - 1,by omega⟩
   have hpi:(0:Int) < (a':Int) + 1:=by omega
   have ca:(a':Int) + 1 - 1=a':=by omega
   have ck:((k + 1:Nat):Int)=(k:Int) + 1:=by omega
   cases pk with
   | false=>
    obtain ⟨e,x3,e3,he,f3⟩:=rj hn h0 h1 f1 k (by omega)
    obtain ⟨r,x4,e4,hr,f4⟩:=ih f3 (k + 1) a' b j (by omega) (by omega) (by omega)
    rw [ck] at e4
    refine ⟨ff false e r,x4,?_,.want (kT a' b) he hr,f4⟩
    unfold bS
    simp [e1,hA.1,hpi,e3,e4,ca,ff]
   | true=>
    obtain ⟨r2,x2,e2,f2,r0,r1⟩:=bc f1 (m:=3) (by decide) (by decide)
    obtain ⟨e,x3,e3,he,f3⟩:=rj hn h0 h1 f2 k (by omega)
    obtain ⟨r,x4,e4,hr,f4⟩:=ih f3 (k + 1) a' b j (by omega) (by omega) (by omega)
    rw [ck] at e4
    by_cases hr0:r2=0
    ·refine ⟨ff true e r,x4,?_,.want (kT a' b) he hr,f4⟩
     unfold bS
     simp [e1,hA.1,hpi,e2,hr0,e3,e4,ca,ff]
    ·refine ⟨ff false e r,x4,?_,.want (kT a' b) he hr,f4⟩
     unfold bS
     simp [e1,hA.1,hpi,e2,hr0,e3,e4,ca,ff]
  ·by_cases hB:(w=4∨w=5)∧0 < b
   ·obtain ⟨b',rfl⟩:∃ b',b=b' + 1:=⟨b - 1,by omega⟩
    have hpi:(0:Int) < (b':Int) + 1:=by omega
    have cb:(b':Int) + 1 - 1=b':=by omega
    obtain ⟨e,x2,e2,he,f2⟩:=km hn h0 h1 f1 k (by omega) 23
    obtain ⟨p,x3,e3,hp,f3⟩:=ih f2 k a b' j (by omega) (by omega) (by omega)
    obtain ⟨q,x4,e4,hq,f4⟩:=ih f3 k a b' j (by omega) (by omega) (by omega)
    refine ⟨iy e p q,x4,?_,.when (by simp only [R]; omega) he hp hq,f4⟩
    unfold bS
    rcases hB.1 with rfl | rfl
    ·simp [e1,g0,hpi,e2,cb,e3,e4,iy]
    ·simp [e1,g0,hpi,e2,cb,e3,e4,iy]
   ·exact sQ hn h0 h1 (by omega) e1 f1 hA hB
include hn h0 h1 in
theorem tT {xs:List PyData} (hf:Fr xs) (pk:Bool):∃ r xs',cw [.tp 0,.d (.list (nm l)),.d (.bool pk)] [xs]=some (r,[xs'])∧RC 5 0 60 r∧Fr xs':=by
 obtain ⟨w,x1,e1,f1,w0,w1⟩:=bc hf (m:=5) (by decide) (by decide)
 have hw:w=0∨w=1∨w=2∨w=3∨w=4:=by omega
 have run:∀ a b:Nat,a + b≤5→R a b≤60→∃ r xs',bS 25 [.tp 0,.d (.int 0),.d (.list (nm l)),.d (.int a),.d (.int b),.d (.bool pk)] [x1]=some (r,[xs'])∧RC 5 0 60 r∧Fr xs':=fun a b hab hR=>by
  obtain ⟨r,x2,e2,hr,f2⟩:=zZ hn h0 h1 pk (a + b) f1 0 a b 24 rfl (by omega) (by omega)
  exact ⟨r,x2,e2,hr.up hab hR,f2⟩
 have a5:∀ (a b c d e:PyData),atI [a,b,c,d,e] 0=some a∧atI [a,b,c,d,e] 1=some b∧atI [a,b,c,d,e] 2=some c∧atI [a,b,c,d,e] 3=some d∧atI [a,b,c,d,e] 4=some e:=fun _ _ _ _ _=>⟨rfl,rfl,rfl,rfl,rfl⟩
 rcases hw with rfl | rfl | rfl | rfl | rfl
 ·obtain ⟨r,x2,e2,h2⟩:=run 4 1 (by decide) (by decide)
  exact ⟨r,x2,by simp at e2; simp [cw,g6,e1,a5,e2],h2⟩
 ·obtain ⟨r,x2,e2,h2⟩:=run 2 2 (by decide) (by decide)
  exact ⟨r,x2,by simp at e2; simp [cw,g6,e1,a5,e2],h2⟩
 ·obtain ⟨r,x2,e2,h2⟩:=run 1 1 (by decide) (by decide)
  exact ⟨r,x2,by simp at e2; simp [cw,g6,e1,a5,e2],h2⟩
 ·obtain ⟨r,x2,e2,h2⟩:=run 3 1 (by decide) (by decide)
  exact ⟨r,x2,by simp at e2; simp [cw,g6,e1,a5,e2],h2⟩
 ·obtain ⟨r,x2,e2,h2⟩:=run 0 1 (by decide) (by decide)
  exact ⟨r,x2,by simp at e2; simp [cw,g6,e1,a5,e2],h2⟩
end
open K1 (has LET TXT single bz bX isName bf)
structure Go (n:Nat) (d:PyData):Prop where
 sm:Sm d
 cl:d.canLay0=true
 dp:d.depth≤n
theorem Go.up {n m:Nat} {d:PyData} (h:Go n d) (l:n≤m):Go m d:=⟨h.1,h.2,Nat.le_trans h.3 l⟩
theorem Go.shp {d:PyData} (h:Go 64 d):SeqAt.shaped d=true:=by
 unfold SeqAt.shaped
 rw [h.2,decide_eq_true h.3]
 rfl
theorem nk {n:Nat} {i:Int}:Go n (.int i):=⟨by simp [Sm,smB],by simp [PyData.canLay0],by simp [PyData.depth]⟩
theorem tD {n:Nat} {x:Str} (h:x.length≤60000) (h2:∀ c∈x.cps.toList,c < 128):Go n (.str x):=⟨.mkS h h2,by have:=(Sm.mkS h h2).ok; simpa [PyData.canLay0] using this,by simp [PyData.depth]⟩
theorem tE {n:Nat}:∀ {ds:List PyData},(∀ d∈ds,Go n d)→PyData.canLayAll0 ds=true∧PyData.depthAll ds≤n
 | [],_=>⟨by simp [PyData.canLayAll0],by simp [PyData.depthAll]⟩
 | d::r,h=>by
  have ih:=tE (ds:=r) fun x hx=>h x (List.mem_cons_of_mem _ hx)
  have i0:=h d List.mem_cons_self
  exact ⟨by simp [PyData.canLayAll0,i0.2,ih.1],by have:=i0.3; have:=ih.2; simp only [PyData.depthAll]; omega⟩
theorem dR {n:Nat} {ds:List PyData} (h:∀ d∈ds,Go n d):Go (n + 1) (.tuple ds):=by
 have a:=tE h
 exact ⟨.tup fun d hd=>(h d hd).1,by simp [PyData.canLay0,a.1],by have:=a.2; simp only [PyData.depth]; omega⟩
theorem fH {n:Nat} (w:String) (h:((Str.ofString w).cps.toList.all fun c=>decide (c < 128))=true) (h2:(Str.ofString w).length≤60000):Go n (.str (Str.ofString w)):=tD h2 fun c hc=>of_decide_eq_true (List.all_eq_true.mp h c hc)
theorem p8 {n:Nat} {d:PyData} (h:single d=true):Go n d:=by
 cases d with
 | int i=>exact nk
 | str x=>
  have h2:(decide (x.length≤20) && has TXT x)=true:=h
  rw [Bool.and_eq_true] at h2
  have lt:∀ c∈TXT.cps.toList,c < 128:=by decide +kernel
  refine tD (Nat.le_trans (of_decide_eq_true h2.1) (by decide)) fun c hc=>lt c ?_
  exact of_decide_eq_true (List.all_eq_true.mp h2.2 c hc)
 | _=>cases h
theorem zD:∀ (n:Nat) (v:PyData),bz n v=true→Go n v:=by
 intro n
 induction n with
 | zero=>
  intro v h
  cases v with
  | tuple ds=>cases h
  | _=>exact p8 h
 | succ m ih=>
  intro v h
  cases v with
  | tuple ds=>
   have h':(decide (ds.length≤8) && ds.all (bz m))=true:=h
   rw [Bool.and_eq_true] at h'
   exact dR fun d hd=>ih d (List.all_eq_true.mp h'.2 d hd)
  | _=>exact p8 h
theorem ja {v:PyData} (h:bf v=true):Go 4 v:=by
 have h':(bz 4 v && decide (bX 4 v≤40))=true:=h
 rw [Bool.and_eq_true] at h'
 exact zD 4 v h'.1
theorem nZ {n:Nat} {x:Str} (h:Nx 8 x):Go n (.str x):=⟨(ja h.val).1,(ja h.val).2,by simp [PyData.depth]⟩
theorem jq {k:Nat} {e:PyData} (h:Lf k e):Go 5 e:=by
 cases h with
 | put h=>exact dR fun d hd=>by simp at hd; rcases hd with rfl | rfl; exact fH "put" (by decide) (by decide); exact ja h
 | got=>exact dR fun d hd=>by simp at hd; rcases hd with rfl | rfl; exact fH "got" (by decide) (by decide); exact nk
theorem n4 {k:Nat} {e:PyData} (h:Ex k e):Go 7 e:=by
 cases h with
 | lf h=>exact (jq h).up (by decide)
 | two w a b=>
   refine dR fun d hd=>?_
   simp at hd
   rcases hd with rfl | rfl | rfl
   ·rcases w with rfl | rfl | rfl | rfl | rfl <;> exact fH _ (by decide) (by decide)
   ·exact (jq a).up (by decide)
   ·exact (jq b).up (by decide)
 | row _ h=>
   refine dR fun d hd=>?_
   simp at hd
   rcases hd with rfl | rfl
   ·exact fH "row" (by decide) (by decide)
   ·exact dR fun d hd=>jq (h d hd)
 | many h=>
   refine dR fun d hd=>?_
   simp at hd
   rcases hd with rfl | rfl
   ·exact fH "many" (by decide) (by decide)
   ·exact (jq h).up (by decide)
theorem uo {h k c:Nat} {r:PyData} (x:RC h k c r):Go (h + 8) r:=by
 induction x with
 | say _ h=>
   refine dR (n:=_ + 7) fun d hd=>?_
   simp at hd
   rcases hd with rfl | rfl
   ·exact fH "say" (by decide) (by decide)
   ·exact (n4 h).up (by omega)
 | fail _ h=>
   refine dR (n:=_ + 7) fun d hd=>?_
   simp at hd
   rcases hd with rfl | rfl
   ·exact fH "fail" (by decide) (by decide)
   ·exact nZ h
 | @want h k c c' b e r _ he _ ih=>
   refine (dR (n:=h + 8) fun d hd=>?_).up (by omega)
   simp at hd
   rcases hd with rfl | rfl | rfl
   ·cases b <;> exact fH _ (by decide) (by decide)
   ·exact (n4 he).up (by omega)
   ·exact ih
 | @when h k c c1 c2 e p q _ he _ _ i1 i2=>
   refine (dR (n:=h + 8) fun d hd=>?_).up (by omega)
   simp at hd
   rcases hd with rfl | rfl | rfl | rfl
   ·exact fH "when" (by decide) (by decide)
   ·exact (n4 he).up (by omega)
   ·exact i1
   ·exact i2
theorem iz {n:Nat} {p:Pla} (h:rok p=true):rc (n + 1) p=1 + ((bv p).map (rc n)).sum:=if_pos h
theorem sO {d:PyData} {g:Nat} (h:g≤12) (s:shp (g:Int) d=true):rok (true,d,g)=true:=by
 show (decide (g≤12) && shp (g:Int) d)=true
 rw [decide_eq_true h,s]; rfl
theorem j4 {d:PyData} {g:Nat} (h:g≤12) (s:rsh d=true):rok (false,d,g)=true:=by
 show (decide (g≤12) && rsh d)=true
 rw [decide_eq_true h,s]; rfl
theorem uj {k n:Nat} {e:PyData} (h:Lf k e) (hk:k≤12):rc (n + 1) (true,e,k)=1:=by
 have a:shp (k:Int) e=true∧kids e=[]:=by
  cases h with
  | put h=>simp [shp,exP,wn,fil,h,kids]
  | got h1 h2=>simp [shp,exG,wn,fil,jB,h1,h2,kids]
 rw [iz (sO hk a.1)]
 show 1 + (((kids e).map fun x=>((true,x,k):Pla)).map (rc n)).sum=1
 rw [a.2]; rfl
theorem tq {k n:Nat} (hk:k≤12):∀ {es:List PyData},(∀ e∈es,Lf k e)→((es.map fun x=>((true,x,k):Pla)).map (rc (n + 1))).sum=es.length
 | [],_=>rfl
 | e::r,h=>by
  have ih:=tq (n:=n) hk (es:=r) fun x hx=>h x (List.mem_cons_of_mem _ hx)
  have i0:=uj (n:=n) (h e List.mem_cons_self) hk
  simp only [List.map_cons,List.sum_cons,List.length_cons,ih,i0]
  omega
theorem n8 {k n:Nat} {e:PyData} (h:Ex k e) (hk:k≤12):rc (n + 2) (true,e,k)≤3:=by
 have go:∀ {es:List PyData},shp (k:Int) e=true→kids e=es→es.length≤2→(∀ x∈es,Lf k x)→rc (n + 2) (true,e,k)≤3:=fun {es} s ke le hl=>by
  rw [iz (sO hk s)]
  show 1 + (((kids e).map fun x=>((true,x,k):Pla)).map (rc (n + 1))).sum≤3
  rw [ke,tq hk hl]
  omega
 cases h with
 | lf h=>rw [uj (n:=n + 1) h hk]; decide
 | @two w a b hw ha hb=>
  refine go (es:=[a,b]) ?_ ?_ (by simp) (fun x hx=>by simp at hx; rcases hx with rfl | rfl; exact ha; exact hb)
  ·rcases hw with rfl | rfl | rfl | rfl | rfl <;> simp [shp,ex2,wn]
  ·rcases hw with rfl | rfl | rfl | rfl | rfl <;> simp [kids,ex2]
 | @row es hl he=>
  have:(es.length:Int)≤8:=by omega
  exact go (es:=es) (by simp [shp,exR,wn,fil,kN,fA,this]) (by simp [kids,exR]) hl he
 | @many a ha=>exact go (es:=[a]) (by simp [shp,exM,wn]) (by simp [kids,exM]) (by simp) (fun x hx=>by simp at hx; subst hx; exact ha)
theorem Nx.isNm {x:Str} (h:Nx 8 x):isName (.str x)=true:=Nx.name h
theorem RC.rc {h k c:Nat} {r:PyData} (x:RC h k c r):∀ {n:Nat},h + k≤12→rc (n + h + 3) (false,r,k)≤c:=by
 induction x with
 | @say h k c e hc he=>
  intro n hk
  rw [iz (j4 (by omega) (by simp [rsh,fq,rn]))]
  have:=n8 (n:=n + h) he (by omega)
  simp [bv,fq]
  omega
 | @fail h k c w hc hw=>
  intro n hk
  rw [iz (j4 (by omega) (by simp [rsh,jr,rn,hw.isNm]))]
  simp [bv,jr]
  omega
 | @want h k c c' b e r hc he hr ih=>
  intro n hk
  have i:=ih (n:=n) (by omega)
  have:=n8 (n:=n + h + 1) he (by omega)
  rw [show n + h + 1 + 2=n + h + 3 by omega] at this
  rw [iz (j4 (by omega) (by cases b <;> simp [rsh,ff,rn]))]
  rw [show n + (h + 1) + 2=n + h + 3 by omega]
  cases b <;> simp [bv,ff,more,asks] <;> omega
 | @when h k c c1 c2 e p q hc he hp hq i1 i2=>
  intro n hk
  have a1:=i1 (n:=n) (by omega)
  have a2:=i2 (n:=n) (by omega)
  have:=n8 (n:=n + h + 1) he (by omega)
  rw [show n + h + 1 + 2=n + h + 3 by omega] at this
  rw [iz (j4 (by omega) (by simp [rsh,iy,rn]))]
  rw [show n + (h + 1) + 2=n + h + 3 by omega]
  simp [bv,iy,more,asks]
  omega
open K1 (isName bf)
abbrev Dl:=List (Str×PyData)
def ky (l:Dl):List Str:=l.map (·.1)
theorem fS (s:Str):∀ l:Dl,bq (aG l) s=l.lookup s
 | []=>rfl
 | (k,d)::r=>by
  have ih:=fS s r
  show (if k=s then some d else bq (aG r) s)=_
  rw [List.lookup_cons,ih]
  by_cases h:k=s
  ·subst h; simp
  ·have h':(s == k)=false:=beq_eq_false_iff_ne.mpr fun z=>h z.symm
   rw [if_neg h,h']
theorem qL {s:Str} {d:PyData}:∀ {l:Dl},l.lookup s=some d→(s,d)∈l
 | [],h=>nomatch h
 | (k,e)::r,h=>by
  rw [List.lookup_cons] at h
  by_cases hk:s=k
  ·subst hk
   simp at h
   subst h
   exact List.mem_cons_self
  ·have h':(s == k)=false:=beq_eq_false_iff_ne.mpr hk
   rw [h'] at h
   exact List.mem_cons_of_mem _ (qL h)
theorem p0 {s:Str}:∀ {l:Dl},s∈ky l→∃ d,l.lookup s=some d
 | [],h=>nomatch h
 | (k,e)::r,h=>by
  rw [List.lookup_cons]
  by_cases hk:s=k
  ·subst hk; exact ⟨e,by simp⟩
  ·have h':(s == k)=false:=beq_eq_false_iff_ne.mpr hk
   rw [h']
   exact p0 (by
    rcases List.mem_cons.mp h with z | z
    ·exact absurd z hk
    ·exact z)
theorem AS {s:Str} {d:PyData} {l:Dl} (h:l.lookup s=some d):s∈ky l:=List.mem_map.mpr ⟨_,qL h,rfl⟩
theorem hW {s:Str} {l:Dl}:(l.lookup s).isSome=decide (s∈ky l):=by
 by_cases h:s∈ky l
 ·obtain ⟨d,e⟩:=p0 h
  rw [e,decide_eq_true h]; rfl
 ·rw [decide_eq_false h]
  cases e:l.lookup s with
  | none=>rfl
  | some d=>exact absurd (AS e) h
theorem j9 {s:Str} {d:PyData}:∀ {l:Dl},(ky l).Nodup→(s,d)∈l→l.lookup s=some d
 | [],_,h=>nomatch h
 | (k,e)::r,nd,h=>by
  have nd':k∉ky r∧(ky r).Nodup:=List.nodup_cons.mp nd
  rw [List.lookup_cons]
  rcases List.mem_cons.mp h with z | z
  ·cases z; simp
  ·have hk:s∈ky r:=List.mem_map.mpr ⟨_,z,rfl⟩
   have h':(s == k)=false:=beq_eq_false_iff_ne.mpr fun q=>nd'.1 (q ▸ hk)
   rw [h']
   exact j9 nd'.2 z
theorem rG (s:Str) (x:PyData):∀ l:Dl,eh (aG l) s x=aG (l.map fun p=>if p.1=s then (p.1,x) else p)
 | []=>rfl
 | (k,d)::r=>by
  have ih:=rG s x r
  show (if k=s then (PyData.str k,x)::eh (aG r) s x else (PyData.str k,d)::eh (aG r) s x)=_
  rw [ih,List.map_cons]
  by_cases h:k=s
  ·simp [h,aG]
  ·simp [h,aG]
def putL (l:Dl) (s:Str) (x:PyData):Dl:=if s∈ky l then l.map fun p=>if p.1=s then (p.1,x) else p else l++[(s,x)]
theorem BF (l:Dl) (s:Str) (x:PyData):putN (aG l) s x=aG (putL l s x):=by
 unfold putN putL
 rw [fS,hW]
 by_cases h:s∈ky l
 ·rw [decide_eq_true h,if_pos rfl,if_pos h,rG]
 ·rw [decide_eq_false h,if_neg (by decide),if_neg h]
  simp [aG]
theorem BE (l:Dl) (s:Str) (x:PyData):ky (putL l s x)=if s∈ky l then ky l else ky l++[s]:=by
 unfold putL
 by_cases h:s∈ky l
 ·rw [if_pos h,if_pos h]
  unfold ky
  rw [List.map_map]
  refine List.map_congr_left fun p _=>?_
  simp only [Function.comp]
  split <;> rfl
 ·rw [if_neg h,if_neg h]
  simp [ky]
theorem Al {l:Dl} {s:Str} {x:PyData} {p:Str×PyData} (h:p∈putL l s x):p∈l∨p=(s,x):=by
 unfold putL at h
 split at h
 ·obtain ⟨q,hq,e⟩:=List.mem_map.mp h
  split at e
  ·rename_i z
   exact .inr (by rw [← e,z])
  ·exact .inl (e ▸ hq)
 ·rcases List.mem_append.mp h with z | z
  ·exact .inl z
  ·exact .inr (by simpa using z)
structure Dq (P:PyData→Prop) (K:List Str) (l:Dl):Prop where
 nd:(ky l).Nodup
 ok:∀ p∈l,P p.2∧p.1∈K
theorem Dq.nil {P:PyData→Prop} {K:List Str}:Dq P K []:=⟨by simp [ky],fun _ h=>nomatch h⟩
theorem Dq.put {P:PyData→Prop} {K:List Str} {l:Dl} (h:Dq P K l) {s:Str} {x:PyData} (hx:P x) (hs:s∈K):Dq P K (putL l s x):=by
 refine ⟨?_,fun p hp=>?_⟩
 ·rw [BE]
  split
  ·exact h.nd
  ·rename_i z
   rw [List.nodup_append]
   exact ⟨h.nd,by simp,fun a ha b hb=>by simp at hb; subst hb; exact fun q=>z (q ▸ ha)⟩
 ·rcases Al hp with z | rfl
  ·exact h.ok p z
  ·exact ⟨hx,hs⟩
theorem Dt {α:Type} [DecidableEq α] {L N:List α} (nd:L.Nodup) (h:∀ x∈L,x∈N):L.length≤N.length:=by
 apply Nat.le_of_not_lt
 intro z
 obtain ⟨x,hx,nx⟩:=m9 nd z
 exact nx (h x hx)
theorem Dq.len {P:PyData→Prop} {K:List Str} {l:Dl} (h:Dq P K l):l.length≤K.length:=by
 have:=Dt h.nd (N:=K) fun x hx=>by
  obtain ⟨p,hp,rfl⟩:=List.mem_map.mp hx
  exact (h.ok p hp).2
 simpa [ky] using this
theorem il (l:Dl):(aG l).length=l.length:=by simp [aG]
@[simp] theorem EM {xs:List (PyData×PyData)} {r:List W} {T:Tp}:views T (.loc (.dict xs)::r)=jx (.dict xs) (views T r):=rfl
@[simp] theorem FZ {i:Nat} {ρ:Rho} {T:Tp}:iE i ρ T=some ((.nx,ρ.set i (some (.loc (.dict [])))),T):=rfl
@[simp] theorem Gb {i:Nat} {fk fv:FE} {ρ:Rho} {T:Tp}:iF i fk fv ρ T=bnd (fv ρ T) fun w T1=>kY i fk ρ w T1 ρ[i]?:=rfl
@[simp] theorem Fo {i:Nat} {fk:FE} {ρ:Rho} {w:D.W} {T:Tp} {ds:Dc}:kY i fk ρ w T (some (some (.loc (.dict ds))))=bnd (fk ρ T) (kZ i ρ ds w):=rfl
@[simp] theorem Fp {i:Nat} {ρ:Rho} {T:Tp} {ds:Dc} {x:PyData} {s:Str}:kZ i ρ ds (.d x) (.d (.str s)) T=if ds.length≤1000 then some ((.nx,ρ.set i (some (.loc (.dict (putN ds s x))))),T) else none:=rfl
@[simp] theorem qR {i:Nat} {m:FnM} {g:FA} {fr:FS} {ρ:Rho} {T:Tp}:iu i m g fr ρ T=bnd (g ρ T) fun ws T1=>bnd (m ws T1) (kE i fr ρ):=rfl
theorem qI {i:Nat} {fr:FS} {ρ ρ':Rho} {xs xs':List PyData} {fl:Fl} (h:fr (ρ.set i (some (.tp 0))) [xs]=some ((fl,ρ'),[xs'])):kE i fr ρ (.list xs) []=some ((fl,gc 0 ρ'),[]):=by
 show iU 0 (fr (ρ.set i (some (.tp 0))) [xs])=_
 rw [h]
 rfl
def pr (p:Str×PyData):PyData:=.tuple [.str p.1,p.2]
theorem rK:∀ l:Dl,eA (l.map pr)=some l
 | []=>rfl
 | (s,d)::r=>by
  have ih:=rK r
  show (match pairD (pr (s,d)) with | some p=>(match eA (r.map pr) with | some ps=>some (p::ps) | none=>none) | none=>none)=_
  rw [ih]
  rfl
theorem zA (l:Dl):(aG l).map (·.1)=nm (ky l):=by
 unfold aG nm ky
 rw [List.map_map,List.map_map]
 rfl
@[simp] theorem EZ:nW []=[]:=rfl
@[simp] theorem Fw {o:Option W} {r:Rho}:nW (o::r)=o.bind k9::nW r:=rfl
@[simp] theorem Fv {x:PyData}:k9 (.d x)=some (.d x):=rfl
@[simp] theorem EY {x:PyData}:k9 (.loc x)=some (.d x):=rfl
theorem me {mf mh:FnM} {g1 g2:FA} {ρ:Rho} {ws ws2:List W} {xs xs':List PyData} {y:PyData} (h1:g1 ρ []=some (ws,[])) (h2:mh ws []=some (.list xs,[])) (h3:g2 ρ []=some (ws2,[])) (h4:bQ ws2=true) (h5:mf (.tp 0::ws2) [xs]=some (y,[xs'])):de mf mh g1 g2 ρ []=some (.d y,[]):=by
 unfold de
 rw [h1,eC,h2,eC]
 show bnd (g2 ρ []) (i9 mf xs)=_
 rw [h3,eC]
 unfold i9
 rw [if_pos h4]
 show nI 0 (mf (.tp 0::ws2) [xs])=_
 rw [h5]
 rfl
theorem jI {α:Type} {a b:α}:atI [a,b] 0=some a∧atI [a,b] 1=some b:=⟨rfl,rfl⟩
def fzO (o:Option W):Option W:=(bE [o]).headD none
theorem A3 {o:Option W} {r:Rho}:bE (o::r)=fzO o::bE r:=rfl
@[simp] theorem HG:fzO none=none:=rfl
@[simp] theorem HI {x:PyData}:fzO (some (.d x))=some (.d x):=rfl
@[simp] theorem HF {i:Nat}:fzO (some (.tp i))=some (.tp i):=rfl
@[simp] theorem HH {x:PyData}:fzO (some (.loc x))=some (.d x):=rfl
@[simp] theorem EX {s:Str} {ds:Dc}:m8 (.str s) (.dict ds)=some (.bool (!(bq ds s).isSome)):=rfl
@[simp] theorem GB {s:Str} {ds:Dc}:inA (.str s) (.dict ds)=some (.bool (bq ds s).isSome):=rfl
@[simp] theorem Gw {s:Str} {ds:Dc}:ixA (.dict ds) (.str s)=bq ds s:=rfl
@[simp] theorem Fe {i:Nat} {f:FE} {ρ:Rho} {T:Tp}:kP i f ρ T=bnd (f ρ T) fun w T1=>kq i ρ (g8 (view T1 w)) T1:=rfl
@[simp] theorem GP {ds:Dc}:g8 (some (.dict ds))=some ds:=rfl
@[simp] theorem EU {i:Nat} {ρ:Rho} {ds:Dc} {T:Tp}:kq i ρ (some ds) T=some ((.nx,ρ.set i (some (.loc (.dict ds)))),T):=rfl
@[simp] theorem GQ {f:FE} {ρ:Rho} {T:Tp}:gb f ρ T=bnd (f ρ T) fun w T1=>ls (g8 (view T1 w)) T1:=rfl
@[simp] theorem Fy {ds:Dc} {T:Tp}:ls (some ds) T=some (.d (.dict ds),T):=rfl
@[simp] theorem Fu {ds:Dc}:fg [.dict ds]=some (.list (lc ds)):=rfl
@[simp] theorem Gd {i:Nat} {f:FE} {ρ:Rho} {T:Tp}:li i f ρ T=bnd (f ρ T) fun w T1=>jj i ρ w T1 ρ[i]?:=rfl
@[simp] theorem Fq {i:Nat} {ρ:Rho} {s:Str} {ds:Dc} {T:Tp}:jj i ρ (.d (.str s)) T (some (some (.loc (.dict ds))))=some ((.nx,ρ.set i (some (.loc (.dict (if (bq ds s).isSome=true then cE ds s else ds))))),T):=rfl
@[simp] theorem Fk {i j:Nat} {ρ:Rho} {T:Tp}:kR i j ρ T=kA i j ρ T ρ[i]? ρ[j]?:=rfl
@[simp] theorem EW {i j:Nat} {ρ:Rho} {T:Tp} {x y:PyData}:kA i j ρ T (some (some (.loc x))) (some (some (.loc y)))=if i=j then none else some ((.ro (.tuple [x,y]),ρ),T):=rfl
@[simp] theorem Fi {m:FnM} {g:FA} {ρ:Rho} {T:Tp}:jb m g ρ T=bnd (g ρ T) fun ws T1=>bnd (m ws T1) (iq ρ):=rfl
@[simp] theorem E6 {m:FnM} {g:FA} {ρ:Rho} {T:Tp}:iX m g ρ T=bnd (g ρ T) fun ws T1=>bnd (m ws T1) iZ:=rfl
@[simp] theorem FW {i:Nat} {m:FnM} {g:FA} {ρ:Rho} {T:Tp}:DR i m g ρ T=bnd (g ρ T) fun ws T1=>bnd (m ws T1) (nQ i ρ):=rfl
@[simp] theorem Fc {i:Nat} {ρ:Rho} {ds:Dc} {T:Tp}:nQ i ρ (.dict ds) T=some ((.nx,ρ.set i (some (.loc (.dict ds)))),T):=rfl
@[simp] theorem Fm {f:FE} {ρ:Rho} {T:Tp}:Cg f ρ T=bnd (f ρ T) fun w T1=>sP ρ T1 (oq (view T1 w)):=rfl
@[simp] theorem Gc {ds:List PyData}:oq (some (.list ds))=eA ds:=rfl
theorem tF {i:Nat} {body:FS} {I:Nat→Rho→Tp→Prop}:∀ (ds:List PyData) (k:Nat) (ρ:Rho) (T:Tp),I k ρ T →
  (∀ j d ρ T,ds[j]? = some d→I (k + j) ρ T→∃ ρ' T',body (ρ.set i (some (.d d))) T=some ((.nx,ρ'),T')∧I (k + j + 1) ρ' T')→∃ ρ' T',forL i body ds ρ T=some ((.nx,ρ'),T')∧I (k + ds.length) ρ' T'
 | [],k,ρ,T,h,_=>⟨ρ,T,rfl,h⟩
 | d::r,k,ρ,T,h,hs=>by
  obtain ⟨ρ1,T1,e1,h1⟩:=hs 0 d ρ T rfl h
  obtain ⟨ρ2,T2,e2,h2⟩:=tF (body:=body) (I:=I) r (k + 1) ρ1 T1 h1 fun j d ρ T hd hI=>by
   rw [show k + 1 + j=k + (j + 1) by omega] at hI ⊢
   exact hs (j + 1) d ρ T (by simpa using hd) hI
  refine ⟨ρ2,T2,?_,by rw [List.length_cons,show k + (r.length + 1)=k + 1 + r.length by omega]; exact h2⟩
  unfold forL
  rw [e1]
  exact e2
theorem AG {n j:Nat} {d:PyData} (h:(bK 0 n)[j]? = some d):d=.int (j:Int)∧j < n:=by
 unfold bK at h
 rw [List.getElem?_map] at h
 by_cases hj:j < n
 ·rw [List.getElem?_range hj] at h
  simp at h
  exact ⟨h.symm,hj⟩
 ·rw [List.getElem?_eq_none (by simp; omega)] at h
  cases h
structure Bk (l:List Str) (d0 r0:Dl):Prop where
 t:Dq (fun v=>bf v=true) l d0
 m:Dq (RC 5 0 60) l r0
 no:∀ s∈ky d0,s∉ky r0
def bkD (d0 r0:Dl):PyData:=.tuple [.dict (aG d0),.dict (aG r0)]
def scr (ns:List Int):PyData:=.list (ns.map PyData.int)
theorem Dq.up {P:PyData→Prop} {K L:List Str} {l:Dl} (h:Dq P K l) (s:∀ x∈K,x∈L):Dq P L l:=⟨h.nd,fun p hp=>⟨(h.ok p hp).1,s _ (h.ok p hp).2⟩⟩
theorem Bk.up {K L:List Str} {d0 r0:Dl} (h:Bk K d0 r0) (s:∀ x∈K,x∈L):Bk L d0 r0:=⟨h.t.up s,h.m.up s,h.no⟩
theorem Dq.out {P:PyData→Prop} {K:List Str} {l:Dl} (h:Dq P K l) {y:Str} (hy:y∉K):y∉ky l:=fun z=>by
 obtain ⟨p,hp,rfl⟩:=List.mem_map.mp z
 exact hy (h.ok p hp).2
theorem tu {l:Dl} {s:Str} {x:PyData}:ky (l++[(s,x)])=ky l++[s]:=by simp [ky]
theorem Dq.add {P:PyData→Prop} {K:List Str} {l:Dl} (h:Dq P K l) {s:Str} {x:PyData} (hx:P x) (hs:s∈K) (ho:s∉ky l):Dq P K (l++[(s,x)]):=by
 have:=h.put hx hs
 unfold putL at this
 rwa [if_neg ho] at this
theorem j6 {l:Dl} {s:Str} {x:PyData} (ho:s∉ky l):putN (aG l) s x=aG (l++[(s,x)]):=by
 rw [BF]
 unfold putL
 rw [if_neg ho]
theorem Bk.addT {K:List Str} {d0 r0:Dl} (h:Bk K d0 r0) {y:Str} {v:PyData} (hv:bf v=true) (hy:y∈K) (o1:y∉ky d0) (o2:y∉ky r0):Bk K (d0++[(y,v)]) r0:=⟨h.t.add hv hy o1,h.m,fun s hs=>by
 rw [tu] at hs
 rcases List.mem_append.mp hs with z | z
 ·exact h.no s z
 ·rw [List.mem_singleton.mp z]; exact o2⟩
theorem Bk.addM {K:List Str} {d0 r0:Dl} (h:Bk K d0 r0) {y:Str} {v:PyData} (hv:RC 5 0 60 v) (hy:y∈K) (o1:y∉ky d0) (o2:y∉ky r0):Bk K d0 (r0++[(y,v)]):=⟨h.t,h.m.add hv hy o2,fun s hs z=>by
 rw [tu] at z
 rcases List.mem_append.mp z with z | z
 ·exact h.no s hs z
 ·rw [List.mem_singleton.mp z] at hs; exact o1 hs⟩
section
variable {l:List Str} (hn:Ns l) (h0:0 < l.length) (h1:l.length≤20)
include hn h0 h1 in
theorem Bd {K:List Str} (hKl:K.length≤20) {d0 r0:Dl} (hb:Bk K d0 r0) {y:Str} (hy:y∈K) (o1:y∉ky d0) (o2:y∉ky r0) {xs:List PyData} (hf:Fr xs) {sc ba:PyData} {pk:Bool} {j:Int} (ey:atI (nm l) j=some (.str y)) {o8:Option W} :
  ∃ d1 r1 w xs',hJ [some (.d sc),some (.d ba),some (.d (.list (nm l))),some (.d (.bool pk)),some (.loc (.dict (aG d0))),some (.loc (.dict (aG r0))),some (.d (.int j)),some (.tp 0),o8] [xs]=some ((.nx,[some (.d sc),some (.d ba),some (.d (.list (nm l))),some (.d (.bool pk)),some (.loc (.dict (aG d1))),some (.loc (.dict (aG r1))),some (.d (.int j)),some (.tp 0),some (.d (.int w))]),[xs'])∧Bk K d1 r1:=by
 obtain ⟨w,x1,e1,f1,w0,w1⟩:=bc hf (m:=8) (by decide) (by decide)
 have z1:(aG d0).length≤1000:=by rw [il]; have:=hb.1.len; omega
 have z2:(aG r0).length≤1000:=by rw [il]; have:=hb.2.len; omega
 by_cases h2:w < 2
 ·obtain ⟨v,x2,e2,hv,f2⟩:=kU f1 hn h0 h1
  exact ⟨d0++[(y,v)],r0,w,x2,by simp [hJ,e1,h2,e2,ey,z1,j6 o1],hb.addT hv hy o1 o2⟩
 ·by_cases h7:w < 7
  ·obtain ⟨r,x2,e2,hr,f2⟩:=tT hn h0 h1 f1 pk
   exact ⟨d0,r0++[(y,r)],w,x2,by simp [hJ,e1,h2,h7,e2,ey,z2,j6 o2],hb.addM hr hy o1 o2⟩
  ·exact ⟨d0,r0,w,x1,by simp [hJ,e1,h2,h7],hb⟩
include hn h0 h1 in
theorem CI (nd:l.Nodup) (ns:List Int) {ba:Int} (hba:0≤ba) (pk:Bool):∃ d0 r0,gy [.d (scr ns),.d (.int ba),.d (.list (nm l)),.d (.bool pk)] []=some (bkD d0 r0,[])∧Bk l d0 r0:=by
 have lp:=tF (i:=6) (body:=l0) (I:=fun k ρ T=>∃ d0 r0 o6 w8,ρ=[some (.d (scr ns)),some (.d (.int ba)),some (.d (.list (nm l))),some (.d (.bool pk)),some (.loc (.dict (aG d0))),some (.loc (.dict (aG r0))),o6,none,w8]∧T=[]∧Bk (l.take k) d0 r0)
  (bK 0 l.length) 0 [some (.d (scr ns)),some (.d (.int ba)),some (.d (.list (nm l))),some (.d (.bool pk)),some (.loc (.dict [])),some (.loc (.dict [])),none,none,none] [] ⟨[],[],none,none,rfl,rfl,.nil,.nil,fun _ h=>nomatch h⟩ (fun j d ρ T hd hI=>by
   obtain ⟨d0,r0,o6,w8,rfl,rfl,hb⟩:=hI
   obtain ⟨rfl,hj⟩:=AG hd
   rw [Nat.zero_add] at hb ⊢
   obtain ⟨xs,hf,ef⟩:=jf ns (ba + j) (by omega)
   have tk:l.take (j + 1)=l.take j++[l[j]]:=List.take_succ_eq_append_getElem hj
   have ny:l[j]∉l.take j:=by
    have nd2:(l.take (j + 1)).Nodup:=List.Nodup.sublist (List.take_sublist _ _) nd
    rw [tk,List.nodup_append] at nd2
    exact fun z=>nd2.2.2 _ z _ (List.mem_singleton.mpr rfl) rfl
   have ey:atI (nm l) (j:Int)=some (.str l[j]):=by
    have:(nm l)[j]? = some (.str l[j]):=by simp [nm,hj]
    exact Bg this
   have hb':Bk (l.take (j + 1)) d0 r0:=hb.up fun x hx=>by rw [tk]; exact List.mem_append_left _ hx
   obtain ⟨d1,r1,w,xs',e,hb2⟩:=Bd hn h0 h1 (by rw [List.length_take]; omega) hb' (by rw [tk]; exact List.mem_append_right _ (List.mem_singleton.mpr rfl)) (hb.t.out ny) (hb.m.out ny) hf (sc:=scr ns) (ba:=.int ba) (pk:=pk) ey (o8:=w8)
   refine ⟨[some (.d (scr ns)),some (.d (.int ba)),some (.d (.list (nm l))),some (.d (.bool pk)),some (.loc (.dict (aG d1))),some (.loc (.dict (aG r1))),some (.d (.int j)),none,some (.d (.int w))],[],?_,d1,r1,_,_,rfl,rfl,hb2⟩
   have oo:=qI (i:=7) (fr:=hJ) (ρ:=[some (.d (scr ns)),some (.d (.int ba)),some (.d (.list (nm l))),some (.d (.bool pk)),some (.loc (.dict (aG d0))),some (.loc (.dict (aG r0))),some (.d (.int j)),none,w8]) e
   have ef':=ef []
   unfold l0
   unfold scr at ef' oo ⊢
   simp only [qR,List.set_cons_succ,List.set_cons_zero,mM,mL,mK,mJ,mI,sg,sf,se,eC,mq,nE,mN,nv,A5,nB,nA,ef',oo]
   rfl)
 obtain ⟨ρ',T',e,d0,r0,o6,w8,rfl,rfl,hb⟩:=lp
 rw [iP,Nat.zero_add,List.take_length] at hb
 refine ⟨d0,r0,?_,hb⟩
 have ro:eF (l.length:Int)=true:=rng_ok (by omega) (by omega)
 have tn:((l.length:Int)).toNat=l.length:=by omega
 rw [yr]
 simp [cC,ro,tn]
 rw [e]
 simp [bkD,A3]
end
open K1 (isName bf has LET)
def dr (l:Dl) (y:Str):Dl:=l.filter fun p=>!decide (p.1=y)
theorem dr_mem {l:Dl} {y:Str} {p:Str×PyData}:p∈dr l y↔p∈l∧p.1≠y:=by simp [dr]
theorem uA {l:Dl} {y:Str}:y∉ky (dr l y):=fun z=>by
 obtain ⟨p,hp,e⟩:=List.mem_map.mp z
 exact (dr_mem.mp hp).2 e
theorem DY {l:Dl} {y:Str} (h:y∉ky l):dr l y=l:=by
 unfold dr
 rw [List.filter_eq_self]
 intro p hp
 have:p.1≠y:=fun e=>h (List.mem_map.mpr ⟨p,hp,e⟩)
 simp [this]
theorem sy (y:Str):∀ l:Dl,cE (aG l) y=aG (dr l y)
 | []=>rfl
 | (k,d)::r=>by
  have ih:=sy y r
  unfold cE aG dr at ih ⊢
  by_cases h:k=y
  ·simp [h]
   simpa using ih
  ·simp [h]
   simpa using ih
theorem BI (l:Dl) (y:Str):(if (bq (aG l) y).isSome=true then cE (aG l) y else aG l)=aG (dr l y):=by
 rw [fS,hW]
 by_cases h:y∈ky l
 ·rw [decide_eq_true h,if_pos rfl,sy]
 ·rw [decide_eq_false h,if_neg (by decide),DY h]
theorem tR (d r:Dl) (y:Str) (T:Tp):eQ [.d (bkD d r),.d (.str y)] T=some (bkD (dr d y) (dr r y),T):=by
 unfold bkD
 simp [eQ,jI,BI]
theorem CF (d r:Dl) (y:Str) (T:Tp):cy [.d (bkD d r),.d (.str y)] T=some (.str (Str.ofString (if y∈ky d then "told" else if y∈ky r then "made" else "lacks")),T):=by
 unfold bkD
 by_cases h1:y∈ky d
 ·simp [cy,jI,fS,hW,h1]
 ·by_cases h2:y∈ky r
  ·simp [cy,jI,fS,hW,h1,h2]
  ·simp [cy,jI,fS,hW,h1,h2]
theorem p5 (l:Dl):lc (aG l)=nm (ky l):=zA l
theorem Ae {l:List Str} (h:l.length < 64):kX [.list (nm l)]=some (.list (nm (dU l))):=by
 have e:fX (nm l)=some l:=by
  have:=pM (fun x:Str=>x) l
  simpa [nm] using this
 show nN (fX (nm l))=_
 rw [e]
 show (if l.length < 64 then _ else _)=_
 rw [if_pos h]
 rfl
def cj (d r:Dl) (y:Str):Bool:=!decide (y∈ky d) && !decide (y∈ky r)
theorem mU (d r:Dl) (y:Str) (T:Tp):∃ s,cy [.d (bkD d r),.d (.str y)] T=some (.str (Str.ofString s),T)∧decide (Str.ofString s=Str.ofString "lacks")=cj d r y:=by
 have e:=CF d r y T
 unfold cj
 by_cases h1:y∈ky d
 ·rw [if_pos h1] at e
  exact ⟨_,e,by simp [h1]⟩
 ·rw [if_neg h1] at e
  by_cases h2:y∈ky r
  ·rw [if_pos h2] at e
   exact ⟨_,e,by simp [h2]⟩
  ·rw [if_neg h2] at e
   exact ⟨_,e,by simp [h1,h2]⟩
theorem yK {d r:Dl} (h:d.length + r.length < 64) (T:Tp):∃ s,eO [.d (bkD d r)] T=some (.list (nm s),T)∧s.length=d.length + r.length:=by
 have hl:(ky d++ky r).length=d.length + r.length:=by simp [ky]
 have e:nm (ky d)++nm (ky r)=nm (ky d++ky r):=by simp [nm]
 refine ⟨dU (ky d++ky r),?_,by rw [(jK _).length_eq]; exact hl⟩
 have z:(nm (ky d)).length + (nm (ky r)).length≤sizeLine:=mz (by rw [← List.length_append,e,cC]; omega)
 unfold bkD
 simp [eO,jI,p5,z,e,Ae (l:=ky d++ky r) (by omega)]
def full (d r:Dl) (y:Str):Bool:=cj d r y && decide (40≤d.length + r.length)
def jg:FT:=bp (av (ai eqD (aq cy (aa (ae 0) (aa (ae 1) ah))) (fC (.str "lacks")))) (av (ai geD (fCB aT (aa (aq eO (aa (ae 0) ah)) ah)) (fC (.int 40))))
theorem sN {d r:Dl} (h:d.length + r.length < 64) (y:Str) (T:Tp):jg [some (.d (bkD d r)),some (.d (.str y))] T=some (full d r y,T):=by
 obtain ⟨s,e1,e2⟩:=mU d r y T
 obtain ⟨ns,e3,e4⟩:=yK h T
 have g:decide ((40:Int)≤(ns.length:Int))=decide (40≤d.length + r.length):=decide_eq_decide.mpr (by omega)
 unfold full
 rw [← e2]
 by_cases z:Str.ofString s=Str.ofString "lacks"
 ·simp [jg,e1,e3,cC,z,g]
 ·simp [jg,e1,z]
section
variable {d r:Dl} (h:d.length + r.length < 64) {y:Str} (T:Tp)
include h in
theorem eZ:gG [.d (bkD d r),.d (.str y)] T=if full d r y=true then some (3,T) else none:=by
 show XO.mkX 2 (XO.cu jg 3) [.d (bkD d r),.d (.str y)] T=_
 have e:=sN h y T
 simp [XO.mkX,XO.cu,e]
include h in
theorem tQ (nf:full d r y=false):gz [.d (bkD d r),.d (.str y)] T=some (bkD (dr d y) (dr r y),T):=by
 have hk:∀ ρ:Rho,iq ρ (bkD (dr d y) (dr r y)) T=some ((.ro (bkD (dr d y) (dr r y)),ρ),T):=fun _=>rfl
 have e:=sN h y T
 have e2:=tR d r y T
 show eG 2 (ap (fIf jg fj aF) (jb eQ (aa (ae 0) (aa (ae 1) ah)))) [.d (bkD d r),.d (.str y)] T=_
 simp [e,nf,e2,hk]
end
theorem cI {x:PyData} (hs:Sm x) (T:Tp):c7 [.d x] T=if isName x=true then none else some (0,T):=by
 have e:=nL T hs
 by_cases hn:isName x=true
 ·simp [c7,XO.mkX,XO.cu,e,hn]
 ·simp [c7,XO.mkX,XO.cu,e,hn]
theorem g9 {x:PyData} (T:Tp) (hs:Sm x) (hn:isName x=true):cx [.d x] T=some (.none,T):=by
 have:=nL T hs
 rw [hn] at this
 simp [cx,this]
theorem qK {x:PyData} (h:isName x=true):∃ y,x=.str y:=by cases x <;> first | exact ⟨_,rfl⟩ | cases h
theorem pV {m:FnM} {a b x:PyData} {s:Str} {d r:Dl} {T:Tp} {bt:Bool} (h:m [.d a,.d (.str s)] T=some (bkD d r,T)) (hb:b=.str s) (hl:d.length≤1000∧r.length≤1000) :
  iW 3 bt m (aa (ae 0) (aa (ae 1) ah)) (ae 1) (ae 2) [some (.d a),some (.d b),some (.d x),none] T=some ((.ro (if bt then .tuple [.dict (aG d),.dict (putN (aG r) s x)] else .tuple [.dict (putN (aG d) s x),.dict (aG r)]),[some (.d a),some (.d b),some (.d x),none]),T):=by
 subst hb
 have z:(if bt then aG r else aG d).length≤1000:=by cases bt <;> simp [il,hl]
 unfold iW
 simp [h]
 show (if 3 < 4 then (iA bt s x (bkD d r)).map _ else none)=_
 unfold iA bkD
 dsimp only
 rw [if_pos (by decide),if_pos z]
 rfl
def dh (d:PyData):Bool:=decide (rc 20 (false,d,0)≤60)
section
variable {d r:Dl} (h:d.length + r.length < 64) {x th:PyData} (hs:Sm x) (ht:Sm th) (T:Tp)
include hs in
theorem vf {m:FnM} {c:Nat} {B:XO.FX} (hn:isName x=false) {b t:PyData}:XO.mkX 4 (XO.cm (XO.aY c7 (aa (ae 1) ah)) B) [.d b,.d x,.d t] T=some (0,T):=by
 have e:=cI hs T
 simp [XO.mkX,XO.cm,XO.aY,e,hn]
include hs in
theorem Ec {B:XO.FX} (hn:isName x=false) {b:PyData}:XO.mkX 2 (XO.cm (XO.aY c7 (aa (ae 1) ah)) B) [.d b,.d x] T=some (0,T):=by
 have e:=cI hs T
 simp [XO.mkX,XO.cm,XO.aY,e,hn]
include h hs ht in
theorem gO (y:Str) (hx:x=.str y) (hn:isName x=true):eW [.d (bkD d r),.d x,.d th] T=if bf th=true then (if full d r y=true then some (3,T) else none) else some (1,T):=by
 subst hx
 have e:=cI hs T
 have e2:=g9 T hs hn
 have e3:=mT T ht
 have e4:=eZ h (y:=y) T
 by_cases hv:bf th=true
 ·simp [eW,XO.mkX,XO.cm,XO.cM,XO.cu,XO.aY,e,hn,e2,e3,hv,e4]
 ·simp [eW,XO.mkX,XO.cm,XO.cM,XO.cu,XO.aY,e,hn,e2,e3,hv,e4]
include h hs ht in
theorem gP (y:Str) (hx:x=.str y) (hn:isName x=true):eX [.d (bkD d r),.d x,.d th] T=if dh th=true then (if full d r y=true then some (3,T) else none) else some (2,T):=by
 subst hx
 have e:=cI hs T
 have e2:=g9 T hs hn
 have e3:dM [.d th] T=some (.bool (dh th),T):=oZ T ht
 have e4:=eZ h (y:=y) T
 by_cases hv:dh th=true
 ·simp [eX,XO.mkX,XO.cm,XO.cM,XO.cu,XO.aY,e,hn,e2,e3,hv,e4]
 ·simp [eX,XO.mkX,XO.cm,XO.cM,XO.cu,XO.aY,e,hn,e2,e3,hv,e4]
include hs in
theorem gC (y:Str) (hx:x=.str y) (hn:isName x=true):eP [.d (bkD d r),.d x] T=if cj d r y=true then some (4,T) else none:=by
 subst hx
 have e:=cI hs T
 have e2:=g9 T hs hn
 obtain ⟨s,e3,e4⟩:=mU d r y T
 by_cases z:Str.ofString s=Str.ofString "lacks"
 ·rw [decide_eq_true z] at e4
  simp [eP,XO.mkX,XO.cm,XO.cM,XO.cu,XO.aY,e,hn,e2,e3,z,← e4]
 ·rw [decide_eq_false z] at e4
  simp [eP,XO.mkX,XO.cm,XO.cM,XO.cu,XO.aY,e,hn,e2,e3,z,← e4]
include h hs ht in
theorem CD (y:Str) (hx:x=.str y) (hn:isName x=true) (hv:bf th=true) (nf:full d r y=false):∃ a b,fN [.d (bkD d r),.d x,.d th] T=some (bkD a b,T):=by
 subst hx
 have l1:(dr d y).length≤d.length:=List.length_filter_le _ _
 have l2:(dr r y).length≤r.length:=List.length_filter_le _ _
 have e:=pV (bt:=false) (x:=th) (tQ h (y:=y) T nf) rfl ⟨by omega,by omega⟩
 rw [j6 (l:=dr d y) uA] at e
 refine ⟨dr d y++[(y,th)],dr r y,?_⟩
 simp [fN,g9 T hs hn,mT T ht,hv,e]
 rfl
include h hs ht in
theorem CG (y:Str) (hx:x=.str y) (hn:isName x=true) (hv:dh th=true) (nf:full d r y=false):∃ a b,fO [.d (bkD d r),.d x,.d th] T=some (bkD a b,T):=by
 subst hx
 have l1:(dr d y).length≤d.length:=List.length_filter_le _ _
 have l2:(dr r y).length≤r.length:=List.length_filter_le _ _
 have e:=pV (bt:=true) (x:=th) (tQ h (y:=y) T nf) rfl ⟨by omega,by omega⟩
 rw [j6 (l:=dr r y) uA] at e
 have e3:dM [.d th] T=some (.bool (dh th),T):=oZ T ht
 refine ⟨dr d y,dr r y++[(y,th)],?_⟩
 simp [fO,g9 T hs hn,e3,hv,e]
 rfl
include hs in
theorem yI (y:Str) (hx:x=.str y) (hn:isName x=true) (nl:cj d r y=false):∃ a b,fR [.d (bkD d r),.d x] T=some (bkD a b,T):=by
 subst hx
 obtain ⟨s,e3,e4⟩:=mU d r y T
 have z:¬ Str.ofString s=Str.ofString "lacks":=fun z=>by rw [decide_eq_true z,nl] at e4; cases e4
 have e2:=tR d r y T
 have hk:∀ ρ:Rho,iq ρ (bkD (dr d y) (dr r y)) T=some ((.ro (bkD (dr d y) (dr r y)),ρ),T):=fun _=>rfl
 exact ⟨dr d y,dr r y,by simp [fR,g9 T hs hn,e3,z,e2,hk]⟩
def due (z:Int) (d r:Dl) (x th:PyData):Int:=match x with
 | .str y=>if isName x=true then (if z=0 then (if bf th=true then (if full d r y=true then 4 else 0) else 2) else if z=1 then (if dh th=true then (if full d r y=true then 4 else 0) else 3) else if cj d r y=true then 5 else 0) else 1
 | _=>1
theorem oA {a b:Dl} {T:Tp}:iZ (bkD a b) T=some (.d (bkD a b),T):=rfl
include h hs ht in
theorem Bm {z:Int} (hz:z=0∨z=1∨z=2):dw [.d (.int z),.d (bkD d r),.d x,.d th] T=some (.int (due z d r x th),T):=by
 have goE:∀ {c:Nat},cz [some (.d (.int z)),some (.d (bkD d r)),some (.d x),some (.d th),some (.d .none),some (.d (.int 0)),none] T=some (c,T)→c < 5→dw [.d (.int z),.d (bkD d r),.d x,.d th] T=some (.int ((c:Int) + 1),T):=fun {c} e hc=>by
  have e':ie [.d (.int z),.d (bkD d r),.d x,.d th] T=some (c,T):=e
  unfold dw
  rw [e']
  dsimp only
  rw [if_pos hc]
 have goS:cz [some (.d (.int z)),some (.d (bkD d r)),some (.d x),some (.d th),some (.d .none),some (.d (.int 0)),none] T=none→(∃ a b,(if z=0 then fN [.d (bkD d r),.d x,.d th] T else if z=1 then fO [.d (bkD d r),.d x,.d th] T else fR [.d (bkD d r),.d x] T)=some (bkD a b,T))→dw [.d (.int z),.d (bkD d r),.d x,.d th] T=some (.int 0,T):=fun e ⟨a,b,e2⟩=>by
  have e':ie [.d (.int z),.d (bkD d r),.d x,.d th] T=none:=e
  unfold dw
  rw [e']
  dsimp only
  rcases hz with rfl | rfl | rfl
  ·simp at e2
   simp [jZ,lh,e2,oA]
   exact fun _=>rfl
  ·simp at e2
   simp [jZ,lh,e2,oA]
   exact fun _=>rfl
  ·simp at e2
   simp [jZ,lh,e2,oA]
   exact fun _=>rfl
 by_cases hn:isName x=true
 ·obtain ⟨y,hy⟩:=qK hn
  have xt:=gO h hs ht T y hy hn
  have xm:=gP h hs ht T y hy hn
  have xw:=gC hs (d:=d) (r:=r) T y hy hn
  have hd:due z d r x th=if z=0 then (if bf th=true then (if full d r y=true then 4 else 0) else 2) else if z=1 then (if dh th=true then (if full d r y=true then 4 else 0) else 3) else if cj d r y=true then 5 else 0:=by
   subst hy
   simp [due,hn]
  rw [hd]
  rcases hz with rfl | rfl | rfl
  ·by_cases hv:bf th=true
   ·by_cases hf:full d r y=true
    ·rw [goE (c:=3) (by simp [cz,XO.cJ,XO.aY,xt,hv,hf]) (by decide)]
     simp [hv,hf]
    ·have hf':full d r y=false:=by simpa using hf
     rw [goS (by simp [cz,XO.cJ,XO.aY,xt,hv,hf]) (by simpa using CD h hs ht T y hy hn hv hf')]
     simp [hv,hf]
   ·rw [goE (c:=1) (by simp [cz,XO.cJ,XO.aY,xt,hv]) (by decide)]
    simp [hv]
  ·by_cases hv:dh th=true
   ·by_cases hf:full d r y=true
    ·rw [goE (c:=3) (by simp [cz,XO.cJ,XO.aY,xm,hv,hf]) (by decide)]
     simp [hv,hf]
    ·have hf':full d r y=false:=by simpa using hf
     rw [goS (by simp [cz,XO.cJ,XO.aY,xm,hv,hf]) (by simpa using CG h hs ht T y hy hn hv hf')]
     simp [hv,hf]
   ·rw [goE (c:=2) (by simp [cz,XO.cJ,XO.aY,xm,hv]) (by decide)]
    simp [hv]
  ·by_cases hf:cj d r y=true
   ·rw [goE (c:=4) (by simp [cz,XO.cJ,XO.aY,xw,hf]) (by decide)]
    simp [hf]
   ·have hf':cj d r y=false:=by simpa using hf
    rw [goS (by simp [cz,XO.cJ,XO.aY,xw,hf]) (by simpa using yI hs T y hy hn hf')]
    simp [hf]
 ·have hn':isName x=false:=by simpa using hn
  have hd:due z d r x th=1:=by
   cases x <;> simp [due,hn']
  have a1:eW [.d (bkD d r),.d x,.d th] T=some (0,T):=vf (m:=cR) (c:=0) hs T hn'
  have a2:eX [.d (bkD d r),.d x,.d th] T=some (0,T):=vf (m:=cR) (c:=0) hs T hn'
  have a3:eP [.d (bkD d r),.d x] T=some (0,T):=Ec hs T hn'
  rw [hd]
  rcases hz with rfl | rfl | rfl
  ·exact goE (c:=0) (by simp [cz,XO.cJ,XO.aY,a1]) (by decide)
  ·exact goE (c:=0) (by simp [cz,XO.cJ,XO.aY,a2]) (by decide)
  ·exact goE (c:=0) (by simp [cz,XO.cJ,XO.aY,a3]) (by decide)
end
theorem nj {e:Dl}:∀ {d:Dl},(∀ p∈d,e.lookup p.1=some p.2∧Go 64 p.2)→fF (aG e) (aG d)=some true
 | [],_=>rfl
 | (k,v)::r,h=>by
  have ih:=nj (e:=e) (d:=r) fun p hp=>h p (List.mem_cons_of_mem _ hp)
  obtain ⟨h1,h2⟩:=h (k,v) List.mem_cons_self
  show fF (aG e) ((.str k,v)::aG r)=_
  unfold fF
  rw [fS,h1]
  dsimp only
  rw [if_pos ⟨h2.shp,h2.shp⟩,ih]
  simp [SeqAt.eqv_refl v h2.cl]
theorem uz {d e:Dl} (nd:(ky d).Nodup) (hl:d.length=e.length) (h:∀ p∈d,e.lookup p.1=some p.2) (g:∀ p∈d,Go 64 p.2):g7 (aG d) (aG e)=some true:=by
 unfold g7
 rw [if_pos (nj fun p hp=>⟨j9 nd hp,g p hp⟩),if_pos (by rw [il,il,hl]),nj fun p hp=>⟨h p hp,g p hp⟩]
theorem Dp {a b c d:Dl} (h1:g7 (aG a) (aG c)=some true) (h2:g7 (aG b) (aG d)=some true):neP (bkD a b) (bkD c d)=some (.bool false):=by
 unfold neP bkD
 dsimp only
 have e1:jF (.dict (aG a)) (.dict (aG c))=some true:=h1
 have e2:jF (.dict (aG b)) (.dict (aG d))=some true:=h2
 unfold fJ
 rw [e1]
 unfold fJ
 rw [e2]
 rfl
theorem ou {k:Int} (h0:0≤k) (h1:k < 16):k=0∨k=1∨k=2∨k=3∨k=4∨k=5∨k=6∨k=7∨k=8∨k=9∨k=10∨k=11∨k=12∨k=13∨k=14∨k=15:=by omega
def iD:PyData→Bool
 | .str _=>true
 | .int _=>true
 | .bool _=>true
 | _=>false
theorem ji (x:PyData):jn x=some (.bool (iD x)):=by cases x <;> rfl
structure Nam (x:PyData):Prop where
 sm:Sm x
 ln:∀ T,dJ [.d x] T=some (.bool (isName x),T)
theorem qN {x:Str} (h:Sm (.str x)) (T:Tp):dJ [.d (.str x)] T=some (.bool (isName (.str x)),T):=by
 have hz:x.length≤sizeLine:=Nat.le_trans h.str (by decide)
 have e:isName (.str x)=(decide (1≤x.length) && decide (x.length≤8) && has LET x):=rfl
 have hi:bR .str .str=true:=rfl
 have hc:bG bB (ai inD (ae 0) (fC (.str "abcdefghijklmnopqrstuvwxyz"))) [some (.d (.str x))] (D.signs x) T=some ((D.signs x).map fun d=>.bool (mW LET d),T):=gB fun d hd=>by
  obtain ⟨c,_,rfl⟩:=pN hd
  rfl
 by_cases h1:1≤x.length
 ·have h1':(1:Int)≤(x.length:Int):=by omega
  by_cases h2:x.length≤8
  ·have h2':(x.length:Int)≤8:=by omega
   simp [dJ,hi,hz,hc,pO,e,h1,h1',h2,h2']
  ·have h2':¬ (x.length:Int)≤8:=by omega
   simp [dJ,hi,hz,e,h1,h1',h2,h2']
 ·have h1':¬ (1:Int)≤(x.length:Int):=by omega
  simp [dJ,hi,hz,e,h1,h1']
theorem AH (T:Tp) {k:Int} (h0:0≤k) (h1:k < 16):∃ x,gu [.d (.int k)] T=some (x,T)∧Nam x:=by rcases ou h0 h1 with rfl | rfl | rfl | rfl | rfl | rfl | rfl | rfl | rfl | rfl | rfl | rfl | rfl | rfl | rfl | rfl <;> first | exact ⟨_,rfl,by first | rfl | decide +kernel,fun _=>qN (by first | rfl | decide +kernel) _⟩ | exact ⟨_,rfl,by first | rfl | decide +kernel,fun _=>rfl⟩
theorem B3 {y:Str} (h:Nx 8 y):Nam (.str y):=⟨(nZ (n:=1) h).sm,qN (nZ (n:=1) h).sm⟩
theorem BZ (T:Tp) {k:Int} (h0:0≤k) (h1:k < 16):∃ x,gr [.d (.int k)] T=some (x,T)∧Sm x∧bf x=false:=by rcases ou h0 h1 with rfl | rfl | rfl | rfl | rfl | rfl | rfl | rfl | rfl | rfl | rfl | rfl | rfl | rfl | rfl | rfl <;> exact ⟨_,rfl,by first | rfl | decide +kernel,by first | rfl | decide +kernel⟩
theorem B0 (T:Tp) {k:Int} (h0:0≤k) (h1:k < 16):∃ x,gq [.d (.int k)] T=some (x,T)∧Sm x∧dh x=false:=by rcases ou h0 h1 with rfl | rfl | rfl | rfl | rfl | rfl | rfl | rfl | rfl | rfl | rfl | rfl | rfl | rfl | rfl | rfl <;> exact ⟨_,rfl,by first | rfl | decide +kernel,by first | rfl | decide +kernel⟩
structure Tm (d r:Dl):Prop where
 n1:(ky d).Nodup
 n2:(ky r).Nodup
 g1:∀ p∈d,Go 64 p.2∧Nx 8 p.1
 g2:∀ p∈r,Go 64 p.2
 ln:d.length + r.length≤40
theorem Tm.self {d r:Dl} (h:Tm d r):neP (bkD d r) (bkD d r)=some (.bool false):=Dp (uz h.n1 rfl (fun p hp=>j9 h.n1 hp) fun p hp=>(h.g1 p hp).1) (uz h.n2 rfl (fun p hp=>j9 h.n2 hp) h.g2)
theorem D9 {l:List Str} {d r:Dl} (hn:Ns l) (hl:l.length≤20) (b:Bk l d r):Tm d r:=⟨b.t.nd,b.m.nd,fun p hp=>⟨(ja (b.t.ok p hp).1).up (by decide),hn _ (b.t.ok p hp).2⟩,fun p hp=>(uo (b.m.ok p hp).1).up (by decide),by have:=b.t.len; have:=b.m.len; omega⟩
theorem qu (l:Dl):gW (aG l)=true:=by
 unfold gW aG
 rw [List.all_map,List.all_eq_true]
 intro p _
 rfl
theorem CB (l:List Str):∃ m:List Str,bN (nm l) none (some 3)=nm m∧m.length≤3∧∀ y∈m,y∈l:=by
 refine ⟨l.take 3,?_,by rw [List.length_take]; omega,fun y hy=>List.mem_of_mem_take hy⟩
 unfold bN
 rw [HT.qz,show (3:Int)=((3:Nat):Int) from rfl,HT.rD]
 by_cases h:3≤(nm l).length
 ·rw [Nat.min_eq_left h]
  simp [nm]
 ·rw [Nat.min_eq_right (by omega)]
  have:l.length≤3:=by simp [nm] at h; omega
  rw [List.drop_zero,Nat.sub_zero,List.take_length,List.take_of_length_le this]
def FL (n:Nat):List Str:=(List.range n).map fun k=>Str.ofString "q"++(if k < 26 then Str.ofString "x" else Str.ofString "y")++⟨#[97 + k % 26]⟩
theorem uu:(FL 40).Nodup:=by decide +kernel
theorem ut:∀ y∈FL 40,Nx 8 y:=by
 have h:(FL 40).all (fun y=>decide (y.length≤8) && y.cps.toList.all sfC && decide (1≤y.length))=true:=by decide +kernel
 intro y hy
 have:=List.all_eq_true.mp h y hy
 simp only [Bool.and_eq_true,decide_eq_true_eq] at this
 exact ⟨this.1.1,nP this.1.2,this.2⟩
theorem CH {n:Int} (h:n=39∨n=40) (T:Tp):∃ fl:List Str,gx [.d (.int n)] T=some (.list (nm fl),T)∧fl.Nodup∧(∀ y∈fl,Nx 8 y)∧fl.length≤40:=by
 rcases h with rfl | rfl
 ·exact ⟨FL 39,rfl,List.Nodup.sublist (List.Sublist.map _ (List.range_sublist.mpr (by decide))) uu,fun y hy=>ut y ((List.Sublist.map _ (List.range_sublist.mpr (by decide))).subset hy),by decide⟩
 ·exact ⟨FL 40,rfl,uu,ut,by decide⟩
def ρM (sc:PyData) (l:List Str) (tm:PyData) (k:Option PyData) (o4:Option W) (a5 a6 a7 a8 a9 a10 a11 a12:Option PyData):Rho:=[some (.d sc),some (.d (.list (nm l))),some (.d tm),k.map .d,o4,a5.map .d,a6.map .d,a7.map .d,a8.map .d,a9.map .d,a10.map .d,a11.map .d,a12.map .d]
theorem eL {d r:Dl}:ixD (bkD d r) (.int 0)=some (.dict (aG d)):=rfl
theorem fD {d r:Dl}:ixD (bkD d r) (.int 1)=some (.dict (aG r)):=rfl
theorem bkP {d r:Dl}:PyData.tuple [.dict (aG d),.dict (aG r)]=bkD d r:=rfl
theorem EH {z:Int} (hz:z=0∨z=1∨z=2) (a b c:PyData):atI [a,b,c] z=some (if z=0 then a else if z=1 then b else c):=by rcases hz with rfl | rfl | rfl <;> rfl
theorem uf {y:Str} {l:Dl}:dQ (.str y) (.dict (aG l))=some (.bool (!decide (y∈ky l))):=by
 show some (PyData.bool (!(bq (aG l) y).isSome))=_
 rw [fS,hW]
theorem Dm {i:Int} {l:Dl}:dQ (.int i) (.dict (aG l))=some (.bool true):=if_pos (qu l)
theorem Do {i:Bool} {l:Dl}:dQ (.bool i) (.dict (aG l))=some (.bool true):=if_pos (qu l)
theorem fB (l:Dl):aT [.dict (aG l)]=some (.int l.length):=by
 show some (PyData.int (aG l).length)=_
 rw [il]
def isNew (d r:Dl):PyData→Bool
 | .str y=>cj d r y
 | .int _=>true
 | .bool _=>true
 | _=>false
section
variable {l:List Str} (hn:Ns l) (h0:0 < l.length) (h1:l.length≤8) {d r:Dl} (tm:Tm d r) {sc:PyData} {k:Option PyData} {a5 a6 a7 a8 a9 a10 a11 a12:Option PyData} {xs:List PyData}
include hn h0 h1 tm in
theorem Aa (hf:Fr xs) {z:Int}:∃ sm x x',((ar 6 (ai aP (ae 1) (fSl (fCB fg (aa (ai ixD (ae 2) (fC (.int 0))) ah)) cX (fP (fC (.int 3)))))) (ρM sc l (bkD d r) k (some (.tp 0)) (some (.int z)) a6 a7 a8 a9 a10 a11 a12) [xs]=some ((.nx,ρM sc l (bkD d r) k (some (.tp 0)) (some (.int z)) (some sm) a7 a8 a9 a10 a11 a12),[xs])) ∧
  ap (ar 7 (ai ixD (ae 6) (aq aB (aa (ae 4) (aa (fCB aT (aa (ae 6) ah)) ah))))) (fIf (av (ai eqD (aq aB (aa (ae 4) (aa (fC (.int 4)) ah))) (fC (.int 0)))) (ar 7 (aq gu (aa (aq aB (aa (ae 4) (aa (fC (.int 16)) ah))) ah))) aF) (ρM sc l (bkD d r) k (some (.tp 0)) (some (.int z)) (some sm) a7 a8 a9 a10 a11 a12) [xs]=some ((.nx,ρM sc l (bkD d r) k (some (.tp 0)) (some (.int z)) (some sm) (some x) a8 a9 a10 a11 a12),[x'])∧Nam x∧Fr x':=by
 obtain ⟨m,ec,lm,hm⟩:=CB (ky d)
 have na:nm l++nm m=nm (l++m):=by simp [nm]
 have zz:l.length + m.length≤sizeLine:=by rw [sz]; omega
 obtain ⟨i,x1,e1,f1,i0,i1⟩:=bc hf (m:=((l++m).length:Int)) (by rw [List.length_append]; omega) (by rw [List.length_append]; omega)
 obtain ⟨y,ey,my⟩:=lw (l:=l++m) i0 i1
 have hy:Nx 8 y:=by
  rcases List.mem_append.mp my with q | q
  ·exact hn y q
  ·obtain ⟨p,hp,rfl⟩:=List.mem_map.mp (hm y q)
   exact (tm.g1 p hp).2
 obtain ⟨w,x2,e2,f2,w0,w1⟩:=bc f1 (m:=4) (by decide) (by decide)
 have s1:(ar 6 (ai aP (ae 1) (fSl (fCB fg (aa (ai ixD (ae 2) (fC (.int 0))) ah)) cX (fP (fC (.int 3)))))) (ρM sc l (bkD d r) k (some (.tp 0)) (some (.int z)) a6 a7 a8 a9 a10 a11 a12) [xs]=some ((.nx,ρM sc l (bkD d r) k (some (.tp 0)) (some (.int z)) (some (.list (nm (l++m)))) a7 a8 a9 a10 a11 a12),[xs]):=by
  unfold ρM; simp [eL,p5,ec,cC,zz,na]
 have s2:(ar 7 (ai ixD (ae 6) (aq aB (aa (ae 4) (aa (fCB aT (aa (ae 6) ah)) ah))))) (ρM sc l (bkD d r) k (some (.tp 0)) (some (.int z)) (some (.list (nm (l++m)))) a7 a8 a9 a10 a11 a12) [xs]=some ((.nx,ρM sc l (bkD d r) k (some (.tp 0)) (some (.int z)) (some (.list (nm (l++m)))) (some (.str y)) a8 a9 a10 a11 a12),[x1]):=by
  rw [List.length_append,Int.natCast_add] at e1
  unfold ρM; simp [cC,e1,ey]
 by_cases hw:w=0
 ·obtain ⟨j,x3,e3,f3,j0,j1⟩:=bc f2 (m:=16) (by decide) (by decide)
  obtain ⟨x,ex,nx⟩:=AH [x3] j0 j1
  refine ⟨_,x,x3,s1,?_,nx,f3⟩
  rw [br s2]
  unfold ρM; simp [e2,hw,e3,ex]
 ·refine ⟨_,.str y,x2,s1,?_,B3 hy,f2⟩
  rw [br s2]
  unfold ρM; simp [e2,hw]
include hn h0 h1 in
theorem yN {tmD:PyData} (hf:Fr xs) {z:Int} (hz:z=0∨z=1∨z=2):∃ th it x',ap (ar 8 (ai ixD (au .list (aa (aq cP (aa (ae 4) (aa (ae 1) ah))) (aa (aq cw (aa (ae 4) (aa (ae 1) (aa (fC (.bool true)) ah)))) (aa (fC .none) ah)))) (ae 5))) (ap (ar 9 (bC (ai ltD (ae 5) (fC (.int 2))) (ai gtD (aq aB (aa (ae 4) (aa (fC (.int 4)) ah))) (fC (.int 0))))) (ap (fIf (bp (av (ai eqD (ae 5) (fC (.int 0)))) (bo (aX (ae 9)))) (ar 8 (aq gr (aa (aq aB (aa (ae 4) (aa (fC (.int 16)) ah))) ah))) aF) (fIf (bp (av (ai eqD (ae 5) (fC (.int 1)))) (bo (aX (ae 9)))) (ar 8 (aq gq (aa (aq aB (aa (ae 4) (aa (fC (.int 16)) ah))) ah))) aF))) (ρM sc l tmD k (some (.tp 0)) (some (.int z)) a6 a7 a8 a9 a10 a11 a12) [xs]=some ((.nx,ρM sc l tmD k (some (.tp 0)) (some (.int z)) a6 a7 (some th) (some (.bool it)) a10 a11 a12),[x'])∧Sm th∧(z=0→bf th=it)∧(z=1→dh th=it)∧Fr x':=by
 have h20:l.length≤20:=by omega
 obtain ⟨v,x1,e1,hv,f1⟩:=kU hf hn h0 h20
 obtain ⟨q,x2,e2,hq,f2⟩:=tT hn h0 h20 f1 true
 have ex:=EH hz v q .none
 have s4:(ar 8 (ai ixD (au .list (aa (aq cP (aa (ae 4) (aa (ae 1) ah))) (aa (aq cw (aa (ae 4) (aa (ae 1) (aa (fC (.bool true)) ah)))) (aa (fC .none) ah)))) (ae 5))) (ρM sc l tmD k (some (.tp 0)) (some (.int z)) a6 a7 a8 a9 a10 a11 a12) [xs]=some ((.nx,ρM sc l tmD k (some (.tp 0)) (some (.int z)) a6 a7 (some (if z=0 then v else if z=1 then q else .none)) a9 a10 a11 a12),[x2]):=by
  unfold ρM; simp [e1,e2,ex]
 have rq:dh q=true:=decide_eq_true (hq.rc (n:=12) (by decide))
 rw [br s4]
 rcases hz with rfl | rfl | rfl
 ·obtain ⟨w,x3,e3,f3,w0,w1⟩:=bc f2 (m:=4) (by decide) (by decide)
  have s5:(ar 9 (bC (ai ltD (ae 5) (fC (.int 2))) (ai gtD (aq aB (aa (ae 4) (aa (fC (.int 4)) ah))) (fC (.int 0))))) (ρM sc l tmD k (some (.tp 0)) (some (.int 0)) a6 a7 (some v) a9 a10 a11 a12) [x2]=some ((.nx,ρM sc l tmD k (some (.tp 0)) (some (.int 0)) a6 a7 (some v) (some (.bool (decide (0 < w)))) a10 a11 a12),[x3]):=by
   unfold ρM; simp [e3]
  rw [if_pos rfl,br s5]
  by_cases hw:0 < w
  ·exact ⟨v,true,x3,by unfold ρM; simp [hw],(ja hv).sm,fun _=>hv,(fun h=>absurd h (by decide)),f3⟩
  ·obtain ⟨j,x4,e4,f4,j0,j1⟩:=bc f3 (m:=16) (by decide) (by decide)
   obtain ⟨t,et,st,bt⟩:=BZ [x4] j0 j1
   exact ⟨t,false,x4,by unfold ρM; simp [hw,e4,et],st,fun _=>bt,(fun h=>absurd h (by decide)),f4⟩
 ·obtain ⟨w,x3,e3,f3,w0,w1⟩:=bc f2 (m:=4) (by decide) (by decide)
  have s5:(ar 9 (bC (ai ltD (ae 5) (fC (.int 2))) (ai gtD (aq aB (aa (ae 4) (aa (fC (.int 4)) ah))) (fC (.int 0))))) (ρM sc l tmD k (some (.tp 0)) (some (.int 1)) a6 a7 (some q) a9 a10 a11 a12) [x2]=some ((.nx,ρM sc l tmD k (some (.tp 0)) (some (.int 1)) a6 a7 (some q) (some (.bool (decide (0 < w)))) a10 a11 a12),[x3]):=by
   unfold ρM; simp [e3]
  rw [if_neg (by decide),if_pos rfl,br s5]
  by_cases hw:0 < w
  ·exact ⟨q,true,x3,by unfold ρM; simp [hw],(uo hq).sm,(fun h=>absurd h (by decide)),fun _=>rq,f3⟩
  ·obtain ⟨j,x4,e4,f4,j0,j1⟩:=bc f3 (m:=16) (by decide) (by decide)
   obtain ⟨t,et,st,bt⟩:=B0 [x4] j0 j1
   exact ⟨t,false,x4,by unfold ρM; simp [hw,e4,et],st,(fun h=>absurd h (by decide)),fun _=>bt,f4⟩
 ·have s5:(ar 9 (bC (ai ltD (ae 5) (fC (.int 2))) (ai gtD (aq aB (aa (ae 4) (aa (fC (.int 4)) ah))) (fC (.int 0))))) (ρM sc l tmD k (some (.tp 0)) (some (.int 2)) a6 a7 (some .none) a9 a10 a11 a12) [x2]=some ((.nx,ρM sc l tmD k (some (.tp 0)) (some (.int 2)) a6 a7 (some .none) (some (.bool false)) a10 a11 a12),[x2]):=by
   unfold ρM; simp
  rw [if_neg (by decide),if_neg (by decide),br s5]
  exact ⟨.none,false,x2,by unfold ρM; simp,by simp [Sm,smB],(fun h=>absurd h (by decide)),(fun h=>absurd h (by decide)),f2⟩
theorem Bt {x:PyData} {T:Tp}:(ar 11 (bC (fUn jn (ae 7)) (bC (ai dQ (ae 7) (ai ixD (ae 2) (fC (.int 0)))) (ai dQ (ae 7) (ai ixD (ae 2) (fC (.int 1))))))) (ρM sc l (bkD d r) k (some (.tp 0)) a5 a6 (some x) a8 a9 a10 a11 a12) T=some ((.nx,ρM sc l (bkD d r) k (some (.tp 0)) a5 a6 (some x) a8 a9 a10 (some (.bool (isNew d r x))) a12),T):=by
 unfold ρM
 cases x with
 | str y=>
  by_cases m1:y∈ky d
  ·simp [ji,iD,eL,fD,uf,isNew,cj,m1]
  ·simp [ji,iD,eL,fD,uf,isNew,cj,m1]
 | int i=>simp [ji,iD,eL,fD,Dm,isNew]
 | bool b=>simp [ji,iD,eL,fD,Do,isNew]
 | _=>simp [ji,iD,isNew]
theorem Bu {x th:PyData} {it:Bool} {T:Tp} (nx:Nam x) {z:Int} (hz:z=0∨z=1∨z=2) (hv:z=0→bf th=it) (hr:z=1→dh th=it):(fIf (bo (aX (aq dJ (aa (ae 7) ah)))) (ar 10 (fC (.int 1))) (fIf (bp (av (ai ltD (ae 5) (fC (.int 2)))) (bo (aX (ae 9)))) (ar 10 (ai aP (fC (.int 2)) (ae 5))) (fIf (bp (av (ai ltD (ae 5) (fC (.int 2)))) (bp (aX (ae 11)) (av (ai geD (ai aP (fCB aT (aa (ai ixD (ae 2) (fC (.int 0))) ah)) (fCB aT (aa (ai ixD (ae 2) (fC (.int 1))) ah))) (fC (.int 40)))))) (ar 10 (fC (.int 4))) (fIf (bp (av (ai eqD (ae 5) (fC (.int 2)))) (aX (ae 11))) (ar 10 (fC (.int 5))) aF)))) (ρM sc l (bkD d r) k (some (.tp 0)) (some (.int z)) a6 (some x) (some th) (some (.bool it)) (some (.int 0)) (some (.bool (isNew d r x))) a12) T=some ((.nx,ρM sc l (bkD d r) k (some (.tp 0)) (some (.int z)) a6 (some x) (some th) (some (.bool it)) (some (.int (due z d r x th))) (some (.bool (isNew d r x))) a12),T):=by
 have e:=nx.ln T
 have g:decide ((40:Int)≤(d.length:Int) + (r.length:Int))=decide (40≤d.length + r.length):=decide_eq_decide.mpr (by omega)
 by_cases hn:isName x=true
 ·obtain ⟨y,rfl⟩:=qK hn
  have hd:due z d r (.str y) th=if z=0 then (if bf th=true then (if full d r y=true then 4 else 0) else 2) else if z=1 then (if dh th=true then (if full d r y=true then 4 else 0) else 3) else if cj d r y=true then 5 else 0:=by simp [due,hn]
  have hi:isNew d r (.str y)=cj d r y:=rfl
  rw [hd,hi]
  rw [hn] at e
  unfold full
  rcases hz with rfl | rfl | rfl
  ·rw [hv rfl]
   unfold ρM
   by_cases q1:it=true
   ·by_cases q2:cj d r y=true
    ·by_cases q3:40≤d.length + r.length
     ·have q3':(40:Int)≤(d.length:Int) + (r.length:Int):=by omega
      simp [e,q1,q2,q3,q3',eL,fD,fB]
     ·have q3':¬ (40:Int)≤(d.length:Int) + (r.length:Int):=by omega
      simp [e,q1,q2,q3,q3',eL,fD,fB]
    ·simp [e,q1,q2]
   ·simp [e,q1]
  ·rw [hr rfl]
   unfold ρM
   by_cases q1:it=true
   ·by_cases q2:cj d r y=true
    ·by_cases q3:40≤d.length + r.length
     ·have q3':(40:Int)≤(d.length:Int) + (r.length:Int):=by omega
      simp [e,q1,q2,q3,q3',eL,fD,fB]
     ·have q3':¬ (40:Int)≤(d.length:Int) + (r.length:Int):=by omega
      simp [e,q1,q2,q3,q3',eL,fD,fB]
    ·simp [e,q1,q2]
   ·simp [e,q1]
  ·unfold ρM
   by_cases q2:cj d r y=true
   ·simp [e,q2]
   ·simp [e,q2]
 ·have hn':isName x=false:=by simpa using hn
  have hd:due z d r x th=1:=by cases x <;> simp [due,hn']
  rw [hd]
  rw [hn'] at e
  unfold ρM
  simp [e]
include hn h0 h1 tm in
theorem z9 (hf:Fr xs):∃ d' r' b5 b6 b7 b8 b9 b10 b11 b12 x',jV (ρM sc l (bkD d r) k (some (.tp 0)) a5 a6 a7 a8 a9 a10 a11 a12) [xs]=some ((.nx,ρM sc l (bkD d' r') k (some (.tp 0)) b5 b6 b7 b8 b9 b10 b11 b12),[x'])∧Tm d' r':=by
 obtain ⟨z,x1,e1,f1,z0,z1⟩:=bc hf (m:=3) (by decide) (by decide)
 have hz:z=0∨z=1∨z=2:=by omega
 have s0:(ar 5 (aq aB (aa (ae 4) (aa (fC (.int 3)) ah)))) (ρM sc l (bkD d r) k (some (.tp 0)) a5 a6 a7 a8 a9 a10 a11 a12) [xs]=some ((.nx,ρM sc l (bkD d r) k (some (.tp 0)) (some (.int z)) a6 a7 a8 a9 a10 a11 a12),[x1]):=by
  unfold ρM; simp [e1]
 obtain ⟨sm,x,x2,s1,s2,nx,f2⟩:=Aa hn h0 h1 tm (sc:=sc) (k:=k) (a6:=a6) (a7:=a7) (a8:=a8) (a9:=a9) (a10:=a10) (a11:=a11) (a12:=a12) f1 (z:=z)
 obtain ⟨th,it,x3,s4,st,hv,hr,f3⟩:=yN hn h0 h1 (sc:=sc) (k:=k) (tmD:=bkD d r) (a6:=some sm) (a7:=some x) (a8:=a8) (a9:=a9) (a10:=a10) (a11:=a11) (a12:=a12) f2 hz
 have s8:(ar 10 (fC (.int 0))) (ρM sc l (bkD d r) k (some (.tp 0)) (some (.int z)) (some sm) (some x) (some th) (some (.bool it)) a10 a11 a12) [x3]=some ((.nx,ρM sc l (bkD d r) k (some (.tp 0)) (some (.int z)) (some sm) (some x) (some th) (some (.bool it)) (some (.int 0)) a11 a12),[x3]):=by
  unfold ρM; simp
 have s9:=Bt (sc:=sc) (l:=l) (d:=d) (r:=r) (k:=k) (a5:=some (.int z)) (a6:=some sm) (a8:=some th) (a9:=some (.bool it)) (a10:=some (.int 0)) (a11:=a11) (a12:=a12) (x:=x) (T:=[x3])
 have s10:=Bu (sc:=sc) (l:=l) (d:=d) (r:=r) (k:=k) (a6:=some sm) (a12:=a12) (T:=[x3]) nx hz hv hr
 have s11:(ar 12 (au .tuple (aa (gb (ai ixD (ae 2) (fC (.int 0)))) (aa (gb (ai ixD (ae 2) (fC (.int 1)))) ah)))) (ρM sc l (bkD d r) k (some (.tp 0)) (some (.int z)) (some sm) (some x) (some th) (some (.bool it)) (some (.int (due z d r x th))) (some (.bool (isNew d r x))) a12) [x3]=some ((.nx,ρM sc l (bkD d r) k (some (.tp 0)) (some (.int z)) (some sm) (some x) (some th) (some (.bool it)) (some (.int (due z d r x th))) (some (.bool (isNew d r x))) (some (bkD d r))),[x3]):=by
  unfold ρM; simp [eL,fD,bkP]
 have ef:=Bm (d:=d) (r:=r) (by have:=tm.ln; omega) nx.sm st [x3] hz
 have es:=tm.self
 have s12:(fIf (cq (av (ai neD (aq dw (aa (ae 5) (aa (ae 12) (aa (ae 7) (aa (ae 8) ah))))) (ae 10))) (av (ai neP (ae 12) (ae 2)))) (aH (fC (.bool false))) aF) (ρM sc l (bkD d r) k (some (.tp 0)) (some (.int z)) (some sm) (some x) (some th) (some (.bool it)) (some (.int (due z d r x th))) (some (.bool (isNew d r x))) (some (bkD d r))) [x3]=some ((.nx,ρM sc l (bkD d r) k (some (.tp 0)) (some (.int z)) (some sm) (some x) (some th) (some (.bool it)) (some (.int (due z d r x th))) (some (.bool (isNew d r x))) (some (bkD d r))),[x3]):=by
  unfold ρM; simp [ef,es]
 obtain ⟨w,x4,e4,f4,w0,w1⟩:=bc f3 (m:=3) (by decide) (by decide)
 have fin:∃ d' r' x',(fIf (av (ai eqD (aq aB (aa (ae 4) (aa (fC (.int 3)) ah))) (fC (.int 0)))) (ar 2 (au .tuple (aa (jt (cf (bZ (aq gx (aa (ai aP (fC (.int 39)) (aq aB (aa (ae 4) (aa (fC (.int 2)) ah)))) ah))) bB (au .tuple (aa (ae 0) (aa (fC (.int 0)) ah))))) (aa (fC (.dict [])) ah)))) aF) (ρM sc l (bkD d r) k (some (.tp 0)) (some (.int z)) (some sm) (some x) (some th) (some (.bool it)) (some (.int (due z d r x th))) (some (.bool (isNew d r x))) (some (bkD d r))) [x3]=some ((.nx,ρM sc l (bkD d' r') k (some (.tp 0)) (some (.int z)) (some sm) (some x) (some th) (some (.bool it)) (some (.int (due z d r x th))) (some (.bool (isNew d r x))) (some (bkD d r))),[x'])∧Tm d' r':=by
  by_cases hw:w=0
  ·obtain ⟨j,x5,e5,f5,j0,j1⟩:=bc f4 (m:=2) (by decide) (by decide)
   obtain ⟨fl,ef,nd,nx,ll⟩:=CH (n:=39 + j) (by omega) [x5]
   let d':Dl:=fl.map fun y=>(y,.int 0)
   have kd':ky d'=fl:=(List.map_map).trans ((List.map_congr_left fun _ _=>rfl).trans (List.map_id fl))
   have c:∀ ρ:Rho,bG bB (au .tuple (aa (ae 0) (aa (fC (.int 0)) ah))) ρ (nm fl) [x5]=some (d'.map pr,[x5]):=fun ρ=>by
    have:=lP (ds:=fl) (q:=PyData.str) (g:=fun y=>pr (y,.int 0)) (e:=au .tuple (aa (ae 0) (aa (fC (.int 0)) ah))) (ρ:=ρ) (T:=[x5]) fun y _=>by simp [pr]
    rw [show d'.map pr=fl.map fun y=>pr (y,.int 0) by simp [d']]
    exact this
   have dp:lr (.d (.list (d'.map pr))) [x5]=some (.d (.dict (aG d')),[x5]):=by
    show lq [x5] (eA (d'.map pr))=_
    rw [rK]
    have ok:lE d'=true:=by
     unfold lE
     have nd':(d'.map fun x=>x.1).Nodup:=by rw [show (d'.map fun x=>x.1)=fl from kd']; exact nd
     rw [decide_eq_true nd',decide_eq_true (by simp [d']; omega)]
     rfl
    unfold lq
    dsimp only
    rw [if_pos ok]
   refine ⟨d',[],x5,?_,by rw [kd']; exact nd,by simp [ky],fun p hp=>?_,fun p hp=>(nomatch hp),by simp [d']; exact ll⟩
   ·unfold ρM
    simp [e4,hw,e5,ef,c,jt,dp]
    rfl
   ·obtain ⟨y,hy,rfl⟩:=List.mem_map.mp hp
    exact ⟨nk,nx y hy⟩
  ·exact ⟨d,r,x4,by unfold ρM; simp [e4,hw],tm⟩
 obtain ⟨d',r',x',s13,tm'⟩:=fin
 refine ⟨d',r',some (.int z),some sm,some x,some th,some (.bool it),some (.int (due z d r x th)),some (.bool (isNew d r x)),some (bkD d r),x',?_,tm'⟩
 unfold jV
 rw [br s0,br s1]
 have as2:∀ (A B C:FS),ap A (ap B C)=ap (ap A B) C:=fun A B C=>by
  funext ρ T
  unfold ap
  cases hA:A ρ T with
  | none=>rfl
  | some p=>
   obtain ⟨⟨fl,ρ1⟩,T1⟩:=p
   cases fl <;> rfl
 have as4:∀ (A B C D E:FS),ap A (ap B (ap C (ap D E)))=ap (ap A (ap B (ap C D))) E:=fun A B C D E=>by
  rw [as2 C D E,as2 B (ap C D) E,as2 A (ap B (ap C D)) E]
 rw [as2,br s2,as4]
 rw [br s4,br s8,br s9,br s10,br s11,br s12]
 exact s13
end
theorem zu (ns:List Int) (_:ns.length≤63):∃ T',k7 [.d (.list (ns.map PyData.int))] []=some (.bool true,T'):=by
 obtain ⟨f1,hf1,ef1⟩:=jf ns 1 (by decide)
 obtain ⟨r1,f1',e1,_,r10,r11⟩:=bc hf1 (m:=5) (by decide) (by decide)
 obtain ⟨f0,hf0,ef0⟩:=jf ns 0 (by decide)
 obtain ⟨l,f0',e0,hn,nd,hl⟩:=Bj hf0 (m:=3 + r1) (by omega) (by omega)
 obtain ⟨f2,hf2,ef2⟩:=jf ns 2 (by decide)
 obtain ⟨r2,f2',e2,_,r20,r21⟩:=bc hf2 (m:=3) (by decide) (by decide)
 have h0:0 < l.length:=by omega
 have h8:l.length≤8:=by omega
 have dl:(l.drop 1).length=l.length - 1:=by simp
 have dn:∀ x∈l.drop 1,x∈l:=fun x hx=>List.mem_of_mem_drop hx
 have dns:Ns (l.drop 1):=fun x hx=>hn x (dn x hx)
 obtain ⟨d0,q0,eb,hb'⟩:=CI (l:=l.drop 1) dns (by omega) (by omega) (List.Nodup.sublist (List.drop_sublist 1 l) nd) ns (ba:=3) (by decide) (decide (r2=0))
 have tm0:Tm d0 q0:=D9 dns (by omega) hb'
 have cut:bN (nm l) (some 1) none=nm (l.drop 1):=by
  rw [ms (by decide) (by rw [cC]; omega)]
  simp [nm]
 have o1:∀ ρ:Rho,de aB bI (aa (ae 0) (aa (fC (.int 1)) ah)) (aa (fC (.int 5)) ah) (some (.d (scr ns))::ρ) []=some (.d (.int r1),[]):=fun ρ=>me (ws:=[.d (scr ns),.d (.int 1)]) (ws2:=[.d (.int 5)]) (by simp) (ef1 []) (by simp) rfl e1
 have o0:∀ ρ:Rho,de fM bI (aa (ae 0) (aa (fC (.int 0)) ah)) (aa (ai aP (fC (.int 3)) (de aB bI (aa (ae 0) (aa (fC (.int 1)) ah)) (aa (fC (.int 5)) ah))) ah) (some (.d (scr ns))::ρ) []=some (.d (.list (nm l)),[]):=fun ρ=>me (ws:=[.d (scr ns),.d (.int 0)]) (ws2:=[.d (.int (3 + r1))]) (by simp) (ef0 []) (by simp [o1]) rfl e0
 have o2:∀ ρ:Rho,de aB bI (aa (ae 0) (aa (fC (.int 2)) ah)) (aa (fC (.int 3)) ah) (some (.d (scr ns))::ρ) []=some (.d (.int r2),[]):=fun ρ=>me (ws:=[.d (scr ns),.d (.int 2)]) (ws2:=[.d (.int 3)]) (by simp) (ef2 []) (by simp) rfl e2
 have lp:=mG (i:=3) (body:=jU) (N:=12) (I:=fun _ ρ T=>∃ d r k a5 a6 a7 a8 a9 a10 a11 a12,ρ=ρM (scr ns) l (bkD d r) k none a5 a6 a7 a8 a9 a10 a11 a12∧T=[]∧Tm d r) (bK 0 10) 0 (ρM (scr ns) l (bkD d0 q0) none none none none none none none none none none) [] (by rw [iP]; omega) ⟨d0,q0,none,none,none,none,none,none,none,none,none,rfl,rfl,tm0⟩ (fun k d ρ T hd _ hI=>by
  obtain ⟨dd,rr,k,a5,a6,a7,a8,a9,a10,a11,a12,rfl,rfl,tm⟩:=hI
  obtain ⟨j,rfl,j0,j1⟩:=zp hd
  obtain ⟨xs,hf,ef⟩:=jf ns (12 + j) (by omega)
  obtain ⟨d1,r1,b5,b6,b7,b8,b9,b10,b11,b12,xs',e,tm1⟩:=z9 hn h0 h8 tm (sc:=scr ns) (k:=some (.int j)) (a5:=a5) (a6:=a6) (a7:=a7) (a8:=a8) (a9:=a9) (a10:=a10) (a11:=a11) (a12:=a12) hf
  refine ⟨ρM (scr ns) l (bkD d1 r1) (some (.int j)) none b5 b6 b7 b8 b9 b10 b11 b12,[],?_,d1,r1,_,_,_,_,_,_,_,_,_,rfl,rfl,tm1⟩
  have dp:gc 0 (ρM (scr ns) l (bkD d1 r1) (some (.int j)) (some (.tp 0)) b5 b6 b7 b8 b9 b10 b11 b12)=ρM (scr ns) l (bkD d1 r1) (some (.int j)) none b5 b6 b7 b8 b9 b10 b11 b12:=by
   have dm:∀ a:Option PyData,(a.map W.d).bind (og 0)=a.map W.d:=fun a=>by cases a <;> rfl
   unfold ρM gc
   simp only [List.map_cons,List.map_nil,dm]
   rfl
  have oo:=qI (i:=4) (fr:=jV) (ρ:=ρM (scr ns) l (bkD dd rr) (some (.int j)) none a5 a6 a7 a8 a9 a10 a11 a12) e
  rw [dp] at oo
  have ef':=ef []
  unfold jU
  have st:(ρM (scr ns) l (bkD dd rr) k none a5 a6 a7 a8 a9 a10 a11 a12).set 3 (some (.d (.int j)))=ρM (scr ns) l (bkD dd rr) (some (.int j)) none a5 a6 a7 a8 a9 a10 a11 a12:=rfl
  rw [st,qR]
  have ga:aa (ae 0) (aa (ai aP (fC (.int 12)) (ae 3)) ah) (ρM (scr ns) l (bkD dd rr) (some (.int j)) none a5 a6 a7 a8 a9 a10 a11 a12) []=some ([.d (scr ns),.d (.int (12 + j))],[]):=by
   unfold ρM; simp
  rw [ga,eC]
  unfold scr at ef' oo ⊢
  rw [ef',eC,oo])
 obtain ⟨ρ',T',elp,_,_,_,_,_,_,_,_,_,_,_,_,rfl,_⟩:=lp
 refine ⟨[],?_⟩
 have r10':eF 10=true:=by decide
 rw [List.drop_one] at cut eb
 rw [zh,uy]
 simp only [qa,qb,if_true]
 show fi (ap _ _ [some (.d (scr ns)),none,none,none,none,none,none,none,none,none,none,none,none] [])=_
 rw [br (ρ1:=[some (.d (scr ns)),some (.d (.list (nm l))),none,none,none,none,none,none,none,none,none,none,none]) (T1:=[]) (by rw [nu,o0]; rfl)]
 rw [br (ρ1:=ρM (scr ns) l (bkD d0 q0) none none none none none none none none none none) (T1:=[]) (by unfold ρM; simp [o2,cut,eb])]
 have fl:dH 3 (di (fC (.int 10))) jU (ρM (scr ns) l (bkD d0 q0) none none none none none none none none none none) []=some ((.nx,ρ'),[]):=by
  simp only [Cn]
  rw [show di (fC (.int 10)) (ρM (scr ns) l (bkD d0 q0) none none none none none none none none none none) []=some (bK 0 10,[]) by simp [r10']]
  exact elp
 rw [br fl]
 rfl
def top (i:Nat):Stmt:=PySem.Challenge.pw_redo_k47_deeds_refused.main.body.getD i (.Pass ⟨0,0,0,0⟩)
structure XC5 (K:Frag) (mg:Str→Option Value) (cs ds:Nat→Addr) (R:Addr):Prop where
 j:∀ i,i < 5→XO.XJ K (cs i) R
 n:∀ i,i < 5→∀ k,k < 5→i≠k→XO.KN K (cs i) (cs k)
 d:∀ i,i < 5→∀ k,k < 9→XO.KN K (cs i) (ds k)
 r:mg "RedoError" = some (.ref R)
 c0:mg "NoName" = some (.ref (cs 0))
 c1:mg "NoValue" = some (.ref (cs 1))
 c2:mg "NoRecipe" = some (.ref (cs 2))
 c3:mg "TooMany" = some (.ref (cs 3))
 c4:mg "NoThing" = some (.ref (cs 4))
 d0:mg "BadLine" = some (.ref (ds 0))
 d1:mg "BadPaper" = some (.ref (ds 1))
 d2:mg "BadWord" = some (.ref (ds 2))
 d3:mg "Dishonest" = some (.ref (ds 3))
 d4:mg "NoLine" = some (.ref (ds 4))
 d5:mg "NoPaper" = some (.ref (ds 5))
 d6:mg "NoRow" = some (.ref (ds 6))
 d7:mg "NotMade" = some (.ref (ds 7))
 d8:mg "NotReady" = some (.ref (ds 8))
structure Bi (K:Frag) (mg:Str→Option Value):Prop where
 b_ValueError:mg "ValueError" = none
 b_abs:mg "abs" = none
 b_all:mg "all" = none
 b_bool:mg "bool" = none
 b_dict:mg "dict" = none
 b_int:mg "int" = none
 b_isinstance:mg "isinstance" = none
 b_len:mg "len" = none
 b_list:mg "list" = none
 b_range:mg "range" = none
 b_sorted:mg "sorted" = none
 b_str:mg "str" = none
 b_sum:mg "sum" = none
 b_tuple:mg "tuple" = none
 t_RECIPES_WITHIN:jJ K mg "RECIPES_WITHIN" [("say",0),("fail",0),("want",1),("peek",1),("when",2)]
 t_WITHIN:jJ K mg "WITHIN" [("many",1),("part",2),("sum",2),("join",2),("same",2),("less",2)]
 g_GETTING:vg K mg "GETTING" ["want","peek"]
 c_LETTERS:∃ t,mg "LETTERS" = some (.str "abcdefghijklmnopqrstuvwxyz" t)
 c_MOST_DEEP:∃ t,mg "MOST_DEEP" = some (.int 20 t)
 c_MOST_IN_ROW:∃ t,mg "MOST_IN_ROW" = some (.int 8 t)
 c_MOST_LETTERS:∃ t,mg "MOST_LETTERS" = some (.int 8 t)
 c_MOST_NAMES:∃ t,mg "MOST_NAMES" = some (.int 40 t)
 c_MOST_PARTS:∃ t,mg "MOST_PARTS" = some (.int 8 t)
 c_MOST_PARTS_IN_ALL:∃ t,mg "MOST_PARTS_IN_ALL" = some (.int 60 t)
 c_MOST_ROWS:∃ t,mg "MOST_ROWS" = some (.int 4 t)
 c_MOST_SIGNS:∃ t,mg "MOST_SIGNS" = some (.int 20 t)
 c_MOST_VALUES:∃ t,mg "MOST_VALUES" = some (.int 40 t)
 c_MOST_WANTS:∃ t,mg "MOST_WANTS" = some (.int 12 t)
 c_TEXT_SIGNS:∃ t,mg "TEXT_SIGNS" = some (.str "abcdefghijklmnopqrstuvwxyz0123456789-" t)
 xc:∃ cs ds R,XC5 K mg cs ds R
variable {P:Program} {w:World} {K:Frag} {mg:Str→Option Value} {base:Heap} {f:Addr} {fd:FuncData}
theorem rm {j k:Nat} {A:Around} (r:Room k A) (h:j≤k:=by omega):Room j A:=r.mono h
theorem wD:FnScope ["thing"] ["thing"] (aE (top 8)):=⟨rfl,rfl,rfl,by decide +kernel,rfl,by decide +kernel,by decide +kernel⟩
theorem wM (B:Bi K mg) (F:Fun K "is_whole" "is_whole" (top 8) f fd)  : FnOk P w K mg base CX0 1 f fd ["thing"] (spM K 1 (gA)):=dfn F wD fun _ _ _ _ _ _ hr=>(ay (aJ (df (cU .int B.b_isinstance (ag 0) B.b_int boot_int) (eE (Cz (cU .bl B.b_isinstance (ag 0) B.b_bool boot_bool))))))
theorem wH:FnScope ["text","signs"] ["text","signs"] (aE (top 9)):=⟨rfl,rfl,rfl,by decide +kernel,rfl,by decide +kernel,by decide +kernel⟩
theorem wQ (B:Bi K mg) (F:Fun K "has_only" "has_only" (top 9) f fd)  : FnOk P w K mg base CX0 1 f fd ["text","signs"] (spM K 2 (dY)):=dfn F wH fun _ _ _ _ _ _ hr=>(ay (aJ (bg lu rfl B.b_all boot_all (af (eg (osc:=aE (top 9)) (N:=["text","signs"]) (N':=["text","signs"]) (x:="sign") ⟨rfl,by decide +kernel,by decide +kernel,rfl,by decide +kernel,by decide +kernel,by decide +kernel,by decide +kernel,rfl,by decide +kernel⟩ (d9 (ag 0)) (fun C s0 H0 ex=>(cD jz (ag 0) (ag 2))) (fun C s0 H0 ex=>eV)) ak))))
theorem xi:FnScope ["thing"] ["thing"] (aE (top 10)):=⟨rfl,rfl,rfl,by decide +kernel,rfl,by decide +kernel,by decide +kernel⟩
theorem xy (B:Bi K mg) (F:Fun K "is_name" "is_name" (top 10) f fd) (Qam:Fn P w K mg base "has_only" ["text","signs"] 1 (spM K 2 dY)):FnOk P w K mg base CX0 2 f fd ["thing"] (spM K 1 (cR)):=dfn F xi fun _ _ _ _ _ _ hr=>(ay (aJ (df (cU .str B.b_isinstance (ag 0) B.b_str boot_str) (df (q8 fw fw aj (bg bw rfl B.b_len boot_len (af (ag 0) ak)) (dP rfl B.c_MOST_LETTERS)) (eE (aA Qam (rm hr) rfl (af (ag 0) (af (qZ rfl B.c_LETTERS) ak)) (ao (ao aw))))))))
theorem v5:FnScope ["thing"] ["thing"] (aE (top 11)):=⟨rfl,rfl,rfl,by decide +kernel,rfl,by decide +kernel,by decide +kernel⟩
theorem we (B:Bi K mg) (F:Fun K "is_single" "is_single" (top 11) f fd) (Qan:Fn P w K mg base "is_whole" ["thing"] 1 (spM K 1 gA)) (Qam:Fn P w K mg base "has_only" ["text","signs"] 1 (spM K 2 dY)):FnOk P w K mg base CX0 2 f fd ["thing"] (spM K 1 (gw)):=dfn F v5 fun _ _ _ _ _ _ hr=>(ax (aQ (bu (aA Qan (rm hr) rfl (af (ag 0) ak) (ao aw))) (ay (aJ (cD fw (bg D8 rfl B.b_abs boot_abs (af (ag 0) ak)) (aO gS aj aj)))) aS) (ay (aJ (df (cU .str B.b_isinstance (ag 0) B.b_str boot_str) (df (cD fw (bg bw rfl B.b_len boot_len (af (ag 0) ak)) (dP rfl B.c_MOST_SIGNS)) (eE (aA Qam (rm hr) rfl (af (ag 0) (af (qZ rfl B.c_TEXT_SIGNS) ak)) (ao (ao aw)))))))))
theorem wG:FnScope ["thing","rows_left"] ["thing","rows_left"] (aE (top 12)):=⟨rfl,rfl,rfl,by decide +kernel,rfl,by decide +kernel,by decide +kernel⟩
theorem wO (n:Nat) (B:Bi K mg) (F:Fun K "is_built" "is_built" (top 12) f fd) (Qbi:Fn P w K mg base "is_single" ["thing"] 2 (spM K 1 gw)) (Qau:Fn P w K mg base "is_built" ["thing","rows_left"] (2 + n) (spM K 2 (cZ n))):FnOk P w K mg base CX0 (2 + n + 1) f fd ["thing","rows_left"] (spM K 2 (cZ (n + 1))):=dfn F wG fun _ _ _ _ _ _ hr=>(ax (aQ (bJ (bu (cU .tup B.b_isinstance (ag 0) B.b_tuple boot_tuple))) (ay (aJ (aA Qbi (rm hr) rfl (af (ag 0) ak) (ao aw)))) aS) (ax (aQ (bD (dk (aI aW (ag 1) aj) (dS (aI gh (bg bw rfl B.b_len boot_len (af (ag 0) ak)) (dP rfl B.c_MOST_PARTS))))) (ay (aJ cg)) aS) (ay (aJ (bg lu rfl B.b_all boot_all (af (eg (osc:=aE (top 12)) (N:=["thing","rows_left"]) (N':=["thing","rows_left"]) (x:="part") ⟨rfl,by decide +kernel,by decide +kernel,rfl,by decide +kernel,by decide +kernel,by decide +kernel,by decide +kernel,rfl,by decide +kernel⟩ (d9 (ag 0)) (fun C s0 H0 ex=>(aA Qau (rm hr) rfl (af (ag 0) (af (aO fY (ag 2) aj) ak)) (ao (ao aw)))) (fun C s0 H0 ex=>eV)) ak))))))
theorem xh:FnScope ["value"] ["value"] (aE (top 14)):=⟨rfl,rfl,rfl,by decide +kernel,rfl,by decide +kernel,by decide +kernel⟩
theorem xx (n:Nat) (B:Bi K mg) (F:Fun K "many_of" "many_of" (top 14) f fd) (Qbb:Fn P w K mg base "many_of" ["value"] (0 + n) (spM K 1 (dZ n))):FnOk P w K mg base CX0 (0 + n + 1) f fd ["value"] (spM K 1 (dZ (n + 1))):=dfn F xh fun _ _ _ _ _ _ hr=>(ax (aQ (bJ (bu (cU .tup B.b_isinstance (ag 0) B.b_tuple boot_tuple))) (ay (aJ aj)) aS) (ay (aJ (aO bj aj (bg D7 rfl B.b_sum boot_sum (af (eg (osc:=aE (top 14)) (N:=["value"]) (N':=["value"]) (x:="part") ⟨rfl,by decide +kernel,by decide +kernel,rfl,by decide +kernel,by decide +kernel,by decide +kernel,by decide +kernel,rfl,by decide +kernel⟩ (d9 (ag 0)) (fun C s0 H0 ex=>(aA Qbb (rm hr) rfl (af (ag 0) ak) (ao aw))) (fun C s0 H0 ex=>eV)) ak))))))
theorem wF:FnScope ["thing"] ["thing"] (aE (top 13)):=⟨rfl,rfl,rfl,by decide +kernel,rfl,by decide +kernel,by decide +kernel⟩
theorem wN (B:Bi K mg) (F:Fun K "is_value" "is_value" (top 13) f fd) (Qau:Fn P w K mg base "is_built" ["thing","rows_left"] 27 (spM K 2 (cZ 25))) (Qbb:Fn P w K mg base "many_of" ["value"] 25 (spM K 1 (dZ 25))):FnOk P w K mg base CX0 28 f fd ["thing"] (spM K 1 (dB)):=dfn F wF fun _ _ _ _ _ _ hr=>(ay (aJ (df (aA Qau (rm hr) rfl (af (ag 0) (af (dP rfl B.c_MOST_ROWS) ak)) (ao (ao aw))) (eE (cD fw (aA Qbb (rm hr) rfl (af (ag 0) ak) (ao aw)) (dP rfl B.c_MOST_VALUES))))))
theorem v7:FnScope ["word","thing","many"] ["word","thing","many"] (aE (top 19)):=⟨rfl,rfl,rfl,by decide +kernel,rfl,by decide +kernel,by decide +kernel⟩
theorem wm (B:Bi K mg) (F:Fun K "is_filled" "is_filled" (top 19) f fd) (Qag:Fn P w K mg base "is_value" ["thing"] 28 (spM K 1 dB)) (Qan:Fn P w K mg base "is_whole" ["thing"] 1 (spM K 1 gA)):FnOk P w K mg base CX0 29 f fd ["word","thing","many"] (spM K 3 (dA)):=dfn F v7 fun _ _ _ _ _ _ hr=>(ax (aQ (aI aW (ag 0) az) (ay (aJ (aA Qag (rm hr) rfl (af (ag 1) ak) (ao aw)))) aS) (ax (aQ (aI aW (ag 0) az) (ay (aJ (df (aA Qan (rm hr) rfl (af (ag 1) ak) (ao aw)) (eE (q8 fw dv aj (ag 1) (ag 2)))))) aS) (ay (aJ (df (cD aW (ag 0) az) (df (cU .tup B.b_isinstance (ag 1) B.b_tuple boot_tuple) (eE (cD fw (bg bw rfl B.b_len boot_len (af (ag 1) ak)) (dP rfl B.c_MOST_IN_ROW)))))))))
theorem v6:FnScope ["thing","many"] ["thing","many"] (aE (top 18)):=⟨rfl,rfl,rfl,by decide +kernel,rfl,by decide +kernel,by decide +kernel⟩
theorem wg (B:Bi K mg) (F:Fun K "is_shaped" "is_shaped" (top 18) f fd) (Qbj:Fn P w K mg base "is_filled" ["word","thing","many"] 29 (spM K 3 dA)):FnOk P w K mg base CX0 30 f fd ["thing","many"] (spM K 2 (dz)):=dfn F v6 fun _ _ _ _ _ _ hr=>(ax (aQ (bD (dk (bJ (bu (cU .tup B.b_isinstance (ag 0) B.b_tuple boot_tuple))) (dk (aI dv (bg bw rfl B.b_len boot_len (af (ag 0) ak)) aj) (dS (bJ (bu (cU .str B.b_isinstance (aL aK (ag 0) aj) B.b_str boot_str))))))) (ay (aJ cg)) aS) (ax (aQ (Cs B.t_WITHIN rfl (aL aK (ag 0) aj)) (ay (aJ (cD aW (bg bw rfl B.b_len boot_len (af (ag 0) ak)) (aO bj aj (tM B.t_WITHIN rfl (aL aK (ag 0) aj)))))) aS) (ay (aJ (df (cD aW (bg bw rfl B.b_len boot_len (af (ag 0) ak)) aj) (eE (aA Qbj (rm hr) rfl (af (aL aK (ag 0) aj) (af (aL aK (ag 0) aj) (af (ag 1) ak))) (ao (ao (ao aw))))))))))
theorem vC:FnScope ["expr"] ["expr"] (aE (top 20)):=⟨rfl,rfl,rfl,by decide +kernel,rfl,by decide +kernel,by decide +kernel⟩
theorem vG (B:Bi K mg) (F:Fun K "exprs_within" "exprs_within" (top 20) f fd)  : FnOk P w K mg base CX0 1 f fd ["expr"] (spM K 1 (eN)):=dfn F vC fun _ _ _ _ _ _ hr=>(ax (aQ (bD (dk (aI aW (aL aK (ag 0) aj) az) (dS (aI aW (aL aK (ag 0) aj) az)))) (ay (aJ (bH ak))) aS) (ax (aQ (aI aW (aL aK (ag 0) aj) az) (ay (aJ (iO tP rfl B.b_list boot_list (af (aL aK (ag 0) aj) ak)))) aS) (ay (aJ (iO tP rfl B.b_list boot_list (af (iG (ag 0) (ij aj) ik) ak))))))
theorem vS:FnScope ["word","got"] ["word","got"] (aE (top 32)):=⟨rfl,rfl,rfl,by decide +kernel,rfl,by decide +kernel,by decide +kernel⟩
theorem vU (B:Bi K mg) (F:Fun K "got_behind" "got_behind" (top 32) f fd)  : FnOk P w K mg base CX0 1 f fd ["word","got"] (spM K 2 (gv)):=dfn F vS fun _ _ _ _ _ _ hr=>(ay (aJ (jw (aI jz (ag 0) (zO (ss:=["want","peek"]) rfl B.g_GETTING)) (aO bj (ag 1) aj) (ag 1))))
theorem sc_places_within:FnScope ["place","thing","got","behind"] ["place"] (aE (top 31)):=⟨rfl,rfl,rfl,by decide +kernel,rfl,by decide +kernel,by decide +kernel⟩
theorem vz (B:Bi K mg) (F:Fun K "places_within" "places_within" (top 31) f fd) (Qax:Fn P w K mg base "exprs_within" ["expr"] 1 (spM K 1 eN)) (Qbe:Fn P w K mg base "got_behind" ["word","got"] 1 (spM K 2 gv)):FnOk P w K mg base CX0 2 f fd ["place"] (spM K 1 (eM)):=dfn F sc_places_within fun _ _ _ _ _ _ hr=>(ax (aN (i:=1) sc_places_within.nd (aL aK (ag 0) aj)) (ax (aN (i:=2) sc_places_within.nd (aL aK (ag 0) aj)) (ax (aQ (aI aW (aL aK (ag 0) aj) az) (ay (aJ (eg (osc:=aE (top 31)) (N:=["place","thing","got","behind"]) (N':=["place","thing","got","behind"]) (x:="part") ⟨rfl,by decide +kernel,by decide +kernel,rfl,by decide +kernel,by decide +kernel,by decide +kernel,by decide +kernel,rfl,by decide +kernel⟩ (d9 (aA Qax (rm hr) rfl (af (ag 1) ak) (ao aw))) (fun C s0 H0 ex=>(aM (af az (af (ag 0) (af (ag 3) ak))))) (fun C s0 H0 ex=>eV)))) aS) (ax (aQ (aI aW (aL aK (ag 1) aj) az) (ay (aJ (bH ak))) aS) (ax (aN (i:=3) sc_places_within.nd (aA Qbe (rm hr) rfl (af (aL aK (ag 1) aj) (af (ag 2) ak)) (ao (ao aw)))) (ay (aJ (aO bj (bH (af (aM (af az (af (aL aK (ag 1) aj) (af (ag 2) ak)))) ak)) (eg (osc:=aE (top 31)) (N:=["place","thing","got","behind"]) (N':=["place","thing","got","behind"]) (x:="part") ⟨rfl,by decide +kernel,by decide +kernel,rfl,by decide +kernel,by decide +kernel,by decide +kernel,by decide +kernel,rfl,by decide +kernel⟩ (d9 (iG (ag 1) (ij aj) ik)) (fun C s0 H0 ex=>(aM (af az (af (ag 0) (af (ag 4) ak))))) (fun C s0 H0 ex=>eV))))))))))
theorem sc_layer_within:FnScope ["layer","inner","place"] ["layer"] (aE (top 30)):=⟨rfl,rfl,rfl,by decide +kernel,rfl,by decide +kernel,by decide +kernel⟩
theorem vF (B:Bi K mg) (F:Fun K "layer_within" "layer_within" (top 30) f fd) (Qav:Fn P w K mg base "places_within" ["place"] 2 (spM K 1 eM)):FnOk P w K mg base CX0 3 f fd ["layer"] (spM K 1 (gs)):=dfn F sc_layer_within fun _ _ _ _ _ _ hr=>(ax (so (i:=1) sc_layer_within.nd ak) (ax (jc (i:=2) sc_layer_within.nd (d9 (ag 0)) (ay (Cv (i:=1) (by exact (aA Qav (rm hr) rfl (af (ag 2) ak) (ao aw)))))) (ay (aJ (ag 1)))))
theorem vj:FnScope ["thing"] ["thing"] (aE (top 29)):=⟨rfl,rfl,rfl,by decide +kernel,rfl,by decide +kernel,by decide +kernel⟩
theorem vm (B:Bi K mg) (F:Fun K "is_recipe_shaped" "is_recipe_shaped" (top 29) f fd) (Qaj:Fn P w K mg base "is_name" ["thing"] 2 (spM K 1 cR)):FnOk P w K mg base CX0 3 f fd ["thing"] (spM K 1 (cY)):=dfn F vj fun _ _ _ _ _ _ hr=>(ax (aQ (bD (dk (bJ (bu (cU .tup B.b_isinstance (ag 0) B.b_tuple boot_tuple))) (dk (aI dv (bg bw rfl B.b_len boot_len (af (ag 0) ak)) aj) (dS (bJ (bu (cU .str B.b_isinstance (aL aK (ag 0) aj) B.b_str boot_str))))))) (ay (aJ cg)) aS) (ax (aQ (bD (dk (A8 B.t_RECIPES_WITHIN rfl (aL aK (ag 0) aj)) (dS (aI ot (bg bw rfl B.b_len boot_len (af (ag 0) ak)) (aO bj aj (tM B.t_RECIPES_WITHIN rfl (aL aK (ag 0) aj))))))) (ay (aJ cg)) aS) (ay (aJ (D2 (cD ot (aL aK (ag 0) aj) az) (eE (aA Qaj (rm hr) rfl (af (aL aK (ag 0) aj) ak) (ao aw))))))))
theorem vR:FnScope ["place"] ["place"] (aE (top 28)):=⟨rfl,rfl,rfl,by decide +kernel,rfl,by decide +kernel,by decide +kernel⟩
theorem vT (B:Bi K mg) (F:Fun K "is_fitting" "is_fitting" (top 28) f fd) (Qbk:Fn P w K mg base "is_shaped" ["thing","many"] 30 (spM K 2 dz)) (Qal:Fn P w K mg base "is_recipe_shaped" ["thing"] 3 (spM K 1 cY)):FnOk P w K mg base CX0 31 f fd ["place"] (spM K 1 (dX)):=dfn F vR fun _ _ _ _ _ _ hr=>(ax (aQ (aI gh (aL aK (ag 0) aj) (dP rfl B.c_MOST_WANTS)) (ay (aJ cg)) aS) (ax (aQ (aI aW (aL aK (ag 0) aj) az) (ay (aJ (aA Qbk (rm hr) rfl (af (aL aK (ag 0) aj) (af (aL aK (ag 0) aj) ak)) (ao (ao aw))))) aS) (ay (aJ (aA Qal (rm hr) rfl (af (aL aK (ag 0) aj) ak) (ao aw))))))
theorem sc_is_recipe:FnScope ["thing","layer","counted","above"] ["thing"] (aE (top 27)):=⟨rfl,rfl,rfl,by decide +kernel,rfl,by decide +kernel,by decide +kernel⟩
theorem wj (B:Bi K mg) (F:Fun K "is_recipe" "is_recipe" (top 27) f fd) (Qbf:Fn P w K mg base "is_fitting" ["place"] 31 (spM K 1 dX)) (Qay:Fn P w K mg base "layer_within" ["layer"] 3 (spM K 1 gs)):FnOk P w K mg base CX0 32 f fd ["thing"] (spM K 1 (dM)):=dfn F sc_is_recipe fun _ _ _ _ _ _ hr=>(ax (aN (i:=1) sc_is_recipe.nd (bH (af (aM (af az (af (ag 0) (af aj ak)))) ak))) (ax (aN (i:=2) sc_is_recipe.nd aj) (ax (jc (i:=3) sc_is_recipe.nd (iY rfl B.b_range (dP rfl B.c_MOST_DEEP)) (ax (aN (i:=2) sc_is_recipe.nd (aO bj (ag 2) (bg bw rfl B.b_len boot_len (af (ag 1) ak)))) (ax (aQ (bD (dk (aI gh (ag 2) (dP rfl B.c_MOST_PARTS_IN_ALL)) (dS (bJ (bu (bg lu rfl B.b_all boot_all (af (eg (osc:=aE (top 27)) (N:=["thing","layer","counted","above"]) (N':=["thing","layer","counted","above"]) (x:="place") ⟨rfl,by decide +kernel,by decide +kernel,rfl,by decide +kernel,by decide +kernel,by decide +kernel,by decide +kernel,rfl,by decide +kernel⟩ (d9 (ag 1)) (fun C s0 H0 ex=>(aA Qbf (rm hr) rfl (af (ag 0) ak) (ao aw))) (fun C s0 H0 ex=>eV)) ak))))))) (ay (aJ cg)) aS) (ay (aN (i:=1) sc_is_recipe.nd (aA Qay (rm hr) rfl (af (ag 1) ak) (ao aw))))))) (ay (aJ (cD aW (bg bw rfl B.b_len boot_len (af (ag 1) ak)) aj))))))
theorem wC:FnScope ["book"] ["book"] (aE (top 35)):=⟨rfl,rfl,rfl,by decide +kernel,rfl,by decide +kernel,by decide +kernel⟩
theorem wL (B:Bi K mg) (F:Fun K "names_of" "names_of" (top 35) f fd)  : FnOk P w K mg base CX0 1 f fd ["book"] (spM K 1 (eO)):=dfn F wC fun _ _ _ _ _ _ hr=>(ay (aJ (bg zV rfl B.b_sorted boot_sorted (af (aO bj (iO mP rfl B.b_list boot_list (af (aL aK (ag 0) aj) ak)) (iO mP rfl B.b_list boot_list (af (aL aK (ag 0) aj) ak))) ak))))
theorem xg:FnScope ["book","name"] ["book","name"] (aE (top 36)):=⟨rfl,rfl,rfl,by decide +kernel,rfl,by decide +kernel,by decide +kernel⟩
theorem xq (B:Bi K mg) (F:Fun K "sort_at" "sort_at" (top 36) f fd)  : FnOk P w K mg base CX0 1 f fd ["book","name"] (spM K 2 (cy)):=dfn F xg fun _ _ _ _ _ _ hr=>(ax (aQ (aI (ue hr) (ag 1) (aL aK (ag 0) aj)) (ay (aJ az)) aS) (ax (aQ (aI (ue hr) (ag 1) (aL aK (ag 0) aj)) (ay (aJ az)) aS) (ay (aJ az))))
theorem oJ:FnScope ["thing"] ["thing"] (aE (top 57)):=⟨rfl,rfl,rfl,by decide +kernel,rfl,by decide +kernel,by decide +kernel⟩
theorem vq (B:Bi K mg) (F:Fun K "refuse_no_name" "refuse_no_name" (top 57) f fd) (Qaj:Fn P w K mg base "is_name" ["thing"] 2 (spM K 1 cR)):FnOk P w K mg base CX0 3 f fd ["thing"] (spM K 1 (cx)):=dfn F oJ fun _ _ _ _ _ _ hr=>(ay (aQ (bJ (bu (aA Qaj (rm hr) rfl (af (ag 0) ak) (ao aw)))) (ay gF) aS))
theorem sc_rest_of:FnScope ["book","name","told","made"] ["book","name"] (aE (top 59)):=⟨rfl,rfl,rfl,by decide +kernel,rfl,by decide +kernel,by decide +kernel⟩
theorem xu (B:Bi K mg) (F:Fun K "rest_of" "rest_of" (top 59) f fd)  : FnOk P w K mg base CX0 1 f fd ["book","name"] (spO K 2 (eQ)):=iL F sc_rest_of fun _ _ _ _ _ _ hr=>(ax (qT (i:=2) B.b_dict sc_rest_of.nd (aL aK (ag 0) aj)) (ax (qT (i:=3) B.b_dict sc_rest_of.nd (aL aK (ag 0) aj)) (ax (sv (i:=2) (by exact (ag 1))) (ax (sv (i:=3) (by exact (ag 1))) (ay (zK (i:=2) (j:=3)))))))
theorem oU:FnScope ["book","name"] ["book","name"] (aE (top 58)):=⟨rfl,rfl,rfl,by decide +kernel,rfl,by decide +kernel,by decide +kernel⟩
theorem wK (B:Bi K mg) (F:Fun K "room_for" "room_for" (top 58) f fd) (Qaf:Fn P w K mg base "sort_at" ["book","name"] 1 (spM K 2 cy)) (Qao:Fn P w K mg base "names_of" ["book"] 1 (spM K 1 eO)) (Qat:Fn P w K mg base "rest_of" ["book","name"] 1 (spO K 2 eQ)):FnOk P w K mg base CX0 2 f fd ["book","name"] (spO K 2 (gz)):=iL F oU fun _ _ _ _ _ _ hr=>(ax (aQ (bD (cS (aI aW (aA Qaf (rm hr) rfl (af (ag 0) (af (ag 1) ak)) (ao (ao aw))) az) (c8 (aI lF (bg bw rfl B.b_len boot_len (af (aA Qao (rm hr) rfl (af (ag 0) ak) (ao aw)) ak)) (dP rfl B.c_MOST_NAMES))))) (ay gF) aS) (ay (qU Qat (rm hr) rfl (af (ag 0) (af (ag 1) ak)) (ao (ao aw)))))
theorem sc_told_with:FnScope ["book","name","value","rest"] ["book","name","value"] (aE (top 54)):=⟨rfl,rfl,rfl,by decide +kernel,rfl,by decide +kernel,by decide +kernel⟩
theorem wb (B:Bi K mg) (F:Fun K "told_with" "told_with" (top 54) f fd) (Qab:Fn P w K mg base "refuse_no_name" ["thing"] 3 (spM K 1 cx)) (Qag:Fn P w K mg base "is_value" ["thing"] 28 (spM K 1 dB)) (Qap:Fn P w K mg base "room_for" ["book","name"] 2 (spO K 2 gz)):FnOk P w K mg base CX0 29 f fd ["book","name","value"] (spO K 3 (fN)):=iL F sc_told_with fun _ _ _ _ _ _ hr=>(ax (ig (aA Qab (rm hr) rfl (af (ag 1) ak) (ao aw))) (ax (aQ (bJ (bu (aA Qag (rm hr) rfl (af (ag 2) ak) (ao aw)))) (ay gF) aS) (pw (ix:=3) (b:=false) Qap (rm hr) rfl sc_told_with.nd (af (ag 0) (af (ag 1) ak)) (ao (ao aw)) hr (ag 1) (ag 2))))
theorem sc_made_with:FnScope ["book","name","recipe","rest"] ["book","name","recipe"] (aE (top 55)):=⟨rfl,rfl,rfl,by decide +kernel,rfl,by decide +kernel,by decide +kernel⟩
theorem wc (B:Bi K mg) (F:Fun K "made_with" "made_with" (top 55) f fd) (Qab:Fn P w K mg base "refuse_no_name" ["thing"] 3 (spM K 1 cx)) (Qak:Fn P w K mg base "is_recipe" ["thing"] 32 (spM K 1 dM)) (Qap:Fn P w K mg base "room_for" ["book","name"] 2 (spO K 2 gz)):FnOk P w K mg base CX0 33 f fd ["book","name","recipe"] (spO K 3 (fO)):=iL F sc_made_with fun _ _ _ _ _ _ hr=>(ax (ig (aA Qab (rm hr) rfl (af (ag 1) ak) (ao aw))) (ax (aQ (bJ (bu (aA Qak (rm hr) rfl (af (ag 2) ak) (ao aw)))) (ay gF) aS) (pw (ix:=3) (b:=true) Qap (rm hr) rfl sc_made_with.nd (af (ag 0) (af (ag 1) ak)) (ao (ao aw)) hr (ag 1) (ag 2))))
theorem pb:FnScope ["book","name"] ["book","name"] (aE (top 56)):=⟨rfl,rfl,rfl,by decide +kernel,rfl,by decide +kernel,by decide +kernel⟩
theorem xp (B:Bi K mg) (F:Fun K "without" "without" (top 56) f fd) (Qab:Fn P w K mg base "refuse_no_name" ["thing"] 3 (spM K 1 cx)) (Qaf:Fn P w K mg base "sort_at" ["book","name"] 1 (spM K 2 cy)) (Qat:Fn P w K mg base "rest_of" ["book","name"] 1 (spO K 2 eQ)):FnOk P w K mg base CX0 4 f fd ["book","name"] (spO K 2 (fR)):=iL F pb fun _ _ _ _ _ _ hr=>(ax (ig (aA Qab (rm hr) rfl (af (ag 1) ak) (ao aw))) (ax (aQ (aI aW (aA Qaf (rm hr) rfl (af (ag 0) (af (ag 1) ak)) (ao (ao aw))) az) (ay gF) aS) (ay (qU Qat (rm hr) rfl (af (ag 0) (af (ag 1) ak)) (ao (ao aw))))))
theorem v8:FnScope ["_law_script","_law_k"] ["_law_script","_law_k"] (aE (top 61)):=⟨rfl,rfl,rfl,by decide +kernel,rfl,by decide +kernel,by decide +kernel⟩
theorem wu (B:Bi K mg) (F:Fun K "_law_feed" "_law_feed" (top 61) f fd)  : FnOk P w K mg base CX0 1 f fd ["_law_script","_law_k"] (spO K 2 (bI)):=iL F v8 fun _ _ _ _ _ _ hr=>(ax (aQ (aI aW (bg bw rfl B.b_len boot_len (af (ag 0) ak)) aj) (ay (qV (af aj (af aj (af (ag 1) ak))))) aS) (ay (qV (af (aL aK (ag 0) (aO fZ (ag 1) (bg bw rfl B.b_len boot_len (af (ag 0) ak)))) (af aj (af (ag 1) ak))))))
theorem sc__law_next:FnScope ["_law_feed_here","_law_many","_law_digit","_law_seed"] ["_law_feed_here","_law_many"] (aE (top 62)):=⟨rfl,rfl,rfl,by decide +kernel,rfl,by decide +kernel,by decide +kernel⟩
theorem wq (B:Bi K mg) (F:Fun K "_law_next" "_law_next" (top 62) f fd)  : FnOk P w K mg base CX0 1 f fd ["_law_feed_here","_law_many"] (spM K 2 (aB)):=dfn F sc__law_next fun _ _ _ _ _ _ hr=>(ax (tK (ag 0) aj (aO bj (aL aK (ag 0) aj) aj)) (ax (aQ (aI lF (aL aK (ag 0) aj) (aO gS aj aj)) (ax (aN (i:=2) sc__law_next.nd (aO fZ (aL aK (ag 0) aj) (ag 1))) (ax (tK (ag 0) aj (aO rO (aL aK (ag 0) aj) (ag 1))) (ay (aJ (ag 2))))) aS) (ax (aN (i:=3) sc__law_next.nd (aO bj (aO bj (aO fZ (aL aK (ag 0) aj) aj) (aO iB aj (aL aK (ag 0) aj))) (aO iB aj (aL aK (ag 0) aj)))) (ax (aN (i:=3) sc__law_next.nd (aO fZ (aO iB (aO bj (ag 3) aj) aj) aj)) (ay (aJ (aO fZ (aO fZ (aO iB (aO fZ (aO bj (aO iB (ag 3) aj) (aL aK (ag 0) aj)) aj) aj) aj) (ag 1))))))))
theorem sc__law_names:FnScope ["_law_feed_here","_law_many","_law_words","_law_letters","_law_names_here","_law_k","_law_way","_law_name"] ["_law_feed_here","_law_many"] (aE (top 63)):=⟨rfl,rfl,rfl,by decide +kernel,rfl,by decide +kernel,by decide +kernel⟩
theorem vW (B:Bi K mg) (F:Fun K "_law_names" "_law_names" (top 63) f fd) (Qaa:Fn P w K mg base "_law_next" ["_law_feed_here","_law_many"] 1 (spM K 2 aB)):FnOk P w K mg base CX0 2 f fd ["_law_feed_here","_law_many"] (spM K 2 (fM)):=dfn F sc__law_names fun _ _ _ _ _ _ hr=>(ax (aN (i:=2) sc__law_names.nd (bH (af az (af az (af az (af az (af az (af az (af az (af az ak)))))))))) (ax (aN (i:=3) sc__law_names.nd az) (ax (so (i:=4) sc__law_names.nd ak) (ax (jc (i:=5) sc__law_names.nd (iY rfl B.b_range (ag 1)) (ax (aN (i:=6) sc__law_names.nd (aA Qaa (rm hr) rfl (af (ag 0) (af aj ak)) (ao (ao aw)))) (ax (aN (i:=7) sc__law_names.nd (aL aK (ag 3) (aA Qaa (rm hr) rfl (af (ag 0) (af aj ak)) (ao (ao aw))))) (ax (aQ (aI aW (ag 6) aj) (ay (aN (i:=7) sc__law_names.nd (aL aK (ag 2) (aA Qaa (rm hr) rfl (af (ag 0) (af aj ak)) (ao (ao aw)))))) aS) (ax (aQ (bD (cS (aI aW (ag 6) aj) (c8 (aI gh (bg bw rfl B.b_len boot_len (af (ag 4) ak)) aj)))) (ay (aN (i:=7) sc__law_names.nd (iG (aO bj (aL aK (ag 4) (nH aj)) (ag 7)) ik (ij aj)))) aS) (ax (aQ (aI aW (ag 6) aj) (ay (aN (i:=7) sc__law_names.nd (aO iB (aO bj (ag 7) (aL aK (ag 3) (aA Qaa (rm hr) rfl (af (ag 0) (af aj ak)) (ao (ao aw))))) aj))) aS) (ax (aQ (aI jz (ag 7) (ag 4)) (ay (aN (i:=7) sc__law_names.nd (aL aK (eg (osc:=aE (top 63)) (N:=["_law_feed_here","_law_many","_law_words","_law_letters","_law_names_here","_law_k","_law_way","_law_name"]) (N':=["_law_feed_here","_law_many","_law_words","_law_letters","_law_names_here","_law_k","_law_way","_law_name"]) (x:="_law_letter") ⟨rfl,by decide +kernel,by decide +kernel,rfl,by decide +kernel,by decide +kernel,by decide +kernel,by decide +kernel,rfl,by decide +kernel⟩ (d9 (ag 3)) (fun C s0 H0 ex=>(ag 0)) (fun C s0 H0 ex=>A7 rfl (aI AF (ag 0) (ag 5)))) aj))) aS) (ay (Cu (i:=4) (by exact (aA Qaa (rm hr) rfl (af (ag 0) (af (aO bj (bg bw rfl B.b_len boot_len (af (ag 4) ak)) aj) ak)) (ao (ao aw)))) (by exact (ag 7))))))))))) (ay (aJ (ag 4)))))))
theorem sc__law_value:FnScope ["_law_feed_here","_law_names_here","_law_some","_law_k"] ["_law_feed_here","_law_names_here"] (aE (top 64)):=⟨rfl,rfl,rfl,by decide +kernel,rfl,by decide +kernel,by decide +kernel⟩
theorem vV (B:Bi K mg) (F:Fun K "_law_value" "_law_value" (top 64) f fd) (Qaa:Fn P w K mg base "_law_next" ["_law_feed_here","_law_many"] 1 (spM K 2 aB)):FnOk P w K mg base CX0 2 f fd ["_law_feed_here","_law_names_here"] (spM K 2 (cP)):=dfn F sc__law_value fun _ _ _ _ _ _ hr=>(ax (aN (i:=2) sc__law_value.nd (bH (af aj (af aj (af az (af (aM ak) (af aj (af az (af (aM (af aj ak)) (af (aM (af aj (af az ak))) (af (nH aj) (af (aO gS aj aj) (af az (af (aM (af (aM ak) (af (aM (af az (af aj ak))) ak))) (af (aM (af aj (af aj (af aj ak)))) (af (aO fY aj (aO gS aj aj)) ak)))))))))))))))) (ax (aN (i:=3) sc__law_value.nd (aA Qaa (rm hr) rfl (af (ag 0) (af aj ak)) (ao (ao aw)))) (ax (aQ (aI dv (ag 3) aj) (ay (aJ (aL aK (ag 2) (ag 3)))) aS) (ax (aQ (aI aW (ag 3) aj) (ay (aJ (aA Qaa (rm hr) rfl (af (ag 0) (af (aO gS aj aj) ak)) (ao (ao aw))))) aS) (ay (aJ (aL aK (ag 1) (aA Qaa (rm hr) rfl (af (ag 0) (af (bg bw rfl B.b_len boot_len (af (ag 1) ak)) ak)) (ao (ao aw))))))))))
theorem vD:FnScope ["_law_thing"] ["_law_thing"] (aE (top 65)):=⟨rfl,rfl,rfl,by decide +kernel,rfl,by decide +kernel,by decide +kernel⟩
theorem vI (B:Bi K mg) (F:Fun K "_law_is_name" "_law_is_name" (top 65) f fd)  : FnOk P w K mg base CX0 1 f fd ["_law_thing"] (spM K 1 (dJ)):=dfn F vD fun _ _ _ _ _ _ hr=>(ax (aQ (bD (dk (bJ (bu (cU .str B.b_isinstance (ag 0) B.b_str boot_str))) (dS (bJ (zI fw fw aj (bg bw rfl B.b_len boot_len (af (ag 0) ak)) aj))))) (ay (aJ cg)) aS) (ay (aJ (bg lu rfl B.b_all boot_all (af (eg (osc:=aE (top 65)) (N:=["_law_thing"]) (N':=["_law_thing"]) (x:="_law_sign") ⟨rfl,by decide +kernel,by decide +kernel,rfl,by decide +kernel,by decide +kernel,by decide +kernel,by decide +kernel,rfl,by decide +kernel⟩ (d9 (ag 0)) (fun C s0 H0 ex=>(cD jz (ag 0) az)) (fun C s0 H0 ex=>eV)) ak)))))
theorem sc__law_expr:FnScope ["_law_feed_here","_law_got","_law_names_here","_law_deep","_law_way","_law_one","_law_other"] ["_law_feed_here","_law_got","_law_names_here","_law_deep"] (aE (top 66)):=⟨rfl,rfl,rfl,by decide +kernel,rfl,by decide +kernel,by decide +kernel⟩
theorem wx (n:Nat) (B:Bi K mg) (F:Fun K "_law_expr" "_law_expr" (top 66) f fd) (Qaa:Fn P w K mg base "_law_next" ["_law_feed_here","_law_many"] 1 (spM K 2 aB)) (Qad:Fn P w K mg base "_law_value" ["_law_feed_here","_law_names_here"] 2 (spM K 2 cP)) (Qac:Fn P w K mg base "_law_expr" ["_law_feed_here","_law_got","_law_names_here","_law_deep"] (2 + n) (spM K 4 (bO n))):FnOk P w K mg base CX0 (2 + n + 1) f fd ["_law_feed_here","_law_got","_law_names_here","_law_deep"] (spM K 4 (bO (n + 1))):=dfn F sc__law_expr fun _ _ _ _ _ _ hr=>(ax (aN (i:=4) sc__law_expr.nd (aA Qaa (rm hr) rfl (af (ag 0) (af aj ak)) (ao (ao aw)))) (ax (aQ (bD (cS (aI dv (ag 4) aj) (c8 (aI gh (ag 1) aj)))) (ay (aJ (aM (af az (af (aA Qaa (rm hr) rfl (af (ag 0) (af (ag 1) ak)) (ao (ao aw))) ak))))) aS) (ax (aQ (bD (dk (aI aW (ag 3) aj) (dS (aI dv (ag 4) aj)))) (ay (aJ (aM (af az (af (aA Qad (rm hr) rfl (af (ag 0) (af (ag 2) ak)) (ao (ao aw))) ak))))) aS) (ax (aN (i:=5) sc__law_expr.nd (aA Qac (rm hr) rfl (af (ag 0) (af (ag 1) (af (ag 2) (af (aO fY (ag 3) aj) ak)))) (ao (ao (ao (ao aw)))))) (ax (aQ (aI aW (ag 4) aj) (ay (aJ (aM (af az (af (ag 5) ak))))) aS) (ax (aN (i:=6) sc__law_expr.nd (aA Qac (rm hr) rfl (af (ag 0) (af (ag 1) (af (ag 2) (af (aO fY (ag 3) aj) ak)))) (ao (ao (ao (ao aw)))))) (ax (aQ (aI aW (ag 4) aj) (ay (aJ (aM (af az (af (iG (aM (af (ag 5) (af (ag 6) ak))) ik (ij (aA Qaa (rm hr) rfl (af (ag 0) (af aj ak)) (ao (ao aw))))) ak))))) aS) (ay (aJ (aM (af (aL aK (bH (af az (af az (af az (af az (af az ak)))))) (aA Qaa (rm hr) rfl (af (ag 0) (af aj ak)) (ao (ao aw)))) (af (ag 5) (af (ag 6) ak)))))))))))))
theorem sc__law_wanted:FnScope ["_law_feed_here","_law_got","_law_names_here","_law_way"] ["_law_feed_here","_law_got","_law_names_here"] (aE (top 67)):=⟨rfl,rfl,rfl,by decide +kernel,rfl,by decide +kernel,by decide +kernel⟩
theorem vM (B:Bi K mg) (F:Fun K "_law_wanted" "_law_wanted" (top 67) f fd) (Qaa:Fn P w K mg base "_law_next" ["_law_feed_here","_law_many"] 1 (spM K 2 aB)) (Qac:Fn P w K mg base "_law_expr" ["_law_feed_here","_law_got","_law_names_here","_law_deep"] 27 (spM K 4 (bO 25))):FnOk P w K mg base CX0 28 f fd ["_law_feed_here","_law_got","_law_names_here"] (spM K 3 (fL)):=dfn F sc__law_wanted fun _ _ _ _ _ _ hr=>(ax (aN (i:=3) sc__law_wanted.nd (aA Qaa (rm hr) rfl (af (ag 0) (af aj ak)) (ao (ao aw)))) (ax (aQ (aI dv (ag 3) aj) (ay (aJ (aM (af az (af (aL aK (ag 2) (aA Qaa (rm hr) rfl (af (ag 0) (af (bg bw rfl B.b_len boot_len (af (ag 2) ak)) ak)) (ao (ao aw)))) ak))))) aS) (ax (aQ (aI aW (ag 3) aj) (ay (aJ (aM (af az (af (aM (af az (af (aL aK (ag 2) (aA Qaa (rm hr) rfl (af (ag 0) (af (bg bw rfl B.b_len boot_len (af (ag 2) ak)) ak)) (ao (ao aw)))) ak))) (af (aM (af az (af az ak))) ak)))))) aS) (ay (aJ (aA Qac (rm hr) rfl (af (ag 0) (af (ag 1) (af (ag 2) (af aj ak)))) (ao (ao (ao (ao aw))))))))))
theorem sc__law_recipe:FnScope ["_law_feed_here","_law_got","_law_names_here","_law_wants","_law_whens","_law_peeks","_law_way","_law_word","_law_one","_law_first"] ["_law_feed_here","_law_got","_law_names_here","_law_wants","_law_whens","_law_peeks"] (aE (top 68)):=⟨rfl,rfl,rfl,by decide +kernel,rfl,by decide +kernel,by decide +kernel⟩
theorem vN (n:Nat) (B:Bi K mg) (F:Fun K "_law_recipe" "_law_recipe" (top 68) f fd) (Qaa:Fn P w K mg base "_law_next" ["_law_feed_here","_law_many"] 1 (spM K 2 aB)) (Qbd:Fn P w K mg base "_law_wanted" ["_law_feed_here","_law_got","_law_names_here"] 28 (spM K 3 fL)) (Qai:Fn P w K mg base "_law_recipe" ["_law_feed_here","_law_got","_law_names_here","_law_wants","_law_whens","_law_peeks"] (28 + n) (spM K 6 (bS n))) (Qac:Fn P w K mg base "_law_expr" ["_law_feed_here","_law_got","_law_names_here","_law_deep"] 27 (spM K 4 (bO 25))):FnOk P w K mg base CX0 (28 + n + 1) f fd ["_law_feed_here","_law_got","_law_names_here","_law_wants","_law_whens","_law_peeks"] (spM K 6 (bS (n + 1))):=dfn F sc__law_recipe fun _ _ _ _ _ _ hr=>(ax (aN (i:=6) sc__law_recipe.nd (aA Qaa (rm hr) rfl (af (ag 0) (af aj ak)) (ao (ao aw)))) (ax (aQ (bD (cS (aI dv (ag 6) aj) (c8 (aI gh (ag 3) aj)))) (ax (aN (i:=7) sc__law_recipe.nd (jw (bD (cS (bu (ag 5)) (c8 (aI aW (aA Qaa (rm hr) rfl (af (ag 0) (af aj ak)) (ao (ao aw))) aj)))) az az)) (ax (aN (i:=8) sc__law_recipe.nd (aA Qbd (rm hr) rfl (af (ag 0) (af (ag 1) (af (ag 2) ak))) (ao (ao (ao aw))))) (ay (aJ (aM (af (ag 7) (af (ag 8) (af (aA Qai (rm hr) rfl (af (ag 0) (af (aO bj (ag 1) aj) (af (ag 2) (af (aO fY (ag 3) aj) (af (ag 4) (af (ag 5) ak)))))) (ao (ao (ao (ao (ao (ao aw))))))) ak)))))))) aS) (ax (aQ (bD (cS (aI jz (ag 6) (aM (af aj (af aj ak)))) (c8 (aI gh (ag 4) aj)))) (ax (aN (i:=8) sc__law_recipe.nd (aA Qac (rm hr) rfl (af (ag 0) (af (ag 1) (af (ag 2) (af aj ak)))) (ao (ao (ao (ao aw)))))) (ax (aN (i:=9) sc__law_recipe.nd (aA Qai (rm hr) rfl (af (ag 0) (af (ag 1) (af (ag 2) (af (ag 3) (af (aO fY (ag 4) aj) (af (ag 5) ak)))))) (ao (ao (ao (ao (ao (ao aw)))))))) (ay (aJ (aM (af az (af (ag 8) (af (ag 9) (af (aA Qai (rm hr) rfl (af (ag 0) (af (ag 1) (af (ag 2) (af (ag 3) (af (aO fY (ag 4) aj) (af (ag 5) ak)))))) (ao (ao (ao (ao (ao (ao aw))))))) ak))))))))) aS) (ax (aQ (bD (cS (aI aW (ag 6) aj) (c8 (aI aW (aA Qaa (rm hr) rfl (af (ag 0) (af aj ak)) (ao (ao aw))) aj)))) (ay (aJ (aM (af az (af (aL aK (ag 2) (aA Qaa (rm hr) rfl (af (ag 0) (af (bg bw rfl B.b_len boot_len (af (ag 2) ak)) ak)) (ao (ao aw)))) ak))))) aS) (ay (aJ (aM (af az (af (aA Qac (rm hr) rfl (af (ag 0) (af (ag 1) (af (ag 2) (af aj ak)))) (ao (ao (ao (ao aw))))) ak)))))))))
theorem sc__law_any_recipe:FnScope ["_law_feed_here","_law_names_here","_law_peeks","_law_wants","_law_whens"] ["_law_feed_here","_law_names_here","_law_peeks"] (aE (top 69)):=⟨rfl,rfl,rfl,by decide +kernel,rfl,by decide +kernel,by decide +kernel⟩
theorem vp (B:Bi K mg) (F:Fun K "_law_any_recipe" "_law_any_recipe" (top 69) f fd) (Qaa:Fn P w K mg base "_law_next" ["_law_feed_here","_law_many"] 1 (spM K 2 aB)) (Qai:Fn P w K mg base "_law_recipe" ["_law_feed_here","_law_got","_law_names_here","_law_wants","_law_whens","_law_peeks"] 53 (spM K 6 (bS 25))):FnOk P w K mg base CX0 54 f fd ["_law_feed_here","_law_names_here","_law_peeks"] (spM K 3 (cw)):=dfn F sc__law_any_recipe fun _ _ _ _ _ _ hr=>(ax (Ct (i:=3) (j:=4) sc__law_any_recipe.nd (aL aK (bH (af (aM (af aj (af aj ak))) (af (aM (af aj (af aj ak))) (af (aM (af aj (af aj ak))) (af (aM (af aj (af aj ak))) (af (aM (af aj (af aj ak))) ak)))))) (aA Qaa (rm hr) rfl (af (ag 0) (af aj ak)) (ao (ao aw))))) (ay (aJ (aA Qai (rm hr) rfl (af (ag 0) (af aj (af (ag 1) (af (ag 3) (af (ag 4) (af (ag 2) ak)))))) (ao (ao (ao (ao (ao (ao aw))))))))))
theorem sc__law_book:FnScope ["_law_script","_law_base","_law_names_here","_law_peeks","_law_told","_law_recipes","_law_k","_law_feed_here","_law_way"] ["_law_script","_law_base","_law_names_here","_law_peeks"] (aE (top 70)):=⟨rfl,rfl,rfl,by decide +kernel,rfl,by decide +kernel,by decide +kernel⟩
theorem wy (B:Bi K mg) (F:Fun K "_law_book" "_law_book" (top 70) f fd) (Qaa:Fn P w K mg base "_law_next" ["_law_feed_here","_law_many"] 1 (spM K 2 aB)) (Qad:Fn P w K mg base "_law_value" ["_law_feed_here","_law_names_here"] 2 (spM K 2 cP)) (Qae:Fn P w K mg base "_law_any_recipe" ["_law_feed_here","_law_names_here","_law_peeks"] 54 (spM K 3 cw)) (Qah:Fn P w K mg base "_law_feed" ["_law_script","_law_k"] 1 (spO K 2 bI)):FnOk P w K mg base CX0 55 f fd ["_law_script","_law_base","_law_names_here","_law_peeks"] (spM K 4 (gy)):=dfn F sc__law_book fun _ _ _ _ _ _ hr=>(ax (sr (i:=4) sc__law_book.nd) (ax (sr (i:=5) sc__law_book.nd) (ax (jc (i:=6) sc__law_book.nd (iY rfl B.b_range (bg bw rfl B.b_len boot_len (af (ag 2) ak))) (qd (i:=7) Qah (rm hr) rfl sc__law_book.nd (af (ag 0) (af (aO bj (ag 1) (ag 6)) ak)) (ao (ao aw)) (ax (aN (i:=8) sc__law_book.nd (aA Qaa (rm hr) rfl (af (ag 7) (af aj ak)) (ao (ao aw)))) (ay (aQ (aI dv (ag 8) aj) (ay (su (i:=4) hr (aL aK (ag 2) (ag 6)) (aA Qad (rm hr) rfl (af (ag 7) (af (ag 2) ak)) (ao (ao aw))))) (ay (aQ (aI dv (ag 8) aj) (ay (su (i:=5) hr (aL aK (ag 2) (ag 6)) (aA Qae (rm hr) rfl (af (ag 7) (af (ag 2) (af (ag 3) ak))) (ao (ao (ao aw)))))) aS))))))) (ay (aJ (aM (af (ag 4) (af (ag 5) ak))))))))
theorem sc__law_no_name:FnScope ["_law_k","_law_some"] ["_law_k"] (aE (top 71)):=⟨rfl,rfl,rfl,by decide +kernel,rfl,by decide +kernel,by decide +kernel⟩
theorem vH (B:Bi K mg) (F:Fun K "_law_no_name" "_law_no_name" (top 71) f fd)  : FnOk P w K mg base CX0 1 f fd ["_law_k"] (spM K 1 (gu)):=dfn F sc__law_no_name fun _ _ _ _ _ _ hr=>(ax (aN (i:=1) sc__law_no_name.nd (bH (af az (af az (af az (af az (af az (af az (af az (af az ak)))))))))) (ay (aJ (aL aK (aO bj (ag 1) (bH (af aj (af eY (af cg (af (aM (af az ak)) (af (bH (af az ak)) (af (Ba aj) (af az (af az ak)))))))))) (ag 0)))))
theorem sc__law_no_value:FnScope ["_law_k","_law_deep","_law_wide","_law_some"] ["_law_k"] (aE (top 72)):=⟨rfl,rfl,rfl,by decide +kernel,rfl,by decide +kernel,by decide +kernel⟩
theorem vA (B:Bi K mg) (F:Fun K "_law_no_value" "_law_no_value" (top 72) f fd)  : FnOk P w K mg base CX0 1 f fd ["_law_k"] (spM K 1 (gr)):=dfn F sc__law_no_value fun _ _ _ _ _ _ hr=>(ax (aN (i:=1) sc__law_no_value.nd (aM (af (aM (af (aM (af (aM (af (aM ak) ak)) ak)) ak)) ak))) (ax (aN (i:=2) sc__law_no_value.nd (aM (af aj (af aj (af aj (af aj (af aj (af aj (af aj (af aj (af aj ak))))))))))) (ax (aN (i:=3) sc__law_no_value.nd (bH (af eY (af cg (af cg (af (bH ak) (af (bH (af aj ak)) (af sF (af az (af az (af az (af (aO bj (aO gS aj aj) aj) ak)))))))))))) (ay (aJ (aL aK (aO bj (ag 3) (bH (af (aO fY (nH (aO gS aj aj)) aj) (af (ag 1) (af (aM (af eY ak)) (af (aM (af aj (af (bH (af aj ak)) ak))) (af (ag 2) (af (aM (af (aM (af cg ak)) (af aj ak))) ak)))))))) (ag 0)))))))
theorem sc__law_no_recipe:FnScope ["_law_k","_law_put","_law_say","_law_some"] ["_law_k"] (aE (top 73)):=⟨rfl,rfl,rfl,by decide +kernel,rfl,by decide +kernel,by decide +kernel⟩
theorem vv (B:Bi K mg) (F:Fun K "_law_no_recipe" "_law_no_recipe" (top 73) f fd)  : FnOk P w K mg base CX0 1 f fd ["_law_k"] (spM K 1 (gq)):=dfn F sc__law_no_recipe fun _ _ _ _ _ _ hr=>(ax (aN (i:=1) sc__law_no_recipe.nd (aM (af az (af aj ak)))) (ax (aN (i:=2) sc__law_no_recipe.nd (aM (af az (af (ag 1) ak)))) (ax (aN (i:=3) sc__law_no_recipe.nd (bH (af eY (af aj (af az (af (aM ak) (af (aM (af az ak)) (af (aM (af az (af aj ak))) (af (bH (af az (af (ag 1) ak))) (af (aM (af az (af (ag 1) (af (ag 1) ak)))) (af (aM (af az (af az ak))) ak))))))))))) (ax (aN (i:=3) sc__law_no_recipe.nd (aO bj (ag 3) (bH (af (aM (af az (af aj ak))) (af (aM (af az (af (aM (af az (af aj ak))) ak))) (af (aM (af az (af (ag 1) ak))) (af (aM (af az (af (ag 1) (af (ag 2) ak)))) ak))))))) (ax (aN (i:=3) sc__law_no_recipe.nd (aO bj (ag 3) (bH (af (aM (af az (af (ag 1) (af (aM (af az (af (aM (af az (af aj ak))) ak))) ak)))) (af (aM (af az (af (aM (af az (af cg ak))) ak))) ak))))) (ay (aJ (aL aK (aO bj (ag 3) (bH (af (aM (af az (af (aM (af az (af aj ak))) (af (aM (af az (af az ak))) ak)))) ak))) (ag 0)))))))))
theorem sc__law_found:FnScope ["_law_way","_law_tome","_law_name","_law_thing","_law_found_here","_law_kind_here","_law_e"] ["_law_way","_law_tome","_law_name","_law_thing"] (aE (top 75)):=⟨rfl,rfl,rfl,by decide +kernel,rfl,by decide +kernel,by decide +kernel⟩
theorem sc__law_full:FnScope ["_law_many","_law_letters"] ["_law_many"] (aE (top 76)):=⟨rfl,rfl,rfl,by decide +kernel,rfl,by decide +kernel,by decide +kernel⟩
theorem wt (B:Bi K mg) (F:Fun K "_law_full" "_law_full" (top 76) f fd)  : FnOk P w K mg base CX0 1 f fd ["_law_many"] (spM K 1 (gx)):=dfn F sc__law_full fun _ _ _ _ _ _ hr=>(ax (aN (i:=1) sc__law_full.nd az) (ay (aJ (eg (osc:=aE (top 76)) (N:=["_law_many","_law_letters"]) (N':=["_law_many","_law_letters"]) (x:="_law_k") ⟨rfl,by decide +kernel,by decide +kernel,rfl,by decide +kernel,by decide +kernel,by decide +kernel,by decide +kernel,rfl,by decide +kernel⟩ (iY rfl B.b_range (ag 0)) (fun C s0 H0 ex=>(aO bj (aO bj az (aL aK az (aO rO (ag 0) aj))) (aL aK (ag 2) (aO fZ (ag 0) aj)))) (fun C s0 H0 ex=>eV)))))
theorem sc_law:FnScope ["_law_script","_law_names_here","_law_tome","_law_k","_law_feed_here","_law_way","_law_some","_law_name","_law_thing","_law_is_thing","_law_due","_law_is_new","_law_handed"] ["_law_script"] (aE (top 77)):=⟨rfl,rfl,rfl,by decide +kernel,rfl,by decide +kernel,by decide +kernel⟩
theorem BY (B:Bi K mg) (F:Fun K "law" "law" (top 77) f fd) (Qaa:Fn P w K mg base "_law_next" ["_law_feed_here","_law_many"] 1 (spM K 2 aB)) (Qah:Fn P w K mg base "_law_feed" ["_law_script","_law_k"] 1 (spO K 2 bI)) (Qbg:Fn P w K mg base "_law_names" ["_law_feed_here","_law_many"] 2 (spM K 2 fM)) (Qbl:Fn P w K mg base "_law_book" ["_law_script","_law_base","_law_names_here","_law_peeks"] 55 (spM K 4 gy)) (Qaz:Fn P w K mg base "_law_no_name" ["_law_k"] 1 (spM K 1 gu)) (Qae:Fn P w K mg base "_law_any_recipe" ["_law_feed_here","_law_names_here","_law_peeks"] 54 (spM K 3 cw)) (Qad:Fn P w K mg base "_law_value" ["_law_feed_here","_law_names_here"] 2 (spM K 2 cP)) (Qaw:Fn P w K mg base "_law_no_value" ["_law_k"] 1 (spM K 1 gr)) (Qas:Fn P w K mg base "_law_no_recipe" ["_law_k"] 1 (spM K 1 gq)) (Qba:Fn P w K mg base "_law_is_name" ["_law_thing"] 1 (spM K 1 dJ)) (Qbh:Fn P w K mg base "_law_found" ["_law_way","_law_tome","_law_name","_law_thing"] 34 (spM K 4 dw)) (Qbm:Fn P w K mg base "_law_full" ["_law_many"] 1 (spM K 1 gx)):FnOk P w K mg base CX0 56 f fd ["_law_script"] (spM K 1 (k7)):=dfn F sc_law fun _ _ _ _ _ _ hr=>(ax (aN (i:=1) sc_law.nd (mr Qbg Qah (rm hr) (rm hr) rfl rfl (af (ag 0) (af aj ak)) (ao (ao aw)) (af (aO bj aj (mr Qaa Qah (rm hr) (rm hr) rfl rfl (af (ag 0) (af aj ak)) (ao (ao aw)) (af aj ak) (ao (ao aw)))) ak) (ao (ao aw)))) (ax (aN (i:=2) sc_law.nd (aA Qbl (rm hr) rfl (af (ag 0) (af aj (af (iG (ag 1) (ij aj) ik) (af (cD aW (mr Qaa Qah (rm hr) (rm hr) rfl rfl (af (ag 0) (af aj ak)) (ao (ao aw)) (af aj ak) (ao (ao aw))) aj) ak)))) (ao (ao (ao (ao aw)))))) (ax (jc (i:=3) sc_law.nd (iY rfl B.b_range aj) (qd (i:=4) Qah (rm hr) rfl sc_law.nd (af (ag 0) (af (aO bj aj (ag 3)) ak)) (ao (ao aw)) (ax (aN (i:=5) sc_law.nd (aA Qaa (rm hr) rfl (af (ag 4) (af aj ak)) (ao (ao aw)))) (ax (aN (i:=6) sc_law.nd (aO bj (ag 1) (iG (iO mP rfl B.b_list boot_list (af (aL aK (ag 2) aj) ak)) ik (ij aj)))) (ax (aN (i:=7) sc_law.nd (aL aK (ag 6) (aA Qaa (rm hr) rfl (af (ag 4) (af (bg bw rfl B.b_len boot_len (af (ag 6) ak)) ak)) (ao (ao aw))))) (ax (aQ (aI aW (aA Qaa (rm hr) rfl (af (ag 4) (af aj ak)) (ao (ao aw))) aj) (ay (aN (i:=7) sc_law.nd (aA Qaz (rm hr) rfl (af (aA Qaa (rm hr) rfl (af (ag 4) (af aj ak)) (ao (ao aw))) ak) (ao aw)))) aS) (ax (aN (i:=8) sc_law.nd (aL aK (bH (af (aA Qad (rm hr) rfl (af (ag 4) (af (ag 1) ak)) (ao (ao aw))) (af (aA Qae (rm hr) rfl (af (ag 4) (af (ag 1) (af cg ak))) (ao (ao (ao aw)))) (af eY ak)))) (ag 5))) (ax (aN (i:=9) sc_law.nd (df (cD dv (ag 5) aj) (eE (cD gh (aA Qaa (rm hr) rfl (af (ag 4) (af aj ak)) (ao (ao aw))) aj)))) (ax (aQ (bD (cS (aI aW (ag 5) aj) (c8 (bJ (bu (ag 9)))))) (ay (aN (i:=8) sc_law.nd (aA Qaw (rm hr) rfl (af (aA Qaa (rm hr) rfl (af (ag 4) (af aj ak)) (ao (ao aw))) ak) (ao aw)))) aS) (ax (aQ (bD (cS (aI aW (ag 5) aj) (c8 (bJ (bu (ag 9)))))) (ay (aN (i:=8) sc_law.nd (aA Qas (rm hr) rfl (af (aA Qaa (rm hr) rfl (af (ag 4) (af aj ak)) (ao (ao aw))) ak) (ao aw)))) aS) (ax (aN (i:=10) sc_law.nd aj) (ax (aN (i:=11) sc_law.nd (df (zN B.b_isinstance (ag 7) B.b_str B.b_int) (df (cD (qJ hr) (ag 7) (aL aK (ag 2) aj)) (eE (cD (qJ hr) (ag 7) (aL aK (ag 2) aj)))))) (ax (aQ (bJ (bu (aA Qba (rm hr) rfl (af (ag 7) ak) (ao aw)))) (ay (aN (i:=10) sc_law.nd aj)) (ay (aQ (bD (cS (aI dv (ag 5) aj) (c8 (bJ (bu (ag 9)))))) (ay (aN (i:=10) sc_law.nd (aO bj aj (ag 5)))) (ay (aQ (bD (cS (aI dv (ag 5) aj) (cS (bu (ag 11)) (c8 (aI lF (aO bj (bg bw rfl B.b_len boot_len (af (aL aK (ag 2) aj) ak)) (bg bw rfl B.b_len boot_len (af (aL aK (ag 2) aj) ak))) aj))))) (ay (aN (i:=10) sc_law.nd aj)) (ay (aQ (bD (cS (aI aW (ag 5) aj) (c8 (bu (ag 11))))) (ay (aN (i:=10) sc_law.nd aj)) aS))))))) (ax (aN (i:=12) sc_law.nd (aM (af (sE B.b_dict (aL aK (ag 2) aj)) (af (sE B.b_dict (aL aK (ag 2) aj)) ak)))) (ax (aQ (bD (dk (aI ot (aA Qbh (rm hr) rfl (af (ag 5) (af (ag 12) (af (ag 7) (af (ag 8) ak)))) (ao (ao (ao (ao aw))))) (ag 10)) (dS (aI (Dj hr) (ag 12) (ag 2))))) (ay (aJ cg)) aS) (ay (aQ (aI aW (aA Qaa (rm hr) rfl (af (ag 4) (af aj ak)) (ao (ao aw))) aj) (ay (aN (i:=2) sc_law.nd (aM (af (A9 B.b_dict (eg (osc:=aE (top 77)) (N:=["_law_script","_law_names_here","_law_tome","_law_k","_law_feed_here","_law_way","_law_some","_law_name","_law_thing","_law_is_thing","_law_due","_law_is_new","_law_handed"]) (N':=["_law_script","_law_names_here","_law_tome","_law_k","_law_feed_here","_law_way","_law_some","_law_name","_law_thing","_law_is_thing","_law_due","_law_is_new","_law_handed"]) (x:="_law_other") ⟨rfl,by decide +kernel,by decide +kernel,rfl,by decide +kernel,by decide +kernel,by decide +kernel,by decide +kernel,rfl,by decide +kernel⟩ (d9 (aA Qbm (rm hr) rfl (af (aO bj aj (aA Qaa (rm hr) rfl (af (ag 4) (af aj ak)) (ao (ao aw)))) ak) (ao aw))) (fun C s0 H0 ex=>(aM (af (ag 0) (af aj ak)))) (fun C s0 H0 ex=>eV))) (af sF ak))))) aS))))))))))))))))) (ay (aJ cg)))))
end G
namespace XO
open PySem PySem.Spec PyProof.Rows L2 D
def Old (H H':Hp):Prop:=∀ b o,H b=some o→H' b=some o
theorem Old.new {H H':Hp} {p:Addr} {o:HO} (h:Old H H') (hp:H' p=none):Old H (upd H' p o):=fun b u e=>(aD (bA (h b u e) hp)).trans (h b u e)
theorem Old.put {H H':Hp} {p:Addr} {o:HO} (h:Old H H') (hp:H p=none):Old H (upd H' p o):=fun b u e=>(aD (bA e hp)).trans (h b u e)
theorem Old.no {H H':Hp} {p:Addr} (h:Old H H') (hp:H' p=none):H p=none:=by
 cases e:H p with
 | none=>rfl
 | some o=>rw [h p o e] at hp; cases hp
theorem Old.same {ts:List Addr} {H H':Hp} (h:Old H H'):SameX ts H H':=fun b o _ e=>h b o e
theorem Old.hc {K:Frag} {O:Addr→Prop} {ts:List Addr} {H H':Hp} {T:Tp} (h:Old H H') (c:HC K O ts H T):HC K O ts H' T:=c.step h.same fun b hb=>by
 obtain ⟨u,e⟩:=(c.trk b (c.own b hb)).ex
 rw [h b _ e,e]
end XO
namespace G
open PySem PySem.Spec PyProof.Rows L2 D
def bits (c:Nat):List Bool:=[decide (c=0),decide (c=1),decide (c=2),decide (c=3),decide (c=4),false,false,false]
def nr:FE:=iJ (av (ai eqD (ux (ae 1) (fC (.bool true))) (fC (.int 1)))) (ai aP (uv (ae 1) (fC (.bool true))) (fC (.int 1))) (fC (.int 9))
theorem AN {c:Nat} (h:c < 5) (o:Option W) (T:Tp):nr [o,some (.d (.list ((bits c).map PyData.bool)))] T=some (.d (.int ((c:Int) + 1)),T):=by
 match c,h with
 | 0,_=>rfl
 | 1,_=>rfl
 | 2,_=>rfl
 | 3,_=>rfl
 | 4,_=>rfl
theorem sc__law_kind:FnScope ["_law_e","_law_kinds"] ["_law_e"] (aE (top 74)):=⟨rfl,rfl,rfl,by decide +kernel,rfl,by decide +kernel,by decide +kernel⟩
section
variable {P:Program} {w:World} {K:Frag} {mg:Str→Option Value} {base:Heap} {f:Addr} {fd:FuncData} {cs ds:Nat→Addr} {R:Addr}
theorem jm (x:XC5 K mg cs ds R) {c i:Nat} (h:c < 5) (hi:i < 5):PySem.W.kitOne K (.ref (cs c)) (.ref (cs i))=some (decide (c=i)):=by
 by_cases e:c=i
 ·subst e
  rw [XO.zx]
  simp
 ·rw [decide_eq_false e]
  exact x.n c h i hi e
theorem uk (x:XC5 K mg cs ds R) {c:Nat} (h:c < 5) {l:List Nat} (hl:∀ i∈l,i < 9):PySem.W.kitAny K (.ref (cs c)) ((l.map ds).map Value.ref)=some false:=XO.qO fun a ha=>by
 obtain ⟨i,hi,rfl⟩:=List.mem_map.mp ha
 exact x.d c h i (hl i hi)
theorem zm (B:Bi K mg) (x:XC5 K mg cs ds R) (F:Fun K "_law_kind" "_law_kind" (top 74) f fd):XO.FnOkH P w K mg base 1 f fd ["_law_e"] (XO.spK K cs):=by
 refine XO.okH (k:=0) F sc__law_kind (fun vs H Q E h=>?_) (fun cdv A outer s H vs Q hr h=>?_)
 ·obtain ⟨O,ts,T,e,c,_,rfl,_⟩:=h
  rfl
 ·obtain ⟨O,ts,T,e,c,hc,rfl,hc5,hx,q⟩:=h
  have J:=x.j c hc5
  have hu:(A.deeper (envOfC "_law_kind" (aE (top 74)) s.heap.objs.size f cdv)).units + 200 < cLine:=by have:=hr.un; omega
  refine ⟨_,cH (er (i:=1) sc__law_kind.nd rfl (.inl rfl) (i7 (aU (XO.i8 (e:=e) J.is (pv 0) rfl B.b_isinstance rfl x.c0 (jm x hc5 (by decide))) (aU (XO.i8 (e:=e) J.is (pv 0) rfl B.b_isinstance rfl x.c1 (jm x hc5 (by decide))) (aU (XO.i8 (e:=e) J.is (pv 0) rfl B.b_isinstance rfl x.c2 (jm x hc5 (by decide))) (aU (XO.i8 (e:=e) J.is (pv 0) rfl B.b_isinstance rfl x.c3 (jm x hc5 (by decide))) bx))))))
   (cH (er (i:=1) sc__law_kind.nd rfl (.inl rfl) (uc rN (pv 1) (i7 (aU (XO.i8 (e:=e) J.is (pv 0) rfl B.b_isinstance rfl x.c4 (jm x hc5 (by decide))) (aU (sV (XO.Aw (e:=e) J.is (pv 0) rfl B.b_isinstance rfl B.b_ValueError J.kv)) bx)))))
   (cH (gE (gR PySem.F.plainAttrs_list PySem.F.slot_list_append PySem.F.type_list_append pX (pv 1) (aU (XO.rL (e:=e) (Ds:=[0,1,2,3,4].map ds) J.is (pv 0) rfl B.b_isinstance (aU (cB (v:=.ref (ds 0)) rfl x.d0 rfl) (aU (cB (v:=.ref (ds 1)) rfl x.d1 rfl) (aU (cB (v:=.ref (ds 2)) rfl x.d2 rfl) (aU (cB (v:=.ref (ds 3)) rfl x.d3 rfl) (aU (cB (v:=.ref (ds 4)) rfl x.d4 rfl) bx))))) (fun _ _ _ z=>z) (by simp) (uk x hc5 (by decide))) bx)))
   (cH (gE (gR PySem.F.plainAttrs_list PySem.F.slot_list_append PySem.F.type_list_append pX (pv 1) (aU (XO.rL (e:=e) (Ds:=[5,6,7,8].map ds) J.is (pv 0) rfl B.b_isinstance (aU (cB (v:=.ref (ds 5)) rfl x.d5 rfl) (aU (cB (v:=.ref (ds 6)) rfl x.d6 rfl) (aU (cB (v:=.ref (ds 7)) rfl x.d7 rfl) (aU (cB (v:=.ref (ds 8)) rfl x.d8 rfl) bx)))) (fun _ _ _ z=>z) (by simp) (uk x hc5 (by decide))) bx)))
   (ib (DS.pe (aJ (fe:=nr) (jw (aI aW (yD hu (ag 1) cg) aj) (aO bj (yC hu (ag 1) cg) aj) aj)))))))  ,?_⟩
  have r0:XO.Old H H:=fun _ _ z=>z
  refine ⟨rfl,hx,rfl,hx,rfl,hx,rfl,hx,(by show 4≤sizeLine; decide),fun l hl=>?_⟩
  have r1:=r0.new (o:=.lst [V.bl (decide (c=0)),.bl (decide (c=1)),.bl (decide (c=2)),.bl (decide (c=3))]) hl
  have x1:=r1 e _ hx
  refine ⟨.ref l,rfl,rfl,x1,rfl,x1,true,rfl,(by show 2≤sizeLine; decide),fun l2 hl2=>⟨l,l2,_,_,rfl,rfl,.inl (.inl ((aD (bA aR hl2)).trans aR)),.inl (.inl aR),(by show 6≤sizeLine; decide),fun l3 hl3=>?_⟩⟩
  have r2:=(r1.new hl2).new (o:=.lst ([V.bl (decide (c=0)),.bl (decide (c=1)),.bl (decide (c=2)),.bl (decide (c=3))]++[.bl (decide (c=4)),.bl !true])) hl3
  have n3:H l3=none:=(r1.new hl2).no hl3
  have x2:=r2 e _ hx
  refine ⟨.ref l3,rfl,.inl ⟨rfl,_,.inl (.inl aR)⟩,rfl,x2,fun p hp=>⟨l3,_,.bl false,rfl,rfl,(aD (bA aR hp)).trans aR,(by show 6 < sizeLine; decide),?_⟩⟩
  have r3:=(r2.new (o:=.tup ([0,1,2,3,4].map ds |>.map V.ref)) hp).put (p:=l3) (o:=.lst [V.bl (decide (c=0)),.bl (decide (c=1)),.bl (decide (c=2)),.bl (decide (c=3)),.bl (decide (c=4)),.bl false,.bl false]) n3
  have x3:=r3 e _ hx
  refine ⟨.ref l3,rfl,.inl ⟨rfl,_,.inl (.inl aR)⟩,rfl,x3,fun p2 hp2=>⟨l3,_,.bl false,rfl,rfl,(aD (bA aR hp2)).trans aR,(by show 7 < sizeLine; decide),?_⟩⟩
  have r4:=(r3.new (o:=.tup ([5,6,7,8].map ds |>.map V.ref)) hp2).put (p:=l3) (o:=.lst ((bits c).map V.bl)) n3
  have rp:∀ {Hn:Hp},Hn l3=some (.lst ((bits c).map V.bl))→Rep K O Hn (.ref l3) (.list ((bits c).map PyData.bool)):=fun {Hn} z=>.lst (.inl ⟨hc.fresh n3,.inl z⟩) (.cons (.bl _) (.cons (.bl _) (.cons (.bl _) (.cons (.bl _) (.cons (.bl _) (.cons (.bl _) (.cons (.bl _) (.cons (.bl _) .nil))))))))
  refine ⟨O,H,[],ts,O,[none,some (.d (.list ((bits c).map PyData.bool)))],T,.rt (.int ((c:Int) + 1)),[none,some (.d (.list ((bits c).map PyData.bool)))],T,⟨r4.hc hc,fun i u e1=>?_,fun _ z=>z,hc.own,r4.same,fun i xs a e1 _=>?_,fun i j xs ys v e1 _ _ _=>?_,fun f hf=>absurd hf (by simp),rfl⟩,?_,fun v H' s1 c1 r1=>q v H' s1 c1 r1⟩
  ·match i,e1 with
   | 1,e1=>cases e1; exact ⟨.ref l3,rfl,rp aR⟩
   | 0,e1=>cases e1
  ·match i,e1 with
   | 1,e1=>cases e1
   | 0,e1=>cases e1
  ·match i,e1 with
   | 1,e1=>cases e1
   | 0,e1=>cases e1
  ·have k:=AN hc5 none T
   show bnd (nr [none,some (.d (.list ((bits c).map PyData.bool)))] T) _=_
   rw [k]
   rfl
theorem xo (x:XC5 K mg cs ds R) (F:Fun K "refuse_no_name" "refuse_no_name" (top 57) f fd) (Qaj:Fn P w K mg base "is_name" ["thing"] 2 (spM K 1 cR)):FnOk P w K mg base (XO.CXo P w) 3 f fd ["thing"] (XO.spF K 1 cs c7):=XO.jG F oJ fun cdv A outer s H E hr=>XO.iR (c:=0) (x.j 0 (by decide)).b x.c0 (bJ (bu (aA Qaj (hr.mono (by omega)) rfl (af (ag 0) ak) (ao aw))))
theorem zk (B:Bi K mg) (x:XC5 K mg cs ds R) (F:Fun K "room_for" "room_for" (top 58) f fd) (Qaf:Fn P w K mg base "sort_at" ["book","name"] 1 (spM K 2 cy)) (Qao:Fn P w K mg base "names_of" ["book"] 1 (spM K 1 eO)):FnOk P w K mg base (XO.CXo P w) 2 f fd ["book","name"] (XO.spF K 2 cs gG):=XO.jG F oU fun cdv A outer s H E hr=>XO.iR (c:=3) (x.j 3 (by decide)).b x.c3 (bD (cS (aI aW (aA Qaf (hr.mono (by omega)) rfl (af (ag 0) (af (ag 1) ak)) (ao (ao aw))) az) (c8 (aI lF (bg bw rfl B.b_len boot_len (af (aA Qao (hr.mono (by omega)) rfl (af (ag 0) ak) (ao aw)) ak)) (dP rfl B.c_MOST_NAMES)))))
theorem zj (B:Bi K mg) (x:XC5 K mg cs ds R) (F:Fun K "told_with" "told_with" (top 54) f fd) (Qab:Fn P w K mg base "refuse_no_name" ["thing"] 3 (spM K 1 cx)) (Qag:Fn P w K mg base "is_value" ["thing"] 28 (spM K 1 dB)) (cI:XO.FnX P w K mg base "refuse_no_name" ["thing"] 3 (XO.spF K 1 cs c7)) (eZ:XO.FnX P w K mg base "room_for" ["book","name"] 2 (XO.spF K 2 cs gG)):FnOk P w K mg base (XO.CXo P w) 29 f fd ["book","name","value"] (XO.spF K 3 cs eW):=XO.jG F sc_told_with fun cdv A outer s H E hr=>XO.ju (XO.mO cI (hr.mono (by omega)) rfl XO.passes (af (ag 1) ak) (ao aw)) (XO.jv (ig (aA Qab (hr.mono (by omega)) rfl (af (ag 1) ak) (ao aw))) (XO.ju (XO.iR (c:=1) (x.j 1 (by decide)).b x.c1 (bJ (bu (aA Qag (hr.mono (by omega)) rfl (af (ag 2) ak) (ao aw))))) (XO.jv (aQ (bJ (bu (aA Qag (hr.mono (by omega)) rfl (af (ag 2) ak) (ao aw)))) (ay gF) aS) (XO.tJ (i:=3) eZ (hr.mono (by omega)) rfl XO.passes sc_told_with.nd (af (ag 0) (af (ag 1) ak)) (ao (ao aw))))))
theorem zl (B:Bi K mg) (x:XC5 K mg cs ds R) (F:Fun K "made_with" "made_with" (top 55) f fd) (Qab:Fn P w K mg base "refuse_no_name" ["thing"] 3 (spM K 1 cx)) (Qak:Fn P w K mg base "is_recipe" ["thing"] 32 (spM K 1 dM)) (cI:XO.FnX P w K mg base "refuse_no_name" ["thing"] 3 (XO.spF K 1 cs c7)) (eZ:XO.FnX P w K mg base "room_for" ["book","name"] 2 (XO.spF K 2 cs gG)):FnOk P w K mg base (XO.CXo P w) 33 f fd ["book","name","recipe"] (XO.spF K 3 cs eX):=XO.jG F sc_made_with fun cdv A outer s H E hr=>XO.ju (XO.mO cI (hr.mono (by omega)) rfl XO.passes (af (ag 1) ak) (ao aw)) (XO.jv (ig (aA Qab (hr.mono (by omega)) rfl (af (ag 1) ak) (ao aw))) (XO.ju (XO.iR (c:=2) (x.j 2 (by decide)).b x.c2 (bJ (bu (aA Qak (hr.mono (by omega)) rfl (af (ag 2) ak) (ao aw))))) (XO.jv (aQ (bJ (bu (aA Qak (hr.mono (by omega)) rfl (af (ag 2) ak) (ao aw)))) (ay gF) aS) (XO.tJ (i:=3) eZ (hr.mono (by omega)) rfl XO.passes sc_made_with.nd (af (ag 0) (af (ag 1) ak)) (ao (ao aw))))))
theorem wJ (x:XC5 K mg cs ds R) (F:Fun K "without" "without" (top 56) f fd) (Qab:Fn P w K mg base "refuse_no_name" ["thing"] 3 (spM K 1 cx)) (Qaf:Fn P w K mg base "sort_at" ["book","name"] 1 (spM K 2 cy)) (cI:XO.FnX P w K mg base "refuse_no_name" ["thing"] 3 (XO.spF K 1 cs c7)):FnOk P w K mg base (XO.CXo P w) 4 f fd ["book","name"] (XO.spF K 2 cs eP):=XO.jG F pb fun cdv A outer s H E hr=>XO.ju (XO.mO cI (hr.mono (by omega)) rfl XO.passes (af (ag 1) ak) (ao aw)) (XO.jv (ig (aA Qab (hr.mono (by omega)) rfl (af (ag 1) ak) (ao aw))) (XO.iR (c:=4) (x.j 4 (by decide)).b x.c4 (aI aW (aA Qaf (hr.mono (by omega)) rfl (af (ag 0) (af (ag 1) ak)) (ao (ao aw))) az)))
end
theorem zJ {X:Cx} {body:List Stmt} {fb:FS} {h0:ExceptHandler} {hs:List ExceptHandler} {pos:Pos} (h:DSs X body fb) (hx:∀ v s,¬ X.xe v s):DS X (.Try body (h0::hs) [] [] pos) fb:=
 ⟨fun pins s σ H D I q=>wpAny_Try_except (wpAny_mono (h.pe pins s σ H D I q) (fun fl s1 z=>match fl,z with
  | .next,z=>wpAny_execs_nil z
  | .brk,z=>z
  | .cont,z=>z
  | .ret _,z=>z) fun _ _ z=>(hx _ _ z).elim)⟩
theorem AZ {P:Program} {w:World} {K:Frag} {mg:Str→Option Value} {base:Heap} {CX:CXT} {k:Nat} {f:Addr} {fd:FuncData} {ps:List Str} {sp1 sp2 sp:Sp} (F1:FnOk P w K mg base CX k f fd ps sp1) (F2:FnOk P w K mg base CX k f fd ps sp2) (h:∀ vs H Q E,sp vs H Q E→sp1 vs H Q E∨sp2 vs H Q E):FnOk P w K mg base CX k f fd ps sp:=⟨fun vs H Q E q=>(h _ _ _ _ q).elim (F1.len _ _ _ _) (F2.len _ _ _ _),fun A outer s H args us vs Q E a b c d q=>(h _ _ _ _ q).elim (F1.run A outer s H args us vs Q E a b c d) (F2.run A outer s H args us vs Q E a b c d)⟩
def spE (K:Frag):Sp:=fun vs H Q _=>∃ (O:Addr→Prop) (ts:List Addr) (T:Tp) (ws:List W) (c:Nat) (T':Tp),HC K O ts H T∧eJ K O ts H vs ws∧ws.length=4∧bQ ws=true∧ie ws T=some (c,T')∧c < 5∧∀ v H',SameX ts H H'→HC K O ts H' T'→Rep K O H' v (.int ((c:Int) + 1))→Q v H'
theorem Ag {K:Frag} {O₀ O:Addr→Prop} {H₀ H:Hp} {F:List ((Addr→Prop)×Hp)} {ts:List Addr} {σ:L2.St} {ρ:Rho} {T:Tp} {i:Nat} (r:RS K O₀ H₀ F ts O H σ ρ T) (h:ρ[i]? = some none):RS K O₀ H₀ F ts O H (σ.set i none) ρ T:=by
 have ne:∀ {j:Nat} {w:W},ρ[j]? = some (some w)→i≠j:=fun {j w} e z=>by rw [← z,h] at e; cases e
 refine ⟨r.hc,fun j w e=>?_,r.sub,r.ots,r.same,fun j xs a e1 e2=>?_,fun j k xs ys v e1 e2 e3 e4=>?_,r.frs,by rw [List.length_set]; exact r.len⟩
 ·rw [List.getElem?_set_ne (ne e)]
  exact r.re j w e
 ·rw [List.getElem?_set_ne (ne e1)] at e2
  exact r.fresh j xs a e1 e2
 ·rw [List.getElem?_set_ne (ne e1)] at e3
  rw [List.getElem?_set_ne (ne e2)] at e4
  exact r.dist j k xs ys v e1 e2 e3 e4
theorem yi {P:Program} {w:World} {K:Frag} {mg:Str→Option Value} {base:Heap} {f:Addr} {fd:FuncData} (B:Bi K mg) (F:Fun K "_law_found" "_law_found" (top 75) f fd) {cs ds:Nat→Addr} {R:Addr} (x:XC5 K mg cs ds R) (gO:XO.FnX P w K mg base "told_with" ["book","name","value"] 29 (XO.spF K 3 cs eW)) (gP:XO.FnX P w K mg base "made_with" ["book","name","recipe"] 33 (XO.spF K 3 cs eX)) (gC:XO.FnX P w K mg base "without" ["book","name"] 4 (XO.spF K 2 cs eP)) (Qbn:XO.FnH P w K mg base "_law_kind" ["_law_e"] 1 (XO.spK K cs)) (Qaq:Fn P w K mg base "told_with" ["book","name","value"] 29 (spO K 3 fN)) (Qar:Fn P w K mg base "made_with" ["book","name","recipe"] 33 (spO K 3 fO)) (Qbc:Fn P w K mg base "without" ["book","name"] 4 (spO K 2 fR)):FnOk P w K mg base CX0 34 f fd ["_law_way","_law_tome","_law_name","_law_thing"] (spE K):=by
 refine F.ok sc__law_found (fun vs H Q E h=>?_) (fun cdv A outer s H vs Q E hr h=>?_)
 ·obtain ⟨O,ts,T,ws,c,T',hc,rw',hl,_⟩:=h
  exact (Paired.length rw').trans hl
 ·obtain ⟨O,ts,T,ws,c,T',hc,rw',hl,hn,e,hc5,q⟩:=h
  refine ⟨_,cH (DS.pe (aN (i:=4) sc__law_found.nd eY)) (cH (DS.pe (aN (i:=5) sc__law_found.nd aj)) (cH (XO.Ao (cs:=cs) (R:=R) (k:=5) (i:=6) (f:=cz) (XO.uB (aI aW (ag 0) aj) (XO.nF gO (hr.mono (by omega)) rfl (af (ag 1) (af (ag 2) (af (ag 3) ak))) (ao (ao (ao aw)))) (XO.uB (aI aW (ag 0) aj) (XO.nF gP (hr.mono (by omega)) rfl (af (ag 1) (af (ag 2) (af (ag 3) ak))) (ao (ao (ao aw)))) (XO.nF gC (hr.mono (by omega)) rfl (af (ag 1) (af (ag 2) ak)) (ao (ao aw)))))
   (fun j hj=>(x.j j hj).b.c) (x.j 0 (by decide)).b.r rfl x.r sc__law_found.nd (fun e=>ib (er (i:=5) sc__law_found.nd rfl (.inl rfl) (XO.BO Qbn (XO.CZ (hr.mono (by omega))) rfl (aU (pv 6) bx))))) (ib (DS.pe (aJ (jw (bD (dk (aI uV (ag 4) eY) (dS (bu (cU .tup B.b_isinstance (ag 4) B.b_tuple boot_tuple))))) (ag 5) aj)))))),?_⟩
  have rs:=XE.qB (N:=["_law_way","_law_tome","_law_name","_law_thing","_law_found_here","_law_kind_here","_law_e"]) hc rw' hn
  unfold ie XO.mkX at e
  rw [if_pos hn] at e
  match ws,hl with
  | [w0,w1,w2,w3],_=>
   have e:cz [some w0,some w1,some w2,some w3,some (.d .none),some (.d (.int 0)),none] T=some (c,T'):=e
   refine ⟨O,H,[],ts,O,_,T,.nx,[some w0,some w1,some w2,some w3,some (.d .none),none,none],T,rs,rfl,fun O1 σ1 H1 rs1=>?_⟩
   refine ⟨O,H,[],ts,O1,_,T,.nx,[some w0,some w1,some w2,some w3,some (.d .none),some (.d (.int 0)),none],T,rs1,rfl,fun O2 σ2 H2 rs2=>?_⟩
   refine ⟨O,H,[],ts,O2,_,T,c,T',rs2,e,fun H3 rs3=>⟨c,hc5,rfl,rfl,fun a ha=>?_⟩⟩
   have l6:6 < σ2.length:=by rw [rs2.len]; simp
   refine ⟨.ref a,List.getElem?_set_self l6,O2,ts,T',a,c,rs3.hc.new ha _,rfl,hc5,aR,fun v H5 s5 c5 r5=>?_⟩
   have rs5:=((rs3.step ((SameX.new ha _).trans s5) c5).unset (i:=6) (v:=.ref a)).set (i:=5) (v:=v) (w:=.d (.int ((c:Int) + 1))) r5 (fun _ z=>nomatch z)
   have rs6:=Ag (i:=6) rs5 rfl
   exact ⟨O,H,[],ts,O2,[some w0,some w1,some w2,some w3,some (.d .none),some (.d (.int ((c:Int) + 1))),none],T',.rt (.int ((c:Int) + 1)),_,T',rs6,rfl,fun v H' s1 c1 r1=>q v H' s1 c1 r1⟩
theorem vX {P:Program} {w:World} {K:Frag} {mg:Str→Option Value} {base:Heap} {f:Addr} {fd:FuncData} (B:Bi K mg) (F:Fun K "_law_found" "_law_found" (top 75) f fd) {cs ds:Nat→Addr} {R:Addr} (x:XC5 K mg cs ds R) (gO:XO.FnX P w K mg base "told_with" ["book","name","value"] 29 (XO.spF K 3 cs eW)) (gP:XO.FnX P w K mg base "made_with" ["book","name","recipe"] 33 (XO.spF K 3 cs eX)) (gC:XO.FnX P w K mg base "without" ["book","name"] 4 (XO.spF K 2 cs eP)) (Qbn:XO.FnH P w K mg base "_law_kind" ["_law_e"] 1 (XO.spK K cs)) (Qaq:Fn P w K mg base "told_with" ["book","name","value"] 29 (spO K 3 fN)) (Qar:Fn P w K mg base "made_with" ["book","name","recipe"] 33 (spO K 3 fO)) (Qbc:Fn P w K mg base "without" ["book","name"] 4 (spO K 2 fR)):FnOk P w K mg base CX0 34 f fd ["_law_way","_law_tome","_law_name","_law_thing"] (spM K 4 (dw)):=by
 refine AZ (yi B F x gO gP gC Qbn Qaq Qar Qbc) (dfn F sc__law_found fun cdv A outer s H E hr=>ax (aN (i:=4) sc__law_found.nd eY) (ax (aN (i:=5) sc__law_found.nd aj) (ax (zJ (ay (aQ (aI aW (ag 0) aj) (ay (aN (i:=4) sc__law_found.nd (lY Qaq (hr.mono (by omega)) rfl (af (ag 1) (af (ag 2) (af (ag 3) ak))) (ao (ao (ao aw)))))) (ay (aQ (aI aW (ag 0) aj) (ay (aN (i:=4) sc__law_found.nd (lY Qar (hr.mono (by omega)) rfl (af (ag 1) (af (ag 2) (af (ag 3) ak))) (ao (ao (ao aw)))))) (ay (aN (i:=4) sc__law_found.nd (lY Qbc (hr.mono (by omega)) rfl (af (ag 1) (af (ag 2) ak)) (ao (ao aw)))))))) ) fun _ _ z=>z) (ay (aJ (jw (bD (dk (aI uV (ag 4) eY) (dS (bu (cU .tup B.b_isinstance (ag 4) B.b_tuple boot_tuple))))) (ag 5) aj)))))) fun vs H Q E h=>?_
 obtain ⟨O,ts,T,ws,y,T',hc,rw',hl,e,q⟩:=h
 unfold dw at e
 split at e
 ·rename_i c T2 e1
  split at e
  ·rename_i h5
   cases e
   have hn:bQ ws=true:=by
    unfold ie XO.mkX at e1
    split at e1
    ·assumption
    ·cases e1
   exact .inl ⟨O,ts,T,ws,c,_,hc,rw',hl,hn,e1,h5,q⟩
  ·cases e
 ·exact .inr ⟨O,ts,T,ws,y,T',hc,rw',hl,e,q⟩
theorem bL {α:Type} {us:List α} (h:us.length=1):∃ a,us=[a]:=List.length_eq_one_iff.mp h
theorem cK {α:Type}:∀ {us:List α},us.length=2→∃ a b,us=[a,b]
 | [a,b],_=>⟨a,b,rfl⟩
theorem gY {α:Type}:∀ {us:List α},us.length=3→∃ a b c,us=[a,b,c]
 | [a,b,c],_=>⟨a,b,c,rfl⟩
theorem lH {α:Type}:∀ {us:List α},us.length=4→∃ a b c d,us=[a,b,c,d]
 | [a,b,c,d],_=>⟨a,b,c,d,rfl⟩
theorem uX {α:Type}:∀ {us:List α},us.length=6→∃ a b c d e f,us=[a,b,c,d,e,f]
 | [a,b,c,d,e,f],_=>⟨a,b,c,d,e,f,rfl⟩
theorem all_mk {l:PySem.W.OpenLaw} {w:World} {K:Frag} {h:Heap} {mg:Str→Option Value} {fa:Addr} (X:K.In h) (G:h.Ns mainGlobals mg) (hfa:mg "law" = some (.ref fa)) {xc0 xc1 xc2 xc3 xc4 xd0 xd1 xd2 xd3 xd4 xd5 xd6 xd7 xd8 xR:Addr} (q_NoName:PySem.W.nsIn K mainGlobals "NoName" = some (some (.ref xc0))) (q_NoValue:PySem.W.nsIn K mainGlobals "NoValue" = some (some (.ref xc1))) (q_NoRecipe:PySem.W.nsIn K mainGlobals "NoRecipe" = some (some (.ref xc2))) (q_TooMany:PySem.W.nsIn K mainGlobals "TooMany" = some (some (.ref xc3))) (q_NoThing:PySem.W.nsIn K mainGlobals "NoThing" = some (some (.ref xc4))) (q_BadLine:PySem.W.nsIn K mainGlobals "BadLine" = some (some (.ref xd0))) (q_BadPaper:PySem.W.nsIn K mainGlobals "BadPaper" = some (some (.ref xd1))) (q_BadWord:PySem.W.nsIn K mainGlobals "BadWord" = some (some (.ref xd2))) (q_Dishonest:PySem.W.nsIn K mainGlobals "Dishonest" = some (some (.ref xd3))) (q_NoLine:PySem.W.nsIn K mainGlobals "NoLine" = some (some (.ref xd4))) (q_NoPaper:PySem.W.nsIn K mainGlobals "NoPaper" = some (some (.ref xd5))) (q_NoRow:PySem.W.nsIn K mainGlobals "NoRow" = some (some (.ref xd6))) (q_NotMade:PySem.W.nsIn K mainGlobals "NotMade" = some (some (.ref xd7))) (q_NotReady:PySem.W.nsIn K mainGlobals "NotReady" = some (some (.ref xd8))) (q_RedoError:PySem.W.nsIn K mainGlobals "RedoError" = some (some (.ref xR))) (xj0:XO.XJ K xc0 xR) (xj1:XO.XJ K xc1 xR) (xj2:XO.XJ K xc2 xR) (xj3:XO.XJ K xc3 xR) (xj4:XO.XJ K xc4 xR) (xn01:XO.KN K xc0 xc1) (xn02:XO.KN K xc0 xc2) (xn03:XO.KN K xc0 xc3) (xn04:XO.KN K xc0 xc4) (xn10:XO.KN K xc1 xc0) (xn12:XO.KN K xc1 xc2) (xn13:XO.KN K xc1 xc3) (xn14:XO.KN K xc1 xc4) (xn20:XO.KN K xc2 xc0) (xn21:XO.KN K xc2 xc1) (xn23:XO.KN K xc2 xc3) (xn24:XO.KN K xc2 xc4) (xn30:XO.KN K xc3 xc0) (xn31:XO.KN K xc3 xc1) (xn32:XO.KN K xc3 xc2) (xn34:XO.KN K xc3 xc4) (xn40:XO.KN K xc4 xc0) (xn41:XO.KN K xc4 xc1) (xn42:XO.KN K xc4 xc2) (xn43:XO.KN K xc4 xc3) (xm00:XO.KN K xc0 xd0) (xm01:XO.KN K xc0 xd1) (xm02:XO.KN K xc0 xd2) (xm03:XO.KN K xc0 xd3) (xm04:XO.KN K xc0 xd4) (xm05:XO.KN K xc0 xd5) (xm06:XO.KN K xc0 xd6) (xm07:XO.KN K xc0 xd7) (xm08:XO.KN K xc0 xd8) (xm10:XO.KN K xc1 xd0) (xm11:XO.KN K xc1 xd1) (xm12:XO.KN K xc1 xd2) (xm13:XO.KN K xc1 xd3) (xm14:XO.KN K xc1 xd4) (xm15:XO.KN K xc1 xd5) (xm16:XO.KN K xc1 xd6) (xm17:XO.KN K xc1 xd7) (xm18:XO.KN K xc1 xd8) (xm20:XO.KN K xc2 xd0) (xm21:XO.KN K xc2 xd1) (xm22:XO.KN K xc2 xd2) (xm23:XO.KN K xc2 xd3) (xm24:XO.KN K xc2 xd4) (xm25:XO.KN K xc2 xd5) (xm26:XO.KN K xc2 xd6) (xm27:XO.KN K xc2 xd7) (xm28:XO.KN K xc2 xd8) (xm30:XO.KN K xc3 xd0) (xm31:XO.KN K xc3 xd1) (xm32:XO.KN K xc3 xd2) (xm33:XO.KN K xc3 xd3) (xm34:XO.KN K xc3 xd4) (xm35:XO.KN K xc3 xd5) (xm36:XO.KN K xc3 xd6) (xm37:XO.KN K xc3 xd7) (xm38:XO.KN K xc3 xd8) (xm40:XO.KN K xc4 xd0) (xm41:XO.KN K xc4 xd1) (xm42:XO.KN K xc4 xd2) (xm43:XO.KN K xc4 xd3) (xm44:XO.KN K xc4 xd4) (xm45:XO.KN K xc4 xd5) (xm46:XO.KN K xc4 xd6) (xm47:XO.KN K xc4 xd7) (xm48:XO.KN K xc4 xd8) (Qbp:Df K "_law_kind" (top 74)) (d_is_whole:Df K "is_whole" (top 8)) (d_has_only:Df K "has_only" (top 9)) (d_is_name:Df K "is_name" (top 10)) (d_is_single:Df K "is_single" (top 11)) (d_is_built:Df K "is_built" (top 12)) (d_many_of:Df K "many_of" (top 14)) (d_is_value:Df K "is_value" (top 13)) (d_is_filled:Df K "is_filled" (top 19)) (d_is_shaped:Df K "is_shaped" (top 18)) (d_exprs_within:Df K "exprs_within" (top 20)) (d_got_behind:Df K "got_behind" (top 32)) (d_places_within:Df K "places_within" (top 31)) (d_layer_within:Df K "layer_within" (top 30)) (d_is_recipe_shaped:Df K "is_recipe_shaped" (top 29)) (d_is_fitting:Df K "is_fitting" (top 28)) (d_is_recipe:Df K "is_recipe" (top 27)) (d_names_of:Df K "names_of" (top 35)) (d_sort_at:Df K "sort_at" (top 36)) (d_refuse_no_name:Df K "refuse_no_name" (top 57)) (d_rest_of:Df K "rest_of" (top 59)) (d_room_for:Df K "room_for" (top 58)) (d_told_with:Df K "told_with" (top 54)) (d_made_with:Df K "made_with" (top 55)) (d_without:Df K "without" (top 56)) (d__law_feed:Df K "_law_feed" (top 61)) (d__law_next:Df K "_law_next" (top 62)) (d__law_names:Df K "_law_names" (top 63)) (d__law_value:Df K "_law_value" (top 64)) (d__law_is_name:Df K "_law_is_name" (top 65)) (d__law_expr:Df K "_law_expr" (top 66)) (d__law_wanted:Df K "_law_wanted" (top 67)) (d__law_recipe:Df K "_law_recipe" (top 68)) (d__law_any_recipe:Df K "_law_any_recipe" (top 69)) (d__law_book:Df K "_law_book" (top 70)) (d__law_no_name:Df K "_law_no_name" (top 71)) (d__law_no_value:Df K "_law_no_value" (top 72)) (d__law_no_recipe:Df K "_law_no_recipe" (top 73)) (d__law_found:Df K "_law_found" (top 75)) (d__law_full:Df K "_law_full" (top 76)) (d_law:Df K "law" (top 77)) (z_ValueError:PySem.W.nsIn K mainGlobals "ValueError" = some none) (Qbw:PySem.W.nsIn K mainGlobals "abs" = some none) (Qbx:PySem.W.nsIn K mainGlobals "all" = some none) (Qbt:PySem.W.nsIn K mainGlobals "bool" = some none) (Qbu:PySem.W.nsIn K mainGlobals "dict" = some none) (Qby:PySem.W.nsIn K mainGlobals "int" = some none) (Qbo:PySem.W.nsIn K mainGlobals "isinstance" = some none) (Qbz:PySem.W.nsIn K mainGlobals "len" = some none) (Qbv:PySem.W.nsIn K mainGlobals "list" = some none) (Qbr:PySem.W.nsIn K mainGlobals "range" = some none) (Qbq:PySem.W.nsIn K mainGlobals "sorted" = some none) (Qca:PySem.W.nsIn K mainGlobals "str" = some none) (Qcb:PySem.W.nsIn K mainGlobals "sum" = some none) (Qbs:PySem.W.nsIn K mainGlobals "tuple" = some none) {t_LETTERS:Tok} (y_LETTERS:PySem.W.nsIn K mainGlobals "LETTERS" = some (some (.str "abcdefghijklmnopqrstuvwxyz" t_LETTERS))) {t_MOST_DEEP:Tok} (y_MOST_DEEP:PySem.W.nsIn K mainGlobals "MOST_DEEP" = some (some (.int 20 t_MOST_DEEP))) {t_MOST_IN_ROW:Tok} (y_MOST_IN_ROW:PySem.W.nsIn K mainGlobals "MOST_IN_ROW" = some (some (.int 8 t_MOST_IN_ROW))) {t_MOST_LETTERS:Tok} (y_MOST_LETTERS:PySem.W.nsIn K mainGlobals "MOST_LETTERS" = some (some (.int 8 t_MOST_LETTERS))) {t_MOST_NAMES:Tok} (y_MOST_NAMES:PySem.W.nsIn K mainGlobals "MOST_NAMES" = some (some (.int 40 t_MOST_NAMES))) {t_MOST_PARTS:Tok} (y_MOST_PARTS:PySem.W.nsIn K mainGlobals "MOST_PARTS" = some (some (.int 8 t_MOST_PARTS))) {t_MOST_PARTS_IN_ALL:Tok} (y_MOST_PARTS_IN_ALL:PySem.W.nsIn K mainGlobals "MOST_PARTS_IN_ALL" = some (some (.int 60 t_MOST_PARTS_IN_ALL))) {t_MOST_ROWS:Tok} (y_MOST_ROWS:PySem.W.nsIn K mainGlobals "MOST_ROWS" = some (some (.int 4 t_MOST_ROWS))) {t_MOST_SIGNS:Tok} (y_MOST_SIGNS:PySem.W.nsIn K mainGlobals "MOST_SIGNS" = some (some (.int 20 t_MOST_SIGNS))) {t_MOST_VALUES:Tok} (y_MOST_VALUES:PySem.W.nsIn K mainGlobals "MOST_VALUES" = some (some (.int 40 t_MOST_VALUES))) {t_MOST_WANTS:Tok} (y_MOST_WANTS:PySem.W.nsIn K mainGlobals "MOST_WANTS" = some (some (.int 12 t_MOST_WANTS))) {t_TEXT_SIGNS:Tok} (y_TEXT_SIGNS:PySem.W.nsIn K mainGlobals "TEXT_SIGNS" = some (some (.str "abcdefghijklmnopqrstuvwxyz0123456789-" t_TEXT_SIGNS))) {a_RECIPES_WITHIN:Addr} {o_RECIPES_WITHIN:Obj} (u_RECIPES_WITHIN:PySem.W.nsIn K mainGlobals "RECIPES_WITHIN" = some (some (.ref a_RECIPES_WITHIN))) (l_RECIPES_WITHIN:K.lookup a_RECIPES_WITHIN=some o_RECIPES_WITHIN) (v_RECIPES_WITHIN:lz a_RECIPES_WITHIN o_RECIPES_WITHIN [("say",0),("fail",0),("want",1),("peek",1),("when",2)]=true) {a_WITHIN:Addr} {o_WITHIN:Obj} (u_WITHIN:PySem.W.nsIn K mainGlobals "WITHIN" = some (some (.ref a_WITHIN))) (l_WITHIN:K.lookup a_WITHIN=some o_WITHIN) (v_WITHIN:lz a_WITHIN o_WITHIN [("many",1),("part",2),("sum",2),("join",2),("same",2),("less",2)]=true) {a_GETTING:Addr} {o_GETTING:Obj} (u_GETTING:PySem.W.nsIn K mainGlobals "GETTING" = some (some (.ref a_GETTING))) (l_GETTING:K.lookup a_GETTING=some o_GETTING) (v_GETTING:oi o_GETTING ["want","peek"]=true)
  (hm:∀ ns:List Int,ns.length≤63→∃ T',k7 [.d (kr ns)] []=some (.bool true,T')) :
  ∃ fd:FuncData,(∀ (s:Shared) (v:Value),BindsTo s fd ⟨[v],[]⟩ [("_law_script",v)])∧∀ base:Heap,K.In base→base.Ns mainGlobals mg→FnOk l.prog w K mg base CX0 56 fa fd ["_law_script"] (kW K):=by
 have B:Bi K mg:=⟨PySem.W.mg_none_of X G z_ValueError,PySem.W.mg_none_of X G Qbw,PySem.W.mg_none_of X G Qbx,PySem.W.mg_none_of X G Qbt,PySem.W.mg_none_of X G Qbu,PySem.W.mg_none_of X G Qby,PySem.W.mg_none_of X G Qbo,PySem.W.mg_none_of X G Qbz,PySem.W.mg_none_of X G Qbv,PySem.W.mg_none_of X G Qbr,PySem.W.mg_none_of X G Qbq,PySem.W.mg_none_of X G Qca,PySem.W.mg_none_of X G Qcb,PySem.W.mg_none_of X G Qbs,⟨_,PySem.W.mg_of X G u_RECIPES_WITHIN,pI l_RECIPES_WITHIN v_RECIPES_WITHIN⟩,⟨_,PySem.W.mg_of X G u_WITHIN,pI l_WITHIN v_WITHIN⟩,⟨_,PySem.W.mg_of X G u_GETTING,xY l_GETTING v_GETTING⟩,⟨_,PySem.W.mg_of X G y_LETTERS⟩,⟨_,PySem.W.mg_of X G y_MOST_DEEP⟩,⟨_,PySem.W.mg_of X G y_MOST_IN_ROW⟩,⟨_,PySem.W.mg_of X G y_MOST_LETTERS⟩,⟨_,PySem.W.mg_of X G y_MOST_NAMES⟩,⟨_,PySem.W.mg_of X G y_MOST_PARTS⟩,⟨_,PySem.W.mg_of X G y_MOST_PARTS_IN_ALL⟩,⟨_,PySem.W.mg_of X G y_MOST_ROWS⟩,⟨_,PySem.W.mg_of X G y_MOST_SIGNS⟩,⟨_,PySem.W.mg_of X G y_MOST_VALUES⟩,⟨_,PySem.W.mg_of X G y_MOST_WANTS⟩,⟨_,PySem.W.mg_of X G y_TEXT_SIGNS⟩,⟨fun i=>[xc0,xc1,xc2,xc3,xc4].getD i 0,fun i=>[xd0,xd1,xd2,xd3,xd4,xd5,xd6,xd7,xd8].getD i 0,xR,⟨fun i hi=>match i,hi with | 0,_=>xj0 | 1,_=>xj1 | 2,_=>xj2 | 3,_=>xj3 | 4,_=>xj4,fun i hi k hk ne=>match i,hi,k,hk with | 0,_,0,_=>absurd rfl ne | 0,_,1,_=>xn01 | 0,_,2,_=>xn02 | 0,_,3,_=>xn03 | 0,_,4,_=>xn04 | 1,_,0,_=>xn10 | 1,_,1,_=>absurd rfl ne | 1,_,2,_=>xn12 | 1,_,3,_=>xn13 | 1,_,4,_=>xn14 | 2,_,0,_=>xn20 | 2,_,1,_=>xn21 | 2,_,2,_=>absurd rfl ne | 2,_,3,_=>xn23 | 2,_,4,_=>xn24 | 3,_,0,_=>xn30 | 3,_,1,_=>xn31 | 3,_,2,_=>xn32 | 3,_,3,_=>absurd rfl ne | 3,_,4,_=>xn34 | 4,_,0,_=>xn40 | 4,_,1,_=>xn41 | 4,_,2,_=>xn42 | 4,_,3,_=>xn43 | 4,_,4,_=>absurd rfl ne,fun i hi k hk=>match i,hi,k,hk with | 0,_,0,_=>xm00 | 0,_,1,_=>xm01 | 0,_,2,_=>xm02 | 0,_,3,_=>xm03 | 0,_,4,_=>xm04 | 0,_,5,_=>xm05 | 0,_,6,_=>xm06 | 0,_,7,_=>xm07 | 0,_,8,_=>xm08 | 1,_,0,_=>xm10 | 1,_,1,_=>xm11 | 1,_,2,_=>xm12 | 1,_,3,_=>xm13 | 1,_,4,_=>xm14 | 1,_,5,_=>xm15 | 1,_,6,_=>xm16 | 1,_,7,_=>xm17 | 1,_,8,_=>xm18 | 2,_,0,_=>xm20 | 2,_,1,_=>xm21 | 2,_,2,_=>xm22 | 2,_,3,_=>xm23 | 2,_,4,_=>xm24 | 2,_,5,_=>xm25 | 2,_,6,_=>xm26 | 2,_,7,_=>xm27 | 2,_,8,_=>xm28 | 3,_,0,_=>xm30 | 3,_,1,_=>xm31 | 3,_,2,_=>xm32 | 3,_,3,_=>xm33 | 3,_,4,_=>xm34 | 3,_,5,_=>xm35 | 3,_,6,_=>xm36 | 3,_,7,_=>xm37 | 3,_,8,_=>xm38 | 4,_,0,_=>xm40 | 4,_,1,_=>xm41 | 4,_,2,_=>xm42 | 4,_,3,_=>xm43 | 4,_,4,_=>xm44 | 4,_,5,_=>xm45 | 4,_,6,_=>xm46 | 4,_,7,_=>xm47 | 4,_,8,_=>xm48,PySem.W.mg_of X G q_RedoError,PySem.W.mg_of X G q_NoName,PySem.W.mg_of X G q_NoValue,PySem.W.mg_of X G q_NoRecipe,PySem.W.mg_of X G q_TooMany,PySem.W.mg_of X G q_NoThing,PySem.W.mg_of X G q_BadLine,PySem.W.mg_of X G q_BadPaper,PySem.W.mg_of X G q_BadWord,PySem.W.mg_of X G q_Dishonest,PySem.W.mg_of X G q_NoLine,PySem.W.mg_of X G q_NoPaper,PySem.W.mg_of X G q_NoRow,PySem.W.mg_of X G q_NotMade,PySem.W.mg_of X G q_NotReady⟩⟩⟩
 obtain ⟨f0,oc,od,an,sl,kV,dc,pm,cd,ct,a,lk,c,kp⟩:=d_law.ex
 have e:=hfa.symm.trans (PySem.W.mg_of X G a)
 cases e
 have FL:=kO (st:=top 77) lk c kp
 refine ⟨PySem.W.fnOf "law" "law" (dC (top 77)) (bV (top 77)) (aE (top 77)) .none kV dc pm an cd ct,fun s v=>.of_eq rfl,fun base _ _=>?_⟩
 have Qan:Fn l.prog w K mg base "is_whole" ["thing"] 1 (spM K 1 gA):=d_is_whole.fn X G (fun _ _ _ _ _ _ _ h=>by obtain ⟨_,rfl⟩:=bL h; rfl) fun f fd F=>wM B F
 have Qam:Fn l.prog w K mg base "has_only" ["text","signs"] 1 (spM K 2 dY):=d_has_only.fn X G (fun _ _ _ _ _ _ _ h=>by obtain ⟨_,_,rfl⟩:=cK h; rfl) fun f fd F=>wQ B F
 have Qaj:Fn l.prog w K mg base "is_name" ["thing"] 2 (spM K 1 cR):=d_is_name.fn X G (fun _ _ _ _ _ _ _ h=>by obtain ⟨_,rfl⟩:=bL h; rfl) fun f fd F=>xy B F Qam
 have Qbi:Fn l.prog w K mg base "is_single" ["thing"] 2 (spM K 1 gw):=d_is_single.fn X G (fun _ _ _ _ _ _ _ h=>by obtain ⟨_,rfl⟩:=bL h; rfl) fun f fd F=>we B F Qan Qam
 have R_is_built:∀ n:Nat,Fn l.prog w K mg base "is_built" ["thing","rows_left"] (2 + n) (spM K 2 (cZ n)):=by
  intro n
  induction n with
  | zero=>exact d_is_built.fn X G (fun _ _ _ _ _ _ _ h=>by obtain ⟨_,_,rfl⟩:=cK h; rfl) fun f fd F=>kg
  | succ n ih=>exact d_is_built.fn X G (fun _ _ _ _ _ _ _ h=>by obtain ⟨_,_,rfl⟩:=cK h; rfl) fun f fd F=>wO n B F Qbi ih
 have Qau:=R_is_built 25
 have R_many_of:∀ n:Nat,Fn l.prog w K mg base "many_of" ["value"] (0 + n) (spM K 1 (dZ n)):=by
  intro n
  induction n with
  | zero=>exact d_many_of.fn X G (fun _ _ _ _ _ _ _ h=>by obtain ⟨_,rfl⟩:=bL h; rfl) fun f fd F=>kg
  | succ n ih=>exact d_many_of.fn X G (fun _ _ _ _ _ _ _ h=>by obtain ⟨_,rfl⟩:=bL h; rfl) fun f fd F=>xx n B F ih
 have Qbb:=R_many_of 25
 have Qag:Fn l.prog w K mg base "is_value" ["thing"] 28 (spM K 1 dB):=d_is_value.fn X G (fun _ _ _ _ _ _ _ h=>by obtain ⟨_,rfl⟩:=bL h; rfl) fun f fd F=>wN B F Qau Qbb
 have Qbj:Fn l.prog w K mg base "is_filled" ["word","thing","many"] 29 (spM K 3 dA):=d_is_filled.fn X G (fun _ _ _ _ _ _ _ h=>by obtain ⟨_,_,_,rfl⟩:=gY h; rfl) fun f fd F=>wm B F Qag Qan
 have Qbk:Fn l.prog w K mg base "is_shaped" ["thing","many"] 30 (spM K 2 dz):=d_is_shaped.fn X G (fun _ _ _ _ _ _ _ h=>by obtain ⟨_,_,rfl⟩:=cK h; rfl) fun f fd F=>wg B F Qbj
 have Qax:Fn l.prog w K mg base "exprs_within" ["expr"] 1 (spM K 1 eN):=d_exprs_within.fn X G (fun _ _ _ _ _ _ _ h=>by obtain ⟨_,rfl⟩:=bL h; rfl) fun f fd F=>vG B F
 have Qbe:Fn l.prog w K mg base "got_behind" ["word","got"] 1 (spM K 2 gv):=d_got_behind.fn X G (fun _ _ _ _ _ _ _ h=>by obtain ⟨_,_,rfl⟩:=cK h; rfl) fun f fd F=>vU B F
 have Qav:Fn l.prog w K mg base "places_within" ["place"] 2 (spM K 1 eM):=d_places_within.fn X G (fun _ _ _ _ _ _ _ h=>by obtain ⟨_,rfl⟩:=bL h; rfl) fun f fd F=>vz B F Qax Qbe
 have Qay:Fn l.prog w K mg base "layer_within" ["layer"] 3 (spM K 1 gs):=d_layer_within.fn X G (fun _ _ _ _ _ _ _ h=>by obtain ⟨_,rfl⟩:=bL h; rfl) fun f fd F=>vF B F Qav
 have Qal:Fn l.prog w K mg base "is_recipe_shaped" ["thing"] 3 (spM K 1 cY):=d_is_recipe_shaped.fn X G (fun _ _ _ _ _ _ _ h=>by obtain ⟨_,rfl⟩:=bL h; rfl) fun f fd F=>vm B F Qaj
 have Qbf:Fn l.prog w K mg base "is_fitting" ["place"] 31 (spM K 1 dX):=d_is_fitting.fn X G (fun _ _ _ _ _ _ _ h=>by obtain ⟨_,rfl⟩:=bL h; rfl) fun f fd F=>vT B F Qbk Qal
 have Qak:Fn l.prog w K mg base "is_recipe" ["thing"] 32 (spM K 1 dM):=d_is_recipe.fn X G (fun _ _ _ _ _ _ _ h=>by obtain ⟨_,rfl⟩:=bL h; rfl) fun f fd F=>wj B F Qbf Qay
 have Qao:Fn l.prog w K mg base "names_of" ["book"] 1 (spM K 1 eO):=d_names_of.fn X G (fun _ _ _ _ _ _ _ h=>by obtain ⟨_,rfl⟩:=bL h; rfl) fun f fd F=>wL B F
 have Qaf:Fn l.prog w K mg base "sort_at" ["book","name"] 1 (spM K 2 cy):=d_sort_at.fn X G (fun _ _ _ _ _ _ _ h=>by obtain ⟨_,_,rfl⟩:=cK h; rfl) fun f fd F=>xq B F
 have Qab:Fn l.prog w K mg base "refuse_no_name" ["thing"] 3 (spM K 1 cx):=d_refuse_no_name.fn X G (fun _ _ _ _ _ _ _ h=>by obtain ⟨_,rfl⟩:=bL h; rfl) fun f fd F=>vq B F Qaj
 have Qat:Fn l.prog w K mg base "rest_of" ["book","name"] 1 (spO K 2 eQ):=d_rest_of.fn X G (fun _ _ _ _ _ _ _ h=>by obtain ⟨_,_,rfl⟩:=cK h; rfl) fun f fd F=>xu B F
 have Qap:Fn l.prog w K mg base "room_for" ["book","name"] 2 (spO K 2 gz):=d_room_for.fn X G (fun _ _ _ _ _ _ _ h=>by obtain ⟨_,_,rfl⟩:=cK h; rfl) fun f fd F=>wK B F Qaf Qao Qat
 have Qaq:Fn l.prog w K mg base "told_with" ["book","name","value"] 29 (spO K 3 fN):=d_told_with.fn X G (fun _ _ _ _ _ _ _ h=>by obtain ⟨_,_,_,rfl⟩:=gY h; rfl) fun f fd F=>wb B F Qab Qag Qap
 have Qar:Fn l.prog w K mg base "made_with" ["book","name","recipe"] 33 (spO K 3 fO):=d_made_with.fn X G (fun _ _ _ _ _ _ _ h=>by obtain ⟨_,_,_,rfl⟩:=gY h; rfl) fun f fd F=>wc B F Qab Qak Qap
 have Qbc:Fn l.prog w K mg base "without" ["book","name"] 4 (spO K 2 fR):=d_without.fn X G (fun _ _ _ _ _ _ _ h=>by obtain ⟨_,_,rfl⟩:=cK h; rfl) fun f fd F=>xp B F Qab Qaf Qat
 have Qah:Fn l.prog w K mg base "_law_feed" ["_law_script","_law_k"] 1 (spO K 2 bI):=d__law_feed.fn X G (fun _ _ _ _ _ _ _ h=>by obtain ⟨_,_,rfl⟩:=cK h; rfl) fun f fd F=>wu B F
 have Qaa:Fn l.prog w K mg base "_law_next" ["_law_feed_here","_law_many"] 1 (spM K 2 aB):=d__law_next.fn X G (fun _ _ _ _ _ _ _ h=>by obtain ⟨_,_,rfl⟩:=cK h; rfl) fun f fd F=>wq B F
 have Qbg:Fn l.prog w K mg base "_law_names" ["_law_feed_here","_law_many"] 2 (spM K 2 fM):=d__law_names.fn X G (fun _ _ _ _ _ _ _ h=>by obtain ⟨_,_,rfl⟩:=cK h; rfl) fun f fd F=>vW B F Qaa
 have Qad:Fn l.prog w K mg base "_law_value" ["_law_feed_here","_law_names_here"] 2 (spM K 2 cP):=d__law_value.fn X G (fun _ _ _ _ _ _ _ h=>by obtain ⟨_,_,rfl⟩:=cK h; rfl) fun f fd F=>vV B F Qaa
 have Qba:Fn l.prog w K mg base "_law_is_name" ["_law_thing"] 1 (spM K 1 dJ):=d__law_is_name.fn X G (fun _ _ _ _ _ _ _ h=>by obtain ⟨_,rfl⟩:=bL h; rfl) fun f fd F=>vI B F
 have R__law_expr:∀ n:Nat,Fn l.prog w K mg base "_law_expr" ["_law_feed_here","_law_got","_law_names_here","_law_deep"] (2 + n) (spM K 4 (bO n)):=by
  intro n
  induction n with
  | zero=>exact d__law_expr.fn X G (fun _ _ _ _ _ _ _ h=>by obtain ⟨_,_,_,_,rfl⟩:=lH h; rfl) fun f fd F=>kg
  | succ n ih=>exact d__law_expr.fn X G (fun _ _ _ _ _ _ _ h=>by obtain ⟨_,_,_,_,rfl⟩:=lH h; rfl) fun f fd F=>wx n B F Qaa Qad ih
 have Qac:=R__law_expr 25
 have Qbd:Fn l.prog w K mg base "_law_wanted" ["_law_feed_here","_law_got","_law_names_here"] 28 (spM K 3 fL):=d__law_wanted.fn X G (fun _ _ _ _ _ _ _ h=>by obtain ⟨_,_,_,rfl⟩:=gY h; rfl) fun f fd F=>vM B F Qaa Qac
 have R__law_recipe:∀ n:Nat,Fn l.prog w K mg base "_law_recipe" ["_law_feed_here","_law_got","_law_names_here","_law_wants","_law_whens","_law_peeks"] (28 + n) (spM K 6 (bS n)):=by
  intro n
  induction n with
  | zero=>exact d__law_recipe.fn X G (fun _ _ _ _ _ _ _ h=>by obtain ⟨_,_,_,_,_,_,rfl⟩:=uX h; rfl) fun f fd F=>kg
  | succ n ih=>exact d__law_recipe.fn X G (fun _ _ _ _ _ _ _ h=>by obtain ⟨_,_,_,_,_,_,rfl⟩:=uX h; rfl) fun f fd F=>vN n B F Qaa Qbd ih Qac
 have Qai:=R__law_recipe 25
 have Qae:Fn l.prog w K mg base "_law_any_recipe" ["_law_feed_here","_law_names_here","_law_peeks"] 54 (spM K 3 cw):=d__law_any_recipe.fn X G (fun _ _ _ _ _ _ _ h=>by obtain ⟨_,_,_,rfl⟩:=gY h; rfl) fun f fd F=>vp B F Qaa Qai
 have Qbl:Fn l.prog w K mg base "_law_book" ["_law_script","_law_base","_law_names_here","_law_peeks"] 55 (spM K 4 gy):=d__law_book.fn X G (fun _ _ _ _ _ _ _ h=>by obtain ⟨_,_,_,_,rfl⟩:=lH h; rfl) fun f fd F=>wy B F Qaa Qad Qae Qah
 have Qaz:Fn l.prog w K mg base "_law_no_name" ["_law_k"] 1 (spM K 1 gu):=d__law_no_name.fn X G (fun _ _ _ _ _ _ _ h=>by obtain ⟨_,rfl⟩:=bL h; rfl) fun f fd F=>vH B F
 have Qaw:Fn l.prog w K mg base "_law_no_value" ["_law_k"] 1 (spM K 1 gr):=d__law_no_value.fn X G (fun _ _ _ _ _ _ _ h=>by obtain ⟨_,rfl⟩:=bL h; rfl) fun f fd F=>vA B F
 have Qas:Fn l.prog w K mg base "_law_no_recipe" ["_law_k"] 1 (spM K 1 gq):=d__law_no_recipe.fn X G (fun _ _ _ _ _ _ _ h=>by obtain ⟨_,rfl⟩:=bL h; rfl) fun f fd F=>vv B F
 obtain ⟨cs,ds,R,xc⟩:=B.xc
 have cI:XO.FnX l.prog w K mg base "refuse_no_name" ["thing"] 3 (XO.spF K 1 cs c7):=XO.fnX d_refuse_no_name X G (fun _ _ _ _ _ _ _ h=>by obtain ⟨_,rfl⟩:=bL h; rfl) fun f fd F=>xo xc F Qaj
 have eZ:XO.FnX l.prog w K mg base "room_for" ["book","name"] 2 (XO.spF K 2 cs gG):=XO.fnX d_room_for X G (fun _ _ _ _ _ _ _ h=>by obtain ⟨_,_,rfl⟩:=cK h; rfl) fun f fd F=>zk B xc F Qaf Qao
 have gO:XO.FnX l.prog w K mg base "told_with" ["book","name","value"] 29 (XO.spF K 3 cs eW):=XO.fnX d_told_with X G (fun _ _ _ _ _ _ _ h=>by obtain ⟨_,_,_,rfl⟩:=gY h; rfl) fun f fd F=>zj B xc F Qab Qag cI eZ
 have gP:XO.FnX l.prog w K mg base "made_with" ["book","name","recipe"] 33 (XO.spF K 3 cs eX):=XO.fnX d_made_with X G (fun _ _ _ _ _ _ _ h=>by obtain ⟨_,_,_,rfl⟩:=gY h; rfl) fun f fd F=>zl B xc F Qab Qak cI eZ
 have gC:XO.FnX l.prog w K mg base "without" ["book","name"] 4 (XO.spF K 2 cs eP):=XO.fnX d_without X G (fun _ _ _ _ _ _ _ h=>by obtain ⟨_,_,rfl⟩:=cK h; rfl) fun f fd F=>wJ xc F Qab Qaf cI
 have Qbn:XO.FnH l.prog w K mg base "_law_kind" ["_law_e"] 1 (XO.spK K cs):=XO.fnH Qbp X G (fun _ _ _ _ _ _ _ h=>by obtain ⟨_,rfl⟩:=bL h; rfl) fun f fd F=>zm B xc F
 have Qbh:Fn l.prog w K mg base "_law_found" ["_law_way","_law_tome","_law_name","_law_thing"] 34 (spM K 4 dw):=d__law_found.fn X G (fun _ _ _ _ _ _ _ h=>by obtain ⟨_,_,_,_,rfl⟩:=lH h; rfl) fun f fd F=>vX B F xc gO gP gC Qbn Qaq Qar Qbc
 have Qbm:Fn l.prog w K mg base "_law_full" ["_law_many"] 1 (spM K 1 gx):=d__law_full.fn X G (fun _ _ _ _ _ _ _ h=>by obtain ⟨_,rfl⟩:=bL h; rfl) fun f fd F=>wt B F
 exact zF (BY B FL Qaa Qah Qbg Qbl Qaz Qae Qad Qaw Qas Qba Qbh Qbm) (yq hm)
theorem walk {l:PySem.W.OpenLaw} {q:Program} {loose:List Str} {XP:(Str→Option Value)→Heap→Prop} {YP:World→Heap→Prop} {d:DefRec} {K:Params→Frag} (hn:l.most=some 63) (hdf:d.params.defaults=[])
  (hY:∀ (w:World) (h:Heap),YP w h→(K w.params).In h)
  (F:∀ (w:World) (mg:Str→Option Value) (fa:Addr) (h:Heap),(K w.params).In h→h.Ns mainGlobals mg→mg d.name=some (.ref fa) →
   ∃ fd:FuncData,(∀ (s:Shared) (u:Value),BindsTo s fd ⟨[u],[]⟩ [("_law_script",u)])∧∀ base:Heap,(K w.params).In base→base.Ns mainGlobals mg→FnOk l.prog w (K w.params) mg base CX0 56 fa fd ["_law_script"] (kW (K w.params))) :
  PySem.W.WalkO q loose XP YP l.row.toRowW d [] (fun f vs=>PySem.call f vs):=L2.z8 (n:=63) (k:=56) (x:="_law_script") (CX:=fun _=>CX0) (sp:=fun w=>kW (K w.params)) hn (by decide) hdf ⟨rfl,by decide,by decide,rfl⟩ hY F (fun _ _ a ns hl _ hS=>⟨a,ns,rfl,hS,hl,fun _=>rfl⟩) fun _ _ _ _ _ z=>z
open PySem PySem.Spec PySem.Calls PySem.W PyProof.Rows PySem.W.X PySem.W.ZRun
theorem walkZ {q:Program} {loose:List Str} {XP:(Str→Option Value)→Heap→Prop} {K:Params→Frag} {r:RowW} {d:DefRec} {kwd:List (Str×Expr)}
  {w:World} {s₀ s₁:Shared} {mg mb:Str→Option Value} {a:Addr} {o:Obj} {pm cd doc dV kV:Value} {args:List WData} {vals:List Value} {as:List Addr}
  (KX:(K w.params).In s₁.heap) (GR:Ground q loose r.records XP w s₀ mg mb s₁.heap) (ho:s₁.heap.get? a=some o)
  (hd:o.data=.func { docDef d.name d.params d.body d.scope pm cd doc with defaults:=dV,kwdefaults:=kV }) (hcd:s₁.heap.CodeRec cd d.name) (hD:Dflts mg s₁.heap d.params kwd dV kV) (hmg:mg d.name=some (.ref a)) (hg:s₁.gens = #[])
  (hpre:r.claim.pre args=true) (hlay:WData.layableAll args=true) (hrd:ReadsAllW r.records (classAt s₀.heap) s₁.heap vals args as) (hwl:WellAll w.params s₁.heap vals args) (hlo:∀ a∈as,(a == sysModules)=false)
  (W:PySem.W.WalkO q loose XP (fun w h=>(K w.params).In h) r d kwd fun f vs=>PySem.call f vs) :
  wpAny (model r.prog w) callerA (PySem.call (.ref a) vals) (fun v s'=>GoodWG r.claim (classAt s₀.heap) (ExcName.means s₀.heap) args s₁ (.ok (.ret v)) s')
    (fun e s'=>GoodWG r.claim (classAt s₀.heap) (ExcName.means s₀.heap) args s₁ (.error e) s') s₁:=W w s₀ s₁ mg mb GR KX a o pm cd doc dV kV ho hd hcd hD hmg hg args vals as hpre hlay hrd hwl hlo
end G
def PySem.W.Fast.tw5662143529498018958:Unit:=()
def PySem.W.Fast.tw12596747015393085684:Unit:=()
def PySem.W.Fast.tw1471397537289812195:Unit:=()
def PySem.W.Fast.tw7672498175510786943:Unit:=()
def PySem.W.Fast.tw10049362081554057354:Unit:=()
def PySem.W.Fast.tw7423465038062983557:Unit:=()
def PySem.W.Fast.tw5377825061754524951:Unit:=()
def PySem.W.Fast.tw6548613593424267632:Unit:=()
def PySem.W.Fast.tw2408427449999784102:Unit:=()
def PySem.W.Fast.tw2682824283454548741:Unit:=()
def PySem.W.Fast.tw8332655549378333210:Unit:=()
def PySem.W.Fast.tw9428176124723596347:Unit:=()
def PySem.W.Fast.tw6510407045291728298:Unit:=()
def PySem.W.Fast.tw2207542991240812821:Unit:=()
def PySem.W.Fast.tw16551458113169524144:Unit:=()
def PySem.W.Fast.tw1153842868130969877:Unit:=()
def PySem.W.Fast.tw10952223836823797971:Unit:=()
def PySem.W.Fast.tw16976351411662673876:Unit:=()
def PySem.W.Fast.tw5514827311592970621:Unit:=()
def PySem.W.Fast.tw758595927298257582:Unit:=()
def PySem.W.Fast.tw3692153389565111988:Unit:=()
def PySem.W.Fast.tw1751926536535023756:Unit:=()
def PySem.W.Fast.tw5718323204563255403:Unit:=()
def PySem.W.Fast.tw3554275218665252767:Unit:=()
def PySem.W.Fast.tw18285705216762872912:Unit:=()
def PySem.W.Fast.tw13728132328260918032:Unit:=()
def PySem.W.Fast.tw15261549479726625431:Unit:=()
def PySem.W.Fast.tw4083002696561845468:Unit:=()
def PySem.W.Fast.tw11268329779718873123:Unit:=()
def PySem.W.Fast.tw3485053231964582329:Unit:=()
def PySem.W.Fast.tw4432975136531581013:Unit:=()
def PySem.W.Fast.tw10033880739627933757:Unit:=()
def PySem.W.Fast.tw9460663704781275312:Unit:=()
def PySem.W.Fast.tw4377088635354954799:Unit:=()
def PySem.W.Fast.tw10012306384476434566:Unit:=()
def PySem.W.Fast.tw7734147243743639990:Unit:=()
def PySem.W.Fast.tw6964284155363847169:Unit:=()
def PySem.W.Fast.tw11596696596074682476:Unit:=()
def PySem.W.Fast.tw144657965133904419:Unit:=()
def PySem.W.Fast.tw15373920954519328418:Unit:=()
def PySem.W.Fast.tw13975832575478868470:Unit:=()
def PySem.W.Fast.tw3381114659693072621:Unit:=()
def PySem.W.Fast.tw9485112224305722228:Unit:=()
def PySem.W.Fast.tw6209523087520366115:Unit:=()
def PySem.W.Fast.tw18010269066828156529:Unit:=()
def PySem.W.Fast.tw16601698496570035537:Unit:=()
def PySem.W.Fast.tw17903020929255892261:Unit:=()
def PySem.W.Fast.tw2122641689966916682:Unit:=()
def PySem.W.Fast.tw5174608713077662535:Unit:=()
def PySem.W.Fast.tw13479722474580250565:Unit:=()
def PySem.W.Fast.tw5839736668002266628:Unit:=()
def PySem.W.Fast.tw17726845456852002414:Unit:=()
def PySem.W.Fast.tw13736509838403508902:Unit:=()
def PySem.W.Fast.tw5137897352313164777:Unit:=()
def PySem.W.Fast.tw11122634007914956890:Unit:=()
def PySem.W.Fast.tw16120961854789035135:Unit:=()
def PySem.W.Fast.tw5611848483170445657:Unit:=()
def PySem.W.Fast.tw8591673698534940827:Unit:=()
def PySem.W.Fast.tw9975416155983367840:Unit:=()
def PySem.W.Fast.tw18161899062574478631:Unit:=()
def PySem.W.Fast.tw17096388312454650451:Unit:=()
def PySem.W.Fast.tw3169218105316955982:Unit:=()
def PySem.W.Fast.tw18154850303786529666:Unit:=()
def PySem.W.Fast.tw10196630161836559548:Unit:=()
def PySem.W.Fast.tw12548732946588057683:Unit:=()
def PySem.W.Fast.tw9680193799299169946:Unit:=()
def PySem.W.Fast.tw15712949137186939908:Unit:=()
def PySem.W.Fast.tw15961864942755753140:Unit:=()
def PySem.W.Fast.tw8808024523041682:Unit:=()
def PySem.W.Fast.tw3961253972319909799:Unit:=()
def PySem.W.Fast.tw6626363981198819517:Unit:=()
def PySem.W.Fast.tw10153392027430278630:Unit:=()
def PySem.W.Fast.tw17257707814466910816:Unit:=()
def PySem.W.Fast.tw5050011083503003670:Unit:=()
def PySem.W.Fast.tw4886334778695932593:Unit:=()
def PySem.W.Fast.tw3107940995339469155:Unit:=()
def PySem.W.Fast.tw9140244887264549039:Unit:=()
def PySem.W.Fast.tw2229134126520300126:Unit:=()
def PySem.W.Fast.tw639478811090158713:Unit:=()
def PySem.W.Fast.tw17778391735142708374:Unit:=()
def PySem.W.Fast.tw977339543658958384:Unit:=()
def PySem.W.Fast.tw16195600514401014953:Unit:=()
def PySem.W.Fast.tw577501648279409311:Unit:=()
def PySem.W.Fast.tw10289820609250385898:Unit:=()
def PySem.W.Fast.tw7502654130784791762:Unit:=()
def PySem.W.Fast.tw17347906619142595862:Unit:=()
def PySem.W.Fast.tw3653427697023804106:Unit:=()
def PySem.W.Fast.tw7152178354337522565:Unit:=()
def PySem.W.Fast.tw11267480371425864183:Unit:=()
def PySem.W.Fast.tw18416813493974592696:Unit:=()
def PySem.W.Fast.tw14546612492127921681:Unit:=()
def PySem.W.Fast.tw17077769543936047198:Unit:=()
def PySem.W.Fast.tw9116875517053276297:Unit:=()
def PySem.W.Fast.tw6440460062032567605:Unit:=()
def PySem.W.Fast.tw7657933552551945938:Unit:=()
def PySem.W.Fast.tw5873567518907500273:Unit:=()
def PySem.W.Fast.tw8764391591694855216:Unit:=()
def PySem.W.Fast.tw3198178209077989122:Unit:=()
def PySem.W.Fast.tw7216080996791380680:Unit:=()
def PySem.W.Fast.tw787758742802303816:Unit:=()
def PySem.W.Fast.tw7158869370918548155:Unit:=()
def PySem.W.Fast.tw9113150311813259652:Unit:=()
def PySem.W.Fast.tw16512418623853229013:Unit:=()
def PySem.W.Fast.tw12672541624481557477:Unit:=()
def PySem.W.Fast.tw2700602029032411882:Unit:=()
def PySem.W.Fast.tw14421646387782759794:Unit:=()
def PySem.W.Fast.tw11152000625943172472:Unit:=()
def PySem.W.Fast.tw17333716510752519053:Unit:=()
def PySem.W.Fast.tw11036897731122702129:Unit:=()
def PySem.W.Fast.tw6405840265899952470:Unit:=()
def PySem.W.Fast.tw14308922181421396963:Unit:=()
def PySem.W.Fast.tw4530502041108543357:Unit:=()
def PySem.W.Fast.tw1832230915629540041:Unit:=()
def PySem.W.Fast.tw2369588682165690792:Unit:=()
def PySem.W.Fast.tw9803450422044813691:Unit:=()
def PySem.W.Fast.tw4957934355045664081:Unit:=()
def PySem.W.Fast.tw3177000701928497424:Unit:=()
def PySem.W.Fast.tw7576012287473987449:Unit:=()
def PySem.W.Fast.tw2548073719087991531:Unit:=()
def PySem.W.Fast.tw6860634179528650295:Unit:=()
def PySem.W.Fast.tw5744221519131567857:Unit:=()
def PySem.W.Fast.tw18110588149942753718:Unit:=()
def PySem.W.Fast.tw630366206017043359:Unit:=()
def PySem.W.Fast.tw6241406490444266049:Unit:=()
def PySem.W.Fast.tw1304278282395683178:Unit:=()
def PySem.W.Fast.tw7197090448608665331:Unit:=()
def PySem.W.Fast.tw10034721661138303686:Unit:=()
def PySem.W.Fast.tw13771581265040901991:Unit:=()
def PySem.W.Fast.tw14118194101136595308:Unit:=()
def PySem.W.Fast.tw7807358061467229848:Unit:=()
def PySem.W.Fast.tw16037089252937134279:Unit:=()
def PySem.W.Fast.tw13235013044075835321:Unit:=()
def PySem.W.Fast.tw15759544280698751395:Unit:=()
def PySem.W.Fast.tw6594427973166114766:Unit:=()
def PySem.W.Fast.tw17959173513203677589:Unit:=()
def PySem.W.Fast.tw11401825267754351669:Unit:=()
def PySem.W.Fast.tw17178912412499089136:Unit:=()
def PySem.W.Fast.tw4386716287466298565:Unit:=()
def PySem.W.Fast.tw13209218083708383950:Unit:=()
def PySem.W.Fast.tw13382335854888741150:Unit:=()
def PySem.W.Fast.tw10873362012530411708:PySem.Program:=PySem.Challenge.pw_redo_k47_deeds_refused
theorem PySem.W.Fast.te10873362012530411708:PySem.Challenge.pw_redo_k47_deeds_refused=PySem.W.Fast.tw10873362012530411708:=rfl
open PySem PySem.W PyProof.Rows PySem.W.X PySem.W.ZRun
set_option maxRecDepth 100000 in
set_option maxHeartbeats 0 in
theorem PySem.Challenge.cw_redo_k47_deeds_refused_holds : PySem.Challenge.rw_redo_k47_deeds_refused.Holds := by
 w_on; o_law; z_head; (case hw=>w_witness2)
 k_fill
 intro w s₀ s₁ mg mb GR y fa o pm cd doc dV kV ho hd hcd hD hmg hg args vals as L hpre hlay hrd hwl hlo
 z_open y L KX ZH ZN ZT
 clear ZH ZN ZT
 refine G.walkZ KX GR ho hd hcd hD hmg hg hpre hlay hrd hwl hlo ?W
 clear KX GR ho hd hcd hD hmg hg hpre hlay hrd hwl hlo L y
 refine G.walk (l:=PySem.Challenge.rw_redo_k47_deeds_refused) rfl rfl (fun w h Y=>Y) ?F
 case F=>
  intro w mg fa h KX GG hmg
  refine' G.all_mk KX GG hmg ?_ ?_ ?_ ?_ ?_ ?_ ?_ ?_ ?_ ?_ ?_ ?_ ?_ ?_ ?_ ?_ ?_ ?_ ?_ ?_ ?_ ?_ ?_ ?_ ?_ ?_ ?_ ?_ ?_ ?_ ?_ ?_ ?_ ?_ ?_ ?_ ?_ ?_ ?_ ?_ ?_ ?_ ?_ ?_ ?_ ?_ ?_ ?_ ?_ ?_ ?_ ?_ ?_ ?_ ?_ ?_ ?_ ?_ ?_ ?_ ?_ ?_ ?_ ?_ ?_ ?_ ?_ ?_ ?_ ?_ ?_ ?_ ?_ ?_ ?_ ?_ ?_ ?_ ?_ ?_ ?_ ?_ ?_ ?_ ?_ ?_ ?_ ?_ ?_ ?_ ?_ ?_ ?_ ?_ ?_ ?_ ?_ ?_ ?_ ?_ ?_ ?_ ?_ ?_ ?_ ?_ ?_ ?_ ?_ ?_ ?_ ?_ ?_ ?_ ?_ ?_ ?_ ?_ ?_ ?_ ?_ ?_ ?_ ?_ ?_ ?_ ?_ ?_ ?_ ?_ ?_ ?_ ?_ ?_ ?_ ?_ ?_ ?_ ?_ ?_ ?_ ?_ ?_ ?_ ?_ ?_ ?_ ?_ ?_ ?_ ?_ ?_ ?_ ?_ ?_ ?_ ?_ ?_ ?_ ?_ ?_ G.zu
  any_goals first | (refine' XO.CJ ?e1 ?e2 ?e3 ?e4 ?e5 ?e6 ?e7 ?e8 ?e9 ?e10 ?e11 ?e12 ?e13 ?e14 ?e15 ?e16 ?e17; (case e1=>k_is); (case e2=>k_is); (case e3=>k_is); (case e4=>k_is); (case e5=>k_is); (case e6=>k_is); (case e7=>k_is); (case e8=>k_is); (case e9=>k_is); (case e10=>k_is); (case e11=>k_is); (case e12=>k_is); (case e13=>k_is); (case e14=>k_is); (case e15=>k_is); (case e16=>rfl); (case e17=>rfl)) | (refine' XO.DJ ?e1 ?e2 ?e3 ?e4; (case e1=>k_is); (case e2=>k_is); (case e3=>k_is); (case e4=>rfl)) | (refine' D.DZ ?a ?l ?c ?k; (case a=>k_is); (case l=>k_is); (case c=>k_is); (case k=>k_is)) | (refine' D.Cy ?a ?l ?c ?k ?n; (case a=>k_is); (case l=>k_is); (case c=>k_is); (case k=>k_is); (case n=>k_is)) | k_is
  all_goals first | rfl | decide +kernel
