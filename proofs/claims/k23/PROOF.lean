import PyProof.Rows.All
import Wide.All
import OpenK.AllK
import Wide.FinOn
import Lean
import PyProof.EqAt
import PyProof.EqKinds
import PyProof.TupleCall
import PySem.Challenge.RW_redo_k23_lines_by_good_things
noncomputable section
open PySem.W (Frag)
set_option Elab.async false
set_option linter.all false
set_option maxRecDepth 100000
namespace L2
open PySem PySem.Spec PyProof.Rows
abbrev Key:=Sum Int Str
def dW:Key→Value→Bool
 | .inl k,v=>Value.isInt k v
 | .inr x,v=>Value.isStrOf x v
def uH (w:World):Key→Int
 | .inl k=>hashInt k
 | .inr x=>hashStr w x
theorem dB:∀ {k:Key} {v:Value},dW k v=true→(∃ i t,k=Sum.inl i∧v=Value.int i t)∨(∃ x t,k=Sum.inr x∧v=Value.str x t)
 | .inl i,v,h=>by
  obtain ⟨t,e⟩:=Value.isInt_shape (k:=i) (v:=v) h
  exact .inl ⟨i,t,rfl,e⟩
 | .inr x,v,h=>by
  obtain ⟨t,e⟩:=Value.isStrOf_shape (x:=x) (v:=v) h
  exact .inr ⟨x,t,rfl,e⟩
theorem yk (i:Int) (t:Tok):dW (.inl i) (.int i t)=true:=by simp [dW,Value.isInt]
theorem yj (x:Str) (t:Tok):dW (.inr x) (.str x t)=true:=by simp [dW,Value.isStrOf]
theorem sy (a b:Int):decide ((Sum.inl a:Key)=Sum.inl b)=(a == b):=by
 by_cases e:a=b
 ·subst e; simp
 ·have h:¬ (Sum.inl a:Key)=Sum.inl b:=fun q=>e (Sum.inl.inj q)
  rw [decide_eq_false h]
  exact (beq_eq_false_iff_ne.mpr e).symm
theorem so (a b:Str):decide ((Sum.inr a:Key)=Sum.inr b)=decide (a=b):=by
 by_cases e:a=b
 ·subst e; simp
 ·have h:¬ (Sum.inr a:Key)=Sum.inr b:=fun q=>e (Sum.inr.inj q)
  rw [decide_eq_false h,decide_eq_false e]
theorem su (a:Int) (b:Str):decide ((Sum.inl a:Key)=Sum.inr b)=false:=decide_eq_false (fun q=>nomatch q)
theorem sr (a:Str) (b:Int):decide ((Sum.inr a:Key)=Sum.inl b)=false:=decide_eq_false (fun q=>nomatch q)
def bB (prog:Program) (w:World):PySem.KeyKind prog w Key where
 is:=dW
 hash:=uH w
 inj:=fun v a b ha hb=>by
  rcases dB ha with ⟨i,t,rfl,rfl⟩ | ⟨x,t,rfl,rfl⟩
  ·rcases dB hb with ⟨j,u,rfl,e⟩ | ⟨y,u,rfl,e⟩
   ·injection e with e1 _; rw [e1]
   ·exact nomatch e
  ·rcases dB hb with ⟨j,u,rfl,e⟩ | ⟨y,u,rfl,e⟩
   ·exact nomatch e
   ·injection e with e1 _; rw [e1]
 byValue:=fun k v h=>by
  rcases dB h with ⟨i,t,rfl,rfl⟩ | ⟨x,t,rfl,rfl⟩ <;> rfl
 pyHash:=fun hv h=>by
  rcases dB hv with ⟨i,t,rfl,rfl⟩ | ⟨x,t,rfl,rfl⟩
  ·exact wpAny_pyHash_int h
  ·exact wpAny_pyHash_str h
 eqBool:=fun hu hv h=>by
  rcases dB hu with ⟨i,t,rfl,rfl⟩ | ⟨x,t,rfl,rfl⟩
  ·rcases dB hv with ⟨j,u,rfl,rfl⟩ | ⟨y,u,rfl,rfl⟩
   ·rw [sy] at h; exact wpAny_eqBool_int h
   ·rw [su] at h; exact SeqAt.EqAt.int_str i t y u _ _ _ _ h
  ·rcases dB hv with ⟨j,u,rfl,rfl⟩ | ⟨y,u,rfl,rfl⟩
   ·rw [sr] at h; exact SeqAt.EqAt.str_int x t j u _ _ _ _ h
   ·rw [so] at h; exact wpAny_eqBool_str h
 «strs»:=fun k x t v h=>by
  rcases dB h with ⟨i,u,rfl,e⟩ | ⟨y,u,rfl,e⟩
  ·exact nomatch e
  ·injection e with e1 _
   subst e1
   cases v <;> rfl
theorem wC (prog:Program) (w:World) (i:Int) (t:Tok):(bB prog w).is (.inl i) (.int i t)=true:=yk i t
theorem wB (prog:Program) (w:World) (x:Str) (t:Tok):(bB prog w).is (.inr x) (.str x t)=true:=yj x t
inductive V where
 | non | bl (b:Bool) | int (i:Int) | str (x:Str) | byt (b:Array UInt8) | flt (b:UInt64) | ref (a:Addr) | ty (n:String)
 deriving DecidableEq
def RelV:V→Value→Prop
 | .non,u=>u=Value.none
 | .bl b,u=>u=Value.bool b
 | .int i,u=>∃ t,u=Value.int i t
 | .str x,u=>∃ t,u=Value.str x t
 | .byt b,u=>∃ t,u=Value.bytes b t
 | .flt b,u=>∃ t,u=Value.float b t
 | .ref a,u=>u=Value.ref a
 | .ty n,u=>u=Value.type n
abbrev Vals:List V→List Value→Prop:=Paired RelV
theorem Vals.length {xs:List V} {us:List Value} (r:Vals xs us):xs.length=us.length:=Paired.length r
theorem Vals.get:∀ {xs:List V} {us:List Value} {i:Nat} {x:V},Vals xs us→xs[i]? = some x→∃ u,us[i]? = some u∧RelV x u
 | _,_,_,_,.nil,e=>by simp at e
 | _,_,0,_,.cons r _,e=>by simp at e; subst e; exact ⟨_,rfl,r⟩
 | _,_,i + 1,x,.cons _ t,e=>by
  obtain ⟨u,h1,h2⟩:=Vals.get (i:=i) (x:=x) t (by simpa using e)
  exact ⟨u,by simpa using h1,h2⟩
theorem Vals.set {x:V} {u:Value} (r:RelV x u):∀ {xs:List V} {us:List Value} (i:Nat),Vals xs us→Vals (xs.set i x) (us.set i u)
 | _,_,_,.nil=>.nil
 | _,_,0,.cons _ t=>.cons r t
 | _,_,i + 1,.cons q t=>.cons q (Vals.set r i t)
theorem Vals.append:∀ {xs ys:List V} {us ws:List Value},Vals xs us→Vals ys ws→Vals (xs++ys) (us++ws)
 | _,_,_,_,.nil,s=>s
 | _,_,_,_,.cons r t,s=>.cons r (Vals.append t s)
theorem Vals.take:∀ {xs:List V} {us:List Value} (n:Nat),Vals xs us→Vals (xs.take n) (us.take n)
 | _,_,0,_=>.nil
 | _,_,_ + 1,.nil=>.nil
 | _,_,n + 1,.cons r t=>.cons r (Vals.take n t)
theorem Vals.drop:∀ {xs:List V} {us:List Value} (n:Nat),Vals xs us→Vals (xs.drop n) (us.drop n)
 | _,_,0,r=>r
 | _,_,_ + 1,.nil=>.nil
 | _,_,n + 1,.cons _ t=>Vals.drop n t
def RelO:Option V→Option Value→Prop
 | some v,some u=>RelV v u
 | none,none=>True
 | _,_=>False
def KV {κ:Type}:List (κ×V)→List (κ×Value)→Prop:=Paired fun (p:κ×V) (q:κ×Value)=>p.1=q.1∧RelV p.2 q.2
def kV:Key→V
 | .inl i=>.int i
 | .inr x=>.str x
inductive HO where
  | lst (xs:List V)
  | tup (xs:List V)
  | dK (kvs:List (Key×V)) | dT (kvs:List (List Key×V))
  | set (S:Int→Bool) (n:Nat)
  | ins (C dx:Addr) (fs:List (Str×V))
  | own (x:Addr)
  | xd (fs:List (Str×V))
  | met (f x:Addr)
  | rng (lo hi:Int)
  | frz (o:Obj) (u:HO)
  | tbl (ps:Array Value)
  | ext (φ:Heap→Prop)
abbrev Hp:=Addr→Option HO
def upd (H:Hp) (a:Addr) (o:HO):Hp:=fun b=>if b=a then some o else H b
theorem bh {H:Hp} {a:Addr} {o:HO}:upd H a o a=some o:=by unfold upd; rw [if_pos rfl]
theorem aR {H:Hp} {a b:Addr} {o:HO} (h:b≠a):upd H a o b=H b:=by unfold upd; rw [if_neg h]
theorem zX {H:Hp} {a:Addr} {o u:HO}:upd (upd H a o) a u=upd H a u:=by funext b; unfold upd; split <;> rfl
theorem Dd {H:Hp} {a b:Addr} {o u:HO} (h:H a=some o) (h':H b=some u) (d:o≠u):a≠b:=by intro e; subst e; rw [h] at h'; exact d (Option.some.inj h')
theorem cu {H:Hp} {a b:Addr} {o:HO} (h:H a=some o) (h':H b=none):a≠b:=by intro e; subst e; rw [h] at h'; cases h'
section
variable (P:Program) (w:World)
def ObjOk (H:Hp) (h:Heap) (a:Addr):HO→Prop
 | .lst xs=>xs.length≤sizeLine∧∃ (its:List Value) (n:Nat),Vals xs its∧h.get? a=some { cls:=.type "list",data:=.seq its.toArray n }
 | .tup xs=>xs.length≤sizeLine∧∃ its:List Value,Vals xs its∧IsTup h a its.toArray
 | .dK kvs=>kvs.length≤sizeLine∧(a == sysModules)=false∧∃ vs,KV kvs vs∧h.DictOf (bB P w) a vs
 | .dT kvs=>kvs.length≤sizeLine∧(a == sysModules)=false∧∃ xs:List (List Key×Addr×Value),
   Paired (fun (p:List Key×V) (q:List Key×Addr×Value)=>p.1=q.1∧H q.2.1=some (.tup (p.1.map kV))∧RelV p.2 q.2.2) kvs xs ∧
   ∃ o es ep,h.get? a=some o∧o.ExactDict∧o.data=.dict es ep∧es.toList=xs.map (entryOfKey (tupleKind (bB P w)))∧(xs.map (·.1)).Nodup
 | .set S n=>h.SetOf (intKind P w) a S n
 | .ins C dx fs=>H dx=some (.own a)∧fs.length≤1000∧dx≠a∧h.get? a=some (PySem.W.instObj C dx) ∧
   ∃ mA,h.Ns1 dx mA∧(∀ f,RelO (fs.lookup f) (mA f))∧PySem.Within mA (fs.map (·.1))
 | .own _=>∃ o,h.get? a=some o
 | .xd fs=>∃ mA,h.Ns1 a mA∧∀ f,RelO (fs.lookup f) (mA f)
 | .rng lo hi=>∃ t u v,h.get? a=some { cls:=.type "range",data:=.fields #[.int lo t,.int hi u,.int 1 v] }
 | .frz o u=>h.get? a=some o∧ObjOk H h a u
 | .tbl ps=>h.get? a=some { cls:=.none,data:=.fields ps }
 | .met f x=>h.get? a=some (PySem.W.methodObj (.ref f) (.ref x))
 | .ext φ=>φ h∧(∃ o,h.get? a=some o)∧∀ h1 h2:Heap,φ h1→(∀ o,h1.get? a=some o→h2.get? a=some o)→φ h2
def HOk (H:Hp) (h:Heap):Prop:=∀ a o,H a=some o→ObjOk P w H h a o
end
section
variable {P:Program} {w:World} {H H':Hp} {h h':Heap} {a:Addr} {o:HO}
theorem ObjOk.lt (x:ObjOk P w H h a o):a < h.objs.size:=by
 cases o with
 | lst xs=>obtain ⟨_,_,_,_,e⟩:=x; exact Heap.lt_size e
 | tup xs=>obtain ⟨_,_,_,p⟩:=x; exact p.lt
 | dK kvs=>obtain ⟨_,_,_,_,o,_,_,e,_⟩:=x; exact Heap.lt_size e
 | dT kvs=>obtain ⟨_,_,_,_,o,_,_,e,_⟩:=x; exact Heap.lt_size e
 | set S n=>obtain ⟨o,_,_,_,e,_⟩:=x; exact Heap.lt_size e
 | ins C dx fs=>obtain ⟨_,_,_,e,_⟩:=x; exact Heap.lt_size e
 | own y=>obtain ⟨_,e⟩:=x; exact Heap.lt_size e
 | xd fs=>obtain ⟨_,⟨_,_,_,e,_⟩,_⟩:=x; exact Heap.lt_size e
 | rng lo hi=>obtain ⟨_,_,_,e⟩:=x; exact Heap.lt_size e
 | frz ob u=>obtain ⟨e,_⟩:=x; exact Heap.lt_size e
 | tbl ps=>exact Heap.lt_size (show h.get? a=some _ from x)
 | met f y=>exact Heap.lt_size (show h.get? a=some _ from x)
 | ext φ=>obtain ⟨_,⟨_,e⟩,_⟩:=x; exact Heap.lt_size e
theorem Paired.mapP {α β:Type} {F G:α→β→Prop}:∀ {l₁:List α} {l₂:List β},Paired F l₁ l₂→(∀ a b,F a b→G a b)→Paired G l₁ l₂
 | _,_,.nil,_=>.nil
 | _,_,.cons r t,f=>.cons (f _ _ r) (Paired.mapP t f)
theorem ObjOk.stay (x:ObjOk P w H h a o) (k:∀ b u,(b=a∨H b=some (.own a))→h.get? b=some u→h'.get? b=some u)
  (ho:∀ b,H b=some (.own a)→H' b=some (.own a)) (ht:∀ b xs,H b=some (.tup xs)→H' b=some (.tup xs)):ObjOk P w H' h' a o:=by
 induction o with
 | lst xs=>obtain ⟨z,its,n,r,e⟩:=x; exact ⟨z,its,n,r,k _ _ (.inl rfl) e⟩
 | tup xs=>obtain ⟨z,its,r,ob,e,c⟩:=x; exact ⟨z,its,r,ob,k _ _ (.inl rfl) e,c⟩
 | dK kvs=>obtain ⟨z,y,vs,r,ob,es,ep,e,c⟩:=x; exact ⟨z,y,vs,r,ob,es,ep,k _ _ (.inl rfl) e,c⟩
 | dT kvs=>
  obtain ⟨z,y,xs,r,ob,es,ep,e,c⟩:=x
  exact ⟨z,y,xs,Paired.mapP r fun p q z=>⟨z.1,ht _ _ z.2.1,z.2.2⟩,ob,es,ep,k _ _ (.inl rfl) e,c⟩
 | set S n=>obtain ⟨ob,es,ep,t,e,c⟩:=x; exact ⟨ob,es,ep,t,k _ _ (.inl rfl) e,c⟩
 | ins C dx fs=>
  obtain ⟨d,z,ne,e,mA,⟨od,es,ep,e2,c⟩,r⟩:=x
  exact ⟨ho _ d,z,ne,k _ _ (.inl rfl) e,mA,⟨od,es,ep,k _ _ (.inr d) e2,c⟩,r⟩
 | own y=>obtain ⟨ob,e⟩:=x; exact ⟨ob,k _ _ (.inl rfl) e⟩
 | xd fs=>obtain ⟨mA,⟨od,es,ep,e,c⟩,r⟩:=x; exact ⟨mA,⟨od,es,ep,k _ _ (.inl rfl) e,c⟩,r⟩
 | rng lo hi=>obtain ⟨t,u,v,e⟩:=x; exact ⟨t,u,v,k _ _ (.inl rfl) e⟩
 | frz ob u ih=>obtain ⟨e,q⟩:=x; exact ⟨k _ _ (.inl rfl) e,ih q⟩
 | tbl ps=>
  have e:h.get? a=some { cls:=.none,data:=.fields ps }:=x
  show h'.get? a=some { cls:=.none,data:=.fields ps }
  exact k a _ (.inl rfl) e
 | met f y=>
  have e:h.get? a=some (PySem.W.methodObj (.ref f) (.ref y)):=x
  show h'.get? a=some (PySem.W.methodObj (.ref f) (.ref y))
  exact k a _ (.inl rfl) e
 | ext φ=>obtain ⟨p,⟨o,e⟩,st⟩:=x; exact ⟨st _ _ p fun o q=>k _ _ (.inl rfl) q,⟨o,k _ _ (.inl rfl) e⟩,st⟩
theorem HOk.lt (x:HOk P w H h) (e:H a=some o):a < h.objs.size:=(x a o e).lt
theorem HOk.fresh (x:HOk P w H h) (e:h.objs.size≤a):H a=none:=by
 cases q:H a with
 | none=>rfl
 | some u=>exact absurd (Nat.lt_of_lt_of_le (x.lt q) e) (Nat.lt_irrefl _)
theorem HOk.kept (x:HOk P w H h) (k:∀ b u,h.get? b=some u→h'.get? b=some u):HOk P w H h':=fun a o e=>
 (x a o e).stay (fun b u _ q=>k b u q) (fun _ q=>q) fun _ _ q=>q
theorem HOk.laid (x:HOk P w H h) (k:∀ b u,h.get? b=some u→h'.get? b=some u) (hp:h.objs.size≤a) (new:ObjOk P w (upd H a o) h' a o):HOk P w (upd H a o) h':=fun b u e=>by
 have hn:=x.fresh hp
 by_cases hb:b=a
 ·subst hb; rw [bh] at e; cases e; exact new
 ·rw [aR hb] at e
  exact (x b u e).stay (fun c v _ q=>k c v q) (fun c q=>by rw [aR (cu q hn)]; exact q) fun c xs q=>by rw [aR (cu q hn)]; exact q
end
def Rd (H:Hp) (a:Addr) (u:HO):Prop:=H a=some u∨∃ o,H a=some (.frz o u)
theorem Rd.ok {P:Program} {w:World} {H:Hp} {h:Heap} {a:Addr} {u:HO} (r:Rd H a u) (x:HOk P w H h):ObjOk P w H h a u:=by
 rcases r with r | ⟨o,r⟩
 ·exact x a u r
 ·obtain ⟨_,q⟩:=x a _ r
  exact q
def Mut:Option HO→Prop
 | some (.lst _)=>True
 | some (.dK _)=>True
 | some (.dT _)=>True
 | some (.set _ _)=>True
 | some (.ins _ _ _)=>True
 | some (.ext _)=>True
 | _=>False
section
variable {P:Program} {w:World} {H:Hp} {h h':Heap} {x e:Addr} {o':HO}
theorem HOk.write (ok:HOk P w H h) (mu:Mut (H x)) (he:e=x∨H e=some (.own x)) (k:∀ b u,b≠e→h.get? b=some u→h'.get? b=some u) (heo:∃ u,h'.get? e=some u)
  (new:ObjOk P w (upd H x o') h' x o'):HOk P w (upd H x o') h':=fun b u q=>by
 have nown:∀ c y,H c=some (.own y)→c≠x:=fun c y r z=>by subst z; rw [r] at mu; exact mu
 have ntup:∀ c xs,H c=some (.tup xs)→c≠x:=fun c xs r z=>by subst z; rw [r] at mu; exact mu
 by_cases hb:b=x
 ·subst hb; rw [bh] at q; cases q; exact new
 ·rw [aR hb] at q
  by_cases hbe:b=e
  ·have q':H b=some (.own x):=by
    rcases he with z | z
    ·exact absurd (hbe.trans z) hb
    ·rw [hbe]; exact z
   rw [q] at q'; cases q'
   obtain ⟨v,hv⟩:=heo
   exact ⟨v,by rw [hbe]; exact hv⟩
  ·refine (ok b u q).stay (fun c v hc r=>k c v ?_ r) (fun c r=>by rw [aR (nown c b r)]; exact r) fun c xs r=>by rw [aR (ntup c xs r)]; exact r
   rcases hc with rfl | hc
   ·exact hbe
   ·rintro rfl
    rcases he with z | z
    ·exact nown c b hc z
    ·rw [hc] at z; cases z; exact hb rfl
end
structure Un (fs ex:List Addr) (H H':Hp) (h h':Heap):Prop where
 keep:∀ b o,h.get? b=some o→H b=none→b∉fs→b∉ex→h'.get? b=some o
 slot:∀ b o,h.get? b=some o→H b=none→b∈fs→b∉ex→∃ sl,h'.get? b=some { o with slots:=sl }
 free:∀ b o,h.get? b=some o→H b=none→b∉ex→H' b=none
 there:∀ b o,h.get? b=some o→b∉ex→∃ o',h'.get? b=some o'
 tups:∀ b xs,H b=some (.tup xs)→H' b=some (.tup xs)
 frzs:∀ b o u,H b=some (.frz o u)→H' b=some (.frz o u)
 tbls:∀ b ps,H b=some (.tbl ps)→∃ more,H' b=some (.tbl (ps++more))
section
variable {fs fs' ex ex':List Addr} {H H1 H2:Hp} {h h1 h2 h':Heap} {a x e:Addr} {o:HO}
theorem Un.any (u:Un fs ex H H1 h h1) {b:Addr} {ob:Obj} (q:h.get? b=some ob) (n:H b=none) (hx:b∉ex):∃ sl,h1.get? b=some { ob with slots:=sl }:=by
 by_cases hb:b∈fs
 ·exact u.slot b ob q n hb hx
 ·exact ⟨ob.slots,u.keep b ob q n hb hx⟩
theorem Un.kept (k:∀ b u,h.get? b=some u→h'.get? b=some u):Un fs ex H H h h':=⟨fun b ob q _ _ _=>k b ob q,fun b ob q _ _ _=>⟨ob.slots,k b ob q⟩,fun _ _ _ n _=>n,fun b ob q _=>⟨ob,k b ob q⟩,fun _ _ q=>q,fun _ _ _ q=>q,fun _ ps q=>⟨#[],by rw [q]; simp⟩⟩
theorem Un.refl:Un fs ex H H h h:=Un.kept fun _ _ q=>q
theorem Un.laid (k:∀ b u,h.get? b=some u→h'.get? b=some u) (hp:h.objs.size≤a) (hn:H a=none):Un fs ex H (upd H a o) h h' where
 keep:=fun b u q _ _ _=>k b u q
 slot:=fun b u q _ _ _=>⟨u.slots,k b u q⟩
 free:=fun b u q n _=>by rw [aR (Nat.ne_of_lt (Nat.lt_of_lt_of_le (Heap.lt_size q) hp))]; exact n
 there:=fun b u q _=>⟨u,k b u q⟩
 tups:=fun b xs q=>by rw [aR (cu q hn)]; exact q
 frzs:=fun b u xs q=>by rw [aR (cu q hn)]; exact q
 tbls:=fun b ps q=>⟨#[],by rw [aR (cu q hn),q]; simp⟩
theorem Un.write (mu:Mut (H x)) (he:e=x∨H e=some (.own x)) (k:∀ b u,b≠e→h.get? b=some u→h'.get? b=some u) (heo:∃ u,h'.get? e=some u):Un fs ex H (upd H x o) h h':=by
 have hx:∀ b,H b=none→b≠x:=fun b n z=>by subst z; rw [n] at mu; exact mu
 have hb:∀ b,H b=none→b≠e:=fun b n z=>by
  subst z
  rcases he with r | r
  ·exact hx b n r
  ·rw [n] at r; cases r
 have hm:∀ b u,H b=some u→¬ Mut (some u)→b≠x:=fun b u q nm z=>by subst z; rw [q] at mu; exact nm mu
 refine ⟨fun b u q n _ _=>k b u (hb b n) q,fun b u q n _ _=>⟨u.slots,k b u (hb b n) q⟩,fun b u q n _=>by rw [aR (hx b n)]; exact n,fun b u q _=>?_,
  fun b xs q=>by rw [aR (hm b _ q fun z=>z)]; exact q,fun b u xs q=>by rw [aR (hm b _ q fun z=>z)]; exact q,fun b ps q=>⟨#[],by rw [aR (hm b _ q fun z=>z),q]; simp⟩⟩
 by_cases hbe:b=e
 ·subst hbe; exact heo
 ·exact ⟨u,k b u hbe q⟩
end
def trk (h:Heap) (H:Hp):List Addr:=(List.range h.objs.size).filter fun a=>(H a).isSome
def fJ (h:Heap) (H:Hp):Heap:=PySem.W.hideAll h (trk h H)
theorem yp (h:Heap) (H:Hp):(fJ h H).objs.size=h.objs.size:=PySem.W.hideAll_size _ _
theorem zv {h:Heap} {H:Hp} {b:Addr} {o:Obj} (e:h.get? b=some o) (n:H b=none):(fJ h H).get? b=some o:=
 PySem.W.hideAll_get _ e fun hm=>by
  have q:(H b).isSome=true:=(List.mem_filter.mp hm).2
  rw [n] at q; simp at q
theorem Av {h:Heap} {H:Hp} {b:Addr} {o:Obj} (e:(fJ h H).get? b=some o):h.get? b=some o∧H b=none:=by
 have e':h.get? b=some o:=PySem.W.of_hideAll (trk h H) e
 refine ⟨e',?_⟩
 cases q:H b with
 | none=>rfl
 | some x=>
  have hm:b∈trk h H:=List.mem_filter.mpr ⟨List.mem_range.mpr (Heap.lt_size e'),by simp [q]⟩
  have z:(fJ h H).get? b=none:=PySem.W.hideAll_none (trk h H) hm
  rw [z] at e; cases e
def AV (g h:Heap) (L:Addr):List (Addr×Obj):=(List.range h.objs.size).filterMap fun a=>if a=L∨(g.get? a).isSome=true then none else (h.get? a).map fun o=>(a,o)
def rest (g h:Heap) (L d:Addr):List (Addr×Obj):=(AV g h L).filter fun p=>decide (p.1≠d)
structure Mod (K:Frag) (mg:Str→Option Value) (base:Heap):Prop where
 kin:K.In base
 glob:base.Ns mainGlobals mg
 blt:∃ mb,base.Ns builtinsNs mb∧∀ x:Str,x≠"__name__"→mb x=bootBuiltins x
 nolimit:base.NoLimit
structure Cx where
 prog:Program
 w:World
 K:Frag
 mg:Str→Option Value
 base:Heap
 A:Around
 N:List Str
 s₀:Shared
 H₀:Hp
 env:Env
 outer:List Env
 stack:List Env
 ex:List Addr
 fn:Str→Bool
 calm:Bool
 pn:List (Addr×Obj)
 xe:Value→Shared→Prop
def frs (l:List Env):List Addr:=l.filterMap (·.frame)
abbrev Cx.fs (X:Cx):List Addr:=frs X.outer
def Vis (sc:Scope) (x:Str):Prop:=sc.names.lookup x=some .local∨sc.names.lookup x=some .cell∨sc.names.lookup x=some .free
def Loc (sc:Scope) (x:Str):Prop:=sc.names.lookup x=some .local∨sc.names.lookup x=some .cell
def Look (env:Env) (h:Heap) (m:Str→Option Value) (x:Str) (u:Value):Prop:=(env.kindOf x=some .local∧m x=some u)∨((env.kindOf x=some .cell∨env.kindOf x=some .free)∧∃ c,env.cells.lookup x=some c∧h.IsCell c (some u))
structure Cx.Ok (X:Cx):Prop where
 mod:Mod X.K X.mg X.base
 kind:X.env.scope.kind=.function
 glob:X.env.globals=mainGlobals
 blt:X.env.builtins=builtinsNs
 above:X.s₀.heap.objs.size≤X.env.locals
 inj:∀ x y c,X.env.cells.lookup x=some c→X.env.cells.lookup y=some c→x=y
 has:∀ x,(X.env.kindOf x=some .cell∨X.env.kindOf x=some .free)→∃ c,X.env.cells.lookup x=some c
 cab:∀ x c,X.fn x=true→X.env.cells.lookup x=some c→X.s₀.heap.objs.size≤c
 hd:X.calm=true→X.A.handled=none
 frames:X.A.frames=some X.stack
 stk:X.stack=X.outer∨(X.stack=X.env::X.outer∧X.env.frame=some X.env.locals)
 exf:∀ b∈X.ex,b≠X.env.locals∧∀ x c,X.env.cells.lookup x=some c→c≠b
 bs:∀ b o,X.base.get? b=some o→X.s₀.heap.get? b=some o∧X.H₀ b=none
 bsz:X.base.objs.size≤X.s₀.heap.objs.size
 noex:∀ b o,X.base.get? b=some o→b∉X.ex
 exfs:∀ b∈X.ex,b∉X.fs
 funs:X.s₀.heap.FunFrames X.base X.outer
 frf:∀ b∈X.fs,X.H₀ b=none
structure Inv (X:Cx) (pins:List (Addr×Obj)) (σ:List (Option V)) (H:Hp) (s:Shared):Prop where
 ok:X.Ok
 os:s.os=X.s₀.os
 bare:AllBare s.gens
 base:Un X.fs X.ex X.H₀ H X.s₀.heap s.heap
 loc:∃ m,s.heap.Ns X.env.locals m∧∀ (i:Nat) (x:Str) (v:V),X.N[i]? = some x→σ[i]? = some (some v)→Vis X.env.scope x→∃ u,RelV v u∧Look X.env s.heap m x u
 cell:∀ x c,X.env.cells.lookup x=some c→∃ v,s.heap.IsCell c v
 free:H X.env.locals=none
 freeC:∀ x c,X.env.cells.lookup x=some c→H c=none
 pin:∀ p∈X.pn++pins,s.heap.get? p.1=some p.2∧H p.1=none∧p.1≠X.env.locals∧p.1∉X.fs∧∀ v,p.2.data≠.cell v
 hok:HOk X.prog X.w H s.heap
 len:σ.length=X.N.length
section
variable {X:Cx} {pins:List (Addr×Obj)} {σ:List (Option V)} {H H':Hp} {s:Shared} {h':Heap}
theorem Cx.Ok.nofr (ok:X.Ok) {b:Addr} {o:Obj} (e:X.base.get? b=some o):b∉X.fs:=fun hb=>by
 have:=(ok.funs.mem hb).1
 rw [e] at this; cases this
theorem Inv.bs (I:Inv X pins σ H s):∀ b o,X.base.get? b=some o→s.heap.get? b=some o∧H b=none:=fun b o e=>
 ⟨I.base.keep b o (I.ok.bs b o e).1 (I.ok.bs b o e).2 (I.ok.nofr e) (I.ok.noex b o e),I.base.free b o (I.ok.bs b o e).1 (I.ok.bs b o e).2 (I.ok.noex b o e)⟩
theorem Inv.bk (I:Inv X pins σ H s):∀ b o,X.base.get? b=some o→s.heap.get? b=some o:=fun b o e=>(I.bs b o e).1
theorem Inv.mod (I:Inv X pins σ H s):Mod X.K X.mg X.base:=I.ok.mod
theorem Inv.kIn (I:Inv X pins σ H s):X.K.In s.heap:=I.ok.mod.kin.keeps I.bk
theorem Inv.lt (I:Inv X pins σ H s):X.env.locals < s.heap.objs.size:=let ⟨_,hn,_⟩:=I.loc; hn.lt
theorem Inv.sz (I:Inv X pins σ H s):X.s₀.heap.objs.size≤s.heap.objs.size:=Nat.le_trans I.ok.above (Nat.le_of_lt I.lt)
theorem Inv.nofs (I:Inv X pins σ H s) {a:Addr} (h:s.heap.objs.size≤a):a∉X.fs:=fun hb=>by
 obtain ⟨_,o,ho,_⟩:=I.ok.funs.mem hb
 exact absurd (Nat.lt_of_lt_of_le (Heap.lt_size ho) (Nat.le_trans I.sz h)) (Nat.lt_irrefl _)
theorem Inv.cne (I:Inv X pins σ H s):∀ x c,X.env.cells.lookup x=some c→c≠X.env.locals:=fun x c e z=>by
 obtain ⟨v,o,ho,hd⟩:=I.cell x c e
 obtain ⟨m,⟨o',es,ep,ho',hd',_⟩,_⟩:=I.loc
 rw [z,ho'] at ho; cases ho; rw [hd'] at hd; cases hd
theorem Inv.funs (I:Inv X pins σ H s):s.heap.FunFrames X.base X.outer:=by
 have all:∀ (l:List Env),(∀ b∈frs l,b∈X.fs)→X.s₀.heap.FunFrames X.base l→s.heap.FunFrames X.base l:=by
  intro l
  induction l with
  | nil=>intro _ _; trivial
  | cons env r ih=>
   intro hs hl
   obtain ⟨hk,⟨L,o,hf,hn,ho,hd⟩,hr⟩:=hl
   have hL:L∈X.fs:=hs L (by unfold frs; rw [List.filterMap_cons,hf]; exact List.mem_cons_self)
   obtain ⟨sl,e⟩:=I.base.slot L o ho (I.ok.frf L hL) hL fun z=>I.ok.exfs L z hL
   exact ⟨hk,⟨L,_,hf,hn,e,hd⟩,ih (fun b hb=>hs b (by unfold frs; rw [List.filterMap_cons,hf]; exact List.mem_cons_of_mem _ hb)) hr⟩
 exact all X.outer (fun _ hb=>hb) I.ok.funs
theorem Inv.stack (I:Inv X pins σ H s):s.heap.FunFrames X.base X.stack:=by
 rcases I.ok.stk with e | ⟨e,hf⟩
 ·rw [e]; exact I.funs
 ·rw [e]
  obtain ⟨m,hn,_⟩:=I.loc
  refine .cons (by rw [I.ok.kind]; decide) hf hn ?_ I.funs
  exact Heap.get?_none_of_le (Nat.le_trans I.ok.bsz I.ok.above)
theorem Inv.stkSub (I:Inv X pins σ H s):∀ b∈frs X.stack,b∈X.env.locals::X.fs:=fun b hb=>by
 rcases I.ok.stk with e | ⟨e,hf⟩
 ·rw [e] at hb; exact List.mem_cons_of_mem _ hb
 ·rw [e] at hb
  unfold frs at hb
  rw [List.filterMap_cons,hf] at hb
  exact hb
theorem Inv.stkFree (I:Inv X pins σ H s):∀ b∈frs X.stack,H b=none:=fun b hb=>by
 rcases List.mem_cons.mp (I.stkSub b hb) with e | hb
 ·rw [e]; exact I.free
 ·obtain ⟨_,o,ho,_⟩:=I.ok.funs.mem hb
  exact I.base.free b o ho (I.ok.frf b hb) fun z=>I.ok.exfs b z hb
theorem Inv.step {g':Array GenState} {t':Nat} {d':Drawn} {ch:List Addr} (I:Inv X pins σ H s)
  (hch:∀ b∈ch,(b∈X.ex∨X.s₀.heap.objs.size≤b)∧b≠X.env.locals∧(∀ x c,X.env.cells.lookup x=some c→c≠b)∧∀ p∈X.pn++pins,p.1≠b)
  (keep:∀ b o,b≠X.env.locals→b∉X.fs→b∉ch→s.heap.get? b=some o→H b=none→h'.get? b=some o)
  (slot:∀ b o,b≠X.env.locals→b∈X.fs→b∉ch→s.heap.get? b=some o→H b=none→∃ sl,h'.get? b=some { o with slots:=sl }) (free:∀ b o,b∉ch→s.heap.get? b=some o→H b=none→H' b=none)
  (there:∀ b o,b∉ch→s.heap.get? b=some o→∃ o',h'.get? b=some o')
  (tups:∀ b xs,H b=some (.tup xs)→H' b=some (.tup xs)) (frzs:∀ b o u,H b=some (.frz o u)→H' b=some (.frz o u)) (tbls:∀ b ps,H b=some (.tbl ps)→∃ more,H' b=some (.tbl (ps++more)))
  (ns:∀ m,s.heap.Ns X.env.locals m→h'.Ns X.env.locals m) (hok:HOk X.prog X.w H' h') (hg:AllBare g') :
  Inv X pins σ H' { s with heap:=h',gens:=g',drawn:=d',toks:=t' }:=by
 have neL:∀ b o,X.s₀.heap.get? b=some o→b≠X.env.locals:=fun b o e=>Nat.ne_of_lt (Nat.lt_of_lt_of_le (Heap.lt_size e) I.ok.above)
 have neC:∀ b o,X.s₀.heap.get? b=some o→b∉X.ex→b∉ch:=fun b o e hx hb=>by
  rcases (hch b hb).1 with z | z
  ·exact hx z
  ·exact absurd (Nat.lt_of_lt_of_le (Heap.lt_size e) z) (Nat.lt_irrefl _)
 have cellK:∀ x c,X.env.cells.lookup x=some c→∀ v,s.heap.IsCell c v→h'.IsCell c v:=fun x c e v ⟨o,ho,hd⟩=>by
  have nch:c∉ch:=fun z=>(hch c z).2.2.1 x c e rfl
  by_cases hc:c∈X.fs
  ·obtain ⟨sl,q⟩:=slot c o (I.cne x c e) hc nch ho (I.freeC x c e)
   exact ⟨_,q,hd⟩
  ·exact ⟨o,keep c o (I.cne x c e) hc nch ho (I.freeC x c e),hd⟩
 refine ⟨I.ok,I.os,hg,⟨fun b o e n hb hx=>?_,fun b o e n hb hx=>?_,fun b o e n hx=>?_,fun b o e hx=>?_,fun b xs e=>tups b xs (I.base.tups b xs e),fun b o xs e=>frzs b o xs (I.base.frzs b o xs e),fun b ps e=>?_⟩,?_,fun x c e=>?_,?_,fun x c e=>?_,fun p hp=>?_,hok,I.len⟩
 ·exact keep b o (neL b o e) hb (neC b o e hx) (I.base.keep b o e n hb hx) (I.base.free b o e n hx)
 ·obtain ⟨sl,e1⟩:=I.base.slot b o e n hb hx
  obtain ⟨sl',e2⟩:=slot b _ (neL b o e) hb (neC b o e hx) e1 (I.base.free b o e n hx)
  exact ⟨sl',e2⟩
 ·obtain ⟨o',e1⟩:=I.base.there b o e hx
  exact free b o' (neC b o e hx) e1 (I.base.free b o e n hx)
 ·obtain ⟨o',e1⟩:=I.base.there b o e hx
  exact there b o' (neC b o e hx) e1
 ·obtain ⟨m1,e1⟩:=I.base.tbls b ps e
  obtain ⟨m2,e2⟩:=tbls b _ e1
  exact ⟨m1++m2,by rw [e2,Array.append_assoc]⟩
 ·obtain ⟨m,hn,hl⟩:=I.loc
  refine ⟨m,ns m hn,fun i x v e1 e2 e3=>?_⟩
  obtain ⟨u,r,l⟩:=hl i x v e1 e2 e3
  refine ⟨u,r,?_⟩
  rcases l with l | ⟨k,c,e,z⟩
  ·exact .inl l
  ·exact .inr ⟨k,c,e,cellK x c e _ z⟩
 ·obtain ⟨v,z⟩:=I.cell x c e
  exact ⟨v,cellK x c e v z⟩
 ·obtain ⟨m,⟨o,_,_,ho,_⟩,_⟩:=I.loc
  exact free _ o (fun z=>(hch _ z).2.1 rfl) ho I.free
 ·obtain ⟨v,o,ho,hd⟩:=I.cell x c e
  exact free c o (fun z=>(hch c z).2.2.1 x c e rfl) ho (I.freeC x c e)
 ·obtain ⟨e,n,ne,nf,d⟩:=I.pin p hp
  have nch:p.1∉ch:=fun z=>(hch p.1 z).2.2.2 p hp rfl
  exact ⟨keep p.1 p.2 ne nf nch e n,free p.1 p.2 nch e n,ne,nf,d⟩
theorem Inv.un {t':Nat} (I:Inv X pins σ H s) (u:Un X.fs [] H H' s.heap h') (hok:HOk X.prog X.w H' h'):Inv X pins σ H' { s with heap:=h',toks:=t' }:=by
 obtain ⟨m,⟨o,es,ep,ho,r⟩,_⟩:=id I.loc
 obtain ⟨sl,hL⟩:=u.any ho I.free (by simp)
 exact I.step (g':=s.gens) (d':=s.drawn) (ch:=[]) (fun _ z=>nomatch z) (fun b o _ hb _ e n=>u.keep b o e n hb (by simp)) (fun b o _ hb _ e n=>u.slot b o e n hb (by simp)) (fun b o _ e n=>u.free b o e n (by simp)) (fun b o _ e=>u.there b o e (by simp)) u.tups u.frzs u.tbls (fun m' hm=>by
  obtain ⟨o',es',ep',ho',r'⟩:=hm
  rw [ho] at ho'; cases ho'
  exact ⟨_,es',ep',hL,r'⟩) hok I.bare
theorem Inv.call {g':Array GenState} {t':Nat} {d':Drawn} {ch:List Addr} (I:Inv X pins σ H s) (u:Un (frs X.stack) ch H H' s.heap h') (hok:HOk X.prog X.w H' h') (hg:AllBare g')
  (hch:∀ b∈ch,(b∈X.ex∨X.s₀.heap.objs.size≤b)∧b≠X.env.locals∧(∀ x c,X.env.cells.lookup x=some c→c≠b)∧∀ p∈X.pn++pins,p.1≠b) :
  Inv X pins σ H' { s with heap:=h',gens:=g',drawn:=d',toks:=t' }:=by
 obtain ⟨m,⟨o,es,ep,ho,r⟩,_⟩:=id I.loc
 obtain ⟨sl,hL⟩:=u.any ho I.free fun z=>(hch _ z).2.1 rfl
 exact I.step (ch:=ch) hch (fun b o hL hb hc e n=>u.keep b o e n (fun z=>(List.mem_cons.mp (I.stkSub b z)).elim hL hb) hc) (fun b o _ _ hc e n=>u.any e n hc) (fun b o hc e n=>u.free b o e n hc) (fun b o hc e=>u.there b o e hc) u.tups u.frzs u.tbls (fun m' hm=>by
  obtain ⟨o',es',ep',ho',r'⟩:=hm
  rw [ho] at ho'; cases ho'
  exact ⟨_,es',ep',hL,r'⟩) hok hg
theorem Inv.turned {t':Nat} {it:Addr} (I:Inv X pins σ H s) (k:∀ b o,b≠it→s.heap.get? b=some o→h'.get? b=some o) (hn:H it=none) (hL:it≠X.env.locals)
  (h1:it∈X.ex∨X.s₀.heap.objs.size≤it) (h2:∀ x c,X.env.cells.lookup x=some c→c≠it) (h3:∀ p∈X.pn++pins,p.1≠it):Inv X pins σ H { s with heap:=h',toks:=t' }:=by
 have nit:∀ b u,H b=some u→b≠it:=fun b u e z=>by rw [z,hn] at e; cases e
 refine I.step (g':=s.gens) (d':=s.drawn) (ch:=[it]) (fun b hb=>?_) (fun b o _ _ hc e _=>k b o (fun z=>hc (by simp [z])) e) (fun b o _ _ hc e _=>⟨o.slots,k b o (fun z=>hc (by simp [z])) e⟩) (fun _ _ _ _ n=>n)
  (fun b o hc e=>⟨o,k b o (fun z=>hc (by simp [z])) e⟩) (fun _ _ e=>e) (fun _ _ _ e=>e) (fun b ps e=>⟨#[],by rw [e]; simp⟩) (fun m hm=>?_) (fun b u e=>?_) I.bare
 ·have e:b=it:=by simpa using hb
  subst e
  exact ⟨h1,hL,h2,h3⟩
 ·obtain ⟨o,es,ep,ho,r⟩:=hm
  exact ⟨o,es,ep,k _ o (Ne.symm hL) ho,r⟩
 ·refine (I.hok b u e).stay (fun c v hc q=>k c v ?_ q) (fun _ q=>q) fun _ _ q=>q
  rcases hc with z | z
  ·rw [z]; exact nit b u e
  ·exact nit c _ z
theorem Inv.tok (I:Inv X pins σ H s) (t:Nat):Inv X pins σ H { s with toks:=t }:=I.un (h':=s.heap) (t':=t) Un.refl I.hok
theorem Inv.kept {t':Nat} (I:Inv X pins σ H s) (k:∀ b u,s.heap.get? b=some u→h'.get? b=some u):Inv X pins σ H { s with heap:=h',toks:=t' }:=I.un (Un.kept k) (I.hok.kept k)
theorem Inv.laid {a:Addr} {o:HO} {t':Nat} (I:Inv X pins σ H s) (k:∀ b u,s.heap.get? b=some u→h'.get? b=some u) (hp:s.heap.objs.size≤a) (new:ObjOk X.prog X.w (upd H a o) h' a o) :
  Inv X pins σ (upd H a o) { s with heap:=h',toks:=t' }:=I.un (Un.laid k hp (I.hok.fresh hp)) (I.hok.laid k hp new)
theorem Inv.write {x e:Addr} {o:HO} {t':Nat} (I:Inv X pins σ H s) (mu:Mut (H x)) (he:e=x∨H e=some (.own x)) (k:∀ b u,b≠e→s.heap.get? b=some u→h'.get? b=some u) (heo:∃ u,h'.get? e=some u)
  (new:ObjOk X.prog X.w (upd H x o) h' x o):Inv X pins σ (upd H x o) { s with heap:=h',toks:=t' }:=I.un (Un.write mu he k heo) (I.hok.write mu he k heo new)
theorem Inv.pins_of {pins':List (Addr×Obj)} (I:Inv X pins σ H s) (h:∀ p∈pins',s.heap.get? p.1=some p.2∧H p.1=none∧p.1≠X.env.locals∧p.1∉X.fs∧∀ v,p.2.data≠.cell v):Inv X pins' σ H s:=⟨I.ok,I.os,I.bare,I.base,I.loc,I.cell,I.free,I.freeC,fun p hp=>(List.mem_append.mp hp).elim (fun z=>I.pin p (List.mem_append_left _ z)) (h p),I.hok,I.len⟩
theorem lY {N:List Str} (hN:N.Nodup) {i j:Nat} {x:Str} (a:N[i]? = some x) (b:N[j]? = some x):i=j:=by
 obtain ⟨h1,e1⟩:=List.getElem?_eq_some_iff.mp a
 obtain ⟨h2,e2⟩:=List.getElem?_eq_some_iff.mp b
 exact (List.getElem_inj hN).mp (e1.trans e2.symm)
theorem xS {M:Model} {A:Around} {E:Value→Shared→Prop} {i:Nat} {x:Str} {v:V} {u:Value} {Q:Unit→Shared→Prop} (I:Inv X pins σ H s) (hN:X.N.Nodup) (hi:X.N[i]? = some x) (hx:Loc X.env.scope x) (r:RelV v u)
  (h:∀ s',Inv X pins (σ.set i (some v)) H s'→(∃ a,Heap.SameBut a s.heap s'.heap∧(a=X.env.locals∨X.env.cells.lookup x=some a))→Q () s') (hf:X.fn x=true∨X.env.scope.names.lookup x=some .local:=by first | exact .inl rfl | exact .inr rfl | assumption):wpAny M A (storeName X.env x u) Q E s:=by
 obtain ⟨m,hn,hl⟩:=id I.loc
 have hcls:(X.env.scope.kind == .class || (X.env.scope.kind == .module && X.env.locals != X.env.globals))=false:=by rw [I.ok.kind]; rfl
 have hiσ:i < σ.length:=by rw [I.len]; exact (List.getElem?_eq_some_iff.mp hi).1
 have cne:=I.cne
 have tracked:∀ {a:Addr} {h':Heap},(∃ o,s.heap.get? a=some o∧H a=none)→Heap.SameBut a s.heap h'→HOk X.prog X.w H h':=fun {a h'} ha hs b ob e=>by
  obtain ⟨_,_,hfree⟩:=ha
  refine (I.hok b ob e).stay (fun c w' hc q=>(hs.2 c ?_).trans q) (fun _ q=>q) fun _ _ q=>q
  rintro rfl
  rcases hc with rfl | hc
  ·rw [hfree] at e; cases e
  ·rw [hfree] at hc; cases hc
 rcases hx with hk | hk
 ·refine wpAny_storeName_local hk hn (fun h' hn' hs=>?_) hcls
  obtain ⟨oL,_,_,hoL,_⟩:=id hn
  refine h _ ⟨I.ok,I.os,I.bare,⟨fun b o e n hb hx=>?_,fun b o e n hb hx=>?_,I.base.free,fun b o e hx=>?_,I.base.tups,I.base.frzs,I.base.tbls⟩,⟨_,hn',fun j y v' e1 e2 e3=>?_⟩,fun y c e=>?_,I.free,I.freeC,fun p hp=>?_,tracked ⟨oL,hoL,I.free⟩ hs,by simpa using I.len⟩ ⟨_,hs,.inl rfl⟩
  ·exact (hs.2 b (Nat.ne_of_lt (Nat.lt_of_lt_of_le (Heap.lt_size e) I.ok.above))).trans (I.base.keep b o e n hb hx)
  ·obtain ⟨sl,e1⟩:=I.base.slot b o e n hb hx
   exact ⟨sl,(hs.2 b (Nat.ne_of_lt (Nat.lt_of_lt_of_le (Heap.lt_size e) I.ok.above))).trans e1⟩
  ·obtain ⟨o',e1⟩:=I.base.there b o e hx
   exact ⟨o',(hs.2 b (Nat.ne_of_lt (Nat.lt_of_lt_of_le (Heap.lt_size e) I.ok.above))).trans e1⟩
  ·by_cases hj:j=i
   ·subst hj
    rw [hi] at e1; cases e1
    rw [List.getElem?_set_self hiσ] at e2
    cases e2
    exact ⟨u,r,.inl ⟨hk,by simp⟩⟩
   ·rw [List.getElem?_set_ne (Ne.symm hj)] at e2
    obtain ⟨u',r',q⟩:=hl j y v' e1 e2 e3
    refine ⟨u',r',?_⟩
    rcases q with ⟨k,e⟩ | ⟨k,c,e,z⟩
    ·refine .inl ⟨k,?_⟩
     have:y≠x:=fun e=>hj (lY hN e1 (e ▸ hi))
     simp [this,e]
    ·exact .inr ⟨k,c,e,z.sameBut hs (cne y c e)⟩
  ·obtain ⟨w',z⟩:=I.cell y c e
   exact ⟨w',z.sameBut hs (cne y c e)⟩
  ·obtain ⟨e,n,ne,nf,d⟩:=I.pin p hp
   exact ⟨(hs.2 p.1 ne).trans e,n,ne,nf,d⟩
 ·have hfn:X.fn x=true:=by
   rcases hf with z | z
   ·exact z
   ·rw [z] at hk; cases hk
  obtain ⟨c,hc⟩:=I.ok.has x (.inl hk)
  obtain ⟨w',z⟩:=I.cell x c hc
  refine wpAny_storeName_cell I.ok.kind hk hc z (fun h' hc' hs=>?_)
  obtain ⟨oc,hoc,hocd⟩:=id z
  refine h { s with heap:=h' } ⟨I.ok,I.os,I.bare,⟨fun b o e n hb hx=>?_,fun b o e n hb hx=>?_,I.base.free,fun b o e hx=>?_,I.base.tups,I.base.frzs,I.base.tbls⟩,⟨m,hn.sameBut hs (Ne.symm (cne x c hc)),fun j y v' e1 e2 e3=>?_⟩,fun y c' e=>?_,I.free,I.freeC,fun p hp=>?_,tracked ⟨oc,hoc,I.freeC x c hc⟩ hs,by simpa using I.len⟩ ⟨c,hs,.inr hc⟩
  ·exact (hs.2 b (Nat.ne_of_lt (Nat.lt_of_lt_of_le (Heap.lt_size e) (I.ok.cab x c hfn hc)))).trans (I.base.keep b o e n hb hx)
  ·obtain ⟨sl,e1⟩:=I.base.slot b o e n hb hx
   exact ⟨sl,(hs.2 b (Nat.ne_of_lt (Nat.lt_of_lt_of_le (Heap.lt_size e) (I.ok.cab x c hfn hc)))).trans e1⟩
  ·obtain ⟨o',e1⟩:=I.base.there b o e hx
   exact ⟨o',(hs.2 b (Nat.ne_of_lt (Nat.lt_of_lt_of_le (Heap.lt_size e) (I.ok.cab x c hfn hc)))).trans e1⟩
  ·by_cases hj:j=i
   ·subst hj
    rw [hi] at e1; cases e1
    rw [List.getElem?_set_self hiσ] at e2
    cases e2
    exact ⟨u,r,.inr ⟨.inl hk,c,hc,hc'⟩⟩
   ·rw [List.getElem?_set_ne (Ne.symm hj)] at e2
    obtain ⟨u',r',q⟩:=hl j y v' e1 e2 e3
    refine ⟨u',r',?_⟩
    rcases q with q | ⟨k,c',e,z'⟩
    ·exact .inl q
    ·refine .inr ⟨k,c',e,z'.sameBut hs ?_⟩
     rintro rfl
     exact hj (lY hN e1 (I.ok.inj _ _ _ e hc ▸ hi))
  ·by_cases hcc:c'=c
   ·subst hcc; exact ⟨_,hc'⟩
   ·obtain ⟨w2,z2⟩:=I.cell y c' e
    exact ⟨w2,z2.sameBut hs hcc⟩
  ·obtain ⟨e,n,ne,nf,d⟩:=I.pin p hp
   refine ⟨(hs.2 p.1 ?_).trans e,n,ne,nf,d⟩
   intro q
   rw [q,hoc] at e
   have q':oc=p.2:=Option.some.inj e
   exact d w' (by rw [← q']; exact hocd)
theorem jL {M:Model} {A:Around} {E:Value→Shared→Prop} {i:Nat} {x:Str} {v:V} {u:Value} {Q:Unit→Shared→Prop} (I:Inv X pins σ H s) (hN:X.N.Nodup) (hi:X.N[i]? = some x) (hx:Loc X.env.scope x) (r:RelV v u)
  (h:∀ s',Inv X pins (σ.set i (some v)) H s'→Q () s') (hf:X.fn x=true∨X.env.scope.names.lookup x=some .local:=by first | exact .inl rfl | exact .inr rfl | assumption):wpAny M A (storeName X.env x u) Q E s:=xS I hN hi hx r (fun s' I' _=>h s' I') hf
theorem Inv.call' {s':Shared} {ch:List Addr} (I:Inv X pins σ H s) (ho:s'.os=s.os) (u:Un (frs X.stack) ch H H' s.heap s'.heap) (hok:HOk X.prog X.w H' s'.heap) (hg:AllBare s'.gens)
  (hch:∀ b∈ch,(b∈X.ex∨X.s₀.heap.objs.size≤b)∧b≠X.env.locals∧(∀ x c,X.env.cells.lookup x=some c→c≠b)∧∀ p∈X.pn++pins,p.1≠b):Inv X pins σ H' s':=by
 obtain ⟨h',g',d',t',o'⟩:=s'
 have e:o'=s.os:=ho
 subst e
 exact I.call (g':=g') (t':=t') (d':=d') u hok hg hch
end
abbrev XK:=Value→Option Addr→Hp→Prop
abbrev St:=List (Option V)
abbrev VK:=V→Hp→Prop
abbrev TE:=St→Hp→VK→Prop
abbrev TT:=St→Hp→(Bool→Hp→Prop)→Prop
abbrev TA:=St→Hp→(List V→Hp→Prop)→Prop
structure Ends where
 nx:St→Hp→Prop
 rt:VK
 bk:St→Hp→Prop:=fun _ _=>False
 ct:St→Hp→Prop:=fun _ _=>False
abbrev TS:=Ends→St→Hp→Prop
def EP (X:Cx) (pins:List (Addr×Obj)) (σ:St) (Q:VK) (u:Value) (s':Shared):Prop:=∃ v H',Inv X pins σ H' s'∧RelV v u∧Q v H'
def TP (X:Cx) (pins:List (Addr×Obj)) (σ:St) (Q:Bool→Hp→Prop) (b:Bool) (s':Shared):Prop:=∃ H',Inv X pins σ H' s'∧Q b H'
def AP (X:Cx) (pins:List (Addr×Obj)) (σ:St) (Q:List V→Hp→Prop) (us:List Value) (s':Shared):Prop:=∃ vs H',Inv X pins σ H' s'∧Vals vs us∧Q vs H'
def SP (X:Cx) (pins:List (Addr×Obj)) (D:Ends) (f:Flow) (s':Shared):Prop:=
 match f with
 | .next=>∃ σ' H',Inv X pins σ' H' s'∧D.nx σ' H'
 | .brk=>∃ σ' H',Inv X pins σ' H' s'∧D.bk σ' H'
 | .cont=>∃ σ' H',Inv X pins σ' H' s'∧D.ct σ' H'
 | .ret u=>∃ v σ' H',Inv X pins σ' H' s'∧RelV v u∧D.rt v H'
def PE (X:Cx) (e:Expr) (t:TE):Prop:=∀ (pins:List (Addr×Obj)) (s:Shared) (σ:St) (H:Hp) (Q:VK),Inv X pins σ H s→t σ H Q→wpAny (model X.prog X.w) X.A (eval e X.env) (EP X pins σ Q) X.xe s
def PT (X:Cx) (e:Expr) (t:TT):Prop:=∀ (pins:List (Addr×Obj)) (s:Shared) (σ:St) (H:Hp) (Q:Bool→Hp→Prop),Inv X pins σ H s→t σ H Q→wpAny (model X.prog X.w) X.A (isTrue e X.env (eval e X.env)) (TP X pins σ Q) X.xe s
def PW (X:Cx) (e:Expr) (t:TT):Prop:=∀ (whole:Sem Value) (pins:List (Addr×Obj)) (s:Shared) (σ:St) (H:Hp) (Q:Bool→Hp→Prop),Inv X pins σ H s→t σ H Q→wpAny (model X.prog X.w) X.A (isTrue e X.env whole) (TP X pins σ Q) X.xe s
theorem PW.pt {X:Cx} {e:Expr} {t:TT} (h:PW X e t):PT X e t:=h _
def PA (X:Cx) (es:List Expr) (t:TA):Prop:=∀ (pos:Pos) (pins:List (Addr×Obj)) (s:Shared) (σ:St) (H:Hp) (Q:List V→Hp→Prop),Inv X pins σ H s→t σ H Q→wpAny (model X.prog X.w) X.A (spliced (backTo pos (starEach es X.env))) (AP X pins σ Q) X.xe s
def PS (X:Cx) (st:Stmt) (t:TS):Prop:=∀ (pins:List (Addr×Obj)) (s:Shared) (σ:St) (H:Hp) (D:Ends),Inv X pins σ H s→t D σ H→wpAny (model X.prog X.w) X.A (exec st X.env) (SP X pins D) X.xe s
def PSs (X:Cx) (st:List Stmt) (t:TS):Prop:=∀ (pins:List (Addr×Obj)) (s:Shared) (σ:St) (H:Hp) (D:Ends),Inv X pins σ H s→t D σ H→wpAny (model X.prog X.w) X.A (execs st X.env) (SP X pins D) X.xe s
theorem thn {α:Type} {t:Sem α} {Q Q':α→Shared→Prop} {M:Model} {A:Around} {E:Value→Shared→Prop} {s:Shared} (h:wpAny M A t Q E s) (hQ:∀ a s,Q a s→Q' a s):wpAny M A t Q' E s:=wpAny_mono h hQ fun _ _ x=>x
section
variable {X:Cx}
def dJ (i:Nat):TE:=fun σ H Q=>∃ v,σ[i]? = some (some v)∧Q v H
def tC (v:V):TE:=fun _ H Q=>Q v H
theorem BB {i:Nat} {x:Str} {pos:Pos} (hN:X.N[i]? = some x) (hv:Vis X.env.scope x) (hd:(x == ("__debug__" : Str))=false:=by decide) (hcd:(x == ("__classdict__" : Str))=false:=by decide):PE X (.Name x pos) (dJ i):=by
 intro pins s σ H Q I h
 obtain ⟨v,e,h⟩:=h
 obtain ⟨m,hn,hl⟩:=I.loc
 obtain ⟨u,r,l⟩:=hl i x v hN e hv
 have fin:EP X pins σ Q u s:=⟨v,H,I,r,h⟩
 rcases l with ⟨hk,hm⟩ | ⟨hk,c,hc,hcell⟩
 ·exact wpAny_Name (wpAny_loadName_local I.ok.kind hk hn hm fin) hd
 ·rcases hk with hk | hk
  ·exact wpAny_Name (wpAny_loadName_cell I.ok.kind hk hc hcell fin) hd
  ·exact wpAny_Name (wpAny_loadName_free I.ok.kind hk hc hcell fin hcd) hd
theorem BE {i j pos}:PE X (.Constant (.int i) j pos) (tC (.int i)):=fun _ _ _ H _ I h=>wpAny_Constant_int ⟨.int i,H,I.tok _,⟨_,rfl⟩,h⟩
theorem C2 {b j pos}:PE X (.Constant (.bool b) j pos) (tC (.bl b)):=fun _ _ _ H _ I h=>Constant_bool ⟨.bl b,H,I,rfl,h⟩
theorem BD {j pos}:PE X (.Constant .none j pos) (tC .non):=fun _ _ _ H _ I h=>Constant_none ⟨.non,H,I,rfl,h⟩
theorem BC {x j pos}:PE X (.Constant (.str x) j pos) (tC (.str x)):=fun _ _ _ H _ I h=>Calls.Constant_str ⟨.str x,H,I.tok _,⟨_,rfl⟩,h⟩
def Gl (X:Cx) (x:Str):Prop:=X.env.kindOf x=some .globalImplicit
theorem ig {E:Value→Shared→Prop} {pins:List (Addr×Obj)} {s:Shared} {σ:St} {H:Hp} {x:Str} {u:Value} {pos:Pos} {Q:Value→Shared→Prop} (I:Inv X pins σ H s) (hg:Gl X x) (hm:X.mg x=some u) (h:Q u s)
  (hd:(x == ("__debug__" : Str))=false:=by decide):wpAny (model X.prog X.w) X.A (eval (.Name x pos) X.env) Q E s:=Calls.Name_function_global I.ok.kind hg (Calls.loadGlobal_global (by rw [I.ok.glob]; exact I.mod.glob.keeps I.bk) hm h) hd
theorem kl {E:Value→Shared→Prop} {pins:List (Addr×Obj)} {s:Shared} {σ:St} {H:Hp} {x:Str} {u:Value} {pos:Pos} {Q:Value→Shared→Prop} (I:Inv X pins σ H s) (hg:Gl X x) (hm:X.mg x=none) (hv:bootBuiltins x=some u) (h:Q u s)
  (hn:x≠"__name__":=by decide) (hd:(x == ("__debug__" : Str))=false:=by decide):wpAny (model X.prog X.w) X.A (eval (.Name x pos) X.env) Q E s:=by
 obtain ⟨mb,h1,h2⟩:=I.mod.blt
 exact Calls.Name_function_global I.ok.kind hg (Calls.loadGlobal_builtin (by rw [I.ok.glob]; exact I.mod.glob.keeps I.bk) hm (by rw [I.ok.blt]; exact h1.keeps I.bk) ((h2 x hn).trans hv) h) hd
theorem gC {x:Str} {v:V} {u:Value} {pos:Pos} (hg:Gl X x) (hm:X.mg x=some u) (r:RelV v u) (hd:(x == ("__debug__" : Str))=false:=by decide):PE X (.Name x pos) (tC v):=fun _ _ _ H _ I h=>ig I hg hm ⟨v,H,I,r,h⟩ hd
theorem jY {x:Str} {v:V} {u:Value} {pos:Pos} (hg:Gl X x) (hm:X.mg x=none) (hv:bootBuiltins x=some u) (r:RelV v u) (hn:x≠"__name__":=by decide) (hd:(x == ("__debug__" : Str))=false:=by decide):PE X (.Name x pos) (tC v):=fun _ _ _ H _ I h=>kl I hg hm hv ⟨v,H,I,r,h⟩ hn hd
variable {a b:Expr} {ta tb:TE} {pos:Pos}
variable {tA tB':TT} {rest:List Expr}
def DU (t u:TT):TT:=fun σ H Q=>t σ H fun c H1=>if c=true then u σ H1 Q else Q false H1
def tOr (t u:TT):TT:=fun σ H Q=>t σ H fun c H1=>if c=true then Q true H1 else u σ H1 Q
def DM (t:TT):TT:=fun σ H Q=>t σ H fun c H1=>Q (!c) H1
theorem Ac (ha:PT X a tA):PW X (.BoolOp .And [a] pos) tA:=by
 intro wh pins s σ H Q I h
 refine isTrue_and (thn (ha pins s σ H Q I h) fun c s1 e=>?_)
 cases c with
 | true=>exact isTrue_and_nil e
 | false=>exact e
theorem Bu (ha:PT X a tA):PW X (.BoolOp .Or [a] pos) tA:=by
 intro wh pins s σ H Q I h
 refine isTrue_or (thn (ha pins s σ H Q I h) fun c s1 e=>?_)
 cases c with
 | false=>exact isTrue_or_nil e
 | true=>exact e
theorem Bv (ha:PT X a tA) (hb:PW X (.BoolOp .And (b::rest) pos) tB'):PW X (.BoolOp .And (a::b::rest) pos) (DU tA tB'):=by
 intro wh pins s σ H Q I h
 refine isTrue_and (thn (ha pins s σ H _ I h) fun c s1 ⟨H1,I1,q1⟩=>?_)
 cases c with
 | true=>exact hb wh pins s1 σ H1 Q I1 q1
 | false=>exact ⟨H1,I1,q1⟩
theorem CO (ha:PT X a tA) (hb:PW X (.BoolOp .Or (b::rest) pos) tB'):PW X (.BoolOp .Or (a::b::rest) pos) (tOr tA tB'):=by
 intro wh pins s σ H Q I h
 refine isTrue_or (thn (ha pins s σ H _ I h) fun c s1 ⟨H1,I1,q1⟩=>?_)
 cases c with
 | true=>exact ⟨H1,I1,q1⟩
 | false=>exact hb wh pins s1 σ H1 Q I1 q1
theorem Bw (ha:PT X a tA):PT X (.UnaryOp .Not a pos) (DM tA):=by
 intro pins s σ H Q I h
 exact isTrue_not (ha pins s σ H (fun c H1=>Q (!c) H1) I h)
def CH (ta tb:TE):TE:=fun σ H Q=>ta σ H fun x H1=>∃ c,x=.bl c∧if c=true then tb σ H1 Q else Q (.bl false) H1
def DL (ta tb:TE):TE:=fun σ H Q=>ta σ H fun x H1=>∃ c,x=.bl c∧if c=true then Q (.bl true) H1 else tb σ H1 Q
def CD (ta:TE):TE:=fun σ H Q=>ta σ H fun x H1=>∃ c,x=.bl c∧Q (.bl (!c)) H1
theorem mT {op} {t:TE} (h:PE X a t):PE X (.BoolOp op [a] pos) t:=fun pins s σ H Q I hw=>BoolOp_one (h pins s σ H Q I hw)
theorem r6 (ha:PE X a ta) (hb:PE X (.BoolOp .And (b::rest) pos) tb):PE X (.BoolOp .And (a::b::rest) pos) (CH ta tb):=by
 intro pins s σ H Q I h
 refine BoolOp_and (thn (ha pins s σ H _ I h) fun v s1 ⟨x,H1,I1,r1,q1⟩=>?_)
 obtain ⟨c,rfl,q1⟩:=q1
 cases r1
 refine wpAny_truthy_bool ?_
 cases c with
 | true=>exact hb pins s1 σ H1 Q I1 q1
 | false=>exact ⟨.bl false,H1,I1,rfl,q1⟩
theorem CV (ha:PE X a ta) (hb:PE X (.BoolOp .Or (b::rest) pos) tb):PE X (.BoolOp .Or (a::b::rest) pos) (DL ta tb):=by
 intro pins s σ H Q I h
 refine BoolOp_or (thn (ha pins s σ H _ I h) fun v s1 ⟨x,H1,I1,r1,q1⟩=>?_)
 obtain ⟨c,rfl,q1⟩:=q1
 cases r1
 refine wpAny_truthy_bool ?_
 cases c with
 | false=>exact hb pins s1 σ H1 Q I1 q1
 | true=>exact ⟨.bl true,H1,I1,rfl,q1⟩
theorem rY (ha:PE X a ta):PE X (.UnaryOp .Not a pos) (CD ta):=by
 intro pins s σ H Q I h
 refine UnaryOp_ (thn (ha pins s σ H _ I h) fun v s1 ⟨x,H1,I1,r1,q1⟩=>?_)
 obtain ⟨c,rfl,q1⟩:=q1
 cases r1
 exact not_of (wpAny_truthy_bool ⟨.bl (!c),H1,I1,rfl,q1⟩)
def tIf (t:TT) (ta tb:TE):TE:=fun σ H Q=>t σ H fun c H1=>if c=true then ta σ H1 Q else tb σ H1 Q
theorem y9 {c:Expr} (hc:PT X c tA) (ha:PE X a ta) (hb:PE X b tb):PE X (.IfExp c a b pos) (tIf tA ta tb):=by
 intro pins s σ H Q I h
 refine wpAny_IfExp (thn (hc pins s σ H _ I h) fun d s1 ⟨H1,I1,q1⟩=>?_)
 cases d with
 | true=>exact ha pins s1 σ H1 Q I1 q1
 | false=>exact hb pins s1 σ H1 Q I1 q1
end
def SqL (K:Frag) (H:Hp) (a:Addr) (xs:List V):Prop:=
 Rd H a (.lst xs) ∨
  ∃ (o:Obj) (its:Array Value) (n:Nat),K.lookup a=some o∧o.cls=.type "list"∧o.dict=none∧o.data=.seq its n∧its.size≤sizeLine∧Vals xs its.toList
def SqT (K:Frag) (H:Hp) (a:Addr) (xs:List V):Prop:=
 Rd H a (.tup xs) ∨
  ∃ (o:Obj) (its:Array Value) (n:Nat),K.lookup a=some o∧o.cls=.type "tuple"∧o.data=.seq its n∧its.size≤sizeLine∧Vals xs its.toList
def Eh:Value→Option V
 | .none=>some .non
 | .bool b=>some (.bl b)
 | .int i _=>some (.int i)
 | .str x _=>some (.str x)
 | .bytes b _=>some (.byt b)
 | .float b _=>some (.flt b)
 | .ref a=>some (.ref a)
 | .type n=>some (.ty n)
 | _=>none
theorem RelV.abs {x:V} {u:Value} (r:RelV x u):Eh u=some x:=by
 cases x with
 | non=>cases r; rfl
 | bl _=>cases r; rfl
 | int _=>obtain ⟨t,rfl⟩:=r; rfl
 | str _=>obtain ⟨t,rfl⟩:=r; rfl
 | byt _=>obtain ⟨t,rfl⟩:=r; rfl
 | flt _=>obtain ⟨t,rfl⟩:=r; rfl
 | ref _=>cases r; rfl
 | ty _=>cases r; rfl
theorem RelV.inj {x y:V} {u:Value} (r:RelV x u) (q:RelV y u):x=y:=Option.some.inj (r.abs.symm.trans q.abs)
theorem Vals.inj:∀ {xs ys:List V} {us:List Value},Vals xs us→Vals ys us→xs=ys
 | _,_,_,.nil,.nil=>rfl
 | _,_,_,.cons r t,.cons r' t'=>by rw [r.inj r',Vals.inj t t']
section
variable {X:Cx} {pins:List (Addr×Obj)} {σ:St} {H:Hp} {s:Shared} {a:Addr} {xs ys:List V}
theorem SqL.of {K:Frag} (h:H a=some (.lst xs)):SqL K H a xs:=.inl (.inl h)
theorem SqT.of {K:Frag} (h:H a=some (.tup xs)):SqT K H a xs:=.inl (.inl h)
theorem Inv.list (I:Inv X pins σ H s) (h:SqL X.K H a xs):∃ its:List Value,Vals xs its∧PlainL s.heap a its.toArray∧xs.length≤sizeLine:=by
 rcases h with h | ⟨o,its,n,hk,hc,hd,hs,hz,r⟩
 ·obtain ⟨z,its,n,r,e⟩:=h.ok I.hok
  exact ⟨its,r,⟨_,n,e,rfl,rfl,rfl⟩,z⟩
 ·refine ⟨its.toList,r,⟨o,n,I.kIn a o hk,hc,hd,by simpa using hs⟩,?_⟩
  have e:=r.length
  simp only [Array.length_toList] at e
  omega
theorem Inv.tuple (I:Inv X pins σ H s) (h:SqT X.K H a xs):∃ its:List Value,Vals xs its∧IsTup s.heap a its.toArray∧xs.length≤sizeLine:=by
 rcases h with h | ⟨o,its,n,hk,hc,hs,hz,r⟩
 ·obtain ⟨z,its,r,p⟩:=h.ok I.hok
  exact ⟨its,r,p,z⟩
 ·refine ⟨its.toList,r,⟨o,I.kIn a o hk,hc,n,by simpa using hs⟩,?_⟩
  have e:=r.length
  simp only [Array.length_toList] at e
  omega
theorem Inv.list_inj (I:Inv X pins σ H s) (h:SqL X.K H a xs) (h':SqL X.K H a ys):xs=ys:=by
 obtain ⟨its,r,⟨o,n,e,_,_,d⟩,_⟩:=I.list h
 obtain ⟨its',r',⟨o',n',e',_,_,d'⟩,_⟩:=I.list h'
 rw [e] at e'; cases e'
 rw [d] at d'
 injection d' with d1 _
 have:its=its':=by simpa using congrArg Array.toList d1
 subst this
 exact r.inj r'
theorem Inv.tuple_inj (I:Inv X pins σ H s) (h:SqT X.K H a xs) (h':SqT X.K H a ys):xs=ys:=by
 obtain ⟨its,r,⟨o,e,_,n,d⟩,_⟩:=I.tuple h
 obtain ⟨its',r',⟨o',e',_,n',d'⟩,_⟩:=I.tuple h'
 rw [e] at e'; cases e'
 rw [d] at d'
 injection d' with d1 _
 have:its=its':=by simpa using congrArg Array.toList d1
 subst this
 exact r.inj r'
end
abbrev Cx.wish (X:Cx) (E:Value→Shared→Prop):Cx:={ X with xe:=E }
abbrev Cx.nox (X:Cx):Cx:=X.wish fun _ _=>False
theorem Cx.Ok.wish {X:Cx} (ok:X.Ok) (E:Value→Shared→Prop):(X.wish E).Ok:=⟨ok.mod,ok.kind,ok.glob,ok.blt,ok.above,ok.inj,ok.has,ok.cab,ok.hd,ok.frames,ok.stk,ok.exf,ok.bs,ok.bsz,ok.noex,ok.exfs,ok.funs,ok.frf⟩
theorem Cx.Ok.unwish {X:Cx} {E:Value→Shared→Prop} (ok:(X.wish E).Ok):X.Ok:=⟨ok.mod,ok.kind,ok.glob,ok.blt,ok.above,ok.inj,ok.has,ok.cab,ok.hd,ok.frames,ok.stk,ok.exf,ok.bs,ok.bsz,ok.noex,ok.exfs,ok.funs,ok.frf⟩
section
variable {X:Cx} {pins:List (Addr×Obj)} {σ:St} {H:Hp} {s:Shared} {E:Value→Shared→Prop}
theorem Inv.wish (I:Inv X pins σ H s) (E:Value→Shared→Prop):Inv (X.wish E) pins σ H s:=⟨I.ok.wish E,I.os,I.bare,I.base,I.loc,I.cell,I.free,I.freeC,I.pin,I.hok,I.len⟩
theorem Inv.unwish (I:Inv (X.wish E) pins σ H s):Inv X pins σ H s:=⟨I.ok.unwish,I.os,I.bare,I.base,I.loc,I.cell,I.free,I.freeC,I.pin,I.hok,I.len⟩
theorem SP.unwish {D:Ends} {f:Flow} {s':Shared} (h:SP (X.wish E) pins D f s'):SP X pins D f s':=by
 cases f with
 | next=>obtain ⟨σ',H',I,q⟩:=h; exact ⟨σ',H',I.unwish,q⟩
 | brk=>obtain ⟨σ',H',I,q⟩:=h; exact ⟨σ',H',I.unwish,q⟩
 | cont=>obtain ⟨σ',H',I,q⟩:=h; exact ⟨σ',H',I.unwish,q⟩
 | ret u=>obtain ⟨v,σ',H',I,r,q⟩:=h; exact ⟨v,σ',H',I.unwish,r,q⟩
theorem PSs.nox {st:List Stmt} {t:TS} (h:PSs X.nox st t):PSs X st t:=fun pins s σ H D I hw=>
 wpAny_mono (h pins s σ H D (I.wish _) hw) (fun _ _ q=>q.unwish) fun _ _ z=>False.elim z
end
section
variable {X:Cx} {st:Stmt} {rest:List Stmt} {t u:TS} {e:Expr} {te:TE} {pos:Pos}
def CF:TS:=fun D σ H=>D.nx σ H
def ur (t u:TS):TS:=fun D σ H=>t { D with nx:=u D } σ H
theorem qy:PSs X [] CF:=fun _ _ σ H _ I h=>wpAny_execs_nil ⟨σ,H,I,h⟩
theorem gy (h1:PS X st t) (h2:PSs X rest u):PSs X (st::rest) (ur t u):=by
 intro pins s σ H D I h
 refine wpAny_execs_cons (thn (h1 pins s σ H { D with nx:=u D } I h) fun f s1 q=>?_)
 cases f with
 | next=>
  obtain ⟨σ',H',I',q⟩:=q
  exact h2 pins s1 σ' H' D I' q
 | ret v=>exact q
 | brk=>exact q
 | cont=>exact q
theorem ic (h1:PS X st t):PSs X [st] t:=by
 intro pins s σ H D I h
 refine wpAny_execs_cons (thn (h1 pins s σ H D I h) fun f s1 q=>?_)
 cases f with
 | next=>exact wpAny_execs_nil q
 | ret v=>exact q
 | brk=>exact q
 | cont=>exact q
theorem Inv.quiet {pins:List (Addr×Obj)} {σ:St} {H:Hp} {s:Shared} (I:Inv X pins σ H s):interactive X.env=false:=by simp [interactive,I.ok.kind]
def tj (te:TE):TS:=fun D σ H=>te σ H fun _ H1=>D.nx σ H1
theorem qz (he:PE X e te) (hs:swapsWith e none pos.line X.env=pure false:=by rfl):PS X (.Expr e pos) (tj te):=by
 intro pins s σ H D I h
 exact wpAny_Expr_any (thn (he pins s σ H _ I h) fun v s1 ⟨x,H1,I1,r1,q1⟩=>⟨σ,H1,I1,q1⟩) I.quiet hs
def DK (te:TE):TS:=fun D σ H=>te σ H D.rt
theorem mP (he:PE X e te):PS X (.Return (some e) pos) (DK te):=by
 intro pins s σ H D I h
 exact wpAny_Return_some (thn (he pins s σ H _ I h) fun v s1 ⟨x,H1,I1,r1,q1⟩=>⟨x,σ,H1,I1,r1,q1⟩)
def DQ (c:TT) (t u:TS):TS:=fun D σ H=>c σ H fun b H1=>if b=true then t D σ H1 else u D σ H1
theorem tD {c:Expr} {a b:List Stmt} {tc:TT} (hc:PT X c tc) (ha:PSs X a t) (hb:PSs X b u):PS X (.If c a b pos) (DQ tc t u):=by
 intro pins s σ H D I h
 refine wpAny_If (thn (hc pins s σ H _ I h) fun d s1 ⟨H1,I1,q1⟩=>?_)
 cases d with
 | true=>exact ha pins s1 σ H1 D I1 q1
 | false=>exact hb pins s1 σ H1 D I1 q1
end
abbrev TG:=V→St→Hp→(St→Hp→Prop)→Prop
abbrev TGs:=List V→St→Hp→(St→Hp→Prop)→Prop
def PG (X:Cx) (target:Expr) (t:TG):Prop:=
 ∀ (pins:List (Addr×Obj)) (s:Shared) (σ:St) (H:Hp) (v:V) (u:Value) (Q:St→Hp→Prop),Inv X pins σ H s→RelV v u→t v σ H Q →
  wpAny (model X.prog X.w) X.A (assign target X.env u) (fun _ s'=>∃ σ' H',Inv X pins σ' H' s'∧Q σ' H') X.xe s
def PGs (X:Cx) (ts:List Expr) (t:TGs):Prop:=
 ∀ (pins:List (Addr×Obj)) (s:Shared) (σ:St) (H:Hp) (vs:List V) (us:List Value) (Q:St→Hp→Prop),Inv X pins σ H s→Vals vs us→t vs σ H Q →
  wpAny (model X.prog X.w) X.A (assignInOrder ((assignEach ts X.env).map (·.2)) us) (fun _ s'=>∃ σ' H',Inv X pins σ' H' s'∧Q σ' H') X.xe s
abbrev nM:=V→V→V→Hp→(Hp→Prop)→Prop
def uR (X:Cx) (t:nM):Prop:=
 ∀ (pins:List (Addr×Obj)) (s:Shared) (σ:St) (H:Hp) (o i v:V) (ov iv u:Value) (Q:Hp→Prop),Inv X pins σ H s→RelV o ov→RelV i iv→RelV v u→t o i v H Q →
  wpAny (model X.prog X.w) X.A (setItem ov iv u) (fun _ s'=>∃ H',Inv X pins σ H' s'∧Q H') X.xe s
section
variable {X:Cx} {pos:Pos}
def kL (i:Nat):TG:=fun v σ H Q=>Q (σ.set i (some v)) H
theorem gB {i:Nat} {x:Str} (hN:X.N.Nodup) (hi:X.N[i]? = some x) (hx:Loc X.env.scope x) (hf:X.fn x=true∨X.env.scope.names.lookup x=some .local:=by first | exact .inl rfl | exact .inr rfl | assumption):PG X (.Name x pos) (kL i):=by
 intro pins s σ H v u Q I r h
 exact wpAny_assign_Name (jL I hN hi hx r (fun s' I'=>⟨_,H,I',h⟩) hf)
def uK:TGs:=fun vs σ H Q=>vs=[]∧Q σ H
def nr (t:TG) (u:TGs):TGs:=fun vs σ H Q=>∃ v r,vs=v::r∧t v σ H fun σ' H'=>u r σ' H' Q
theorem mf:PGs X [] uK:=by
 intro pins s σ H vs us Q I r h
 obtain ⟨e,h⟩:=h
 subst e
 cases r
 exact assignInOrder_nil ⟨σ,H,I,h⟩
theorem hU {e:Expr} {es:List Expr} {t:TG} {u:TGs} (h1:PG X e t) (h2:PGs X es u)
  (hs:(assignEach (e::es) X.env).map (·.2)=assign e X.env::(assignEach es X.env).map (·.2):=by rfl):PGs X (e::es) (nr t u):=by
 intro pins s σ H vs us Q I r h
 obtain ⟨v,vr,e1,h⟩:=h
 subst e1
 cases r with
 | cons r rr=>
  rw [hs]
  refine assignInOrder_cons (thn (h1 pins s σ H _ _ _ I r h) fun _ s1 ⟨σ1,H1,I1,q1⟩=>?_)
  exact h2 pins s1 σ1 H1 _ _ Q I1 rr q1
def uJ (K:Frag) (n:Nat) (t:TGs):TG:=fun v σ H Q=>∃ a xs,v=.ref a∧SqT K H a xs∧xs.length=n∧t xs σ H Q
theorem mQ {es:List Expr} {k:Nat} {t:TGs} {n:Nat} (hc:X.calm=true) (h:PGs X es t)
  (hn:(assignEach es X.env).length=n:=by rfl) (hst:(assignEach es X.env).findIdx? (·.1)=none:=by rfl):PG X (.Tuple es k pos) (uJ X.K n t):=by
 intro pins s σ H v u Q I r hw
 obtain ⟨a,xs,e1,hq,hl,hw⟩:=hw
 subst e1
 cases r
 obtain ⟨its,rv,ht,hz⟩:=I.tuple hq
 refine assign_Tuple_tuple (I.ok.hd hc) ht (by simp [hn,← hl,rv.length]) hst fun h' hx=>?_
 have I1:Inv X pins σ H { s with heap:=h' }:=I.kept (t':=s.toks) fun b o e=>hx b o (Nat.ne_of_lt (Heap.lt_size e)) e
 exact h pins _ σ H xs _ Q I1 (by simpa using rv) hw
def Ec (to ti:TE) (t:nM):TG:=fun v σ H Q=>to σ H fun o H1=>ti σ H1 fun i H2=>t o i v H2 fun H3=>Q σ H3
theorem Bz {o i:Expr} {to ti:TE} {t:nM} (ho:PE X o to) (hi:PE X i ti) (hs:uR X t)
  (ha:∀ v,assign (.Subscript o i pos) X.env v=(do
   let ov ← holding [v] (eval o X.env)
   let iv ← holding [v,ov] (eval i X.env)
   standAt pos
   holding [v,ov,iv] (setItem ov iv v)
   release [v,ov,iv] []):=by intro _; rfl):PG X (.Subscript o i pos) (Ec to ti t):=by
 intro pins s σ H v u Q I r h
 rw [ha]
 refine wpAny_bind (wpAny_holding (thn (ho pins s σ H _ I h) fun ov s1 ⟨x,H1,I1,r1,q1⟩=>?_))
 refine wpAny_bind (wpAny_holding (thn (hi pins s1 σ H1 _ I1 q1) fun iv s2 ⟨y,H2,I2,r2,q2⟩=>?_))
 refine wpAny_bind (wpAny_standAt (wpAny_bind (wpAny_holding (thn (hs pins s2 σ H2 x y v ov iv u _ I2 r1 r2 r q2) fun _ s3 ⟨H3,I3,q3⟩=>?_))))
 exact wpAny_release ⟨σ,H3,I3,q3⟩
def uv (te:TE) (g:TG):TS:=fun D σ H=>te σ H fun x H1=>g x σ H1 D.nx
theorem rV {tg e:Expr} {te:TE} {g:TG} (he:PE X e te) (hg:PG X tg g) (hs:swapsWithSole [tg] e pos.line X.env=pure false:=by rfl) (hw:swappedStores [tg] e X.env=pure none:=by rfl)
  (h1:(assignEach [tg] X.env).map (·.2)=[assign tg X.env]:=by rfl):PS X (.Assign [tg] e pos) (uv te g):=by
 intro pins s σ H D I h
 refine wpAny_Assign_stores (thn (he pins s σ H _ I h) fun v s1 ⟨x,H1,I1,r1,q1⟩=>?_) hs hw
 rw [h1]
 exact thn (hg pins s1 σ H1 x v _ I1 r1 q1) fun _ s2 q=>q
theorem iz {i:Nat} {x:Str} {e:Expr} {te:TE} {pos':Pos} (hN:X.N.Nodup) (hi:X.N[i]? = some x) (hx:Loc X.env.scope x) (he:PE X e te) (hs:swapsWith e (some (.Name x pos')) pos.line X.env=pure false:=by rfl) (hf:X.fn x=true∨X.env.scope.names.lookup x=some .local:=by first | exact .inl rfl | exact .inr rfl | assumption) :
  PS X (.Assign [.Name x pos'] e pos) (uv te (kL i)):=by
 intro pins s σ H D I h
 refine wpAny_Assign_Name (thn (he pins s σ H _ I h) fun v s1 ⟨y,H1,I1,r1,q1⟩=>?_) hs
 exact jL I1 hN hi hx r1 (fun s2 I2=>⟨_,H1,I2,q1⟩) hf
def Bg (c:TT) (tb:TS):TS:=fun D σ H=>∃ W:Nat→St→Hp→Prop,(∃ m,W m σ H)∧∀ m σ H,W m σ H →
 c σ H fun b H1=>if b=true then ∃ N:St→Hp→Prop,(∀ σ' H',N σ' H'→∃ m',m' < m∧W m' σ' H')∧tb { D with nx:=N,ct:=N,bk:=D.nx } σ H1 else D.nx σ H1
theorem y0 {c:Expr} {body:List Stmt} {tc:TT} {tb:TS} (hp:PassesOwn (model X.prog X.w) X.A X.env X.xe) (hc:PT X c tc) (hb:PSs X body tb):PS X (.While c body [] pos) (Bg tc tb):=by
 intro pins s σ H D I h
 obtain ⟨W,⟨m0,w0⟩,turn⟩:=h
 refine wpAny_While (codeAny_whileLoop (fun n s'=>∃ σ' H',Inv X pins σ' H' s'∧W n σ' H') ?_ m0 ⟨σ,H,I,w0⟩)
 rintro n s1 ⟨σ1,H1,I1,w1⟩
 refine wpAny_passesOwn hp (thn (hc pins s1 σ1 H1 _ I1 (turn n σ1 H1 w1)) fun b s2 ⟨H2,I2,q2⟩=>?_)
 cases b with
 | true=>
  obtain ⟨N,hN,q2⟩:=q2
  rw [if_pos rfl]
  refine wpAny_passesOwn hp (thn (hb pins s2 σ1 H2 _ I2 q2) fun f s3 q3=>?_)
  cases f with
  | next=>
   obtain ⟨σ3,H3,I3,n3⟩:=q3
   obtain ⟨m',hm,w3⟩:=hN σ3 H3 n3
   exact ⟨m',hm,σ3,H3,I3,w3⟩
  | cont=>
   obtain ⟨σ3,H3,I3,n3⟩:=q3
   obtain ⟨m',hm,w3⟩:=hN σ3 H3 n3
   exact ⟨m',hm,σ3,H3,I3,w3⟩
  | brk=>exact q3
  | ret v=>exact q3
 | false=>
  rw [if_neg Bool.false_ne_true]
  exact wpAny_execs_nil ⟨σ1,H2,I2,q2⟩
end
structure It where
 go:Nat→Hp→Prop
 yld:Nat→Hp→V→Hp→Prop
 stop:Nat→Hp→Prop
def cq (X:Cx) (pins:List (Addr×Obj)) (H:Hp) (b:Addr):Prop:=H b=none∧b≠X.env.locals∧b∉X.fs∧(b∈X.ex∨X.s₀.heap.objs.size≤b)∧(∀ x c,X.env.cells.lookup x=some c→c≠b)∧∀ p∈X.pn++pins,p.1≠b
theorem Inv.fpOk {X:Cx} {pins:List (Addr×Obj)} {σ:St} {H H':Hp} {s:Shared} {b:Addr} (I:Inv X pins σ H s) (hb:s.heap.objs.size≤b) (hn:H' b=none):cq X pins H' b:=by
 refine ⟨hn,Nat.ne_of_gt (Nat.lt_of_lt_of_le I.lt hb),I.nofs hb,.inr (Nat.le_trans I.sz hb),fun x c e z=>?_,fun p hp z=>?_⟩
 ·obtain ⟨v,q⟩:=I.cell x c e
  exact absurd (Nat.lt_of_lt_of_le q.lt (by rw [z]; exact hb)) (Nat.lt_irrefl _)
 ·exact absurd (Nat.lt_of_lt_of_le (Heap.lt_size (I.pin p hp).1) (by rw [z]; exact hb)) (Nat.lt_irrefl _)
structure Turn (P:Program) (w:World) (K:Frag) (tg:Expr) (J:It) (fp:List Addr) (it:Addr) (tn:Nat→Heap→Prop):Prop where
 mem:it∈fp
 obj:∀ i h,tn i h→∀ b∈fp,∃ o,h.get? b=some o∧∀ v,o.data≠.cell v
 keep:∀ i h h',tn i h→(∀ b∈fp,∀ o,h.get? b=some o→h'.get? b=some o)→tn i h'
 item:∀ (X:Cx),X.prog=P→X.w=w→X.K=K→X.calm=true→∀ (i:Nat) (pins:List (Addr×Obj)) (s:Shared) (σ:St) (H:Hp) (E:Value→Shared→Prop),Inv X pins σ H s→(∀ b∈fp,cq X pins H b)→tn i s.heap→J.go i H →
  wpAny (model P w) X.A (pyNext (.ref it)) (fun r s1=>∃ u,r=some u ∧
   wpAny (model P w) X.A (letOwnedTupleGo tg (.ref it) u) (fun _ s2=>∃ x H',Inv X pins σ H' s2∧RelV x u∧J.yld i H x H'∧tn (i + 1) s2.heap∧∀ b∈fp,H' b=none) E s1) E s
 done:∀ (X:Cx),X.prog=P→X.w=w→X.K=K→X.calm=true→∀ (i:Nat) (pins:List (Addr×Obj)) (s:Shared) (σ:St) (H:Hp) (E:Value→Shared→Prop),Inv X pins σ H s→(∀ b∈fp,cq X pins H b)→tn i s.heap→J.stop i H →
  wpAny (model P w) X.A (pyNext (.ref it)) (fun r s1=>r=none∧Inv X pins σ H s1) E s
 self:∀ (A:Around) (i:Nat) (s:Shared) (Q:Value→Shared→Prop) (E:Value→Shared→Prop),tn i s.heap→Q (.ref it) s→wpAny (model P w) A (pyIter (.ref it)) Q E s
abbrev TI:=St→Hp→(It→Hp→Prop)→Prop
def PIE (X:Cx) (pins:List (Addr×Obj)) (σ:St) (tg:Expr) (R:It→Hp→Prop) (itv:Value) (s2:Shared):Prop:=∃ (it:Addr) (fp:List Addr) (tn:Nat→Heap→Prop) (J:It) (H':Hp),itv=.ref it∧Inv X pins σ H' s2∧Turn X.prog X.w X.K tg J fp it tn∧tn 0 s2.heap∧(∀ b∈fp,cq X pins H' b)∧R J H'
def PI (X:Cx) (tg iter:Expr) (wi:TI):Prop:=
 ∀ (pins:List (Addr×Obj)) (s:Shared) (σ:St) (H:Hp) (R:It→Hp→Prop),Inv X pins σ H s→wi σ H R →
  wpAny (model X.prog X.w) X.A (eval iter X.env) (fun v s1=>wpAny (model X.prog X.w) X.A (pyIter v) (PIE X pins σ tg R) X.xe s1) X.xe s
theorem jj {M:Model} {A:Around} {E:Value→Shared→Prop} {s:Shared} {tg:Expr} {it:Addr} {u:Value} {o:Obj} {n:String} {vs:Array Value} {Q:Unit→Shared→Prop} (ho:s.heap.get? it=some o) (hc:o.cls=.type n) (hd:o.data=.fields vs)
  (hn:["enumerate","zip","dict_itemiterator","dict_reverseitemiterator","odict_iterator","itertools.zip_longest","itertools.pairwise"].contains n=false) (hQ:Q () s):wpAny M A (letOwnedTupleGo tg (.ref it) u) Q E s:=by
 unfold letOwnedTupleGo
 cases tg <;> first
  | exact wpAny_pure hQ
  | (cases u <;> first
    | exact wpAny_pure hQ
    | (refine wpAny_bind (wpAny_load ho ?_)
       rw [hc,hd]
       show wpAny M A (if (["enumerate","zip","dict_itemiterator","dict_reverseitemiterator","odict_iterator","itertools.zip_longest","itertools.pairwise"].contains n && vs[0]? == some (rawInt _))=true then _ else _) Q E s
       rw [if_neg (by intro h; rw [hn,Bool.false_and] at h; cases h)]
       exact wpAny_pure hQ))
def Itl (K:Frag) (a:Addr):It:=⟨fun i H=>∃ xs x,SqL K H a xs∧xs[i]? = some x,fun i H x H'=>H'=H∧∀ xs,SqL K H a xs→xs[i]? = some x,fun i H=>∃ xs,SqL K H a xs∧xs.length≤i⟩
def Itt (K:Frag) (a:Addr):It:=⟨fun i H=>∃ xs x,SqT K H a xs∧xs[i]? = some x,fun i H x H'=>H'=H∧∀ xs,SqT K H a xs→xs[i]? = some x,fun i H=>∃ xs,SqT K H a xs∧xs.length≤i⟩
def Itr (lo:Int) (n:Nat):It:=⟨fun i _=>i < n,fun i H x H'=>H'=H∧x=.int (lo + i),fun i _=>n≤i⟩
theorem xJ {P:Program} {w:World} {K:Frag} {tg:Expr} (a it:Addr):Turn P w K tg (Itl K a) [it] it (fun i h=>h.IsListIter it a i) where
 mem:=by simp
 obj:=fun i h st b hb=>by
  have e:b=it:=by simpa using hb
  subst e
  obtain ⟨o,e,c,d⟩:=st
  exact ⟨o,e,fun v z=>by rw [d] at z; cases z⟩
 keep:=fun i h h' st k=>st.at fun o e=>k it (by simp) o e
 item:=by
  intro X hP hw hK hc i pins s σ H E I hf st hg
  subst hP hw hK
  obtain ⟨xs,x,hq,hx⟩:=hg
  obtain ⟨its,rv,p,hz⟩:=I.list hq
  obtain ⟨u,hu,ru⟩:=rv.get hx
  obtain ⟨f0,f1,f2,f3,f4,f5⟩:=hf it (by simp)
  refine wpAny_pyNext_list_item st p.isList (x:=u) (by simpa using hu) fun h' st' sb=>?_
  have I1:Inv X pins σ H { s with heap:=h' }:=I.turned (t':=s.toks) (fun b o hb e=>(sb.2 b hb).trans e) f0 f1 f3 f4 f5
  obtain ⟨o,e,c,d⟩:=id st'
  exact ⟨u,rfl,jj (s:={ s with heap:=h' }) e c d (by decide) ⟨x,H,I1,ru,⟨rfl,fun ys hy=>by rw [I.list_inj hy hq]; exact hx⟩,st',fun b hb=>(hf b hb).1⟩⟩
 done:=by
  intro X hP hw hK hc i pins s σ H E I hf st hg
  subst hP hw hK
  obtain ⟨xs,hq,hx⟩:=hg
  obtain ⟨its,rv,p,hz⟩:=I.list hq
  obtain ⟨f0,f1,f2,f3,f4,f5⟩:=hf it (by simp)
  have hl:=rv.length
  exact wpAny_pyNext_list_end (I.ok.hd hc) st p.isList (by simp; omega) fun h' eb=>⟨rfl,I.turned (t':=s.toks) (fun b o hb e=>eb b o hb e) f0 f1 f3 f4 f5⟩
 self:=fun _ _ _ _ _ st h=>wpAny_pyIter_listiter st h
theorem wK {P:Program} {w:World} {K:Frag} {tg:Expr} (a it:Addr):Turn P w K tg (Itt K a) [it] it (fun i h=>h.IsTupleIter it a i) where
 mem:=by simp
 obj:=fun i h st b hb=>by
  have e:b=it:=by simpa using hb
  subst e
  obtain ⟨o,e,c,d⟩:=st
  exact ⟨o,e,fun v z=>by rw [d] at z; cases z⟩
 keep:=fun i h h' st k=>st.at fun o e=>k it (by simp) o e
 item:=by
  intro X hP hw hK hc i pins s σ H E I hf st hg
  subst hP hw hK
  obtain ⟨xs,x,hq,hx⟩:=hg
  obtain ⟨its,rv,p,hz⟩:=I.tuple hq
  obtain ⟨u,hu,ru⟩:=rv.get hx
  obtain ⟨f0,f1,f2,f3,f4,f5⟩:=hf it (by simp)
  refine wpAny_pyNext_tuple_item st (show s.heap.IsTuple a its.toArray from p) (x:=u) (by simpa using hu) fun h' st' sb=>?_
  have I1:Inv X pins σ H { s with heap:=h' }:=I.turned (t':=s.toks) (fun b o hb e=>(sb.2 b hb).trans e) f0 f1 f3 f4 f5
  obtain ⟨o,e,c,d⟩:=id st'
  exact ⟨u,rfl,jj (s:={ s with heap:=h' }) e c d (by decide) ⟨x,H,I1,ru,⟨rfl,fun ys hy=>by rw [I.tuple_inj hy hq]; exact hx⟩,st',fun b hb=>(hf b hb).1⟩⟩
 done:=by
  intro X hP hw hK hc i pins s σ H E I hf st hg
  subst hP hw hK
  obtain ⟨xs,hq,hx⟩:=hg
  obtain ⟨its,rv,p,hz⟩:=I.tuple hq
  obtain ⟨f0,f1,f2,f3,f4,f5⟩:=hf it (by simp)
  have hl:=rv.length
  exact wpAny_pyNext_tuple_end (I.ok.hd hc) st (show s.heap.IsTuple a its.toArray from p) (by simp; omega) fun h' eb=>⟨rfl,I.turned (t':=s.toks) (fun b o hb e=>eb b o hb e) f0 f1 f3 f4 f5⟩
 self:=fun _ _ _ _ _ st h=>wpAny_pyIter_tupleiter st h
theorem wL {P:Program} {w:World} {K:Frag} {tg:Expr} (it:Addr) (lo:Int) (n:Nat):Turn P w K tg (Itr lo n) [it] it (fun i h=>IsRangeIter h it (lo + (i:Nat) * 1) ((n:Int) - (i:Nat)) 1) where
 mem:=by simp
 obj:=fun i h st b hb=>by
  have e:b=it:=by simpa using hb
  subst e
  exact ⟨_,st,fun v z=>by
   have z':Data.fields _=Data.cell v:=z
   cases z'⟩
 keep:=fun i h h' st k=>k it (by simp) _ st
 item:=by
  intro X hP hw hK hc i pins s σ H E I hf st hg
  subst hP hw hK
  obtain ⟨f0,f1,f2,f3,f4,f5⟩:=hf it (by simp)
  have W:=Walks.range (prog:=X.prog) (w:=X.w) (I.ok.hd hc) it lo 1 n
  refine W.item i s _ _ hg st fun v h' tk hv st' kk=>?_
  obtain ⟨t,rfl⟩:=hv
  have I1:Inv X pins σ H { s with heap:=h',toks:=tk }:=I.turned (fun b o hb e=>kk b o (by simpa using hb) e) f0 f1 f3 f4 f5
  refine ⟨_,rfl,jj (s:={ s with heap:=h',toks:=tk }) (n:="range_iterator") st' rfl rfl (by decide) ⟨.int (lo + i),H,I1,⟨t,?_⟩,⟨rfl,rfl⟩,st',fun b hb=>(hf b hb).1⟩⟩
  rw [Int.mul_one]
 done:=by
  intro X hP hw hK hc i pins s σ H E I hf st hg
  subst hP hw hK
  obtain ⟨f0,f1,f2,f3,f4,f5⟩:=hf it (by simp)
  exact wpAny_pyNext_range_end (I.ok.hd hc) st (by have:n≤i:=hg; omega) fun h' eb=>⟨rfl,I.turned (t':=s.toks) (fun b o hb e=>eb b o hb e) f0 f1 f3 f4 f5⟩
 self:=fun _ _ _ _ _ st h=>wpAny_pyIter_rangeiter st h
section
variable {X:Cx} {tg:Expr}
theorem yU {pins:List (Addr×Obj)} {σ:St} {H:Hp} {s:Shared} {R:It→Hp→Prop} {E:Value→Shared→Prop} {lo hi:Int} {t u v:Tok} {tk:Nat} (I:Inv X pins σ H s) (h1 : -(2 ^ 62)≤lo) (h2:lo < 2 ^ 62) (h3 : -(2 ^ 62)≤hi) (h4:hi < 2 ^ 62)
  (q:R (Itr lo (hi - lo).toNat) H):wpAny (model X.prog X.w) X.A (pyIter (.ref s.heap.objs.size)) (PIE X pins σ tg R) E { s with heap:=s.heap.push { cls:=.type "range",data:=.fields #[.int lo t,.int hi u,.int 1 v] },toks:=tk }:=by
 refine wpAny_pyIter_range (IsRange.new ..) (small_one h1 h2 h3 h4) ?_
 have I1:Inv X pins σ H { s with heap:=s.heap.push { cls:=.type "range",data:=.fields #[.int lo t,.int hi u,.int 1 v] },toks:=tk }:=I.kept fun b o e=>Heap.get?_push_of_some _ e
 refine ⟨(s.heap.push { cls:=.type "range",data:=.fields #[.int lo t,.int hi u,.int 1 v] }).objs.size,[(s.heap.push { cls:=.type "range",data:=.fields #[.int lo t,.int hi u,.int 1 v] }).objs.size],_,_,H,rfl,
  I1.kept (t':=tk) fun b o e=>Heap.get?_push_of_some _ e,wL _ lo (hi - lo).toNat,?_,fun b hb=>?_,q⟩
 ·have e1:lo + ((0:Nat):Int) * 1=lo:=by simp
  have e2:(((hi - lo).toNat:Nat):Int) - ((0:Nat):Int)=Builtin.Range.rangeSize lo hi 1:=by rw [rangeSize_one]; split <;> omega
  show IsRangeIter _ _ (lo + ((0:Nat):Int) * 1) ((((hi - lo).toNat:Nat):Int) - ((0:Nat):Int)) 1
  rw [e1,e2]
  exact Heap.get?_push_size _ rfl
 ·have e:b=(s.heap.push { cls:=.type "range",data:=.fields #[.int lo t,.int hi u,.int 1 v] }).objs.size:=by simpa using hb
  subst e
  exact I1.fpOk (Nat.le_refl _) (I1.hok.fresh (Nat.le_refl _))
def Do (ta:TA):TI:=fun σ H R=>ta σ H fun vs H1=>∃ j:Int,vs=[.int j]∧-(2 ^ 62)≤j∧j < 2 ^ 62∧R (Itr 0 j.toNat) H1
theorem x8 {a:Expr} {ta:TA} {p pos:Pos} (hg:Gl X "range") (hm:X.mg "range" = none) (ha:PA X [a] ta) (hs:starEach [a] X.env=[(false,eval a X.env)]:=by rfl):PI X tg (.Call (.Name "range" p) [a] [] pos) (Do ta):=by
 intro pins s σ H R I h
 refine Call_ (kl I hg hm boot_range (PyProof.Rows.callWith_type1 (thn (ha pos pins s σ H _ I h) fun us s1 ⟨vs,H1,I1,r1,q1⟩=>?_) hs rfl))
 obtain ⟨j,e,q1,q2,q⟩:=q1
 subst e
 cases r1 with
 | cons r rr=>
  cases rr
  obtain ⟨t,rfl⟩:=r
  exact call_range_1 (yU I1 (by omega) (by omega) q1 q2 (by simpa using q))
def DR (wi:TI) (g:TG) (tb:TS):TS:=fun D σ H=>wi σ H fun J H1=>∃ W:Nat→Nat→St→Hp→Prop,(∃ m,W 0 m σ H1)∧∀ i m σ H,W i m σ H →
 (J.stop i H∧D.nx σ H)∨(J.go i H∧∃ N:St→Hp→Prop,(∀ σ' H',N σ' H'→∃ m',m' < m∧W (i + 1) m' σ' H')∧∀ x H',J.yld i H x H'→g x σ H' fun σ2 H2=>tb { D with nx:=N,ct:=N,bk:=D.nx } σ2 H2)
def dG (fp:List Addr) (h:Heap):List (Addr×Obj):=fp.filterMap fun b=>(h.get? b).map fun o=>(b,o)
theorem g9 {fp:List Addr} {h:Heap} {b:Addr} {o:Obj} (hb:b∈fp) (e:h.get? b=some o):(b,o)∈dG fp h:=List.mem_filterMap.mpr ⟨b,hb,by rw [e]; rfl⟩
theorem yb {fp:List Addr} {h:Heap} {p:Addr×Obj} (hp:p∈dG fp h):p.1∈fp∧h.get? p.1=some p.2:=by
 obtain ⟨b,hb,e⟩:=List.mem_filterMap.mp hp
 cases q:h.get? b with
 | none=>rw [q] at e; cases e
 | some o=>
  rw [q] at e
  have e':(b,o)=p:=Option.some.inj e
  subst e'
  exact ⟨hb,q⟩
theorem Inv.pinned {pins:List (Addr×Obj)} {σ:St} {H:Hp} {s:Shared} {fp:List Addr} (I:Inv X pins σ H s) (hf:∀ b∈fp,cq X pins H b) (ho:∀ b∈fp,∃ o,s.heap.get? b=some o∧∀ v,o.data≠.cell v):Inv X (pins++dG fp s.heap) σ H s:=
 I.pins_of fun p hp=>(List.mem_append.mp hp).elim (fun z=>I.pin p (List.mem_append_right _ z)) fun z=>by
  obtain ⟨hb,e⟩:=yb z
  obtain ⟨f0,f1,f2,_⟩:=hf p.1 hb
  obtain ⟨o,e',d⟩:=ho p.1 hb
  rw [e] at e'; cases e'
  exact ⟨e,f0,f1,f2,d⟩
theorem Inv.unpinned {pins pl:List (Addr×Obj)} {σ:St} {H:Hp} {s:Shared} (I:Inv X (pins++pl) σ H s):Inv X pins σ H s:=I.pins_of fun p hp=>I.pin p (List.mem_append_right _ (List.mem_append_left _ hp))
theorem rT {iter:Expr} {body:List Stmt} {wi:TI} {g:TG} {tb:TS} {pos:Pos} (hp:PassesOwn (model X.prog X.w) X.A X.env X.xe) (hc:X.calm=true) (hi:PI X tg iter wi) (hg:PG X tg g) (hb:PSs X body tb)
  (hs:∀ x,foldedSetIterable iter X.env x=pure x:=by intro _; rfl):PS X (.For tg iter body [] pos) (DR wi g tb):=by
 intro pins s σ H D I h
 refine wpAny_For (thn (hi pins s σ H _ I h) fun v s1 h1=>thn h1 fun itv s2 h2=>?_) hs
 obtain ⟨it,fp,tn,J,H2,e,I2,T,st2,f2,W,⟨m0,w0⟩,turn⟩:=h2
 subst e
 have stat:∀ {H':Hp},(∀ b∈fp,H' b=none)→∀ b∈fp,cq X pins H' b:=fun hn b hb=>⟨hn b hb,(f2 b hb).2⟩
 refine codeAny_forLoop_any (fun n s'=>∃ i σ' H',Inv X pins σ' H' s'∧tn i s'.heap∧(∀ b∈fp,H' b=none)∧W i n σ' H') ?_ m0 ⟨0,σ,H2,I2,st2,fun b hb=>(f2 b hb).1,w0⟩
 rintro n s3 ⟨i,σ3,H3,I3,st3,fr3,w3⟩
 rcases turn i n σ3 H3 w3 with ⟨stop,qn⟩ | ⟨go,N,hN,step⟩
 ·refine wpAny_passesOwn hp (thn (T.done X rfl rfl rfl hc i pins s3 σ3 H3 X.xe I3 (stat fr3) st3 stop) fun r s4 ⟨hr,I4⟩=>?_)
  subst hr
  exact wpAny_execs_nil ⟨σ3,H3,I4,qn⟩
 ·refine wpAny_passesOwn hp (thn (T.item X rfl rfl rfl hc i pins s3 σ3 H3 X.xe I3 (stat fr3) st3 go) fun r s4 ⟨u,hr,h4⟩=>?_)
  subst hr
  refine wpAny_passesOwn hp (thn h4 fun _ s5 ⟨x,H5,I5,r5,y5,st5,fr5⟩=>?_)
  have I5':=I5.pinned (stat fr5) (T.obj _ _ st5)
  refine wpAny_passesOwn hp (thn (hg _ s5 σ3 H5 x u _ I5' r5 (step x H5 y5)) fun _ s6 ⟨σ6,H6,I6,q6⟩=>?_)
  refine wpAny_passesOwn hp (thn (hb _ s6 σ6 H6 _ I6 q6) fun f s7 q7=>?_)
  have again:∀ {σ7:St} {H7:Hp},Inv X (pins++dG fp s5.heap) σ7 H7 s7→N σ7 H7→∃ m,m < n∧∃ i σ' H',Inv X pins σ' H' s7∧tn i s7.heap∧(∀ b∈fp,H' b=none)∧W i m σ' H':=fun {σ7 H7} I7 n7=>by
   obtain ⟨m',hm,w7⟩:=hN σ7 H7 n7
   refine ⟨m',hm,i + 1,σ7,H7,I7.unpinned,T.keep _ _ _ st5 fun b hb o e=>(I7.pin (b,o) (List.mem_append_right _ (List.mem_append_right _ (g9 hb e)))).1,fun b hb=>?_,w7⟩
   obtain ⟨o,e,d⟩:=T.obj _ _ st5 b hb
   exact (I7.pin (b,o) (List.mem_append_right _ (List.mem_append_right _ (g9 hb e)))).2.1
  cases f with
  | next=>obtain ⟨σ7,H7,I7,n7⟩:=q7; exact again I7 n7
  | cont=>obtain ⟨σ7,H7,I7,n7⟩:=q7; exact again I7 n7
  | brk=>obtain ⟨σ7,H7,I7,q7⟩:=q7; exact ⟨σ7,H7,I7.unpinned,q7⟩
  | ret v=>obtain ⟨x7,σ7,H7,I7,r7,q7⟩:=q7; exact ⟨x7,σ7,H7,I7.unpinned,r7,q7⟩
end
abbrev R2:=V→V→Hp→VK→Prop
def OpR (X:Cx) (f:Value→Value→Sem Value) (r:R2):Prop:=
 ∀ (pins:List (Addr×Obj)) (s:Shared) (σ:St) (H:Hp) (x y:V) (v u:Value) (Q:VK),Inv X pins σ H s→RelV x v→RelV y u→r x y H Q →
  wpAny (model X.prog X.w) X.A (f v u) (EP X pins σ Q) X.xe s
def UnR (X:Cx) (f:Value→Sem Value) (r:V→Hp→VK→Prop):Prop:=
 ∀ (pins:List (Addr×Obj)) (s:Shared) (σ:St) (H:Hp) (x:V) (v:Value) (Q:VK),Inv X pins σ H s→RelV x v→r x H Q →
  wpAny (model X.prog X.w) X.A (f v) (EP X pins σ Q) X.xe s
def CallR (X:Cx) (f:Value) (r:List V→Hp→VK→Prop):Prop:=
 ∀ (pins:List (Addr×Obj)) (s:Shared) (σ:St) (H:Hp) (xs:List V) (us:List Value) (Q:VK),Inv X pins σ H s→Vals xs us→r xs H Q →
  wpAny (model X.prog X.w) X.A (call f us) (EP X pins σ Q) X.xe s
def Ei (X:Cx) (r:V→Hp→(Bool→Hp→Prop)→Prop):Prop:=
 ∀ (pins:List (Addr×Obj)) (s:Shared) (σ:St) (H:Hp) (x:V) (v:Value) (Q:Bool→Hp→Prop),Inv X pins σ H s→RelV x v→r x H Q →
  wpAny (model X.prog X.w) X.A (truthy v) (TP X pins σ Q) X.xe s
def tOp (r:R2) (ta tb:TE):TE:=fun σ H Q=>ta σ H fun x H1=>tb σ H1 fun y H2=>r x y H2 Q
def tUn (r:V→Hp→VK→Prop) (ta:TE):TE:=fun σ H Q=>ta σ H fun x H1=>r x H1 Q
def rI (C:Int→Int→Prop) (g:Int→Int→V):R2:=fun x y H Q=>∃ i j,x=.int i∧y=.int j∧C i j∧Q (g i j) H
def rI0 (g:Int→Int→V):R2:=fun x y H Q=>∃ i j,x=.int i∧y=.int j∧Q (g i j) H
def rU (g:Int→V):V→Hp→VK→Prop:=fun x H Q=>∃ i,x=.int i∧Q (g i) H
section
variable {X:Cx} {a b c:Expr} {ta tb tc:TE} {pos:Pos}
theorem nK (ha:PE X a ta) (hb:PE X b tb) {pins:List (Addr×Obj)} {s:Shared} {σ:St} {H:Hp} {R:V→V→Hp→Prop} (I:Inv X pins σ H s)
  (h:ta σ H fun x H1=>tb σ H1 fun y H2=>R x y H2) {Q:Value→Shared→Prop} {f:Value→Value→Sem Value}
  (hf:∀ v u s2 x y H2,Inv X pins σ H2 s2→RelV x v→RelV y u→R x y H2→wpAny (model X.prog X.w) X.A (f v u) Q X.xe s2) :
  wpAny (model X.prog X.w) X.A (eval a X.env) (fun v s₁=>wpAny (model X.prog X.w) X.A (eval b X.env) (fun u s₂=>wpAny (model X.prog X.w) X.A (f v u) Q X.xe s₂) X.xe s₁) X.xe s:=by
 refine thn (ha pins s σ H _ I h) fun v s1 ⟨x,H1,I1,r1,q1⟩=>?_
 refine thn (hb pins s1 σ H1 _ I1 q1) fun u s2 ⟨y,H2,I2,r2,q2⟩=>?_
 exact hf v u s2 x y H2 I2 r1 r2 q2
theorem CW {op:Operator} {r:R2} (ho:OpR X (binaryOp op) r) (ha:PE X a ta) (hb:PE X b tb):PE X (.BinOp a op b pos) (tOp r ta tb):=by
 intro pins s σ H Q I h
 exact wpAny_BinOp (nK ha hb I h fun v u s2 x y H2 I2 rx ry q=>ho pins s2 σ H2 x y v u Q I2 rx ry q)
theorem CU {op:UnaryOp} {r:V→Hp→VK→Prop} (ho:UnR X (unaryOp op) r) (ha:PE X a ta):PE X (.UnaryOp op a pos) (tUn r ta):=by
 intro pins s σ H Q I h
 exact UnaryOp_ (thn (ha pins s σ H _ I h) fun v s1 ⟨x,H1,I1,r1,q1⟩=>ho pins s1 σ H1 x v Q I1 r1 q1)
theorem opI {f:Value→Value→Sem Value} {C:Int→Int→Prop} {g:Int→Int→Int}
  (rule:∀ (i j:Int) (t u:Tok) (s:Shared) (Q:Value→Shared→Prop) (E:Value→Shared→Prop),C i j→Q (.int (g i j) s.toks) { s with toks:=s.toks + 1 }→wpAny (model X.prog X.w) X.A (f (.int i t) (.int j u)) Q E s) :
  OpR X f (rI C fun i j=>.int (g i j)):=by
 intro pins s σ H x y v u Q I rx ry h
 obtain ⟨i,j,rfl,rfl,hc,q⟩:=h
 obtain ⟨t,rfl⟩:=rx
 obtain ⟨t',rfl⟩:=ry
 exact rule i j t t' s _ _ hc ⟨.int (g i j),H,I.tok _,⟨_,rfl⟩,q⟩
theorem uD {f:Value→Value→Sem Value} {g:Int→Int→Int}
  (rule:∀ (i j:Int) (t u:Tok) (s:Shared) (Q:Value→Shared→Prop) (E:Value→Shared→Prop),Q (.int (g i j) s.toks) { s with toks:=s.toks + 1 }→wpAny (model X.prog X.w) X.A (f (.int i t) (.int j u)) Q E s) :
  OpR X f (rI0 fun i j=>.int (g i j)):=by
 intro pins s σ H x y v u Q I rx ry h
 obtain ⟨i,j,rfl,rfl,q⟩:=h
 obtain ⟨t,rfl⟩:=rx
 obtain ⟨t',rfl⟩:=ry
 exact rule i j t t' s _ _ ⟨.int (g i j),H,I.tok _,⟨_,rfl⟩,q⟩
theorem kY {f:Value→Value→Sem Value} {g:Int→Int→Bool}
  (rule:∀ (i j:Int) (t u:Tok) (s:Shared) (Q:Value→Shared→Prop) (E:Value→Shared→Prop),Q (.bool (g i j)) s→wpAny (model X.prog X.w) X.A (f (.int i t) (.int j u)) Q E s) :
  OpR X f (rI0 fun i j=>.bl (g i j)):=by
 intro pins s σ H x y v u Q I rx ry h
 obtain ⟨i,j,rfl,rfl,q⟩:=h
 obtain ⟨t,rfl⟩:=rx
 obtain ⟨t',rfl⟩:=ry
 exact rule i j t t' s _ _ ⟨.bl (g i j),H,I,rfl,q⟩
def El (i j:Int):Prop:=0 < j∧j < 1073741824
def Ek (i j:Int):Prop:=0≤j∧j≤1000000∧i.natAbs < 2 ^ 64
def CMul (i j:Int):Prop:=(-(2 ^ 64) < i∧i < 2 ^ 64)∨(-(2 ^ 64) < j∧j < 2 ^ 64)
theorem CMul.ok {i j:Int} (h:CMul i j):IntMulOk i j:=by
 rcases h with ⟨h1,h2⟩ | ⟨h1,h2⟩
 ·exact .of_left (intBits_le_64 h1 h2)
 ·exact .of_right (intBits_le_64 h1 h2)
theorem op_add:OpR X (binaryOp .Add) (rI0 fun i j=>.int (i + j)):=uD fun _ _ _ _ _ _ _ q=>add_int q
theorem BG:OpR X (binaryOp .Sub) (rI0 fun i j=>.int (i - j)):=uD fun _ _ _ _ _ _ _ q=>sub_int q
theorem op_mul:OpR X (binaryOp .Mult) (rI CMul fun i j=>.int (i * j)):=opI fun _ _ _ _ _ _ _ hc q=>mul_int q hc.ok
theorem Ar:OpR X (binaryOp .FloorDiv) (rI El fun i j=>.int (i / j)):=opI fun i j _ _ _ _ _ hc q=>by
 have h1:(0:Int) < j:=hc.1
 have h2:j < 1073741824:=hc.2
 exact floordiv_int (by omega) (by rw [Int.fdiv_eq_ediv_of_nonneg i (by omega)]; exact q) (.inl (PyProof.noPylong_small (by omega)))
theorem BI:OpR X (binaryOp .Mod) (rI (fun _ j=>0 < j) fun i j=>.int (i % j)):=opI fun i j _ _ _ _ _ hc q=>by
 have h1:(0:Int) < j:=hc
 exact mod_int' (by omega) (by rw [Int.fmod_eq_emod_of_nonneg i (by omega)]; exact q)
theorem BH:OpR X (binaryOp .Pow) (rI Ek fun i j=>.int (i ^ j.toNat)):=opI fun _ _ _ _ _ _ _ hc q=>pow_int_small hc.1 hc.2.1 hc.2.2 q
theorem unI {f:Value→Sem Value} {g:Int→Int}
  (rule:∀ (i:Int) (t:Tok) (s:Shared) (Q:Value→Shared→Prop) (E:Value→Shared→Prop),Q (.int (g i) s.toks) { s with toks:=s.toks + 1 }→wpAny (model X.prog X.w) X.A (f (.int i t)) Q E s) :
  UnR X f (rU fun i=>.int (g i)):=by
 intro pins s σ H x v Q I rx h
 obtain ⟨i,rfl,q⟩:=h
 obtain ⟨t,rfl⟩:=rx
 exact rule i t s _ _ ⟨.int (g i),H,I.tok _,⟨_,rfl⟩,q⟩
theorem Ba:UnR X (unaryOp .USub) (rU fun i=>.int (-i)):=unI fun _ _ _ _ _ q=>neg_int q
end
def nE:V→V→Bool
 | .non,.non=>true | .non,.int _=>true | .int _,.non=>true | .non,.bl _=>true | .bl _,.non=>true | .non,.str _=>true | .str _,.non=>true
 | .int _,.int _=>true | .bl _,.bl _=>true | .str _,.str _=>true | .byt _,.byt _=>true
 | .int _,.str _=>true | .str _,.int _=>true | .bl _,.str _=>true | .str _,.bl _=>true
 | _,_=>false
def rEq:R2:=fun x y H Q=>nE x y=true∧Q (.bl (decide (x=y))) H
def rNe:R2:=fun x y H Q=>nE x y=true∧Q (.bl (!decide (x=y))) H
theorem qY {i j:Int}:decide (V.int i=V.int j)=(i == j):=by
 rw [Bool.eq_iff_iff]
 simp
theorem sM {i j:Bool}:decide (V.bl i=V.bl j)=(i == j):=by
 rw [Bool.eq_iff_iff]
 simp
theorem qX {i j:Str}:decide (V.str i=V.str j)=(i == j):=by
 rw [Bool.eq_iff_iff]
 simp
theorem qZ {i j:Array UInt8}:decide (V.byt i=V.byt j)=(i.toList == j.toList):=by
 rw [Bool.eq_iff_iff]
 cases i
 cases j
 simp
section
variable {X:Cx} {a b c:Expr} {ta tb tc:TE} {pos:Pos}
theorem bo {pins:List (Addr×Obj)} {σ:St} {H:Hp} {s:Shared} {Q:VK} {k k':Bool} (I:Inv X pins σ H s) (q:Q (.bl k) H) (e:k=k'):EP X pins σ Q (.bool k') s:=by
 subst e
 exact ⟨.bl k,H,I,rfl,q⟩
theorem C9:OpR X (compareOp .Eq) rEq:=by
 intro pins s σ H x y v u Q I rx ry h
 obtain ⟨hs,q⟩:=h
 cases x with
 | non=>
  cases rx
  cases y with
  | non=>cases ry; exact PySem.EqNone.eq_none_none (bo I q (by simp))
  | bl j=>cases ry; exact PySem.EqNone.eq_none_bool (bo I q (by simp))
  | int j=>obtain ⟨t',rfl⟩:=ry; exact PySem.EqNone.eq_none_int (bo I q (by simp))
  | str j=>obtain ⟨t',rfl⟩:=ry; exact PySem.EqNone.eq_none_str (bo I q (by simp))
  | _=>exact absurd (show false=true from hs) Bool.false_ne_true
 | bl i=>
  cases rx
  cases y with
  | non=>cases ry; exact PySem.EqNone.eq_bool_none (bo I q (by simp))
  | bl j=>cases ry; exact eq_bool (bo I q sM)
  | str j=>obtain ⟨t',rfl⟩:=ry; exact PySem.EqMixed.eq_bool_str (bo I q (by simp))
  | _=>exact absurd (show false=true from hs) Bool.false_ne_true
 | int i=>
  obtain ⟨t,rfl⟩:=rx
  cases y with
  | non=>cases ry; exact PySem.EqNone.eq_int_none (bo I q (by simp))
  | int j=>obtain ⟨t',rfl⟩:=ry; exact eq_int (bo I q qY)
  | str j=>obtain ⟨t',rfl⟩:=ry; exact PySem.EqMixed.eq_int_str (bo I q (by simp))
  | _=>exact absurd (show false=true from hs) Bool.false_ne_true
 | str i=>
  obtain ⟨t,rfl⟩:=rx
  cases y with
  | non=>cases ry; exact PySem.EqNone.eq_str_none (bo I q (by simp))
  | bl j=>cases ry; exact PySem.EqMixed.eq_str_bool (bo I q (by simp))
  | int j=>obtain ⟨t',rfl⟩:=ry; exact PySem.EqMixed.eq_str_int (bo I q (by simp))
  | str j=>obtain ⟨t',rfl⟩:=ry; exact eq_str (bo I q qX)
  | _=>exact absurd (show false=true from hs) Bool.false_ne_true
 | byt i=>
  obtain ⟨t,rfl⟩:=rx
  cases y with
  | byt j=>obtain ⟨t',rfl⟩:=ry; exact PySem.W.eq_bytes (bo I q qZ)
  | _=>exact absurd (show false=true from hs) Bool.false_ne_true
 | _=>cases y <;> exact absurd (show false=true from hs) Bool.false_ne_true
theorem C4:OpR X (compareOp .NotEq) rNe:=by
 intro pins s σ H x y v u Q I rx ry h
 obtain ⟨hs,q⟩:=h
 cases x with
 | non=>
  cases rx
  cases y with
  | non=>cases ry; exact PySem.EqNone.ne_none_none (bo I q (by simp))
  | bl j=>cases ry; exact PySem.EqNone.ne_none_bool (bo I q (by simp))
  | int j=>obtain ⟨t',rfl⟩:=ry; exact PySem.EqNone.ne_none_int (bo I q (by simp))
  | str j=>obtain ⟨t',rfl⟩:=ry; exact PySem.EqNone.ne_none_str (bo I q (by simp))
  | _=>exact absurd (show false=true from hs) Bool.false_ne_true
 | bl i=>
  cases rx
  cases y with
  | non=>cases ry; exact PySem.EqNone.ne_bool_none (bo I q (by simp))
  | bl j=>cases ry; exact ne_bool (bo I q (congrArg not sM))
  | str j=>obtain ⟨t',rfl⟩:=ry; exact PySem.EqMixed.ne_bool_str (bo I q (by simp))
  | _=>exact absurd (show false=true from hs) Bool.false_ne_true
 | int i=>
  obtain ⟨t,rfl⟩:=rx
  cases y with
  | non=>cases ry; exact PySem.EqNone.ne_int_none (bo I q (by simp))
  | int j=>obtain ⟨t',rfl⟩:=ry; exact ne_int (bo I q (congrArg not qY))
  | str j=>obtain ⟨t',rfl⟩:=ry; exact PySem.EqMixed.ne_int_str (bo I q (by simp))
  | _=>exact absurd (show false=true from hs) Bool.false_ne_true
 | str i=>
  obtain ⟨t,rfl⟩:=rx
  cases y with
  | non=>cases ry; exact PySem.EqNone.ne_str_none (bo I q (by simp))
  | bl j=>cases ry; exact PySem.EqMixed.ne_str_bool (bo I q (by simp))
  | int j=>obtain ⟨t',rfl⟩:=ry; exact PySem.EqMixed.ne_str_int (bo I q (by simp))
  | str j=>obtain ⟨t',rfl⟩:=ry; exact ne_str (bo I q (congrArg not qX))
  | _=>exact absurd (show false=true from hs) Bool.false_ne_true
 | byt i=>
  obtain ⟨t,rfl⟩:=rx
  cases y with
  | byt j=>obtain ⟨t',rfl⟩:=ry; exact PySem.W.ne_bytes (bo I q (congrArg not qZ))
  | _=>exact absurd (show false=true from hs) Bool.false_ne_true
 | _=>cases y <;> exact absurd (show false=true from hs) Bool.false_ne_true
theorem C5:OpR X (compareOp .Lt) (rI0 fun i j=>.bl (decide (i < j))):=kY fun _ _ _ _ _ _ _ q=>lt_int q
theorem C6:OpR X (compareOp .LtE) (rI0 fun i j=>.bl (decide (i≤j))):=kY fun _ _ _ _ _ _ _ q=>le_int q
theorem C7:OpR X (compareOp .Gt) (rI0 fun i j=>.bl (decide (j < i))):=kY fun _ _ _ _ _ _ _ q=>gt_int q
theorem C8:OpR X (compareOp .GtE) (rI0 fun i j=>.bl (decide (j≤i))):=kY fun _ _ _ _ _ _ _ q=>ge_int q
theorem op_in_str:OpR X (compareOp .In) (fun x y H Q=>∃ i j,x=.str i∧y=.str j∧Q (.bl (!(Builtin.Str.occurrences j i 0 j.length 1).isEmpty)) H):=by
 intro pins s σ H x y v u Q I rx ry h
 obtain ⟨i,j,rfl,rfl,q⟩:=h
 obtain ⟨t,rfl⟩:=rx
 obtain ⟨t',rfl⟩:=ry
 exact in_str (bo I q rfl)
theorem BJ:OpR X (compareOp .Is) (fun x y H Q=>y=.non∧Q (.bl (decide (x=.non))) H):=by
 intro pins s σ H x y v u Q I rx ry h
 obtain ⟨rfl,q⟩:=h
 cases ry
 refine is_none_gen (bo I q ?_)
 cases x <;> first
  | (cases rx; rfl)
  | (obtain ⟨t,rfl⟩:=rx; rfl)
theorem op_notin_str:OpR X (compareOp .NotIn) (fun x y H Q=>∃ i j,x=.str i∧y=.str j∧Q (.bl (!(!(Builtin.Str.occurrences j i 0 j.length 1).isEmpty))) H):=by
 intro pins s σ H x y v u Q I rx ry h
 obtain ⟨i,j,rfl,rfl,q⟩:=h
 obtain ⟨t,rfl⟩:=rx
 obtain ⟨t',rfl⟩:=ry
 exact notIn_str (bo I q rfl)
theorem OpR.or {f:Value→Value→Sem Value} {r r':R2} (h:OpR X f r) (h':OpR X f r'):OpR X f (fun x y H Q=>r x y H Q∨r' x y H Q):=by
 intro pins s σ H x y v u Q I rx ry q
 rcases q with q | q
 ·exact h pins s σ H x y v u Q I rx ry q
 ·exact h' pins s σ H x y v u Q I rx ry q
theorem se (b:Expr) {op:CmpOp} (h:op≠.In:=by decide) (h2:op≠.NotIn:=by decide):behindInMarks op b=false:=by
 have e1:(op == CmpOp.In)=false:=by cases op <;> first | rfl | exact absurd rfl h
 have e2:(op == CmpOp.NotIn)=false:=by cases op <;> first | rfl | exact absurd rfl h2
 cases b <;> simp [behindInMarks,e1,e2]
theorem An {op:CmpOp} {r:R2} (ho:OpR X (compareOp op) r) (ha:PE X a ta) (hb:PE X b tb) (hm:behindInMarks op b=false):PE X (.Compare a [op] [b] pos) (tOp r ta tb):=by
 intro pins s σ H Q I h
 exact wpAny_Compare1 (nK ha hb I h fun v u s2 x y H2 I2 rx ry q=>ho pins s2 σ H2 x y v u Q I2 rx ry q) hm
def tf (t:TE):TT:=fun σ H Q=>t σ H fun x H'=>∃ k,x=.bl k∧Q k H'
theorem Ag {op:CmpOp} {r:R2} (ho:OpR X (compareOp op) r) (ha:PE X a ta) (hb:PE X b tb) (hm:behindInMarks op b=false):PT X (.Compare a [op] [b] pos) (tf (tOp r ta tb)):=by
 intro pins s σ H Q I h
 refine wpAny_isTrue_Compare1 (thn (ha pins s σ H _ I h) fun v s1 ⟨x,H1,I1,r1,q1⟩=>thn (hb pins s1 σ H1 _ I1 q1) fun u s2 ⟨y,H2,I2,r2,q2⟩=>
  thn (ho pins s2 σ H2 x y v u _ I2 r1 r2 q2) fun c s3 ⟨z,H3,I3,r3,k,e,q3⟩=>?_) hm
 subst e
 cases r3
 exact wpAny_truthy_bool ⟨H3,I3,q3⟩
def mL (r r':R2) (ta tb tc:TE):TE:=fun σ H Q=>ta σ H fun x H1=>tb σ H1 fun y H2=>r x y H2 fun z H3=>∃ k,z=.bl k ∧
 (if k=true then tc σ H3 fun w' H4=>r' y w' H4 Q else Q (.bl false) H3)
theorem zd {op op':CmpOp} {r r':R2} (ho:OpR X (compareOp op) r) (ho':OpR X (compareOp op') r') (ha:PE X a ta) (hb:PE X b tb) (hc:PE X c tc)
  (hm:lastMarks [op,op'] [b,c]=false:=by with_unfolding_all rfl):PE X (.Compare a [op,op'] [b,c] pos) (mL r r' ta tb tc):=by
 intro pins s σ H Q I h
 refine Compare_chain (thn (ha pins s σ H _ I h) fun v s1 ⟨x,H1,I1,r1,q1⟩=>chain_link (thn (hb pins s1 σ H1 _ I1 q1) fun u s2 ⟨y,H2,I2,r2,q2⟩=>
  thn (ho pins s2 σ H2 x y v u _ I2 r1 r2 q2) fun d s3 ⟨z,H3,I3,r3,k,e,q3⟩=>?_)) hm
 subst e
 cases r3
 refine wpAny_truthy_bool ?_
 cases k with
 | false=>exact ite_ff ⟨.bl false,H3,I3,rfl,q3⟩
 | true=>exact ite_tt (chain_last (thn (hc pins s3 σ H3 _ I3 q3) fun w' s4 ⟨z',H4,I4,r4,q4⟩=>ho' pins s4 σ H4 y z' u w' Q I4 r2 r4 q4))
theorem yZ {op op':CmpOp} {r r':R2} (ho:OpR X (compareOp op) r) (ho':OpR X (compareOp op') r') (ha:PE X a ta) (hb:PE X b tb) (hc:PE X c tc)
  (hm:lastMarks [op,op'] [b,c]=false:=by with_unfolding_all rfl):PT X (.Compare a [op,op'] [b,c] pos) (tf (mL r r' ta tb tc)):=by
 intro pins s σ H Q I h
 refine isTrue_chain (thn (ha pins s σ H _ I h) fun v s1 ⟨x,H1,I1,r1,q1⟩=>test_link (thn (hb pins s1 σ H1 _ I1 q1) fun u s2 ⟨y,H2,I2,r2,q2⟩=>
  thn (ho pins s2 σ H2 x y v u _ I2 r1 r2 q2) fun d s3 ⟨z,H3,I3,r3,k,e,q3⟩=>?_)) hm
 subst e
 cases r3
 refine wpAny_truthy_bool ?_
 cases k with
 | false=>
  obtain ⟨k',e',q'⟩:=q3
  cases e'
  exact ite_ff ⟨H3,I3,q'⟩
 | true=>
  refine ite_tt (test_last (thn (hc pins s3 σ H3 _ I3 q3) fun w' s4 ⟨z',H4,I4,r4,q4⟩=>thn (ho' pins s4 σ H4 y z' u w' _ I4 r2 r4 q4) fun d' s5 ⟨z2,H5,I5,r5,k2,e2,q5⟩=>?_))
  subst e2
  cases r5
  exact wpAny_truthy_bool ⟨H5,I5,q5⟩
def nL (K:Frag) (x:V) (H:Hp) (k:Bool):Prop:=
 match x with
 | .non=>k=false
 | .bl b=>k=b
 | .int i=>k=(i != 0)
 | .str y=>y.length≤sizeLine∧k=((y.length:Int) != 0)
 | .byt y=>y.size≤sizeLine∧k=((y.size:Int) != 0)
 | .ref p=>(∃ xs,SqL K H p xs∧k = !xs.isEmpty)∨(∃ xs,SqT K H p xs∧k = !xs.isEmpty)∨∃ kvs,H p=some (.dK kvs)∧k = !kvs.isEmpty
 | _=>False
theorem xw {κ:Type} {kvs:List (κ×V)} {vs:List (κ×Value)} (r:KV kvs vs):(!vs.isEmpty) = !kvs.isEmpty:=by cases r <;> rfl
theorem oq {xs:List V} {its:List Value} (r:Vals xs its):(!its.toArray.isEmpty) = !xs.isEmpty:=by cases r <;> simp
theorem gE:(sizeLine:Nat) < 2 ^ 63:=by rw [sizeLine_eq]; decide
theorem Be:Ei X (fun x H Q=>∃ k,nL X.K x H k∧Q k H):=by
 intro pins s σ H x v Q I rx h
 obtain ⟨k,e,q⟩:=h
 have hl:=gE
 have hs:sizeLine=16777216:=sizeLine_eq
 cases x with
 | non=>
  cases rx
  have e':k=false:=e
  subst e'
  exact truthy_none ⟨H,I,q⟩
 | bl b=>
  cases rx
  have e':k=b:=e
  subst e'
  exact wpAny_truthy_bool ⟨H,I,q⟩
 | int i=>
  obtain ⟨t,rfl⟩:=rx
  have e':k=(i != 0):=e
  subst e'
  exact PySem.P.truthy_int ⟨H,I,q⟩
 | str y=>
  obtain ⟨t,rfl⟩:=rx
  obtain ⟨hy,e'⟩:y.length≤sizeLine∧k=((y.length:Int) != 0):=e
  subst e'
  exact PySem.P.truthy_str (by omega) ⟨H,I.tok _,q⟩
 | byt y=>
  obtain ⟨t,rfl⟩:=rx
  obtain ⟨hy,e'⟩:y.size≤sizeLine∧k=((y.size:Int) != 0):=e
  subst e'
  exact PySem.W.truthy_bytes (by omega) ⟨H,I.tok _,q⟩
 | ref p=>
  cases rx
  have e':(∃ xs,SqL X.K H p xs∧k = !xs.isEmpty)∨(∃ xs,SqT X.K H p xs∧k = !xs.isEmpty)∨∃ kvs,H p=some (.dK kvs)∧k = !kvs.isEmpty:=e
  rcases e' with ⟨xs,hx,e'⟩ | ⟨xs,hx,e'⟩ | ⟨kvs,hx,e'⟩
  ·subst e'
   obtain ⟨its,r,pl,hz⟩:=I.list hx
   have hlen:=r.length
   exact wpAny_truthy_list pl.isList (by simp only [List.size_toArray]; omega) ⟨H,I.tok _,by rw [oq r]; exact q⟩
  ·subst e'
   obtain ⟨its,r,pl,hz⟩:=I.tuple hx
   have hlen:=r.length
   exact truthy_tuple pl (by simp only [List.size_toArray]; omega) ⟨H,I.tok _,by rw [oq r]; exact q⟩
  ·subst e'
   obtain ⟨hz,hS,vs,r,m⟩:kvs.length≤sizeLine∧(p == sysModules)=false∧∃ vs,KV kvs vs∧s.heap.DictOf (bB X.prog X.w) p vs:=I.hok p _ hx
   have hlen:kvs.length=vs.length:=Paired.length r
   exact wpAny_truthy_dict hS m (by omega) ⟨H,I.tok _,by rw [xw r]; exact q⟩
 | _=>exact (show False from e).elim
theorem yY (ha:PE X a ta) (he:∀ whole,isTrue a X.env whole=(do let v ← whole; standAt a.pos; holding [v] (truthy v))) :
  PT X a (fun σ H Q=>ta σ H fun x H'=>∃ k,nL X.K x H' k∧Q k H'):=by
 intro pins s σ H Q I h
 exact isTrue_plain (thn (ha pins s σ H _ I h) fun v s1 ⟨x,H1,I1,r1,q1⟩=>Be pins s1 σ H1 x v Q I1 r1 q1) (he _)
theorem op_add_str:OpR X (binaryOp .Add) (fun x y H Q=>∃ i j,x=.str i∧y=.str j∧i.length + j.length≤sizeLine∧Q (.str (i++j)) H):=by
 intro pins s σ H x y v u Q I rx ry h
 obtain ⟨i,j,rfl,rfl,hz,q⟩:=h
 obtain ⟨t,rfl⟩:=rx
 obtain ⟨t',rfl⟩:=ry
 exact add_str (fun t' tk=>⟨.str (i++j),H,I.tok _,⟨_,rfl⟩,q⟩) hz
theorem vals1 {x:V} {us:List Value} (r:Vals [x] us):∃ u,us=[u]∧RelV x u:=by
 cases r with
 | cons r1 r2=>cases r2; exact ⟨_,rfl,r1⟩
theorem vals2 {x y:V} {us:List Value} (r:Vals [x,y] us):∃ u w',us=[u,w']∧RelV x u∧RelV y w':=by
 cases r with
 | cons r1 r2=>
  cases r2 with
  | cons r3 r4=>cases r4; exact ⟨_,_,rfl,r1,r3⟩
theorem zQ:CallR X (.builtin "abs") (fun xs H Q=>∃ i,xs=[.int i]∧Q (.int (if i < 0 then -i else i)) H):=by
 intro pins s σ H xs us Q I r h
 obtain ⟨i,rfl,q⟩:=h
 obtain ⟨u,rfl,t,rfl⟩:=vals1 r
 exact call_abs_int fun u tk=>⟨.int (if i < 0 then -i else i),H,I.tok _,⟨_,rfl⟩,q⟩
theorem call_int1:CallR X (.type "int") (fun xs H Q=>(∃ i,xs=[.int i]∧Q (.int i) H)∨∃ k,xs=[.bl k]∧Q (.int (if k then 1 else 0)) H):=by
 intro pins s σ H xs us Q I r h
 rcases h with ⟨i,rfl,q⟩ | ⟨k,rfl,q⟩
 ·obtain ⟨u,rfl,t,rfl⟩:=vals1 r
  exact call_int_int ⟨.int i,H,I,⟨_,rfl⟩,q⟩
 ·obtain ⟨u,rfl,r1⟩:=vals1 r
  cases r1
  exact call_int_bool ⟨.int (if k then 1 else 0),H,I.tok _,⟨_,rfl⟩,q⟩
theorem vX:CallR X (.type "str") (fun xs H Q=>∃ i,xs=[.int i]∧i.natAbs.log2 < 1920∧Q (.str (toString i)) H):=by
 intro pins s σ H xs us Q I r h
 obtain ⟨i,rfl,hz,q⟩:=h
 obtain ⟨u,rfl,t,rfl⟩:=vals1 r
 exact PySem.P.str_of_int hz ⟨.str _,H,I.tok _,⟨_,rfl⟩,q⟩
end
structure ObjM (h:Heap) (x dx C:Addr) (mA:Str→Option Value):Prop where
 obj:h.get? x=some (PySem.W.instObj C dx)
 ns:h.Ns1 dx mA
 ne:dx≠x
theorem o7 {h:Heap} {dx:Addr} {mA:Str→Option Value} (n:h.Ns1 dx mA):∃ od,h.get? dx=some od∧∀ name,PySem.W.lookIn name od=some (mA name):=by
 obtain ⟨o,es,ep,ho,hd,hk,_,hm⟩:=n
 refine ⟨o,ho,fun name=>?_⟩
 have e:=hm name
 unfold nsFind findBy at e
 rw [← Array.find?_toList] at e
 unfold PySem.W.lookIn
 rw [hd]
 dsimp only
 split
 ·rename_i y q
  rw [q] at e
  exact congrArg some e
 ·rename_i q
  rw [q] at e
  have a:es.toList.any (·.refKey)=false:=by
   rw [List.any_eq_false]
   intro y hy
   obtain ⟨z,t,hkey⟩:=hk y (Array.mem_toList_iff.mp hy)
   simp [DictEntry.refKey,hkey]
  have a':¬ es.toList.any (·.refKey)=true:=by rw [a]; exact Bool.false_ne_true
  rw [if_neg a']
  exact congrArg some e
theorem ObjM.look {h:Heap} {x dx C:Addr} {mA:Str→Option Value} (I:ObjM h x dx C mA):∃ od,PySem.W.InstAt h x (PySem.W.instObj C dx) C (some od)∧∀ name,PySem.W.lookIn name od=some (mA name):=
 let ⟨od,ho,hl⟩:=o7 I.ns
 ⟨od,⟨I.obj,rfl,rfl,ho⟩,hl⟩
section
variable {prog:Program} {w:World} {A:Around} {E:Value→Shared→Prop} {s:Shared} {K:Frag} {x dx C f:Addr} {mA:Str→Option Value} {name:Str} {v:Value}
end
theorem RelO.some_of {v:V} {o:Option Value} (r:RelO (some v) o):∃ u,o=some u∧RelV v u:=by
 cases o with
 | none=>exact (show False from r).elim
 | some u=>exact ⟨u,rfl,r⟩
theorem yr {v:V} {u:Value} (r:RelV v u):PySem.W.handedIn u=true:=by
 cases v with
 | non=>cases (show u=Value.none from r); rfl
 | bl b=>cases (show u=Value.bool b from r); rfl
 | int i=>obtain ⟨t,e⟩:=(show ∃ t,u=Value.int i t from r); cases e; rfl
 | str x=>obtain ⟨t,e⟩:=(show ∃ t,u=Value.str x t from r); cases e; rfl
 | byt b=>obtain ⟨t,e⟩:=(show ∃ t,u=Value.bytes b t from r); cases e; rfl
 | flt b=>obtain ⟨t,e⟩:=(show ∃ t,u=Value.float b t from r); cases e; rfl
 | ref a=>cases (show u=Value.ref a from r); rfl
 | ty n=>cases (show u=Value.type n from r); rfl
section
variable {P:Program} {w:World} {H H':Hp} {h h':Heap} {a C dx:Addr} {fs fs':List (Str×V)}
theorem AD (hok:HOk P w H h) (e:H a=some (.ins C dx fs)):∃ mA,ObjM h a dx C mA∧(∀ f,RelO (fs.lookup f) (mA f))∧PySem.Within mA (fs.map (·.1))∧fs.length≤1000∧H dx=some (.own a):=by
 obtain ⟨d,z,ne,ob,mA,n,r,q⟩:=(show ObjOk P w H h a (.ins C dx fs) from hok a _ e)
 exact ⟨mA,⟨ob,n,ne⟩,r,q,z,d⟩
end
structure Cls (K:Frag) (C:Addr):Prop where
 pg:PySem.W.plainGet K C Str.empty=true
 hd:PySem.W.hasDictIn K C=true
 po:PySem.W.plainOver K C=true
 sa:PySem.W.findIn K (.ref C) "__setattr__" = some (some (.builtin "object.__setattr__"))
theorem Cls.get {K:Frag} {C:Addr} (c:Cls K C) (f:Str):PySem.W.plainGet K C f=true:=c.pg
structure Con (K:Frag) (C:Addr) (f:Str) (v:V) (u:Value):Prop where
 at_:PySem.W.findIn K (.ref C) f=some (some u)
 rel:RelV v u
 get:PySem.W.specialIn K u "__get__" = some none
 cp:PySem.W.copiedNames.contains f=false
structure Meth (K:Frag) (C:Addr) (m:Str) (f:Addr):Prop where
 at_:PySem.W.findIn K (.ref C) m=some (some (.ref f))
 fn:PySem.W.isFn K (.ref f)=true
 kp:PySem.W.keepIn K (.ref f)=true
section
variable {X:Cx} {pins:List (Addr×Obj)} {σ:St} {H:Hp} {s:Shared} {a C dx:Addr} {fs:List (Str×V)} {f:Str} {v:V} {A:Around} {E:Value→Shared→Prop}
theorem AU {prog:Program} {w:World} {env:Env} {e:Expr} {f:Str} {pos:Pos} {s:Shared} {Q:Value→Shared→Prop} (hb:attributeBase e f env (eval e env)=eval e env)
  (h:wpAny (model prog w) A (eval e env) (fun o s₁=>wpAny (model prog w) A (getAttr o f true) Q E s₁) E s):wpAny (model prog w) A (eval (.Attribute e f pos) env) Q E s:=Attribute_any_ h (by rw [arm_eval_Attribute,hb])
end
section
variable {X:Cx} {o e value:Expr} {f:Str} {pos pos' tpos:Pos} {ta tv:TE}
end
section
variable {X:Cx} {pins:List (Addr×Obj)} {σ:St} {H:Hp} {s:Shared} {A:Around} {E:Value→Shared→Prop} {Q:Value→Shared→Prop} {c:Value} {b:Bool}
inductive TyOf (K:Frag) (H:Hp):V→Value→Prop where
 | non:TyOf K H .non (.type "NoneType")
 | bl (x:Bool):TyOf K H (.bl x) (.type "bool")
 | int (i:Int):TyOf K H (.int i) (.type "int")
 | str (x:Str):TyOf K H (.str x) (.type "str")
 | flt (x:UInt64):TyOf K H (.flt x) (.type "float")
 | lst {a:Addr} {xs:List V} (e:H a=some (.lst xs)):TyOf K H (.ref a) (.type "list")
 | frz {a:Addr} {o:Obj} {xs:List V} (e:H a=some (.frz o (.lst xs))):TyOf K H (.ref a) (.type "list")
 | tup {a:Addr} {xs:List V} (e:H a=some (.tup xs)):TyOf K H (.ref a) (.type "tuple")
 | dK {a:Addr} {kvs:List (Key×V)} (e:H a=some (.dK kvs)):TyOf K H (.ref a) (.type "dict")
 | dT {a:Addr} {kvs:List (List Key×V)} (e:H a=some (.dT kvs)):TyOf K H (.ref a) (.type "dict")
 | ins {a C dx:Addr} {fs:List (Str×V)} (e:H a=some (.ins C dx fs)) (cl:Cls K C) (ha:PySem.W.findIn K (.ref C) "__class__" = some (some (.builtin "object.__class__")))
   (hn:PySem.W.specialIn K (.builtin "object.__class__") "__get__" = some (some (.builtin "getset_descriptor.__get__"))) (htk:PySem.W.takesIn K (.builtin "object.__class__")=some true)
   (hm:PySem.W.mroIn K C (.type "object")=some true):TyOf K H (.ref a) (.ref C)
theorem jH {x:V} {u t:Value} (I:Inv X pins σ H s) (rx:RelV x u) (ty:TyOf X.K H x t) (e:PySem.W.kitOne X.K t c=some b) (h:∀ tk,Q (.bool b) { s with toks:=tk }) :
  wpAny (model X.prog X.w) A (call (.builtin "isinstance") [u,c]) Q E s:=by
 cases ty with
 | non=>cases (show u=Value.none from rx); exact PySem.W.kia_one PySem.W.kitx_none I.kIn True.intro e (fun z=>nomatch z) h
 | bl y=>cases (show u=Value.bool y from rx); exact PySem.W.kia_one PySem.W.kitx_bool I.kIn True.intro e (fun z=>nomatch z) h
 | int i=>obtain ⟨t,q⟩:=(show ∃ t,u=Value.int i t from rx); cases q; exact PySem.W.kia_one PySem.W.kitx_int I.kIn True.intro e (fun z=>nomatch z) h
 | str y=>obtain ⟨t,q⟩:=(show ∃ t,u=Value.str y t from rx); cases q; exact PySem.W.kia_one PySem.W.kitx_str I.kIn True.intro e (fun z=>nomatch z) h
 | flt y=>obtain ⟨t,q⟩:=(show ∃ t,u=Value.float y t from rx); cases q; exact PySem.W.kia_one PySem.W.kitx_float I.kIn True.intro e (fun z=>nomatch z) h
 | @lst a xs ea=>
  cases (show u=Value.ref a from rx)
  obtain ⟨_,_,n,_,h1⟩:=(show ObjOk X.prog X.w H s.heap a (.lst xs) from I.hok a _ ea)
  exact PySem.W.kia_one PySem.W.kitx_list I.kIn ⟨_,h1,rfl⟩ e (fun z=>nomatch z) h
 | @frz a ob xs ea=>
  cases (show u=Value.ref a from rx)
  obtain ⟨_,_,_,n,_,h1⟩:=(show ObjOk X.prog X.w H s.heap a (.frz ob (.lst xs)) from I.hok a _ ea)
  exact PySem.W.kia_one PySem.W.kitx_list I.kIn ⟨_,h1,rfl⟩ e (fun z=>nomatch z) h
 | @tup a xs ea=>
  cases (show u=Value.ref a from rx)
  obtain ⟨_,_,_,p⟩:=(show ObjOk X.prog X.w H s.heap a (.tup xs) from I.hok a _ ea)
  obtain ⟨o,h1,h2,_⟩:=p
  exact PySem.W.kia_one PySem.W.kitx_tuple I.kIn ⟨o,h1,h2⟩ e (fun z=>nomatch z) h
 | @dK a kvs ea=>
  cases (show u=Value.ref a from rx)
  obtain ⟨_,_,vs,_,p⟩:=(show ObjOk X.prog X.w H s.heap a (.dK kvs) from I.hok a _ ea)
  obtain ⟨o,es,ep,h1,h2,_⟩:=p
  exact PySem.W.kia_one PySem.W.kitx_dict I.kIn ⟨o,h1,h2.1⟩ e (fun z=>nomatch z) h
 | @dT a kvs ea=>
  cases (show u=Value.ref a from rx)
  obtain ⟨_,_,xs,_,o,es,ep,h1,h2,_⟩:=(show ObjOk X.prog X.w H s.heap a (.dT kvs) from I.hok a _ ea)
  exact PySem.W.kia_one PySem.W.kitx_dict I.kIn ⟨o,h1,h2.1⟩ e (fun z=>nomatch z) h
 | @ins a C dx fs ea cl ha hn htk hm=>
  cases (show u=Value.ref a from rx)
  obtain ⟨mA,O,_⟩:=AD I.hok ea
  obtain ⟨od,J,_⟩:=O.look
  exact PySem.W.kia_one (PySem.W.kitx_own (cl.get _) cl.hd ha hn htk hm) I.kIn J e (fun z=>nomatch z) h
end
structure Room (k:Nat) (A:Around):Prop where
 hd:A.handled=none
 dp:A.depth + 3 * k + 5 < recursionLimit
 un:A.units + 16 * k + 200 < cLine
 gd:A.guards=some []
theorem Room.mono {j k:Nat} {A:Around} (r:Room k A) (h:j≤k):Room j A:=⟨r.hd,by have:=r.dp; omega,by have:=r.un; omega,r.gd⟩
theorem Room.deeper {k:Nat} {A:Around} (r:Room (k + 1) A) (env:Env):Room k (A.deeper env):=⟨r.hd,by have:=r.dp; show A.depth + 1 + 3 * k + 5 < _; omega,by have:=r.un; show A.units + 3 + 16 * k + 200 < _; omega,r.gd⟩
theorem xu {A:Around} {C:Addr} {us:List Value} {kw:List (Str×Value)}:(A.under (.builtin "type.__call__" ⟨.ref C::us,kw⟩)).depth=A.depth + 1:=by first | rfl | simp [Around.under,Code.weight,Code.isCreation,Code.isGuard,Code.isCaller,Code.frames,Code.isFrame,guardIds]
theorem xt {A:Around} {C:Addr} {us:List Value} {kw:List (Str×Value)}:(A.under (.builtin "type.__call__" ⟨.ref C::us,kw⟩)).units=A.units + 1:=by first | rfl | simp [Around.under,Code.cUnits,Code.frames,Code.isFrame]
theorem Room.make {k:Nat} {A:Around} (r:Room (k + 1) A) (C:Addr) (us:List Value) (kw:List (Str×Value)):Room k (A.under (.builtin "type.__call__" ⟨.ref C::us,kw⟩)):=⟨r.hd,by have:=r.dp; rw [xu]; omega,by have:=r.un; rw [xt]; omega,by first | exact r.gd | (simpa [Around.under,Code.isGuard,guardIds] using r.gd)⟩
theorem Room.depth {k:Nat} {A:Around} (r:Room k A):A.depth < recursionLimit:=by have:=r.dp; omega
def kX:TA:=fun _ H Q=>Q [] H
def jd (ta:TE) (tr:TA):TA:=fun σ H Q=>ta σ H fun x H1=>tr σ H1 fun xs H2=>Q (x::xs) H2
section
variable {X:Cx} {e:Expr} {es:List Expr} {te:TE} {t:TA} {pos:Pos}
theorem bX:PA X [] kX:=fun _ _ _ _ H Q I h=>Calls.spliced_nil ⟨[],H,I,.nil,h⟩
theorem bu (ha:PE X e te) (hr:PA X es t) (hs:starEach (e::es) X.env=(false,eval e X.env)::starEach es X.env:=by rfl):PA X (e::es) (jd te t):=by
 intro pos pins s σ H Q I h
 rw [hs]
 show wpAny _ _ (spliced ((false,eval e X.env)::backTo pos (starEach es X.env))) _ _ s
 refine Calls.spliced_cons (thn (ha pins s σ H _ I h) fun u s1 ⟨x,H1,I1,r1,q1⟩=>?_)
 exact thn (hr pos pins s1 σ H1 _ I1 q1) fun us s2 ⟨xs,H2,I2,r2,q2⟩=>⟨x::xs,H2,I2,.cons r1 r2,q2⟩
def DJ (t:TA):TE:=fun σ H Q=>t σ H fun xs H1=>xs.length≤sizeLine∧∀ p,H1 p=none→Q (.ref p) (upd H1 p (.tup xs))
def DN (t:TA):TE:=fun σ H Q=>t σ H fun xs H1=>xs.length≤sizeLine∧∀ p,H1 p=none→Q (.ref p) (upd H1 p (.lst xs))
theorem mS {x1} (h:PA X es t):PE X (.Tuple es x1 pos) (DJ t):=by
 intro pins s σ H Q I hq
 refine wpAny_Tuple_spliced (thn (h pos pins s σ H _ I hq) fun us s1 ⟨xs,H1,I1,r,z,q⟩=>⟨by rw [← r.length]; exact z,?_⟩)
 have hf:H1 s1.heap.objs.size=none:=I1.hok.fresh (Nat.le_refl _)
 refine ⟨.ref s1.heap.objs.size,upd H1 s1.heap.objs.size (.tup xs),I1.laid (t':=s1.toks) (fun b u e=>Heap.get?_push_of_some _ e) (Nat.le_refl _) ?_,rfl,q _ hf⟩
 exact ⟨z,us,r,⟨_,Heap.get?_push_size _ rfl,rfl,_,rfl⟩⟩
theorem i6 (h:PA X es t):PE X (.List es pos) (DN t):=by
 intro pins s σ H Q I hq
 refine wpAny_List_spliced (thn (h pos pins s σ H _ I hq) fun us s1 ⟨xs,H1,I1,r,z,q⟩=>⟨by rw [← r.length]; exact z,?_⟩)
 have hf:H1 s1.heap.objs.size=none:=I1.hok.fresh (Nat.le_refl _)
 refine ⟨.ref s1.heap.objs.size,upd H1 s1.heap.objs.size (.lst xs),I1.laid (t':=s1.toks) (fun b u e=>Heap.get?_push_of_some _ e) (Nat.le_refl _) ?_,rfl,q _ hf⟩
 exact ⟨z,us,0,r,Heap.get?_push_size _ rfl⟩
end
abbrev Sp:=List V→Hp→VK→XK→Prop
abbrev CXT:=List Env→Hp→Shared→XK→Value→Shared→Prop
structure Env0 (P:Program) (w:World) (K:Frag) (mg:Str→Option Value) (base:Heap) (A:Around) (outer:List Env) (s:Shared) (H:Hp):Prop where
 frames:A.frames=some outer
 mod:Mod K mg base
 bs:∀ b o,base.get? b=some o→s.heap.get? b=some o∧H b=none
 bsz:base.objs.size≤s.heap.objs.size
 funs:s.heap.FunFrames base outer
 frf:∀ b∈frs outer,H b=none
 hok:HOk P w H s.heap
 bare:AllBare s.gens
def CE (outer:List Env) (P:Program) (w:World) (H:Hp) (s:Shared) (Q:VK) (u:Value) (s':Shared):Prop:=∃ v H',s'.os=s.os∧AllBare s'.gens∧Un (frs outer) [] H H' s.heap s'.heap∧HOk P w H' s'.heap∧RelV v u∧Q v H'
def CR (CX:CXT) (outer:List Env) (P:Program) (w:World) (H:Hp) (s:Shared) (Q:VK) (E:XK) (r:Result) (s':Shared):Prop:=
 match r with
 | .ok (.ret u)=>CE outer P w H s Q u s'
 | .ok _=>False
 | .error e=>CX outer H s E e s'
structure FnOk (P:Program) (w:World) (K:Frag) (mg:Str→Option Value) (base:Heap) (CX:CXT) (k:Nat) (f:Addr) (fd:FuncData) (ps:List Str) (sp:Sp):Prop where
 len:∀ vs H Q E,sp vs H Q E→vs.length=ps.length
 run:∀ (A:Around) (outer:List Env) (s:Shared) (H:Hp) (args:Args) (us:List Value) (vs:List V) (Q:VK) (E:XK),Room k A→Env0 P w K mg base A outer s H→BindsTo s fd args (ps.zip us)→Vals vs us→sp vs H Q E →
  codeAny (model P w) A (.call (.ref f) args) (CR CX outer P w H s Q E) s
theorem Env0.make {P:Program} {w:World} {K:Frag} {mg:Str→Option Value} {base:Heap} {A:Around} {outer:List Env} {s:Shared} {H:Hp} (e:Env0 P w K mg base A outer s H) (C:Addr) (us:List Value) (kw:List (Str×Value)) :
  Env0 P w K mg base (A.under (.builtin "type.__call__" ⟨.ref C::us,kw⟩)) outer s H:=⟨by first | exact e.frames | (simpa [Around.under,Code.envs,Code.isFrame,pushEnvs] using e.frames),e.mod,e.bs,e.bsz,e.funs,e.frf,e.hok,e.bare⟩
section
variable {X:Cx} {pins:List (Addr×Obj)} {σ:St} {H:Hp} {s s':Shared}
theorem Inv.env0 (I:Inv X pins σ H s):Env0 X.prog X.w X.K X.mg X.base X.A X.stack s H:=⟨I.ok.frames,I.ok.mod,I.bs,Nat.le_trans I.ok.bsz I.sz,I.stack,I.stkFree,I.hok,I.bare⟩
theorem Inv.after {Q:VK} {u:Value} (I:Inv X pins σ H s) (h:CE X.stack X.prog X.w H s Q u s'):EP X pins σ Q u s':=by
 obtain ⟨v,H',os,bare,un,hok,r,q⟩:=h
 obtain ⟨hh,g,d,t,os'⟩:=s'
 obtain rfl:os'=s.os:=os
 exact ⟨v,H',I.call (h':=hh) (g':=g) (d':=d) (t':=t) (ch:=[]) un hok bare (fun b z=>absurd z (by simp)),r,q⟩
end
def tq (sp:Sp) (dvs:List V) (E:XK) (t:TA):TE:=fun σ H Q=>t σ H fun vs H1=>sp (vs++dvs) H1 Q E
def Binds (K:Frag) (fd:FuncData) (ps:List Str) (ds:List Value):Prop:=∀ (s:Shared) (us:List Value),K.In s.heap→(us++ds).length=ps.length→BindsTo s fd ⟨us,[]⟩ (ps.zip (us++ds))
theorem Binds.all {K:Frag} {fd:FuncData} {ps:List Str} (h:∀ us:List Value,us.length=ps.length→bindArgs fd ⟨us,[]⟩=pure (ps.zip us)):Binds K fd ps []:=fun s us _ hl=>by
 rw [List.append_nil] at hl ⊢
 exact .of_eq (h us hl)
def m6 (CX:CXT) (X:Cx) (E:XK):Prop:=∀ (pins:List (Addr×Obj)) (σ:St) (H:Hp) (s:Shared) (e:Value) (s':Shared),Inv X pins σ H s→CX X.stack H s E e s'→X.xe e s'
section
variable {X:Cx} {CX:CXT} {k:Nat} {f C:Addr} {fd:FuncData} {ps:List Str} {sp:Sp} {dvs:List V} {ds:List Value} {E:XK} {x m:Str} {p pos apos:Pos} {e o:Expr} {es:List Expr} {ta:TE} {t:TA}
theorem Bs {pins:List (Addr×Obj)} {σ:St} {H:Hp} {s:Shared} {Q:VK} {us:List Value} {vs:List V} (F:FnOk X.prog X.w X.K X.mg X.base CX k f fd ps sp) (hr:Room k X.A) (hb:Binds X.K fd ps ds) (hd:Vals dvs ds) (hx:m6 CX X E)
  (I:Inv X pins σ H s) (r:Vals vs us) (h:sp (vs++dvs) H Q E):wpAny (model X.prog X.w) X.A (call (.ref f) us) (EP X pins σ Q) X.xe s:=by
 have r2:Vals (vs++dvs) (us++ds):=r.append hd
 have hl:(us++ds).length=ps.length:=by rw [← r2.length]; exact F.len _ _ _ _ h
 refine wpAny_call (codeAny_mono (F.run X.A X.stack s H ⟨us,[]⟩ (us++ds) (vs++dvs) Q E hr I.env0 (hb s us I.kIn hl) r2 h) fun r s' hq=>?_)
 cases r with
 | error e=>exact hx pins σ H s e s' I hq
 | ok fl=>
  cases fl with
  | ret u=>exact I.after hq
  | next=>exact False.elim hq
  | brk=>exact False.elim hq
  | cont=>exact False.elim hq
theorem Ao (F:FnOk X.prog X.w X.K X.mg X.base CX k f fd ps sp) (hr:Room k X.A) (hg:Gl X x) (hm:X.mg x=some (.ref f)) (hk:PySem.W.keepIn X.K (.ref f)=true) (hb:Binds X.K fd ps ds) (hd:Vals dvs ds) (hx:m6 CX X E)
  (ha:PA X (e::es) t) (hdb:(x == ("__debug__" : Str))=false:=by decide) (he:starEach (e::es) X.env=(false,eval e X.env)::starEach es X.env:=by rfl) (hpl:(backTo pos (starEach es X.env)).any (·.1)=false:=by rfl) :
  PE X (.Call (.Name x p) (e::es) [] pos) (tq sp dvs E t):=by
 intro pins s σ H Q I h
 refine wpAny_Call_Name_kw (ig I hg hm ?_ hdb)
 refine PySem.W.callWith_K (h₀:=X.base) I.ok.mod.kin hk (thn (ha pos pins s σ H _ I h) fun us s1 ⟨vs,H1,I1,r,q⟩=>⟨I1.kIn,?_⟩) he hpl
 exact Bs F hr hb hd hx I1 r q
structure Mk (K:Frag) (C f:Addr):Prop where
 makes:PySem.W.makesIn K C=true
 init:PySem.W.findIn K (.ref C) "__init__" = some (some (.ref f))
 fn:PySem.W.isFn K (.ref f)=true
 kp:PySem.W.keepIn K (.ref C)=true
end
section
variable {X:Cx} {CX:CXT} {k:Nat} {f C:Addr} {fd:FuncData} {ps ks:List Str} {sp:Sp} {E:XK} {x m:Str} {p pos apos kpos:Pos} {e o:Expr} {es:List Expr} {kws:List Keyword} {te ta:TE} {t tk:TA} {nm:Option Str}
structure KBinds (K:Frag) (fd:FuncData) (ps ks:List Str) (g:List Value→List Value→List Value) (gV:List V→List V→List V):Prop where
 to:∀ (s:Shared) (us ws:List Value),K.In s.heap→(g us ws).length=ps.length→BindsTo s fd ⟨us,ks.zip ws⟩ (ps.zip (g us ws))
 rel:∀ {vs:List V} {us:List Value} {zs:List V} {ws:List Value},Vals vs us→Vals zs ws→Vals (gV vs zs) (g us ws)
variable {g:List Value→List Value→List Value} {gV:List V→List V→List V}
end
structure FnScope (N P:List Str) (sc:Scope):Prop where
 kind:sc.kind=.function
 co:sc.isCoroutine=false
 gen:sc.isGenerator=false
 nd:N.Nodup
 pre:N.take P.length=P
 par:∀ x∈P,sc.names.lookup x=some .local∨sc.names.lookup x=some .cell
 nofree:∀ y∈sc.names,y.2≠.free
theorem pC {kindOf:Str→Option NameKind} {x:Str}:∀ {binds:List (Str×Value)} {m:Str→Option Value},(∀ v,(x,v)∉binds)→bindL kindOf binds m x=m x
 | [],_,_=>rfl
 | (n,v)::r,m,h=>by
  unfold bindL
  rw [pC fun w hw=>h w (List.mem_cons_of_mem _ hw)]
  split
  ·have:x≠n:=by rintro rfl; exact h v List.mem_cons_self
   simp [this]
  ·rfl
theorem pF {kindOf:Str→Option NameKind} {x:Str}:∀ {binds:List (Str×Value)} {m:Str→Option Value},(∀ v,(x,v)∉binds)→bindC kindOf binds m x=m x
 | [],_,_=>rfl
 | (n,v)::r,m,h=>by
  unfold bindC
  rw [pF fun w hw=>h w (List.mem_cons_of_mem _ hw)]
  split
  ·rfl
  ·have:x≠n:=by rintro rfl; exact h v List.mem_cons_self
   simp [this]
theorem pE {kindOf:Str→Option NameKind} {x:Str} {v:Value}:∀ {P:List Str} {vs:List Value} {i:Nat} {m:Str→Option Value},P.Nodup→P[i]? = some x→vs[i]? = some v→kindOf x=some .local →
  bindL kindOf (P.zip vs) m x=some v
 | [],_,_,_,_,h,_,_=>by simp at h
 | _::_,[],_,_,_,_,h,_=>by simp at h
 | p::P,w::vs,0,m,nd,h1,h2,hk=>by
  simp at h1 h2; subst h1; subst h2
  show bindL kindOf ((p,w)::P.zip vs) m p=_
  unfold bindL
  rw [pC fun v hv=>(List.nodup_cons.mp nd).1 (List.of_mem_zip hv).1,if_pos hk]
  simp
 | p::P,w::vs,i + 1,m,nd,h1,h2,hk=>by
  show bindL kindOf ((p,w)::P.zip vs) m x=_
  unfold bindL
  exact pE (i:=i) (List.nodup_cons.mp nd).2 (by simpa using h1) (by simpa using h2) hk
theorem pG {kindOf:Str→Option NameKind} {x:Str} {v:Value}:∀ {P:List Str} {vs:List Value} {i:Nat} {m:Str→Option Value},P.Nodup→P[i]? = some x→vs[i]? = some v→kindOf x≠some .local →
  bindC kindOf (P.zip vs) m x=some v
 | [],_,_,_,_,h,_,_=>by simp at h
 | _::_,[],_,_,_,_,h,_=>by simp at h
 | p::P,w::vs,0,m,nd,h1,h2,hk=>by
  simp at h1 h2; subst h1; subst h2
  show bindC kindOf ((p,w)::P.zip vs) m p=_
  unfold bindC
  rw [pF fun v hv=>(List.nodup_cons.mp nd).1 (List.of_mem_zip hv).1,if_neg hk]
  simp
 | p::P,w::vs,i + 1,m,nd,h1,h2,hk=>by
  show bindC kindOf ((p,w)::P.zip vs) m x=_
  unfold bindC
  exact pG (i:=i) (List.nodup_cons.mp nd).2 (by simpa using h1) (by simpa using h2) hk
def start (N:List Str) (vs:List V):St:=vs.map some++List.replicate (N.length - vs.length) none
def d8 (CX:CXT) (P:Program) (w:World) (K:Frag) (mg:Str→Option Value) (base:Heap) (N:List Str) (qual:Str) (scope:Scope) (f:Addr) (cd:Value) (A:Around) (outer:List Env) (s:Shared) (H:Hp) (E:XK):Cx where
 prog:=P
 w:=w
 K:=K
 mg:=mg
 base:=base
 A:=A.deeper (envOfC qual scope s.heap.objs.size f cd)
 N:=N
 s₀:=s
 H₀:=H
 env:=envOfC qual scope s.heap.objs.size f cd
 outer:=outer
 stack:=envOfC qual scope s.heap.objs.size f cd::outer
 ex:=[]
 calm:=true
 fn:=fun _=>true
 pn:=[]
 xe:=fun e s'=>wpAny (model P w) (A.deeper (envOfC qual scope s.heap.objs.size f cd)) (leaving (envOfC qual scope s.heap.objs.size f cd) e) (fun _ s''=>CX outer H s E e s'') (fun e' s''=>CX outer H s E e' s'') s'
theorem qi {sc:Scope} {n:Nat} {x:Str} (h:sc.names.lookup x=some .cell):∃ c,(cellsFrom n sc.names []).lookup x=some c:=by
 have q:=PySem.W.cellsFrom_some sc.names n [] (.inl h)
 exact Option.isSome_iff_exists.mp q
theorem yo {CX:CXT} {P:Program} {w:World} {K:Frag} {mg:Str→Option Value} {base:Heap} {N ps:List Str} {qual:Str} {scope:Scope} {f:Addr} {cd:Value} {A:Around} {outer:List Env} {s s1:Shared} {H:Hp} {E:XK} {us:List Value} {vs:List V}
  (S:FnScope N ps scope) (hd:A.handled=none) (e0:Env0 P w K mg base A outer s H) (hl:vs.length=ps.length) (r:Vals vs us)
  (x:InCallC s s.heap.objs.size (bindL (envOfC qual scope s.heap.objs.size f cd).kindOf (ps.zip us) fun _=>none) (cellsFrom (s.heap.objs.size + 1) scope.names []) (bindC (envOfC qual scope s.heap.objs.size f cd).kindOf (ps.zip us) fun _=>none) s1) :
  Inv (d8 CX P w K mg base N qual scope f cd A outer s H E) [] (start N vs) H s1:=by
 have hpl:ps.length≤N.length:=by have:=congrArg List.length S.pre; rw [List.length_take] at this; omega
 obtain ⟨h1,tk,rfl,hk⟩:=x.done
 have noA:∀ b:Addr,b∉(d8 CX P w K mg base N qual scope f cd A outer s H E).ex:=fun b z=>absurd (show b∈([]:List Addr) from z) (by simp)
 refine ⟨⟨e0.mod,S.kind,rfl,rfl,Nat.le_refl _,fun y z c h1 h2=>?_,fun y hy=>?_,fun y c _ h=>?_,fun _=>hd,Around.frames_deeper e0.frames,.inr ⟨rfl,rfl⟩,fun b z=>absurd z (noA b),e0.bs,e0.bsz,fun b _ _=>noA b,fun b z=>absurd z (noA b),e0.funs,e0.frf⟩,
  rfl,e0.bare,Un.kept hk,⟨_,x.toInCall.ns,fun i y v h1 h2 h3=>?_⟩,fun y c h=>⟨_,x.cell y c h⟩,e0.hok.fresh (Nat.le_refl _),fun y c h=>?_,fun p hp=>absurd (show p∈([]:List (Addr×Obj)) from hp) (by simp),e0.hok.kept hk,?_⟩
 ·exact name_of_addr x.apart (PySem.mem_of_lookup h1) (PySem.mem_of_lookup h2)
 ·have hy:scope.names.lookup y=some .cell∨scope.names.lookup y=some .free:=hy
  rcases hy with hy | hy
  ·exact qi hy
  ·exact absurd rfl (S.nofree _ (PySem.mem_of_lookup hy))
 ·exact Nat.le_of_lt (x.above y c (PySem.mem_of_lookup h))
 ·have hi:i < vs.length:=by
   unfold start at h2
   by_cases hi:i < vs.length
   ·exact hi
   ·rw [List.getElem?_append_right (by simpa using hi)] at h2
    rw [List.getElem?_replicate] at h2
    split at h2 <;> cases h2
  have ha:vs[i]? = some v:=by
   unfold start at h2
   rw [List.getElem?_append_left (by simpa using hi),List.getElem?_map] at h2
   cases e:vs[i]? with
   | none=>rw [e] at h2; cases h2
   | some a=>rw [e] at h2; cases h2; rfl
  obtain ⟨u,hu,rv⟩:=r.get ha
  have hp:ps[i]? = some y:=by
   rw [← S.pre,List.getElem?_take_of_lt (by omega)]; exact h1
  have ndP:ps.Nodup:=by rw [← S.pre]; exact S.nd.sublist (List.take_sublist _ _)
  refine ⟨u,rv,?_⟩
  rcases S.par y (List.mem_of_getElem? hp) with k | k
  ·exact .inl ⟨k,pE ndP hp hu k⟩
  ·obtain ⟨c,e⟩:=qi (n:=s.heap.objs.size + 1) k
   refine .inr ⟨.inl k,c,e,?_⟩
   have q:=x.cell y c e
   rw [pG ndP hp hu (by show scope.names.lookup y≠_; rw [k]; decide)] at q
   exact q
 ·exact e0.hok.fresh (Nat.le_of_lt (x.above y c (PySem.mem_of_lookup h)))
 ·unfold start
  show _=N.length
  rw [List.length_append,List.length_map,List.length_replicate]
  omega
theorem tX {CX:CXT} {P:Program} {w:World} {K:Frag} {mg:Str→Option Value} {base:Heap} {k:Nat} {f:Addr} {name qual:Str} {params:Arguments} {body:List Stmt} {scope:Scope} {dV kV doc pm cdv ct oc:Value} {an od:Option Addr}
  {osl:Array (Option Value)} {N ps:List Str} {sp:Sp} (lk:K.lookup f=some ⟨oc,od,.func (PySem.W.fnOf name qual params body scope dV kV doc pm an cdv ct),osl⟩) (hcd:PySem.W.codeIn K cdv qual=true) (S:FnScope N ps scope)
  (len:∀ vs H Q E,sp vs H Q E→vs.length=ps.length)
  (hbody:∀ (A:Around) (outer:List Env) (s:Shared) (H:Hp) (vs:List V) (Q:VK) (E:XK),Room k (A.deeper (envOfC qual scope s.heap.objs.size f cdv))→sp vs H Q E →
   ∃ t,PSs (d8 CX P w K mg base N qual scope f cdv A outer s H E) body t∧t { nx:=fun _ H'=>Q .non H',rt:=Q } (start N vs) H) :
  FnOk P w K mg base CX (k + 1) f (PySem.W.fnOf name qual params body scope dV kV doc pm an cdv ct) ps sp:=by
 refine ⟨len,fun A outer s H args us vs Q E hr e0 hb r hsp=>?_⟩
 have hl:=len _ _ _ _ hsp
 have KX:K.In s.heap:=e0.mod.kin.keeps fun b o e=>(e0.bs b o e).1
 have lim:s.heap.NoLimit:=e0.mod.nolimit.keeps fun b o e=>(e0.bs b o e).1
 have hkind:∀ y∈ps.zip us,scope.names.lookup y.1=some .local∨(scope.names.lookup y.1=some .cell∧((cellsFrom (s.heap.objs.size + 1) scope.names []).lookup y.1).isSome=true):=fun ⟨n,v⟩ hy=>by
  rcases S.par n (List.of_mem_zip hy).1 with q | q
  ·exact .inl q
  ·exact .inr ⟨q,PySem.W.cellsFrom_some _ _ _ (.inl q)⟩
 refine codeAny_call_function hr.depth (KX _ _ lk) rfl S.co S.gen rfl (PySem.W.codeRec_of KX hcd) (hb _ _ _ _ ?_)
 refine wpAny_newFunctionEnv_cells S.kind hkind fun env he s1 x=>?_
 subst he
 refine ⟨lim.keeps x.toInCall.keep,codeAny_func ?_⟩
 obtain ⟨t,ht,hq⟩:=hbody A outer s H vs Q E (hr.deeper _) hsp
 have I:Inv (d8 CX P w K mg base N qual scope f cdv A outer s H E) [] (start N vs) H s1:=yo S hr.hd e0 hl r x
 refine wpAny_mono (ht [] s1 (start N vs) H _ I hq) (fun fl s' hs=>?_) fun e s' hs=>hs
 have fin:∀ {σ':St} {H':Hp} {v:V} {u:Value},Inv (d8 CX P w K mg base N qual scope f cdv A outer s H E) [] σ' H' s'→RelV v u→Q v H'→CE outer P w H s Q u s':=
  fun {σ' H' v u} J rv q=>⟨v,H',J.os,J.bare,J.base,J.hok,rv,q⟩
 cases fl with
 | ret u=>
  obtain ⟨v,σ',H',J,rv,q⟩:=hs
  exact fin J rv q
 | next=>
  obtain ⟨σ',H',J,q⟩:=hs
  exact fin (v:=V.non) (u:=Value.none) J rfl q
 | brk=>
  obtain ⟨_,_,_,q⟩:=hs
  exact False.elim q
 | cont=>
  obtain ⟨_,_,_,q⟩:=hs
  exact False.elim q
section
variable {X:Cx} {x:Str} {p pos:Pos} {e:Expr} {es:List Expr} {t:TA} {id T:String} {r:List V→Hp→VK→Prop}
def tCB (r:List V→Hp→VK→Prop) (t:TA):TE:=fun σ H Q=>t σ H fun vs H1=>r vs H1 Q
theorem fS (hc:CallR X (.builtin id) r) (hg:Gl X x) (hm:X.mg x=none) (hv:bootBuiltins x=some (.builtin id)) (ha:PA X (e::es) t) (hn:x≠"__name__":=by decide) (hdb:(x == ("__debug__" : Str))=false:=by decide)
  (he:starEach (e::es) X.env=(false,eval e X.env)::starEach es X.env:=by rfl) (hpl:(backTo pos (starEach es X.env)).any (·.1)=false:=by rfl):PE X (.Call (.Name x p) (e::es) [] pos) (tCB r t):=by
 intro pins s σ H Q I h
 refine wpAny_Call_Name_kw (kl I hg hm hv ?_ hn hdb)
 exact PyProof.Rows.callWith_builtin1 (thn (ha pos pins s σ H _ I h) fun us s1 ⟨vs,H1,I1,r1,q1⟩=>hc pins s1 σ H1 vs us Q I1 r1 q1) he hpl
theorem lM (hc:CallR X (.type T) r) (hg:Gl X x) (hm:X.mg x=none) (hv:bootBuiltins x=some (.type T)) (ha:PA X (e::es) t) (hn:x≠"__name__":=by decide) (hdb:(x == ("__debug__" : Str))=false:=by decide)
  (he:starEach (e::es) X.env=(false,eval e X.env)::starEach es X.env:=by rfl) (hpl:(backTo pos (starEach es X.env)).any (·.1)=false:=by rfl):PE X (.Call (.Name x p) (e::es) [] pos) (tCB r t):=by
 intro pins s σ H Q I h
 refine wpAny_Call_Name_kw (kl I hg hm hv ?_ hn hdb)
 exact PyProof.Rows.callWith_type1 (thn (ha pos pins s σ H _ I h) fun us s1 ⟨vs,H1,I1,r1,q1⟩=>hc pins s1 σ H1 vs us Q I1 r1 q1) he hpl
end
end L2
namespace HT
open PySem PyProof.Rows
section
open PySem.SeqAt
open PySem.AutoSeq1 (wpAny_loadPart')
open PySem.MeetsSeq PySem.MeetsSeq2 PySem.MeetsSeq3
end
section
variable {prog:Program} {w:World} {A:Around} {E:Value→Shared→Prop} {s:Shared}
theorem AR {t b:Addr} {vs ws:List Value} {Q:Value→Shared→Prop} (ht:IsTup s.heap t vs.toArray) (hb:IsTup s.heap b ws.toArray) (hv:vs≠[])
  (h1:ws=[]→Q (.ref t) s) (h2:ws≠[]→Q (.ref s.heap.objs.size) { s with heap:=s.heap.push { cls:=.type "tuple",data:=.seq (vs++ws).toArray } })
  (hsz:vs.length + ws.length≤sizeLine):wpAny (model prog w) A (binaryOp .Add (.ref t) (.ref b)) Q E s:=by
 obtain ⟨⟨cls,dd,data,sl⟩,ho,hc,n,hd⟩:=id ht
 obtain ⟨⟨cls2,dd2,data2,sl2⟩,ho2,hc2,n2,hd2⟩:=id hb
 simp only at hc hd hc2 hd2
 subst hc hd hc2 hd2
 have e:vs.toArray++ws.toArray=(vs++ws).toArray:=by simp
 by_cases hw:ws=[]
 ·exact concat_meets ⟨_,ho,rfl⟩ ⟨_,ho2,rfl⟩ noFill_tuple_add seq_tuple_add PySem.F.slot_tuple_add PySem.F.entry_tuple_add (PySem.F.args_tuple_add_2 _ _)
   (tuple_addW1 t b vs.toArray ws.toArray n n2 dd dd2 sl sl2 (by simpa using hv) (by simp [hw])) ⟨ho,ho2,h1 hw⟩
 ·refine concat_meets ⟨_,ho,rfl⟩ ⟨_,ho2,rfl⟩ noFill_tuple_add seq_tuple_add PySem.F.slot_tuple_add PySem.F.entry_tuple_add (PySem.F.args_tuple_add_2 _ _)
   (tuple_addW2 t b vs.toArray ws.toArray n n2 dd dd2 sl sl2 (by simpa using hv) (by simpa using hw) (by rw [List.size_toArray,List.size_toArray]; exact hsz)) ⟨ho,ho2,?_⟩
  rw [e]
  exact h2 hw
def sIx (n d:Nat):Option Int→Nat
 | none=>d
 | some v=>if v < 0 then (v + (n:Int)).toNat else min v.toNat n
theorem z8 (n d k:Nat):sIx n d (some (k:Int))=min k n:=by
 show (if (k:Int) < 0 then ((k:Int) + (n:Int)).toNat else min (k:Int).toNat n)=min k n
 rw [if_neg (by omega),Int.toNat_natCast]
theorem Br (n d:Nat) (hd:d≤n) (o:Option Int):sIx n d o≤n:=by
 cases o with
 | none=>exact hd
 | some v=>
  show (if v < 0 then (v + (n:Int)).toNat else min v.toNat n)≤n
  by_cases hv:v < 0
  ·rw [if_pos hv]; omega
  ·rw [if_neg hv]; exact Nat.min_le_right _ _
theorem rA (v:Int) (n d:Nat):(if v < 0 then max (v + (n:Int)) 0 else min v (n:Int))=((sIx n d (some v):Nat):Int):=by
 show (if v < 0 then max (v + (n:Int)) 0 else min v (n:Int))=(((if v < 0 then (v + (n:Int)).toNat else min v.toNat n):Nat):Int)
 by_cases hv:v < 0
 ·simp only [if_pos hv]; omega
 ·simp only [if_neg hv]; omega
theorem xI (lo hi:Option Int) (n:Nat):Builtin.Slice.sliceAdjust lo hi 1 (n:Int)=(((sIx n 0 lo:Nat):Int),((sIx n n hi:Nat):Int)):=by
 have h1:¬ ((1:Int) < 0):=by omega
 unfold Builtin.Slice.sliceAdjust
 simp only [h1,if_false]
 refine Prod.ext ?_ ?_
 ·cases lo with
  | none=>rfl
  | some v=>exact rA v n 0
 ·cases hi with
  | none=>rfl
  | some v=>exact rA v n n
theorem w4 (i j:Nat):Builtin.Slice.slicePlaces (i:Int) (j:Int) 1=j - i:=by
 unfold Builtin.Slice.slicePlaces
 have h1:(1:Int) > 0:=by omega
 simp only [h1,if_true,Int.ediv_one]
 split <;> omega
theorem oi {v:Value} {o:Option Int} {Q:Option Int→Shared→Prop} (p:IsPart v o) (h:Q o s):wpAny (model prog w) A (Builtin.Slice.slicePartIndex v) Q E s:=by
 cases p with
 | none=>exact slicePart_none h
 | int i t=>exact slicePart_int h
theorem nP {sl:Addr} {vl vu:Value} {lo hi:Option Int} {n:Nat} {Q:Int×Int×Nat→Shared→Prop} (hs:s.heap.IsSliceOf sl vl vu .none) (pl:IsPart vl lo) (pu:IsPart vu hi)
  (h:Q (((sIx n 0 lo:Nat):Int),1,sIx n n hi - sIx n 0 lo) s):wpAny (model prog w) A (Builtin.Slice.sliceApplied (.ref sl) (pure (n:Int))) Q E s:=by
 obtain ⟨os,hos,hcs,hds⟩:=id hs
 unfold Builtin.Slice.sliceApplied Builtin.Slice.sliceFields
 refine wpAny_bind (wpAny_bind (wpAny_field hos hds (x:=vl) rfl (wpAny_bind (wpAny_field hos hds (x:=vu) rfl (wpAny_bind (wpAny_field hos hds (x:=.none) rfl (wpAny_pure ?_)))))))
 refine wpAny_bind (slicePart_none ?_)
 show wpAny _ _ (if ((1:Int) == 0)=true then _ else _) _ _ s
 rw [if_neg (by decide)]
 refine wpAny_bind (oi pl (wpAny_bind (oi pu (wpAny_bind (wpAny_pure ?_)))))
 show wpAny _ _ (match Builtin.Slice.sliceAdjust lo hi 1 (n:Int) with | (lo,hi)=>pure (lo,(1:Int),Builtin.Slice.slicePlaces lo hi 1)) _ _ s
 rw [xI lo hi n]
 show wpAny _ _ (pure (((sIx n 0 lo:Nat):Int),(1:Int),Builtin.Slice.slicePlaces ((sIx n 0 lo:Nat):Int) ((sIx n n hi:Nat):Int) 1)) _ _ s
 rw [w4]
 exact wpAny_pure h
theorem y4 (xs:Array Value) (i k:Nat):((List.range k).filterMap fun (m:Nat)=>xs[((i:Int) + (m:Int) * 1).toNat]?).toArray=((xs.toList.drop i).take k).toArray:=by
 have e:(fun (m:Nat)=>xs[((i:Int) + (m:Int) * 1).toNat]?)=fun m=>xs[i + m]?:=by
  funext m
  have:((i:Int) + (m:Int) * 1).toNat=i + m:=by omega
  rw [this]
 rw [e]
 have:=pick_run xs i k
 rw [List.filterMap_map] at this
 have e2:((fun x=>xs[x]?) ∘ fun x=>i + x)=fun m=>xs[i + m]?:=rfl
 rw [e2] at this
 rw [this]
theorem uU {t sl:Addr} {items:Array Value} {vl vu:Value} {lo hi:Option Int} {Q:Value→Shared→Prop} (ht:IsTup s.heap t items) (hs:s.heap.IsSliceOf sl vl vu .none) (pl:IsPart vl lo) (pu:IsPart vu hi)
  (hw:¬ (sIx items.size 0 lo=0∧sIx items.size items.size hi=items.size))
  (h:Q (.ref s.heap.objs.size) { s with heap:=s.heap.push { cls:=.type "tuple",data:=.seq ((items.toList.drop (sIx items.size 0 lo)).take (sIx items.size items.size hi - sIx items.size 0 lo)).toArray } })
  (hsz:items.size≤sizeLine):wpAny (model prog w) A (getItem (.ref t) (.ref sl)) Q E s:=by
 have htake:sizeOk (.seq ((items.toList.drop (sIx items.size 0 lo)).take (sIx items.size items.size hi - sIx items.size 0 lo)).toArray):=by
  show ((items.toList.drop (sIx items.size 0 lo)).take (sIx items.size items.size hi - sIx items.size 0 lo)).toArray.size≤sizeLine
  rw [List.size_toArray,List.length_take,List.length_drop,Array.length_toList]
  omega
 have hj:sIx items.size items.size hi≤items.size:=Br _ _ (Nat.le_refl _) hi
 obtain ⟨os,hos,hcs,hds⟩:=id hs
 have hTs:s.TypeIs (.ref sl) "slice":=⟨os,hos,hcs⟩
 unfold getItem
 try with_reducible refine wpAny_holding ?_
 first | refine wpAny_bind (wpAny_pure ?_) | skip
 refine wpAny_bind (wpAny_sequenceKey ht.typeIs (by decide) ?_)
 refine wpAny_bind (wpAny_callSpecial?_slot (name:=Str.ofString "__getitem__") ht.typeIs PyProof.Rows.slot_tuple_getitem
  (wpAny_call_entry PyProof.Rows.slot_tuple_getitem ht.typeIs entry_tuple_getitem ?_ (args_tuple_getitem _ _)))
 show wpAny _ _ (Builtin.Tuple.tupleItemsOf (.ref t) >>= _) _ _ s
 refine wpAny_bind (tupleItemsOf_ ht ?_)
 refine wpAny_bind (wpAny_typeOf hTs ?_)
 rw [if_pos (by decide)]
 refine wpAny_bind (nP hs pl pu ?_)
 have hno:¬ ((((sIx items.size 0 lo:Nat):Int) == 0 && (1:Int) == 1 && (sIx items.size items.size hi - sIx items.size 0 lo) == items.size)=true):=by
  intro q
  rw [Bool.and_eq_true,Bool.and_eq_true] at q
  have q1:((sIx items.size 0 lo:Nat):Int)=0:=eq_of_beq q.1.1
  have q2:sIx items.size items.size hi - sIx items.size 0 lo=items.size:=eq_of_beq q.2
  exact hw ⟨by omega,by omega⟩
 show wpAny _ _ (if (((sIx items.size 0 lo:Nat):Int) == 0 && (1:Int) == 1 && (sIx items.size items.size hi - sIx items.size 0 lo) == items.size)=true then _ else _) _ _ s
 rw [if_neg hno,y4]
 first
  | exact wpAny_bind (m:=Builtin.Tuple.tupleExact _) (wpAny_newObj_type (wpAny_pure ⟨_,rfl,wpAny_pure h⟩) htake)
  | exact wpAny_bind (m:=Builtin.Tuple.tupleExact _) (wpAny_newObj_type (wpAny_bind (wpAny_pure (wpAny_pure ⟨_,rfl,wpAny_pure h⟩))) htake)
  | exact wpAny_bind (wpAny_bind (m:=Builtin.Tuple.tupleExact _) (wpAny_newObj_type (wpAny_pure (wpAny_pure ⟨_,rfl,wpAny_pure h⟩)) htake))
  | exact wpAny_bind (wpAny_bind (m:=Builtin.Tuple.tupleExact _) (wpAny_newObj_type (wpAny_pure ⟨_,rfl,wpAny_pure h⟩) htake))
end
end HT
namespace L2
open PySem PySem.Spec PyProof.Rows
abbrev TO:=St→Hp→(Option Int→Hp→Prop)→Prop
def PO (X:Cx) (e:Option Expr) (t:TO):Prop:=
 ∀ (pins:List (Addr×Obj)) (s:Shared) (σ:St) (H:Hp) (Q:Option Int→Hp→Prop),Inv X pins σ H s→t σ H Q →
  wpAny (model X.prog X.w) X.A (evalPart e X.env) (fun u s'=>∃ o H',Inv X pins σ H' s'∧IsPart u o∧Q o H') X.xe s
def z0:TO:=fun _ H Q=>Q none H
def CC (t:TE):TO:=fun σ H Q=>t σ H fun x H1=>∃ i,x=.int i∧Q (some i) H1
section
variable {X:Cx} {e:Expr} {te:TE} {lo hi:Option Expr} {tl th:TO} {pos p2:Pos}
theorem Aj:PO X none z0:=by
 intro pins s σ H Q I h
 rw [evalPart_none]
 exact wpAny_pure ⟨none,H,I,.none,h⟩
theorem Ai (h:PE X e te):PO X (some e) (CC te):=by
 intro pins s σ H Q I hw
 rw [evalPart_some]
 refine thn (h pins s σ H _ I hw) fun u s1 ⟨x,H1,I1,r1,q1⟩=>?_
 obtain ⟨i,rfl,q⟩:=q1
 obtain ⟨t,rfl⟩:=r1
 exact ⟨some i,H1,I1,.int i t,q⟩
def SlR (X:Cx) (r:V→Option Int→Option Int→Hp→VK→Prop):Prop:=
 ∀ (pins:List (Addr×Obj)) (s:Shared) (σ:St) (H:Hp) (x:V) (v vl vu:Value) (lo hi:Option Int) (sl:Addr) (Q:VK),Inv X pins σ H s→RelV x v→s.heap.IsSliceOf sl vl vu .none→IsPart vl lo→IsPart vu hi→r x lo hi H Q →
  ∃ T id,typeLookup (.type T) "__getitem__" = pure (some (.builtin id))∧s.TypeIs v T∧wpAny (model X.prog X.w) X.A (getItem v (.ref sl)) (EP X pins σ Q) X.xe s
theorem SlR.or {r r':V→Option Int→Option Int→Hp→VK→Prop} (h:SlR X r) (h':SlR X r'):SlR X (fun x lo hi H Q=>r x lo hi H Q∨r' x lo hi H Q):=by
 intro pins s σ H x v vl vu lo hi sl Q I rx hs pl pu q
 rcases q with q | q
 ·exact h pins s σ H x v vl vu lo hi sl Q I rx hs pl pu q
 ·exact h' pins s σ H x v vl vu lo hi sl Q I rx hs pl pu q
def tSl (r:V→Option Int→Option Int→Hp→VK→Prop) (te:TE) (tl th:TO):TE:=fun σ H Q=>te σ H fun x H1=>tl σ H1 fun l H2=>th σ H2 fun u H3=>r x l u H3 Q
theorem y8 {r:V→Option Int→Option Int→Hp→VK→Prop} (hr:SlR X r) (he:PE X e te) (hl:PO X lo tl) (hu:PO X hi th):PE X (.Subscript e (.Slice lo hi none p2) pos) (tSl r te tl th):=by
 intro pins s σ H Q I h
 refine Subscript_ (thn (he pins s σ H _ I h) fun v s1 ⟨x,H1,I1,r1,q1⟩=>?_)
 refine wpAny_Slice (thn (hl pins s1 σ H1 _ I1 q1) fun vl s2 ⟨l,H2,I2,pl,q2⟩=>thn (hu pins s2 σ H2 _ I2 q2) fun vu s3 ⟨u,H3,I3,pu,q3⟩=>?_)
 rw [evalPart_none]
 refine wpAny_pure ?_
 have I4:Inv X pins σ H3 { s3 with heap:=s3.heap.push { cls:=.type "slice",data:=.fields #[vl,vu,.none] } }:=I3.kept (t':=s3.toks) fun b ob q=>Heap.get?_push_of_some _ q
 obtain ⟨T,id,hT,ht,hg⟩:=hr pins { s3 with heap:=s3.heap.push { cls:=.type "slice",data:=.fields #[vl,vu,.none] } } σ H3 x v vl vu l u s3.heap.objs.size Q I4 r1 (Heap.IsSliceOf.new ..) pl pu q3
 show wpAny (model X.prog X.w) X.A (subscriptTail e (.Slice lo hi none p2) v (.ref s3.heap.objs.size)) (EP X pins σ Q) X.xe { s3 with heap:=s3.heap.push { cls:=.type "slice",data:=.fields #[vl,vu,.none] } }
 exact tail_any (ops:=[.ref s3.heap.objs.size,v]) ht hT hg (by with_unfolding_all rfl)
def fM (xs:List V) (lo hi:Option Int):List V:=(xs.drop (HT.sIx xs.length 0 lo)).take (HT.sIx xs.length xs.length hi - HT.sIx xs.length 0 lo)
theorem n8 (xs:List V) (lo hi:Option Int):(fM xs lo hi).length≤xs.length:=by
 unfold fM
 rw [List.length_take,List.length_drop]
 omega
def DY (K:Frag):V→Option Int→Option Int→Hp→VK→Prop:=fun x lo hi H Q=>∃ a xs,x=.ref a∧SqT K H a xs ∧
 ¬ (HT.sIx xs.length 0 lo=0∧HT.sIx xs.length xs.length hi=xs.length)∧∀ p,H p=none→Q (.ref p) (upd H p (.tup (fM xs lo hi)))
theorem Bo:SlR X (DY X.K):=by
 intro pins s σ H x v vl vu lo hi sl Q I rx hs pl pu h
 obtain ⟨a,xs,rfl,hx,hw,q⟩:=h
 cases rx
 obtain ⟨its,r,ht,hz⟩:=I.tuple hx
 have hlen:its.toArray.size=xs.length:=by rw [List.size_toArray]; exact r.length.symm
 refine ⟨"tuple",_,PyProof.Rows.slot_tuple_getitem.lookup,ht.typeIs,?_⟩
 refine HT.uU ht hs pl pu (by rw [hlen]; exact hw) ?_ (by rw [hlen]; exact hz)
 rw [hlen]
 refine ⟨.ref s.heap.objs.size,_,I.laid (t':=s.toks) (o:=.tup (fM xs lo hi)) (fun b ob q=>Heap.get?_push_of_some _ q) (Nat.le_refl _) ?_,rfl,q _ (I.hok.fresh (Nat.le_refl _))⟩
 exact ⟨Nat.le_trans (n8 xs lo hi) hz,_,(r.drop (HT.sIx xs.length 0 lo)).take (HT.sIx xs.length xs.length hi - HT.sIx xs.length 0 lo),IsTup.new _ _⟩
def CM (K:Frag):R2:=fun x y H Q=>∃ a b xs ys,x=.ref a∧y=.ref b∧SqT K H a xs∧SqT K H b ys∧xs≠[]∧xs.length + ys.length≤sizeLine ∧
 (ys=[]→Q (.ref a) H)∧(ys≠[]→∀ p,H p=none→Q (.ref p) (upd H p (.tup (xs++ys))))
theorem Vals.nil_iff {xs:List V} {us:List Value} (r:Vals xs us):us=[]↔xs=[]:=by
 cases r with
 | nil=>simp
 | cons _ _=>simp
theorem As:OpR X (binaryOp .Add) (CM X.K):=by
 intro pins s σ H x y v u Q I rx ry h
 obtain ⟨a,b,xs,ys,rfl,rfl,ha,hb,hx,hz,q1,q2⟩:=h
 cases rx
 cases ry
 obtain ⟨its,r1,p1,_⟩:=I.tuple ha
 obtain ⟨its2,r2,p2,_⟩:=I.tuple hb
 refine HT.AR p1 p2 (fun z=>hx (r1.nil_iff.mp z)) (fun z=>⟨.ref a,H,I,rfl,q1 (r2.nil_iff.mp z)⟩) (fun z=>?_) (by rw [← r1.length,← r2.length]; exact hz)
 refine ⟨.ref s.heap.objs.size,_,I.laid (t':=s.toks) (o:=.tup (xs++ys)) (fun b ob q=>Heap.get?_push_of_some _ q) (Nat.le_refl _) ?_,rfl,q2 (fun w=>z (r2.nil_iff.mpr w)) _ (I.hok.fresh (Nat.le_refl _))⟩
 exact ⟨by rw [List.length_append]; exact hz,_,r1.append r2,IsTup.new _ _⟩
end
def ixN (n:Nat) (i:Int):Option Nat:=if 0≤i then (if i < n then some i.toNat else none) else if -(n:Int)≤i then some (i + n).toNat else none
def atI {α:Type} (xs:List α) (i:Int):Option α:=(ixN xs.length i).bind fun j=>xs[j]?
theorem qK {n:Nat} {i:Int} {j:Nat} (h:ixN n i=some j):seqIndex? i n=some j∧j < n∧-(n:Int)≤i∧i < n:=by
 unfold ixN at h
 by_cases h0:0≤i
 ·rw [if_pos h0] at h
  by_cases h1:i < n
  ·rw [if_pos h1] at h
   have e:i.toNat=j:=Option.some.inj h
   exact ⟨by rw [seqIndex_of h0 h1,e],by omega,by omega,h1⟩
  ·rw [if_neg h1] at h; cases h
 ·rw [if_neg h0] at h
  by_cases h1 : -(n:Int)≤i
  ·rw [if_pos h1] at h
   have e:(i + n).toNat=j:=Option.some.inj h
   exact ⟨by rw [seqIndex_neg (by omega) h1,e],by omega,h1,by omega⟩
  ·rw [if_neg h1] at h; cases h
theorem mG {α:Type} {xs:List α} {i:Int} {v:α} (h:atI xs i=some v):∃ j,seqIndex? i xs.length=some j∧xs[j]? = some v∧j < xs.length∧-(xs.length:Int)≤i∧i < xs.length:=by
 unfold atI at h
 cases e:ixN xs.length i with
 | none=>rw [e] at h; cases h
 | some j=>
  rw [e] at h
  obtain ⟨h1,h2,h3,h4⟩:=qK e
  exact ⟨j,h1,h,h2,h3,h4⟩
def rB (b:Expr):Prop:=∀ o i,subscripted b false o i=operate [o,i] (getItem o i)
def IxR (X:Cx) (r:R2):Prop:=
 ∀ (value slice:Expr) (pins:List (Addr×Obj)) (s:Shared) (σ:St) (H:Hp) (x y:V) (v u:Value) (Q:VK),Inv X pins σ H s→RelV x v→RelV y u→r x y H Q →
  subscripted slice false v u=operate [v,u] (getItem v u)→wpAny (model X.prog X.w) X.A (subscriptTail value slice v u) (EP X pins σ Q) X.xe s
def MtR (X:Cx) (id:String) (r:V→List V→Hp→VK→Prop):Prop:=
 ∀ (pins:List (Addr×Obj)) (s:Shared) (σ:St) (H:Hp) (x:V) (xs:List V) (v:Value) (us:List Value) (Q:VK),Inv X pins σ H s→RelV x v→Vals xs us→r x xs H Q →
  wpAny (model X.prog X.w) X.A (call (.builtin id) (v::us)) (EP X pins σ Q) X.xe s
section
variable {X:Cx} {a b:Expr} {ta tb:TE} {pos:Pos}
theorem IxR.or {r r':R2} (h:IxR X r) (h':IxR X r'):IxR X (fun x y H Q=>r x y H Q∨r' x y H Q):=by
 intro value slice pins s σ H x y v u Q I rx ry q hs
 rcases q with q | q
 ·exact h value slice pins s σ H x y v u Q I rx ry q hs
 ·exact h' value slice pins s σ H x y v u Q I rx ry q hs
theorem CZ {r:R2} (hr:IxR X r) (ha:PE X a ta) (hb:PE X b tb) (hs:rB b):PE X (.Subscript a b pos) (tOp r ta tb):=by
 intro pins s σ H Q I h
 exact Subscript_ (nK ha hb I h fun v u s2 x y H2 I2 rx ry q=>hr a b pins s2 σ H2 x y v u Q I2 rx ry q (hs _ _))
def uB (K:Frag):R2:=fun x y H Q=>∃ p xs i v,x=.ref p∧y=.int i∧SqL K H p xs∧atI xs i=some v∧Q v H
def uz (K:Frag):R2:=fun x y H Q=>∃ p xs i v,x=.ref p∧y=.int i∧SqT K H p xs∧atI xs i=some v∧Q v H
def uA:R2:=fun x y H Q=>∃ z i c,x=.str z∧y=.int i∧z.length≤sizeLine∧atI z.cps.toList i=some c∧Q (.str ⟨#[c]⟩) H
theorem ix_list:IxR X (uB X.K):=by
 intro value slice pins s σ H x y v u Q I rx ry h hs
 obtain ⟨p,xs,i,z,rfl,rfl,hq,he,q⟩:=h
 cases rx
 obtain ⟨t,rfl⟩:=ry
 obtain ⟨its,r,pl,hz⟩:=I.list hq
 obtain ⟨j,h1,h2,h3,h4,h5⟩:=mG he
 obtain ⟨w,ew,rw'⟩:=r.get h2
 have hl:=r.length
 have hn:=gE
 have fin:EP X pins σ Q w s:=⟨z,H,I,rw',q⟩
 by_cases h0:0≤i
 ·have hj:i.toNat=j:=by
   rw [seqIndex_of h0 h5] at h1
   exact Option.some.inj h1
  exact item_listR pl.isList h0 (by omega) (by rw [hj]; simpa using ew) fin hs
 ·have hj:(i + (its.toArray.size:Int)).toNat=j:=by
   rw [seqIndex_neg (by omega) h4] at h1
   rw [List.size_toArray,← hl]
   exact Option.some.inj h1
  exact subscriptTail_builtinR (x:=w) pl.isList.typeIs slot_list_getitem.lookup
   (wpAny_getItem_list_neg (Q:=fun r s'=>r=w∧EP X pins σ Q r s') pl.isList (by omega) (by rw [List.size_toArray] <;> omega) (by omega) (by rw [hj]; simpa using ew) ⟨rfl,fin⟩) hs
theorem ix_tup:IxR X (uz X.K):=by
 intro value slice pins s σ H x y v u Q I rx ry h hs
 obtain ⟨p,xs,i,z,rfl,rfl,hq,he,q⟩:=h
 cases rx
 obtain ⟨t,rfl⟩:=ry
 obtain ⟨its,r,pl,hz⟩:=I.tuple hq
 obtain ⟨j,h1,h2,h3,h4,h5⟩:=mG he
 obtain ⟨w,ew,rw'⟩:=r.get h2
 have hl:=r.length
 have hn:=gE
 have fin:EP X pins σ Q w s:=⟨z,H,I,rw',q⟩
 exact subscriptTail_builtinR (x:=w) pl.typeIs slot_tuple_getitem.lookup
  (getItem_tuple (j:=j) (Q:=fun r s'=>r=w∧EP X pins σ Q r s') pl (by omega) (by omega) (by rw [List.size_toArray,← hl]; exact h1) (by simpa using ew) ⟨rfl,fin⟩) hs
theorem BZ:IxR X uA:=by
 intro value slice pins s σ H x y v u Q I rx ry h hs
 obtain ⟨z,i,c,rfl,rfl,hz,he,q⟩:=h
 obtain ⟨t,rfl⟩:=rx
 obtain ⟨t',rfl⟩:=ry
 obtain ⟨j,h1,h2,h3,h4,h5⟩:=mG he
 have hl:z.cps.toList.length=z.length:=by simp [Str.length]
 rw [hl] at h1 h4 h5
 have hn:=gE
 exact tail_any (typeIs_str s z t) slot_str_getitem.lookup (getItem_str (c:=c) (by
  have e1:decide (i < -(2 ^ 63:Int))=false:=decide_eq_false (by omega)
  have e2:decide (i≥2 ^ 63)=false:=decide_eq_false (by omega)
  rw [e1,e2,Bool.or_false]) (by rw [h1]; simpa using h2) ⟨.str ⟨#[c]⟩,H,I.tok _,⟨_,rfl⟩,q⟩) hs
def rIx (K:Frag):R2:=fun x y H Q=>uB K x y H Q∨uz K x y H Q∨uA x y H Q
theorem B0:IxR X (rIx X.K):=ix_list.or (ix_tup.or BZ)
theorem xq (its:List Value) (n j:Nat) (u:Value):Obj.mapSeq (·.setIfInBounds j u) { cls:=.type "list",data:=.seq its.toArray n } = { cls:=.type "list",data:=.seq (its.set j u).toArray n }:=by simp [Obj.mapSeq]
theorem Inv.lst {pins:List (Addr×Obj)} {σ:St} {H:Hp} {s:Shared} {p:Addr} {xs:List V} (I:Inv X pins σ H s) (h:H p=some (.lst xs)) :
  ∃ (its:List Value) (n:Nat),Vals xs its∧s.heap.get? p=some { cls:=.type "list",data:=.seq its.toArray n }∧xs.length≤sizeLine:=by
 obtain ⟨z,its,n,r,e⟩:=I.hok p _ h
 exact ⟨its,n,r,e,z⟩
theorem Inv.lstUpd {pins:List (Addr×Obj)} {σ:St} {H:Hp} {s:Shared} {p:Addr} {xs ys:List V} {its its':List Value} {n n':Nat} {f:Obj→Obj} (I:Inv X pins σ H s) (h:H p=some (.lst xs))
  (ho:s.heap.get? p=some { cls:=.type "list",data:=.seq its.toArray n }) (hf:f { cls:=.type "list",data:=.seq its.toArray n } = { cls:=.type "list",data:=.seq its'.toArray n' }) (r:Vals ys its') (hz:ys.length≤sizeLine) (t:Nat) :
  Inv X pins σ (upd H p (.lst ys)) { s with heap:=s.heap.update p f,toks:=t }:=by
 have e:(s.heap.update p f).get? p=some { cls:=.type "list",data:=.seq its'.toArray n' }:=by
  rw [Heap.get?_update_self f ho (by rw [hf] <;> rfl),hf]
 refine I.write (x:=p) (e:=p) (by rw [h]; trivial) (.inl rfl) (fun b u hb q=>(Heap.get?_update_other _ _ (Ne.symm hb)).trans q) ⟨_,e⟩ ?_
 exact ⟨hz,its',n',r,e⟩
def CL:V→V→V→Hp→(Hp→Prop)→Prop:=fun o i v H Q=>∃ p xs k j,o=.ref p∧i=.int k∧H p=some (.lst xs)∧ixN xs.length k=some j∧Q (upd H p (.lst (xs.set j v)))
theorem set_list:uR X CL:=by
 intro pins s σ H o i v ov iv u Q I ro ri rv h
 obtain ⟨p,xs,k,j,rfl,rfl,hp,hj,q⟩:=h
 cases ro
 obtain ⟨t,rfl⟩:=ri
 obtain ⟨its,n,r,ho,hz⟩:=I.lst hp
 obtain ⟨h1,h2,h3,h4⟩:=qK hj
 have hl:=r.length
 have hn:=gE
 have I':Inv X pins σ (upd H p (.lst (xs.set j v))) { s with heap:=s.heap.update p (Obj.mapSeq (·.setIfInBounds j u)) }:=
  I.lstUpd hp ho (xq its n j u) (r.set rv j) (by rw [List.length_set]; exact hz) s.toks
 by_cases h0:0≤k
 ·have hk:k.toNat=j:=by
   rw [seqIndex_of h0 h4] at h1
   exact Option.some.inj h1
  exact PySem.W.ki_setAt ho h0 (by omega) (by rw [List.size_toArray,← hl]; exact h4) (by rw [hk]; exact ⟨_,I',q⟩)
 ·have hk:(k + (its.toArray.size:Int)).toNat=j:=by
   rw [seqIndex_neg (by omega) h3] at h1
   rw [List.size_toArray,← hl]
   exact Option.some.inj h1
  exact PySem.W.ki_setBack ho (by omega) (by rw [List.size_toArray,← hl]; exact h3) (by omega) (by rw [hk]; exact ⟨_,I',q⟩)
theorem vy (lo hi:Option Int) (n:Nat):(sliceBounds lo hi none n).1=((HT.sIx n 0 lo:Nat):Int)∧(sliceBounds lo hi none n).2.1=((HT.sIx n n hi:Nat):Int)∧(sliceBounds lo hi none n).2.2=1:=by
 refine ⟨?_,?_,rfl⟩
 ·cases lo with
  | none=>simp [sliceBounds,HT.sIx]
  | some i=>
   simp only [sliceBounds,HT.sIx,Option.getD_none,show (1:Int) > 0 by decide,if_true]
   by_cases h:i < 0
   ·simp only [h,if_true] <;> omega
   ·simp only [h,if_false] <;> omega
 ·cases hi with
  | none=>simp [sliceBounds,HT.sIx]
  | some i=>
   simp only [sliceBounds,HT.sIx,Option.getD_none,show (1:Int) > 0 by decide,if_true]
   by_cases h:i < 0
   ·simp only [h,if_true] <;> omega
   ·simp only [h,if_false] <;> omega
theorem vi (its:List Value) (lo hi:Option Int):slicePick its.toArray lo hi none=((its.drop (HT.sIx its.length 0 lo)).take (HT.sIx its.length its.length hi - HT.sIx its.length 0 lo)).toArray:=by
 obtain ⟨h1,h2,h3⟩:=vy lo hi its.toArray.size
 unfold slicePick
 rw [h1,h2,h3]
 simp only [sliceRange_one,pick_run,List.size_toArray] <;> rfl
def DZ (K:Frag):V→Option Int→Option Int→Hp→VK→Prop:=fun x lo hi H Q=>∃ a xs,x=.ref a∧SqL K H a xs∧∀ p,H p=none→Q (.ref p) (upd H p (.lst (fM xs lo hi)))
theorem sl_list:SlR X (DZ X.K):=by
 intro pins s σ H x v vl vu lo hi sl Q I rx hs pl pu h
 obtain ⟨a,xs,rfl,hx,q⟩:=h
 cases rx
 obtain ⟨its,r,ht,hz⟩:=I.list hx
 have hlen:=r.length
 refine ⟨"list",_,slot_list_getitem.lookup,ht.isList.typeIs,?_⟩
 refine wpAny_getItem_list_slice ht.isList hs pl pu .none (by simp) ?_ (by rw [List.size_toArray] <;> omega)
 rw [vi,← hlen]
 refine ⟨.ref s.heap.objs.size,_,I.laid (t':=s.toks) (o:=.lst (fM xs lo hi)) (fun b ob q=>Heap.get?_push_of_some _ q) (Nat.le_refl _) ?_,rfl,q _ (I.hok.fresh (Nat.le_refl _))⟩
 exact ⟨Nat.le_trans (n8 xs lo hi) hz,_,0,(r.drop (HT.sIx xs.length 0 lo)).take (HT.sIx xs.length xs.length hi - HT.sIx xs.length 0 lo),Heap.get?_push_size _ rfl⟩
def eL:V→Bool
 | .non=>true
 | .bl _=>true
 | .int _=>true
 | .str _=>true
 | _=>false
def eqV:V→V→Bool
 | .non,.non=>true
 | .bl a,.bl b=>a == b
 | .bl a,.int b=>(if a then 1 else 0) == b
 | .int a,.bl b=>a == (if b then 1 else 0)
 | .int a,.int b=>a == b
 | .str a,.str b=>a == b
 | _,_=>false
theorem Cd {A:Around} {s:Shared} {y x:V} {u v:Value} (ry:RelV y u) (rx:RelV x v) (fy:eL y=true) (fx:eL x=true):SeqAt.EqAt A s u v (eqV y x):=by
 cases y with
 | non=>
  cases ry
  cases x with
  | non=>cases rx; exact SeqAt.EqAt.same _
  | bl b=>cases rx; exact SeqAt.EqAt.none_bool b
  | int b=>obtain ⟨t,rfl⟩:=rx; exact SeqAt.EqAt.none_int b t
  | str b=>obtain ⟨t,rfl⟩:=rx; exact SeqAt.EqAt.none_str b t
  | _=>exact absurd (show false=true from fx) Bool.false_ne_true
 | bl a=>
  cases ry
  cases x with
  | non=>cases rx; exact SeqAt.EqAt.bool_none a
  | bl b=>cases rx; exact SeqAt.EqAt.bool_bool a b
  | int b=>obtain ⟨t,rfl⟩:=rx; exact SeqAt.EqAt.bool_int a b t
  | str b=>obtain ⟨t,rfl⟩:=rx; exact SeqAt.EqAt.bool_str a b t
  | _=>exact absurd (show false=true from fx) Bool.false_ne_true
 | int a=>
  obtain ⟨t',rfl⟩:=ry
  cases x with
  | non=>cases rx; exact SeqAt.EqAt.int_none a t'
  | bl b=>cases rx; exact SeqAt.EqAt.int_bool a t' b
  | int b=>obtain ⟨t,rfl⟩:=rx; exact SeqAt.EqAt.int_int a t' b t
  | str b=>obtain ⟨t,rfl⟩:=rx; exact SeqAt.EqAt.int_str a t' b t
  | _=>exact absurd (show false=true from fx) Bool.false_ne_true
 | str a=>
  obtain ⟨t',rfl⟩:=ry
  cases x with
  | non=>cases rx; exact SeqAt.EqAt.str_none a t'
  | bl b=>cases rx; exact SeqAt.EqAt.str_bool a t' b
  | int b=>obtain ⟨t,rfl⟩:=rx; exact SeqAt.EqAt.str_int a t' b t
  | str b=>obtain ⟨t,rfl⟩:=rx; exact SeqAt.EqAt.str_str a t' b t
  | _=>exact absurd (show false=true from fx) Bool.false_ne_true
 | _=>exact absurd (show false=true from fy) Bool.false_ne_true
def eqU (x:V) (u:Value):Bool:=match u with
 | .none=>eqV .non x
 | .bool b=>eqV (.bl b) x
 | .int i _=>eqV (.int i) x
 | .str z _=>eqV (.str z) x
 | _=>false
theorem sF {x y:V} {u:Value} (r:RelV y u) (f:eL y=true):eqU x u=eqV y x:=by
 cases y with
 | non=>cases r; rfl
 | bl b=>cases r; rfl
 | int i=>obtain ⟨t,rfl⟩:=r; rfl
 | str z=>obtain ⟨t,rfl⟩:=r; rfl
 | _=>exact absurd (show false=true from f) Bool.false_ne_true
theorem i4 {x:V}:∀ {xs:List V} {us:List Value},Vals xs us→xs.all eL=true→us.any (eqU x)=xs.any fun y=>eqV y x
 | _,_,.nil,_=>rfl
 | y::xs,u::us,.cons r t,f=>by
  rw [List.all_cons,Bool.and_eq_true] at f
  rw [List.any_cons,List.any_cons,sF r f.1,i4 t f.2]
theorem iU {A:Around} {s:Shared} {x:V} {v:Value} (rx:RelV x v) (fx:eL x=true):∀ {xs:List V} {us:List Value},Vals xs us→xs.all eL=true→∀ u∈us,SeqAt.EqAt A s u v (eqU x u)
 | _,_,.nil,_=>fun u hu=>by cases hu
 | y::xs,u::us,.cons r t,f=>fun u' hu=>by
  rw [List.all_cons,Bool.and_eq_true] at f
  rcases List.mem_cons.mp hu with rfl | hu
  ·rw [sF r f.1]; exact Cd r rx f.1 fx
  ·exact iU rx fx t f.2 u' hu
def inV (x:V) (xs:List V):Bool:=xs.any fun y=>eqV y x
def rIn (K:Frag) (neg:Bool):R2:=fun x y H Q=>∃ p xs,y=.ref p∧(SqL K H p xs∨SqT K H p xs)∧eL x=true∧xs.all eL=true∧Q (.bl (if neg then !inV x xs else inV x xs)) H
theorem oY:OpR X (compareOp .In) (rIn X.K false):=by
 intro pins s σ H x y v u Q I rx ry h
 obtain ⟨p,xs,rfl,hq,fx,fs,q⟩:=h
 cases ry
 rcases hq with hq | hq
 ·obtain ⟨its,r,pl,hz⟩:=I.list hq
  refine SeqAt.in_listAt (eqU x) pl.isList (fun w hw=>iU rx fx r fs w (by simpa using hw)) ⟨.bl _,H,I,rfl,?_⟩
  rw [show its.toArray.any (eqU x)=its.any (eqU x) by simp,i4 r fs]
  exact q
 ·obtain ⟨its,r,pl,hz⟩:=I.tuple hq
  refine SeqAt.in_tupleAt (eqU x) pl (fun w hw=>iU rx fx r fs w (by simpa using hw)) ⟨.bl _,H,I,rfl,?_⟩
  rw [show its.toArray.any (eqU x)=its.any (eqU x) by simp,i4 r fs]
  exact q
theorem nT:OpR X (compareOp .NotIn) (rIn X.K true):=by
 intro pins s σ H x y v u Q I rx ry h
 obtain ⟨p,xs,rfl,hq,fx,fs,q⟩:=h
 cases ry
 rcases hq with hq | hq
 ·obtain ⟨its,r,pl,hz⟩:=I.list hq
  refine SeqAt.notIn_listAt (eqU x) pl.isList (fun w hw=>iU rx fx r fs w (by simpa using hw)) ⟨.bl _,H,I,rfl,?_⟩
  rw [show its.toArray.any (eqU x)=its.any (eqU x) by simp,i4 r fs]
  exact q
 ·obtain ⟨its,r,pl,hz⟩:=I.tuple hq
  refine SeqAt.notIn_tupleAt (eqU x) pl (fun w hw=>iU rx fx r fs w (by simpa using hw)) ⟨.bl _,H,I,rfl,?_⟩
  rw [show its.toArray.any (eqU x)=its.any (eqU x) by simp,i4 r fs]
  exact q
theorem call_len_seq:CallR X (.builtin "len") (fun xs H Q=>∃ p ys,xs=[.ref p]∧(SqL X.K H p ys∨SqT X.K H p ys)∧Q (.int ys.length) H):=by
 intro pins s σ H xs us Q I r h
 obtain ⟨p,ys,rfl,hq,q⟩:=h
 obtain ⟨u,rfl,rx⟩:=vals1 r
 cases rx
 have hn:=gE
 rcases hq with hq | hq
 ·obtain ⟨its,r',pl,hz⟩:=I.list hq
  have hlen:=r'.length
  exact Calls.call_len_list pl.isList (by simp only [List.size_toArray] <;> omega) ⟨.int ys.length,H,I.tok _,⟨s.toks + 1,by rw [List.size_toArray,hlen]⟩,q⟩
 ·obtain ⟨its,r',pl,hz⟩:=I.tuple hq
  have hlen:=r'.length
  exact len_tuple pl (by simp only [List.size_toArray] <;> omega) ⟨.int ys.length,H,I.tok _,⟨s.toks + 1,by rw [List.size_toArray,hlen]⟩,q⟩
theorem call_len_str:CallR X (.builtin "len") (fun xs H Q=>∃ z,xs=[.str z]∧z.length≤sizeLine∧Q (.int z.length) H):=by
 intro pins s σ H xs us Q I r h
 obtain ⟨z,rfl,hz,q⟩:=h
 obtain ⟨u,rfl,t,rfl⟩:=vals1 r
 have hn:=gE
 exact len_str (by omega) ⟨.int z.length,H,I.tok _,⟨_,rfl⟩,q⟩
theorem CallR.or {f:Value} {r r':List V→Hp→VK→Prop} (h:CallR X f r) (h':CallR X f r'):CallR X f (fun xs H Q=>r xs H Q∨r' xs H Q):=by
 intro pins s σ H xs us Q I rs q
 rcases q with q | q
 ·exact h pins s σ H xs us Q I rs q
 ·exact h' pins s σ H xs us Q I rs q
theorem vY:CallR X (.type "list") (fun xs H Q=>∃ p ys,xs=[.ref p]∧(SqL X.K H p ys∨SqT X.K H p ys)∧∀ l,H l=none→Q (.ref l) (upd H l (.lst ys))):=by
 intro pins s σ H xs us Q I r h
 obtain ⟨p,ys,rfl,hq,q⟩:=h
 obtain ⟨u,rfl,rx⟩:=vals1 r
 cases rx
 have fin:∀ (its:List Value),Vals ys its→ys.length≤sizeLine→∀ (h':Heap) (c':Nat),(∀ b o',s.heap.get? b=some o'→h'.get? b=some o') →
   h'.get? s.heap.objs.size=some { cls:=.type "list",dict:=none,data:=.seq its.toArray c',slots:=#[] }→EP X pins σ Q (.ref s.heap.objs.size) { s with heap:=h' }:=fun its r' hz h' c' kp e=>
  ⟨.ref s.heap.objs.size,_,I.laid (t':=s.toks) kp (Nat.le_refl _) (show ObjOk X.prog X.w _ h' _ (.lst ys) from ⟨hz,its,c',r',e⟩),rfl,q _ (I.hok.fresh (Nat.le_refl _))⟩
 rcases hq with hq | hq
 ·obtain ⟨its,r',pl,hz⟩:=I.list hq
  have hlen:=r'.length
  obtain ⟨o,ho,hc,n,hd⟩:=pl.isList
  exact call_list_seq p (.inl rfl) ho hc hd (fun h' c' kp e=>fin its r' hz h' c' kp e) (by simp only [List.size_toArray] <;> omega)
 ·obtain ⟨its,r',pl,hz⟩:=I.tuple hq
  have hlen:=r'.length
  obtain ⟨o,ho,hc,n,hd⟩:=pl
  exact call_list_seq p (.inr rfl) ho hc hd (fun h' c' kp e=>fin its r' hz h' c' kp e) (by simp only [List.size_toArray] <;> omega)
theorem vx:CallR X (.type "tuple") (fun xs H Q=>∃ p ys,xs=[.ref p]∧((SqL X.K H p ys∧∀ l,H l=none→Q (.ref l) (upd H l (.tup ys)))∨(SqT X.K H p ys∧Q (.ref p) H))):=by
 intro pins s σ H xs us Q I r h
 obtain ⟨p,ys,rfl,h⟩:=h
 obtain ⟨u,rfl,rx⟩:=vals1 r
 cases rx
 rcases h with ⟨hq,q⟩ | ⟨hq,q⟩
 ·obtain ⟨its,r',pl,hz⟩:=I.list hq
  have hlen:=r'.length
  refine call_tuple_list pl.isList (fun h' kp=>?_) (by simp only [List.size_toArray] <;> omega)
  have I1:Inv X pins σ H { s with heap:=h' }:=I.kept (t':=s.toks) kp
  have I2:Inv X pins σ (upd H h'.objs.size (.tup ys)) { s with heap:=h'.push { cls:=.type "tuple",data:=.seq its.toArray } }:=
   I1.laid (t':=s.toks) (fun b o e=>Heap.get?_push_of_some _ e) (Nat.le_refl _) (show ObjOk X.prog X.w _ _ _ (.tup ys) from ⟨hz,its,r',IsTup.new _ _⟩)
  exact ⟨.ref h'.objs.size,_,I2,rfl,q _ (I1.hok.fresh (Nat.le_refl _))⟩
 ·obtain ⟨its,r',pl,hz⟩:=I.tuple hq
  exact call_tuple_same pl ⟨.ref p,H,I,rfl,q⟩
def tyV (K:Frag) (T:String) (x:V) (H:Hp):Prop:=match x with
 | .str _=>T = "str"
 | .int _=>T = "int"
 | .ref p=>(T = "list"∧∃ xs,SqL K H p xs)∨(T = "tuple"∧∃ o,K.lookup p=some o∧o.cls=.type "tuple"∧o.dict=none) ∨
   (T = "dict"∧((∃ kvs,H p=some (.dK kvs))∨∃ kvs,H p=some (.dT kvs)))∨(T = "set"∧∃ S n,H p=some (.set S n))
 | _=>False
theorem Bb {pins:List (Addr×Obj)} {σ:St} {H:Hp} {s:Shared} {T:String} {x:V} {v:Value} (I:Inv X pins σ H s) (r:RelV x v) (ty:tyV X.K T x H) :
  s.TypeIs v T∧∀ a,v=.ref a→∃ ob,s.heap.get? a=some ob∧ob.dict=none:=by
 cases x with
 | str z=>
  obtain ⟨t,rfl⟩:=r
  cases (show T = "str" from ty)
  exact ⟨typeIs_str s z t,fun _ e=>nomatch e⟩
 | int i=>
  obtain ⟨t,rfl⟩:=r
  cases (show T = "int" from ty)
  exact ⟨typeIs_int s i t,fun _ e=>nomatch e⟩
 | ref p=>
  cases r
  rcases ty with ⟨rfl,xs,hq⟩ | ⟨rfl,o,hk,hc,hd⟩ | ⟨rfl,hk⟩ | ⟨rfl,S,n,hk⟩
  ·obtain ⟨its,_,pl,_⟩:=I.list hq
   refine ⟨pl.isList.typeIs,fun a e=>?_⟩
   cases e
   obtain ⟨o,n,e,c,hd,_⟩:=pl
   exact ⟨o,e,hd⟩
  ·refine ⟨⟨o,I.kIn p o hk,hc⟩,fun a e=>?_⟩
   cases e
   exact ⟨o,I.kIn _ o hk,hd⟩
  ·have z:∃ o,s.heap.get? p=some o∧o.ExactDict:=by
    rcases hk with ⟨kvs,hk⟩ | ⟨kvs,hk⟩
    ·obtain ⟨_,_,_,_,o,_,_,e,ex,_⟩:=I.hok p _ hk
     exact ⟨o,e,ex⟩
    ·obtain ⟨_,_,_,_,o,_,_,e,ex,_⟩:=I.hok p _ hk
     exact ⟨o,e,ex⟩
   obtain ⟨o,e,ex⟩:=z
   refine ⟨⟨o,e,ex.1⟩,fun a e2=>?_⟩
   cases e2
   exact ⟨o,e,ex.2.1⟩
  ·obtain ⟨o,_,_,_,e,ex,_⟩:=I.hok p _ hk
   refine ⟨⟨o,e,ex.1⟩,fun a e2=>?_⟩
   cases e2
   exact ⟨o,e,ex.2.1⟩
 | _=>exact False.elim ty
def tBM (K:Frag) (T:String) (r:V→List V→Hp→VK→Prop) (to:TE) (t:TA):TE:=fun σ H Q=>to σ H fun x H1=>tyV K T x H1∧t σ H1 fun xs H2=>r x xs H2 Q
variable {o e:Expr} {es:List Expr} {to:TE} {t:TA} {name:Str} {apos cpos:Pos} {T id:String} {r:V→List V→Hp→VK→Prop}
theorem tG (pa:PlainAttrs T) (slot:Slot T name id) (hty:typeOf (.builtin id)=pure (.type "method_descriptor")) (hm:MtR X id r) (ho:PE X o to) (ha:PA X (e::es) t)
  (hbase:attributeBase o name X.env (eval o X.env)=eval o X.env:=by rfl)
  (hfew:((backTo cpos (starEach (e::es) X.env)).all (fun x=>!x.1) && (backToKw cpos (keywordEach [] X.env)).all (fun x=>x.1.isSome)
   && decide ((e::es).length + ([]:List Keyword).length + (if ([]:List Keyword).isEmpty then 0 else 1) < 30))=true:=by rfl)
  (hline:(apos.endLine == cpos.line)=true:=by rfl) (hs:starEach (e::es) X.env=(false,eval e X.env)::starEach es X.env:=by rfl) (hplain:(backTo cpos (starEach es X.env)).any (·.1)=false:=by rfl) :
  PE X (.Call (.Attribute o name apos) (e::es) [] cpos) (tBM X.K T r to t):=by
 intro pins s σ H Q I h
 refine wpAny_Call_method_late hbase hfew hline rfl (thn (ho pins s σ H _ I h) fun v s1 ⟨x,H1,I1,r1,ty,q1⟩=>?_)
 obtain ⟨h1,h2⟩:=Bb I1 r1 ty
 refine ⟨T,id,pa,slot,hty,h1,h2,?_⟩
 have hA:=ha cpos pins s1 σ H1 _ I1 q1
 rw [hs] at hA ⊢
 refine Calls.callWith_builtin (by show (false || (backTo cpos (starEach es X.env)).any (·.1))=false; rw [hplain] <;> rfl) (Calls.evalArgs_plain ?_)
 exact thn hA fun us s2 ⟨vs,H2,I2,r2,q2⟩=>hm pins s2 σ H2 x vs v us Q I2 r1 r2 q2
end
def MtM (X:Cx) (id:String) (r:V→List V→Hp→VK→Prop):Prop:=
 ∀ (pins:List (Addr×Obj)) (s:Shared) (σ:St) (H:Hp) (x:V) (xs:List V) (v:Value) (us:List Value) (Q:VK),Inv X pins σ H s→RelV x v→Vals xs us→r x xs H Q →
  wpAny (model X.prog X.w) X.A (call (.builtin id) (v::us)) (EP X pins σ Q) X.xe s
theorem Vals.one:∀ {x:V} {us:List Value},Vals [x] us→∃ u,us=[u]∧RelV x u
 | _,_,.cons r .nil=>⟨_,rfl,r⟩
theorem Vals.rep {xs:List V} {us:List Value} (h:Vals xs us):∀ k:Nat,Vals (List.replicate k xs).flatten (List.replicate k us).flatten
 | 0=>.nil
 | k + 1=>by
  rw [List.replicate_succ,List.replicate_succ,List.flatten_cons,List.flatten_cons]
  exact Vals.append h (Vals.rep h k)
theorem foldl_rep (its:List Value):∀ (k:Nat) (acc:List Value),
  List.foldl (fun x1 x2=>x1++x2) acc.toArray (List.replicate k its.toArray)=(acc++(List.replicate k its).flatten).toArray
 | 0,acc=>by simp
 | k + 1,acc=>by
  have e:acc.toArray++its.toArray=(acc++its).toArray:=by simp
  have e2:(acc++its)++(List.replicate k its).flatten=acc++(List.replicate (k + 1) its).flatten:=by
   rw [List.replicate_succ,List.flatten_cons,List.append_assoc]
  rw [← e2,← foldl_rep its k (acc++its),← e,List.replicate_succ,List.foldl_cons]
section
variable {X:Cx} {pins:List (Addr×Obj)} {σ:St} {H:Hp} {s:Shared} {l b:Addr} {xs ys zs:List V}
theorem Inv.lset {its its':List Value} {n:Nat} {f:Array Value→Array Value} {t':Nat} (I:Inv X pins σ H s) (hH:H l=some (.lst xs))
  (e:s.heap.get? l=some { cls:=.type "list",data:=.seq its.toArray n }) (hf:f its.toArray=its'.toArray) (hv:Vals ys its') (hz:ys.length≤sizeLine) :
  Inv X pins σ (upd H l (.lst ys)) { s with heap:=s.heap.update l (Obj.mapSeq f),toks:=t' }:=by
 have q:=PySem.IsL.update e f
 rw [hf] at q
 refine I.write (x:=l) (e:=l) (by rw [hH]; exact trivial) (.inl rfl) (fun b' u hb hu=>(Heap.get?_update_other s.heap (Obj.mapSeq f) (Ne.symm hb)).trans hu) ⟨_,q⟩ ?_
 exact ⟨hz,its',_,hv,q⟩
theorem Inv.lnew {its:List Value} {t':Nat} (I:Inv X pins σ H s) (hv:Vals ys its) (hz:ys.length≤sizeLine) :
  Inv X pins σ (upd H s.heap.objs.size (.lst ys)) { s with heap:=s.heap.push { cls:=.type "list",data:=.seq its.toArray },toks:=t' }:=I.laid (fun _ _ q=>Heap.get?_push_of_some _ q) (Nat.le_refl _) ⟨hz,its,0,hv,Heap.get?_push_size _ rfl⟩
theorem Inv.fresh (I:Inv X pins σ H s):H s.heap.objs.size=none:=I.hok.fresh (Nat.le_refl _)
theorem Inv.lstM (I:Inv X pins σ H s) (hH:H l=some (.lst xs)):xs.length≤sizeLine∧∃ (its:List Value) (n:Nat),Vals xs its∧xs.length=its.length∧s.heap.get? l=some { cls:=.type "list",data:=.seq its.toArray n }:=by
 obtain ⟨z,its,n,r,e⟩:=I.hok l _ hH
 exact ⟨z,its,n,r,r.length,e⟩
end
section
variable {X:Cx}
def Ab:V→List V→Hp→VK→Prop:=fun x vs H Q=>∃ l xs y,x=.ref l∧vs=[y]∧H l=some (.lst xs)∧xs.length < sizeLine∧Q .non (upd H l (.lst (xs++[y])))
theorem yd:MtM X "list.append" Ab:=by
 intro pins s σ H x vs v us Q I rx rv h
 obtain ⟨l,xs,y,rfl,rfl,hH,hz,q⟩:=h
 cases rx
 obtain ⟨u,rfl,ru⟩:=rv.one
 obtain ⟨z,its,n,r,hl,e⟩:=I.lstM hH
 refine call_meets F.slot_list_append ⟨_,e,rfl⟩ F.entry_list_append (F.args_list_append_2 _ _) (PySem.list_append l its.toArray n u (by rw [List.size_toArray]; omega)) ⟨e,?_⟩
 refine ⟨.non,_,I.lset (its':=its++[u]) hH e (by simp) (r.append (.cons ru .nil)) ?_,rfl,q⟩
 rw [List.length_append,List.length_singleton]
 omega
theorem len_rep {α:Type} (xs:List α) (k:Nat):(List.replicate k xs).flatten.length=k * xs.length:=by
 induction k with
 | zero=>simp
 | succ k ih=>rw [List.replicate_succ,List.flatten_cons,List.length_append,ih,Nat.succ_mul,Nat.add_comm]
end
section
variable {prog:Program} {w:World} {A:Around} {E:Value→Shared→Prop} {s:Shared}
end
section
variable {X:Cx}
end
section
variable {κ:Type} [DecidableEq κ]
def bz (kvs:List (κ×V)) (k:κ):Option V:=(kvs.find? fun kv=>decide (kv.1=k)).map (·.2)
def putK (kvs:List (κ×V)) (k:κ) (v:V):List (κ×V):=if (kvs.any fun kv=>decide (kv.1=k))=true then kvs.map (fun kv=>if kv.1=k then (kv.1,v) else kv) else kvs++[(k,v)]
theorem lU {p:κ×V} {r:List (κ×V)} {k:κ} (e:p.1=k):bz (p::r) k=some p.2:=by simp [bz,List.find?_cons,e]
theorem lV {p:κ×V} {r:List (κ×V)} {k:κ} (e:¬ p.1=k):bz (p::r) k=bz r k:=by simp [bz,List.find?_cons,e]
theorem lW (k:κ):∀ kvs:List (κ×V),(kvs.any fun kv=>decide (kv.1=k))=(bz kvs k).isSome
 | []=>rfl
 | p::r=>by
  rw [List.any_cons]
  by_cases e:p.1=k
  ·simp only [lU e,decide_eq_true e,Bool.true_or,Option.isSome_some]
  ·rw [lV e,decide_eq_false e,Bool.false_or]; exact lW k r
theorem nX (kvs:List (κ×V)) (k:κ) (v:V):(putK kvs k v).length≤kvs.length + 1:=by
 unfold putK
 split
 ·rw [List.length_map]; omega
 ·rw [List.length_append,List.length_cons,List.length_nil]; omega
theorem yW {kvs:List (κ×V)} {k:κ} (v:V) (h:bz kvs k=none):putK kvs k v=kvs++[(k,v)]:=by
 unfold putK
 rw [lW,h]
 exact if_neg (by decide)
theorem RelO.isSome_eq {o:Option V} {u:Option Value} (r:RelO o u):o.isSome=u.isSome:=by
 cases o with
 | none=>cases u with
  | none=>rfl
  | some _=>exact (show False from r).elim
 | some _=>cases u with
  | none=>exact (show False from r).elim
  | some _=>rfl
theorem KV.val {kvs:List (κ×V)} {vs:List (κ×Value)} (r:KV kvs vs) (k:κ):RelO (bz kvs k) (valueAt vs k):=by
 unfold KV at r
 induction r with
 | nil=>exact True.intro
 | @cons p q ps qs h t ih=>
  obtain ⟨h1,h2⟩:=h
  by_cases e:p.1=k
  ·have e':q.1=k:=h1.symm.trans e
   have b:valueAt (q::qs) k=some q.2:=by simp [valueAt,List.find?_cons,e']
   rw [lU e,b]; exact h2
  ·have e':¬ q.1=k:=fun z=>e (h1.trans z)
   have b:valueAt (q::qs) k=valueAt qs k:=by simp [valueAt,List.find?_cons,e']
   rw [lV e,b]; exact ih
theorem KV.any {kvs:List (κ×V)} {vs:List (κ×Value)} (r:KV kvs vs) (k:κ):(kvs.any fun kv=>decide (kv.1=k))=vs.any fun kv=>decide (kv.1=k):=by
 unfold KV at r
 induction r with
 | nil=>rfl
 | cons h t ih=>rw [List.any_cons,List.any_cons,ih,h.1]
theorem KV.repl {kvs:List (κ×V)} {vs:List (κ×Value)} (r:KV kvs vs) (k:κ) {y:V} {u:Value} (ry:RelV y u) :
  KV (kvs.map fun kv=>if kv.1=k then (kv.1,y) else kv) (vs.map fun kv=>if kv.1=k then (kv.1,u) else kv):=by
 unfold KV at r ⊢
 induction r with
 | nil=>exact .nil
 | @cons p q ps qs h t ih=>
  rw [List.map_cons,List.map_cons]
  refine .cons ?_ ih
  obtain ⟨h1,h2⟩:=h
  by_cases e:p.1=k
  ·rw [if_pos e,if_pos (h1.symm.trans e)]; exact ⟨h1,ry⟩
  ·rw [if_neg e,if_neg (fun z=>e (h1.trans z))]; exact ⟨h1,h2⟩
theorem KV.put {kvs:List (κ×V)} {vs:List (κ×Value)} (r:KV kvs vs) (k:κ) {y:V} {u:Value} (ry:RelV y u):KV (putK kvs k y) (stored vs k u):=by
 unfold putK stored
 rw [r.any k]
 by_cases e:(vs.any fun kv=>decide (kv.1=k))=true
 ·rw [if_pos e,if_pos e]; exact r.repl k ry
 ·rw [if_neg e,if_neg e]; exact Paired.snoc r ⟨rfl,ry⟩
theorem KV.keys {kvs:List (κ×V)} {vs:List (κ×Value)} (r:KV kvs vs):kvs.map (·.1)=vs.map (·.1):=by
 unfold KV at r
 induction r with
 | nil=>rfl
 | cons h t ih=>rw [List.map_cons,List.map_cons,ih,h.1]
theorem KV.length {kvs:List (κ×V)} {vs:List (κ×Value)} (r:KV kvs vs):kvs.length=vs.length:=Paired.length r
end
theorem jh {P:Program} {w:World} {k:Key} {u:Value} (r:RelV (kV k) u):(bB P w).is k u=true:=by
 cases k with
 | inl i=>obtain ⟨t,e⟩:=(show ∃ t,u=Value.int i t from r); subst e; exact wC P w i t
 | inr x=>obtain ⟨t,e⟩:=(show ∃ t,u=Value.str x t from r); subst e; exact wB P w x t
theorem pd {P:Program} {w:World}:∀ {ks:List Key} {us:List Value},Vals (ks.map kV) us→ItemsAre (bB P w) ks us
 | [],_,r=>by rw [List.map_nil] at r; cases r; exact .nil
 | k::ks,_,r=>by
  rw [List.map_cons] at r
  cases r with
  | cons h t=>exact .cons (jh h) (pd t)
abbrev KT (H:Hp):List (List Key×V)→List (List Key×Addr×Value)→Prop:=Paired fun p q=>p.1=q.1∧H q.2.1=some (.tup (p.1.map kV))∧RelV p.2 q.2.2
theorem KT.val {H:Hp} {kvs:List (List Key×V)} {xs:List (List Key×Addr×Value)} (r:KT H kvs xs) (k:List Key):RelO (bz kvs k) ((atKey xs k).map (·.2)):=by
 induction r with
 | nil=>exact True.intro
 | @cons p q ps qs h t ih=>
  obtain ⟨h1,_,h2⟩:=h
  by_cases e:p.1=k
  ·have e':q.1=k:=h1.symm.trans e
   have b:atKey (q::qs) k=some q.2:=by simp [atKey,List.find?_cons,e']
   rw [lU e,b]; exact h2
  ·have e':¬ q.1=k:=fun z=>e (h1.trans z)
   have b:atKey (q::qs) k=atKey qs k:=by simp [atKey,List.find?_cons,e']
   rw [lV e,b]; exact ih
theorem KT.repl {H:Hp} {kvs:List (List Key×V)} {xs:List (List Key×Addr×Value)} (r:KT H kvs xs) (k:List Key) {y:V} {u:Value} (ry:RelV y u) :
  KT H (kvs.map fun kv=>if kv.1=k then (kv.1,y) else kv) (xs.map (putAt k u)):=by
 induction r with
 | nil=>exact .nil
 | @cons p q ps qs h t ih=>
  rw [List.map_cons,List.map_cons]
  refine .cons ?_ ih
  obtain ⟨h1,h2,h3⟩:=h
  unfold putAt
  by_cases e:p.1=k
  ·rw [if_pos e,if_pos (h1.symm.trans e)]; exact ⟨h1,h2,ry⟩
  ·rw [if_neg e,if_neg (fun z=>e (h1.trans z))]; exact ⟨h1,h2,h3⟩
theorem KT.put {H:Hp} {kvs:List (List Key×V)} {xs:List (List Key×Addr×Value)} (r:KT H kvs xs) (k:List Key) {b:Addr} {y:V} {u:Value} (hb:H b=some (.tup (k.map kV))) (ry:RelV y u) :
  KT H (putK kvs k y) (storedH xs k b u):=by
 have e:(kvs.any fun kv=>decide (kv.1=k))=(atKey xs k).isSome:=by
  rw [lW,(r.val k).isSome_eq,Option.isSome_map]
 unfold putK storedH
 rw [e]
 by_cases q:(atKey xs k).isSome=true
 ·rw [if_pos q,if_pos q]; exact r.repl k ry
 ·rw [if_neg q,if_neg q]; exact Paired.snoc r ⟨rfl,hb,ry⟩
theorem KT.keeps {H H':Hp} {kvs:List (List Key×V)} {xs:List (List Key×Addr×Value)} (r:KT H kvs xs) (ht:∀ b ys,H b=some (.tup ys)→H' b=some (.tup ys)):KT H' kvs xs:=Paired.mapP r fun _ _ z=>⟨z.1,ht _ _ z.2.1,z.2.2⟩
section
variable {P:Program} {w:World} {H:Hp} {h:Heap} {a:Addr}
theorem tB {u:HO} (ok:HOk P w H h) (e:Rd H a u):ObjOk P w H h a u:=e.ok ok
theorem dX {kvs:List (Key×V)} (ok:HOk P w H h) (e:Rd H a (.dK kvs)):kvs.length≤sizeLine∧(a == sysModules)=false∧∃ vs,KV kvs vs∧h.DictOf (bB P w) a vs:=show ObjOk P w H h a (.dK kvs) from tB ok e
theorem Dt {kvs:List (Key×V)} (ok:HOk P w H h) (e:H a=some (.dK kvs)):kvs.length≤sizeLine∧(a == sysModules)=false∧∃ vs,KV kvs vs∧h.DictOf (bB P w) a vs:=dX ok (.inl e)
theorem i9 {ks:List Key} (ok:HOk P w H h) (e:H a=some (.tup (ks.map kV))):(tupleKind (bB P w)).is h ks a:=by
 obtain ⟨_,its,r,o,h1,h2,n,h3⟩:=(show ObjOk P w H h a (.tup (ks.map kV)) from ok a _ e)
 exact ⟨o,its.toArray,n,h1,h2,h3,by simpa using pd r⟩
theorem jk {kvs:List (List Key×V)} (ok:HOk P w H h) (e:Rd H a (.dT kvs)):kvs.length≤sizeLine∧(a == sysModules)=false ∧
  ∃ xs,KT H kvs xs∧h.DictOfH (tupleKind (bB P w)) a xs:=by
 obtain ⟨z,y,xs,r,o,es,ep,h1,h2,h3,h4,h5⟩:=(show ObjOk P w H h a (.dT kvs) from tB ok e)
 refine ⟨z,y,xs,r,o,es,ep,h1,h2,h3,h4,fun x hx=>?_,h5⟩
 have all:∀ {l:List (List Key×V)} {m:List (List Key×Addr×Value)},KT H l m→∀ x∈m,(tupleKind (bB P w)).is h x.1 x.2.1:=by
  intro l m q
  induction q with
  | nil=>intro x hx; exact nomatch hx
  | @cons p q ps qs hq t ih=>
   intro x hx
   rcases List.mem_cons.mp hx with e | hx
   ·subst e
    exact i9 ok (by rw [← hq.1]; exact hq.2.1)
   ·exact ih x hx
 exact all r x hx
theorem Dr {kvs:List (List Key×V)} (ok:HOk P w H h) (e:H a=some (.dT kvs)):kvs.length≤sizeLine∧(a == sysModules)=false ∧
  ∃ xs,KT H kvs xs∧h.DictOfH (tupleKind (bB P w)) a xs:=jk ok (.inl e)
end
def DGet (H:Hp) (a:Addr) (y:V) (r:Option V):Prop:=(∃ kvs k,Rd H a (.dK kvs)∧y=kV k∧r=bz kvs k)∨∃ kvs k b,Rd H a (.dT kvs)∧y=.ref b∧H b=some (.tup (k.map kV))∧r=bz kvs k
def DPut (H:Hp) (a:Addr) (y v:V) (H':Hp):Prop:=
 (∃ kvs k,H a=some (.dK kvs)∧y=kV k∧kvs.length < sizeLine∧H'=upd H a (.dK (putK kvs k v))) ∨
 ∃ kvs k b,H a=some (.dT kvs)∧y=.ref b∧H b=some (.tup (k.map kV))∧kvs.length < sizeLine∧H'=upd H a (.dT (putK kvs k v))
theorem DPut.k {H:Hp} {a:Addr} {kvs:List (Key×V)} {k:Key} {v:V} (e:H a=some (.dK kvs)) (hl:kvs.length < sizeLine):DPut H a (kV k) v (upd H a (.dK (putK kvs k v))):=.inl ⟨kvs,k,e,rfl,hl,rfl⟩
section
variable {X:Cx} {pins:List (Addr×Obj)} {σ:St} {H:Hp} {s:Shared} {a:Addr} {y v:V} {u r:Value} {o:Option V} {A:Around} {E:Value→Shared→Prop}
theorem Inv.big (I:Inv X pins σ H s):sysModules < s.heap.objs.size:=by
 have h:mainGlobals < s.heap.objs.size:=(I.mod.glob.keeps I.bk).lt
 exact Nat.lt_trans (by decide) h
theorem yE {Q:Value→Shared→Prop} (hu:A.units + 1 < cLine) (I:Inv X pins σ H s) (g:DGet H a y (some v)) (ry:RelV y u) (h:∀ w' s',Inv X pins σ H s'→RelV v w'→Q w' s') :
  wpAny (model X.prog X.w) A (getItem (.ref a) u) Q E s:=by
 rcases g with ⟨kvs,k,e,ey,l⟩ | ⟨kvs,k,b,e,ey,eb,l⟩
 ·subst ey
  obtain ⟨z,hd,vs,rel,dd⟩:=dX I.hok e
  obtain ⟨w',hw,rw'⟩:=RelO.some_of (v:=v) (o:=valueAt vs k) (by rw [l]; exact rel.val k)
  exact wpAny_getItem_of (jh ry) dd.mapOf hw (h w' _ (I.tok _) rw')
 ·subst ey
  cases (show u=Value.ref b from ry)
  obtain ⟨z,hd,xs,rel,dd⟩:=jk I.hok e
  obtain ⟨w',hw,rw'⟩:=RelO.some_of (v:=v) (o:=(atKey xs k).map (·.2)) (by rw [l]; exact rel.val k)
  obtain ⟨p,hp,hp2⟩:=Option.map_eq_some_iff.mp hw
  refine wpAny_getItem_heap (tupleKind_room_in1 hu) (i9 I.hok eb) dd hp ?_
  rw [hp2]
  exact h w' _ (I.tok _) rw'
theorem Ee {Q:Value→Shared→Prop} (hu:A.units + 1 < cLine) (I:Inv X pins σ H s) (g:DGet H a y o) (ry:RelV y u) (h:∀ s',Inv X pins σ H s'→Q (.bool o.isSome) s') :
  wpAny (model X.prog X.w) A (compareOp .In u (.ref a)) Q E s:=by
 rcases g with ⟨kvs,k,e,ey,l⟩ | ⟨kvs,k,b,e,ey,eb,l⟩
 ·subst ey
  obtain ⟨z,hd,vs,rel,dd⟩:=dX I.hok e
  refine wpAny_in_of (jh ry) hd dd.mapOf ?_
  rw [← (rel.val k).isSome_eq,← l]
  exact h _ (I.tok _)
 ·subst ey
  cases (show u=Value.ref b from ry)
  obtain ⟨z,hd,xs,rel,dd⟩:=jk I.hok e
  refine wpAny_in_heap (tupleKind_room_in1 hu) (i9 I.hok eb) hd dd ?_
  have q:=(rel.val k).isSome_eq
  rw [Option.isSome_map] at q
  rw [← q,← l]
  exact h _ (I.tok _)
theorem AM {Q:Value→Shared→Prop} (hu:A.units + 1 < cLine) (I:Inv X pins σ H s) (g:DGet H a y o) (ry:RelV y u) (h:∀ s',Inv X pins σ H s'→Q (.bool (!o.isSome)) s') :
  wpAny (model X.prog X.w) A (compareOp .NotIn u (.ref a)) Q E s:=by
 rcases g with ⟨kvs,k,e,ey,l⟩ | ⟨kvs,k,b,e,ey,eb,l⟩
 ·subst ey
  obtain ⟨z,hd,vs,rel,dd⟩:=dX I.hok e
  refine wpAny_notIn_of (jh ry) hd dd.mapOf ?_
  rw [← (rel.val k).isSome_eq,← l]
  exact h _ (I.tok _)
 ·subst ey
  cases (show u=Value.ref b from ry)
  obtain ⟨z,hd,xs,rel,dd⟩:=jk I.hok e
  refine wpAny_notIn_heap (tupleKind_room_in1 hu) (i9 I.hok eb) hd dd ?_
  have q:=(rel.val k).isSome_eq
  rw [Option.isSome_map] at q
  rw [← q,← l]
  exact h _ (I.tok _)
theorem rl {h':Heap} {t':Nat} {ob:HO} (I:Inv X pins σ H s) (mu:Mut (H a)) (hs:Heap.SameBut a s.heap h') (he:∃ q,h'.get? a=some q) (new:ObjOk X.prog X.w (upd H a ob) h' a ob) :
  Inv X pins σ (upd H a ob) { s with heap:=h',toks:=t' }:=I.write (x:=a) (e:=a) mu (.inl rfl) (fun b q hb z=>(hs.2 b hb).trans z) he new
theorem sI {P:Program} {w:World} {H':Hp} {h':Heap} {kvs:List (Key×V)} {vs:List (Key×Value)} (z:kvs.length≤sizeLine) (hd:(a == sysModules)=false) (rel:KV kvs vs) (dd:h'.DictOf (bB P w) a vs) :
  ObjOk P w H' h' a (.dK kvs):=⟨z,hd,vs,rel,dd⟩
theorem yD {H':Hp} {Q:Unit→Shared→Prop} (hu:A.units + 1 < cLine) (I:Inv X pins σ H s) (g:DPut H a y v H') (ry:RelV y u) (rv:RelV v r) (h:∀ s',Inv X pins σ H' s'→Q () s') :
  wpAny (model X.prog X.w) A (setItem (.ref a) u r) Q E s:=by
 rcases g with ⟨kvs,k,e,ey,l,eH⟩ | ⟨kvs,k,b,e,ey,eb,l,eH⟩
 ·subst ey eH
  obtain ⟨z,hd,vs,rel,dd⟩:=Dt I.hok e
  have hz:vs.length≤sizeLine:=by rw [← rel.length]; exact z
  have hl:(putK kvs k v).length≤sizeLine:=by have:=nX kvs k v; omega
  refine wpAny_setItem_pairs (hsz:=hz) (jh ry) dd fun h' dd' hs=>h _ ?_
  have he:∃ q,h'.get? a=some q:=let ⟨q,_,_,hq,_⟩:=dd'; ⟨q,hq⟩
  exact rl I (by rw [e]; exact True.intro) hs he (sI hl hd (rel.put k rv) dd')
 ·subst ey eH
  cases (show u=Value.ref b from ry)
  obtain ⟨z,hd,xs,rel,dd⟩:=Dr I.hok e
  have hz:xs.length≤sizeLine:=by rw [← Paired.length rel]; exact z
  have hl:(putK kvs k v).length≤sizeLine:=by have:=nX kvs k v; omega
  refine wpAny_setItem_heap (hsz:=hz) (tupleKind_room_in1 hu) (i9 I.hok eb) dd fun h' dd' hs=>h _ ?_
  obtain ⟨q,es,ep,hq,h2,h3,h4,_,h5⟩:=dd'
  refine rl I (by rw [e]; exact True.intro) hs ⟨q,hq⟩ ⟨hl,hd,_,(rel.put k eb rv).keeps fun c ys ec=>?_,q,es,ep,hq,h2,h3,h4,h5⟩
  rw [aR (Dd ec e (fun z=>nomatch z))]
  exact ec
end
section
variable {X:Cx} {pins:List (Addr×Obj)} {σ:St} {H:Hp} {s:Shared} {a:Addr} {kvs:List (Key×V)} {k:Key} {u:Value} {A:Around} {E:Value→Shared→Prop}
theorem Dy {Q:Value→Shared→Prop} (I:Inv X pins σ H s) (e:Rd H a (.dK kvs)) (h:∀ t s',Inv X pins σ H s'→Q (.int kvs.length t) s'):wpAny (model X.prog X.w) A (call (.builtin "len") [.ref a]) Q E s:=by
 obtain ⟨z,hd,vs,rel,dd⟩:=dX I.hok e
 refine call_len_dict hd dd (by rw [← rel.length]; rw [sizeLine_eq] at z; omega) ?_
 rw [← rel.length]
 exact h _ _ (I.tok _)
end
theorem n6 {X:Cx} {pins:List (Addr×Obj)} {σ:St} {H:Hp} {s:Shared} {a:Addr} {y:V} {o:Option V} (I:Inv X pins σ H s) (g:DGet H a y o):s.TypeIs (.ref a) "dict":=by
 rcases g with ⟨kvs,k,e,_,_⟩ | ⟨kvs,k,b,e,_,_,_⟩
 ·obtain ⟨_,_,vs,_,dd⟩:=dX I.hok e
  exact dd.typeIs
 ·obtain ⟨_,_,xs,_,dd⟩:=jk I.hok e
  exact dd.typeIs
def CK (td ty tv:TE):TS:=fun D σ H=>tv σ H fun v H1=>td σ H1 fun x H2=>ty σ H2 fun y H3=>∃ a H4,x=.ref a∧DPut H3 a y v H4∧D.nx σ H4
section
variable {X:Cx} {o i e value:Expr} {pos pos' tpos:Pos} {td ty tv:TE}
theorem Ah (hu:X.A.units + 1 < cLine) (ho:PE X o td) (hi:PE X i ty) (hv:PE X value tv) (hs:swapsWith value (some (.Subscript o i pos')) pos.line X.env=pure false) :
  PS X (.Assign [.Subscript o i pos'] value pos) (CK td ty tv):=by
 intro pins s σ H D I h
 refine wpAny_Assign_Subscript (thn (hv pins s σ H _ I h) fun r s1 ⟨v,H1,I1,rv,q1⟩=>thn (ho pins s1 σ H1 _ I1 q1) fun u s2 ⟨x,H2,I2,rx,q2⟩=>thn (hi pins s2 σ H2 _ I2 q2) fun iv s3 ⟨y,H3,I3,ry,a,H4,ex,g,q3⟩=>?_) hs
 subst ex
 obtain rfl:u=Value.ref a:=rx
 exact yD hu I3 g ry rv fun s4 I4=>⟨σ,H4,I4,q3⟩
end
theorem zC {P:Program} {w:World} {H:Hp} (h:Heap) (hb:sysModules < h.objs.size):ObjOk P w H (h.push { cls:=.type "dict",data:=.dict #[] }) h.objs.size (.dK []):=⟨Nat.zero_le _,beq_eq_false_iff_ne.mpr (Ne.symm (Nat.ne_of_lt hb)),[],.nil,Heap.DictOf.new h⟩
def Bh:TE:=fun _ H Q=>∀ p,H p=none→Q (.ref p) (upd H p (.dK []))
section
variable {X:Cx} {pos:Pos}
theorem za:PE X (.Dict [] [] pos) Bh:=fun pins s σ H Q I h=>
 wpAny_Dict_empty ⟨.ref s.heap.objs.size,_,I.laid (a:=s.heap.objs.size) (o:=.dK []) (t':=s.toks) (fun _ _ q=>Heap.get?_push_of_some _ q) (Nat.le_refl _) (zC s.heap I.big),rfl,h _ (I.hok.fresh (Nat.le_refl _))⟩
end
def mK:List (TE×TE)→St→Hp→(List (V×V)→Hp→Prop)→Prop
 | [],_,H,Q=>Q [] H
 | (tk,tv)::r,σ,H,Q=>tk σ H fun x H1=>tv σ H1 fun y H2=>mK r σ H2 fun ps H3=>Q ((x,y)::ps) H3
abbrev VV:List (V×V)→List (Value×Value)→Prop:=Paired fun p q=>RelV p.1 q.1∧RelV p.2 q.2
def PPs (X:Cx) (pos:Pos) (keys:List (Option Expr)) (values:List Expr) (trs:List (TE×TE)):Prop:=
 ∀ (pins:List (Addr×Obj)) (s:Shared) (σ:St) (H:Hp) (Q:List (V×V)→Hp→Prop),Inv X pins σ H s→mK trs σ H Q →
  wpAny (model X.prog X.w) X.A (evalPairs (pairTrees keys values X.env pos)) (fun vs s'=>∃ ps H',Inv X pins σ H' s'∧VV ps vs∧Q ps H') X.xe s
structure M1 (X:Cx) (o:Expr) (m:Str) (apos:Pos) (e:Expr) (cpos:Pos):Prop where
 base:attributeBase o m X.env (eval o X.env)=eval o X.env
 few:((backTo cpos (starEach [e] X.env)).all (fun x=>!x.1) && (backToKw cpos (keywordEach [] X.env)).all (fun x=>x.1.isSome)
  && decide (([e]:List Expr).length + ([]:List Keyword).length + (if ([]:List Keyword).isEmpty then 0 else 1) < 30))=true
 line:(apos.endLine == cpos.line)=true
 trees:backTo cpos (starEach [e] X.env)=[(false,eval e X.env)]
structure M2 (X:Cx) (o:Expr) (m:Str) (apos:Pos) (e f:Expr) (cpos:Pos):Prop where
 base:attributeBase o m X.env (eval o X.env)=eval o X.env
 few:((backTo cpos (starEach [e,f] X.env)).all (fun x=>!x.1) && (backToKw cpos (keywordEach [] X.env)).all (fun x=>x.1.isSome)
  && decide (([e,f]:List Expr).length + ([]:List Keyword).length + (if ([]:List Keyword).isEmpty then 0 else 1) < 30))=true
 line:(apos.endLine == cpos.line)=true
 trees:backTo cpos (starEach [e,f] X.env)=[(false,eval e X.env),(false,eval f X.env)]
section
variable {X:Cx} {pins:List (Addr×Obj)} {σ:St} {H:Hp} {s:Shared} {a:Addr} {y d:V} {u r:Value} {o:Option V} {A:Around} {E:Value→Shared→Prop}
end
section
variable {X:Cx} {o e f:Expr} {apos cpos:Pos} {td ty tx:TE}
end
section
variable {X:Cx} {pins:List (Addr×Obj)} {σ:St} {H:Hp} {s:Shared} {a:Addr} {kvs:List (Key×V)} {A:Around} {E:Value→Shared→Prop}
theorem zJ {Q:Value→Shared→Prop} (I:Inv X pins σ H s) (e:Rd H a (.dK kvs)) (h:∀ p s',H p=none→Inv X pins σ (upd H p (.dK kvs)) s'→Q (.ref p) s'):wpAny (model X.prog X.w) A (call (.type "dict") [.ref a]) Q E s:=by
 obtain ⟨z,hd,vs,rel,dd⟩:=dX I.hok e
 refine kt_call_dict hd dd (by rw [← rel.length]; exact z) fun h' dd' hs=>?_
 refine h _ _ (I.hok.fresh (Nat.le_refl _)) (I.laid (a:=s.heap.objs.size) (o:=.dK kvs) (t':=s.toks) (fun b q hq=>?_) (Nat.le_refl _) (sI z (beq_eq_false_iff_ne.mpr (Ne.symm (Nat.ne_of_lt I.big))) rel dd'))
 exact (hs.2 b (Nat.ne_of_lt (Heap.lt_size hq))).trans (Heap.get?_push_of_some _ hq)
end
section
variable {X:Cx} {pins:List (Addr×Obj)} {σ:St} {H:Hp} {s:Shared} {a:Addr} {y:V} {u:Value} {A:Around} {E:Value→Shared→Prop}
end
end L2
namespace Att
open PySem PySem.W PySem.Calls PyProof.Rows
theorem va {P:Params} {h:Heap}:∀ (ns:List Int) (vs:List Value),WellAll P h vs (ns.map WData.int)→IntsAre vs ns:=by
 intro ns
 induction ns with
 | nil=>
  intro vs w
  rw [List.map_nil] at w
  cases w
  exact .nil
 | cons n ns ih=>
  intro vs w
  rw [List.map_cons] at w
  cases w with
  | cons a b=>
   cases a
   exact .cons _ _ (ih _ b)
theorem xY {l:OpenLaw} {n:Nat} (hn:l.most=some n) {P:Params} {h:Heap} {args:List WData} {vals:List Value}
  (hpre:l.row.toRowW.claim.pre args=true) (hwl:WellAll P h vals args) :
  ∃ a vs ns,vals=[Value.ref a]∧args=[WData.list (ns.map WData.int)]∧h.get? a=some { cls:=.type "list",data:=.seq vs.toArray }∧IntsAre vs ns∧ns.length≤n:=by
 have hsh:WShape.hasAll [] args [.list .int]=true:=(pre_splitW hpre).1
 have hc:l.pre.holds [] { args:=args } = true:=(pre_splitW hpre).2
 obtain ⟨d,r,rfl,h1,h2⟩:=hasAllW_cons hsh
 obtain rfl:=hasAllW_nil h2
 obtain ⟨xs,rfl,h3⟩:=hasW_list h1
 obtain ⟨ns,rfl⟩:=items_int h3
 have hlen:ns.length≤n:=by
  unfold OpenLaw.pre at hc
  have h4:(WTm.not (.lt (.lit (.int (n:Int))) (.len (.arg 0)))).holds [] { args:=[.list (ns.map .int)] } = true:=by
   have h4:=(holds_andW hc).1
   rw [hn] at h4
   exact h4
  have h5:=condW_of h4 (w_not (w_lt w_lit (w_len_list (w_arg rfl))))
  rw [List.length_map] at h5
  refine Nat.le_of_not_lt fun q=>?_
  have q':(n:Int) < ((ns.length:Nat):Int):=by omega
  first
   | (rw [decide_eq_true q'] at h5; exact absurd h5 (by decide))
   | (simp at h5; omega)
 cases hwl with
 | cons w1 w2=>
  cases w2
  cases w1 with
  | list ho hall=>exact ⟨_,_,ns,rfl,rfl,ho,va ns _ hall,hlen⟩
theorem x6 (l:OpenLaw) (args:List WData):l.row.toRowW.claim.post args (.bool true) args=true:=
 postW_of (r:=l.row.toRowW) (X:=(true == true))
  (show WShape.has [] (.bool true) .bool=true by first | rfl | decide | simp [WShape.has,WShape.arms,WShape.armsAll])
  (show (WTm.eq .res (.lit (.bool true))).value [] { args:=args,res:=some (.bool true),after:=args } = some (.bool (true == true)) from w_eq_bool (w_res rfl) w_lit) rfl
theorem wJ {l:OpenLaw} {n:Nat} {q:Program} {loose:List Str} {XP:(Str→Option Value)→Heap→Prop} {YP:World→Heap→Prop} {d:DefRec}
  (hn:l.most=some n) (hdf:d.params.defaults=[])
  (call:∀ (w:World) (s₀ s₁:Shared) (mg mb:Str→Option Value) (fa:Addr) (o:Obj) (pm cd doc:Value) (a:Addr) (vs:List Value) (ns:List Int),
   Ground q loose [] XP w s₀ mg mb s₁.heap→YP w s₁.heap →
   s₁.heap.get? fa=some o→o.data=.func (docDef d.name d.params d.body d.scope pm cd doc)→s₁.heap.CodeRec cd d.name→mg d.name=some (.ref fa) →
   s₁.heap.get? a=some { cls:=.type "list",data:=.seq vs.toArray }→IntsAre vs ns→ns.length≤n→s₁.gens = #[] →
   codeAny (model l.prog w) callerA (.call (.ref fa) ⟨[.ref a],[]⟩) (fun r s'=>r=.ok (.ret (.bool true))∧OldK s₁.heap s'.heap∧s'.os=s₁.os∧AllBare s'.gens) s₁) :
  WalkO q loose XP YP l.row.toRowW d [] (fun f vs=>PySem.call f vs):=by
 intro w s₀ s₁ mg mb G Y fa o pm cd doc dV kV ho hd hcd hD hmg hg args vals as hpre hlay hrd hwl hlo
 obtain rfl:dV=.none:=Dflts.none hD hdf
 obtain rfl:kV=.none:=Dflts.noKw hD
 obtain ⟨a,vs,ns,rfl,rfl,hobj,hints,hlen⟩:=xY hn hpre hwl
 refine enter_call (codeAny_mono (call w s₀ s₁ mg mb fa o pm cd doc a vs ns G Y ho (fd_plain hd) hcd hmg hobj hints hlen hg) fun r s' hq=>?_)
 obtain ⟨rfl,h2,h3,h4⟩:=hq
 exact ⟨.inl ⟨.bool true,.bool true,[],rfl,fun _=>rfl,.bool true,x6 l _,fun _=>⟨List.Pairwise.nil,fun _ hm=>(nomatch hm)⟩⟩,h2,h3,h4⟩
section
variable {prog:Program} {w:World} {A:Around} {E:Value→Shared→Prop} {s:Shared} {K:Frag}
end
end Att
namespace L2
open PySem PySem.Spec PyProof.Rows
theorem oI:∀ {vs:List Value} {ns:List Int},IntsAre vs ns→Vals (ns.map V.int) vs
 | _,_,.nil=>.nil
 | _,_,.cons n t h=>.cons ⟨t,rfl⟩ (oI h)
def nN (H:Hp):Prop:=∀ b,H b=none∨∃ o xs,H b=some (.frz o (.lst xs))
theorem zo {P:Program} {w:World} {K:Frag} {mg mb:Str→Option Value} {CX:CXT} {k:Nat} {fa a:Addr} {fd:FuncData} {x:Str} {sp:Sp} {s₁:Shared} {vs:List Value} {ns:List Int}
  (KX:K.In s₁.heap) (hns:s₁.heap.Ns mainGlobals mg) (hb:s₁.heap.Ns builtinsNs mb) (hbb:∀ x:Str,x≠"__name__"→mb x=bootBuiltins x) (hlim:s₁.heap.NoLimit) (hg:s₁.gens = #[])
  (ha:s₁.heap.get? a=some { cls:=.type "list",data:=.seq vs.toArray }) (hi:IntsAre vs ns) (hl:ns.length≤sizeLine) (hr:Room k callerA)
  (F:∀ base:Heap,K.In base→base.Ns mainGlobals mg→FnOk P w K mg base CX k fa fd [x] sp) (hbind:∀ (s:Shared) (u:Value),BindsTo s fd ⟨[u],[]⟩ [(x,u)])
  (hsp:∀ H:Hp,nN H→SqL K H a (ns.map V.int)→sp [.ref a] H (fun v _=>v=.bl true) fun _ _ _=>False)
  (hCX:∀ H e s',CX [] H s₁ (fun _ _ _=>False) e s'→False) :
  codeAny (model P w) callerA (.call (.ref fa) ⟨[.ref a],[]⟩) (fun r s'=>r=.ok (.ret (.bool true))∧OldK s₁.heap s'.heap∧s'.os=s₁.os∧AllBare s'.gens) s₁:=by
 have rv:=oI hi
 have lenV:=hi.length
 have core:∀ H:Hp,nN H→SqL K H a (ns.map V.int)→HOk P w H s₁.heap→(∀ b,H b≠none→b=a)→(H a≠none→K.lookup a=none) →
   codeAny (model P w) callerA (.call (.ref fa) ⟨[.ref a],[]⟩) (fun r s'=>r=.ok (.ret (.bool true))∧OldK s₁.heap s'.heap∧s'.os=s₁.os∧AllBare s'.gens) s₁:=by
  intro H hO hS hok hA hK
  have base_of:∀ {b:Addr} {o:Obj},s₁.heap.get? b=some o→H b=none→(fJ s₁.heap H).get? b=some o:=fun e n=>zv e n
  have noA:∀ {b:Addr} {o:Obj} {es:Array DictEntry} {ep:Nat},s₁.heap.get? b=some o→o.data=.dict es ep→H b=none:=fun {b o es ep} e d=>by
   cases q:H b with
   | none=>rfl
   | some u=>
    have e':b=a:=hA b (by rw [q]; simp)
    subst e'
    rw [ha] at e; cases e
    have d':Data.seq vs.toArray _=Data.dict es ep:=d
    cases d'
  have nsK:∀ {b:Addr} {m:Str→Option Value},s₁.heap.Ns b m→(fJ s₁.heap H).Ns b m:=fun {b m} ⟨o,es,ep,e,d,r⟩=>⟨o,es,ep,base_of e (noA e d),d,r⟩
  have hKb:K.In (fJ s₁.heap H):=fun b o e=>base_of (KX b o e) (by
   cases q:H b with
   | none=>rfl
   | some u=>
    have e':b=a:=hA b (by rw [q]; simp)
    subst e'
    rw [hK (by rw [q]; simp)] at e; cases e)
  have hM:Mod K mg (fJ s₁.heap H):=⟨hKb,nsK hns,⟨mb,nsK hb,hbb⟩,let ⟨mc,h1,h2⟩:=hlim; ⟨mc,nsK h1,h2⟩⟩
  have e0:Env0 P w K mg (fJ s₁.heap H) callerA [] s₁ H:=⟨rfl,hM,fun b o e=>Av e,Nat.le_of_eq (yp _ _),trivial,fun b hb=>absurd (show b∈([]:List Addr) from hb) (by simp),hok,.of_eq hg⟩
  refine codeAny_mono ((F _ hKb (nsK hns)).run callerA [] s₁ H ⟨[.ref a],[]⟩ [.ref a] [.ref a] _ _ hr e0 (hbind s₁ (.ref a)) (.cons rfl .nil) (hsp H hO hS)) fun r s' h=>?_
  cases r with
  | error e=>exact (hCX H e s' h).elim
  | ok fl=>
   cases fl with
   | next=>exact False.elim h
   | brk=>exact False.elim h
   | cont=>exact False.elim h
   | ret u=>
    obtain ⟨v,H',os,bare,un,hok',r',q⟩:=h
    have q':v=.bl true:=q
    subst q'
    obtain rfl:u=Value.bool true:=r'
    refine ⟨rfl,OldK.of_keep fun b o e=>?_,os,bare⟩
    cases q:H b with
    | none=>exact un.keep b o e q (by intro z; exact absurd (show b∈([]:List Addr) from z) (by simp)) (by simp)
    | some u=>
     rcases hO b with z | ⟨ob,xs,z⟩
     ·rw [q] at z; cases z
     ·have z2:=un.frzs b ob _ z
      obtain ⟨e1,_⟩:=hok b _ z
      obtain ⟨e2,_⟩:=hok' b _ z2
      rw [e] at e1; cases e1
      exact e2
 cases hk:K.lookup a with
 | some o=>
  have e:=KX a o hk
  rw [ha] at e
  cases e
  refine core (fun _=>none) (fun _=>.inl rfl) (.inr ⟨_,vs.toArray,_,hk,rfl,rfl,rfl,by rw [List.size_toArray,lenV]; exact hl,by simpa using rv⟩) (fun b u z=>by have z':(none:Option HO)=some u:=z; cases z') (fun b z=>absurd rfl z) fun z=>absurd rfl z
 | none=>
  refine core (fun b=>if b=a then some (.frz { cls:=.type "list",data:=.seq vs.toArray } (.lst (ns.map V.int))) else none) (fun b=>?_) (.inl (.inr ⟨{ cls:=.type "list",data:=.seq vs.toArray },if_pos rfl⟩)) (fun b u z=>?_) (fun b z=>?_) fun _=>hk
  ·by_cases hb:b=a
   ·exact .inr ⟨_,_,if_pos hb⟩
   ·exact .inl (if_neg hb)
  ·by_cases hb:b=a
   ·have z':=(if_pos hb).symm.trans z
    cases z'
    subst hb
    exact ⟨ha,by rw [List.length_map]; exact hl,vs,_,rv,ha⟩
   ·have z':=(if_neg hb).symm.trans z
    cases z'
  ·by_cases hb:b=a
   ·exact hb
   ·exact absurd (if_neg hb) z
theorem zW {l:PySem.W.OpenLaw} {n k:Nat} {q:Program} {loose:List Str} {XP:(Str→Option Value)→Heap→Prop} {YP:World→Heap→Prop} {d:DefRec} {K:Params→Frag} {CX:World→CXT} {sp:World→Sp} {x:Str}
  (hn:l.most=some n) (hn2:n≤sizeLine) (hdf:d.params.defaults=[]) (hr:Room k callerA)
  (hY:∀ (w:World) (h:Heap),YP w h→(K w.params).In h)
  (F:∀ (w:World) (mg:Str→Option Value) (fa:Addr) (h:Heap),(K w.params).In h→h.Ns mainGlobals mg→mg d.name=some (.ref fa) →
   ∃ fd:FuncData,(∀ (s:Shared) (u:Value),BindsTo s fd ⟨[u],[]⟩ [(x,u)]) ∧
    ∀ base:Heap,(K w.params).In base→base.Ns mainGlobals mg→FnOk l.prog w (K w.params) mg base (CX w) k fa fd [x] (sp w))
  (hsp:∀ (w:World) (H:Hp) (a:Addr) (ns:List Int),ns.length≤n→nN H→SqL (K w.params) H a (ns.map V.int)→sp w [.ref a] H (fun v _=>v=.bl true) fun _ _ _=>False)
  (hCX:∀ (w:World) (H:Hp) (s:Shared) (e:Value) (s':Shared),CX w [] H s (fun _ _ _=>False) e s'→False) :
  PySem.W.WalkO q loose XP YP l.row.toRowW d [] (fun f vs=>PySem.call f vs):=by
 refine Att.wJ hn hdf fun w s₀ s₁ mg mb fa o pm cd doc a vs ns G Y ho hd hcd hmg hobj hints hlen hg=>?_
 have KX:=hY w _ Y
 obtain ⟨fd,hb,hF⟩:=F w mg fa _ KX G.T.g hmg
 exact zo KX G.T.g G.T.b G.T.builtins G.T.nolimit hg hobj hints (Nat.le_trans hlen hn2) hr hF hb (fun H hO hS=>hsp w H a ns hlen hO hS) fun H e s'=>hCX w H s₁ e s'
def eB (s:Stmt):Arguments:=match s with
 | .FunctionDef _ a _ _ _ _ _ _ _ _=>a
 | _=>{ posonlyargs:=[],args:=[],vararg:=none,kwonlyargs:=[],kw_defaults:=[],kwarg:=none,defaults:=[] }
def da (s:Stmt):List Stmt:=match s with
 | .FunctionDef _ _ b _ _ _ _ _ _ _=>b
 | _=>[]
def aL (s:Stmt):Scope:=match s with
 | .FunctionDef _ _ _ _ _ _ sc _ _ _=>sc
 | _=>{ kind:=.function,names:=[],isGenerator:=false,isCoroutine:=false }
abbrev CX0:CXT:=fun _ _ _ _ _ _=>False
abbrev E0:XK:=fun _ _ _=>False
theorem C3 {X:Cx}:m6 CX0 X E0:=fun _ _ _ _ _ _ _ h=>h.elim
structure Fun (K:Frag) (x qual:Str) (st:Stmt) (f:Addr) (fd:FuncData):Prop where
 ex:∃ (oc:Value) (od:Option Addr) (kV doc pm:Value) (an:Option Addr) (cdv ct:Value) (osl:Array (Option Value)),
  fd=PySem.W.fnOf x qual (eB st) (da st) (aL st) .none kV doc pm an cdv ct∧K.lookup f=some ⟨oc,od,.func fd,osl⟩∧PySem.W.codeIn K cdv qual=true
 kp:PySem.W.keepIn K (.ref f)=true
section
variable {P:Program} {w:World} {K:Frag} {mg:Str→Option Value} {base:Heap}
theorem Fun.ok {x qual:Str} {st:Stmt} {f:Addr} {fd:FuncData} {N ps:List Str} {k:Nat} {sp:Sp} (F:Fun K x qual st f fd) (S:FnScope N ps (aL st)) (len:∀ vs H Q E,sp vs H Q E→vs.length=ps.length)
  (hbody:∀ (cdv:Value) (A:Around) (outer:List Env) (s:Shared) (H:Hp) (vs:List V) (Q:VK) (E:XK),Room k (A.deeper (envOfC qual (aL st) s.heap.objs.size f cdv))→sp vs H Q E →
   ∃ t,PSs (d8 CX0 P w K mg base N qual (aL st) f cdv A outer s H E).nox (da st) t∧t { nx:=fun _ H'=>Q .non H',rt:=Q } (start N vs) H):FnOk P w K mg base CX0 (k + 1) f fd ps sp:=by
 obtain ⟨oc,od,kV,doc,pm,an,cdv,ct,osl,rfl,lk,hcd⟩:=F.ex
 refine tX lk hcd S len fun A outer s H vs Q E hr hsp=>?_
 obtain ⟨t,h,q⟩:=hbody cdv A outer s H vs Q E hr hsp
 exact ⟨t,h.nox,q⟩
theorem Fun.binds {x qual:Str} {st:Stmt} {f:Addr} {fd:FuncData} {ps:List Str} (F:Fun K x qual st f fd)
  (h:∀ (kV doc pm:Value) (an:Option Addr) (cdv ct:Value) (us:List Value),us.length=ps.length→bindArgs (PySem.W.fnOf x qual (eB st) (da st) (aL st) .none kV doc pm an cdv ct) ⟨us,[]⟩=pure (ps.zip us)):Binds K fd ps []:=by
 obtain ⟨oc,od,kV,doc,pm,an,cdv,ct,osl,rfl,lk,hcd⟩:=F.ex
 exact .all (h kV doc pm an cdv ct)
theorem ko {x qual:Str} {st:Stmt} {f:Addr} {oc:Value} {od an:Option Addr} {osl:Array (Option Value)} {kV doc pm cdv ct:Value} (l:K.lookup f=some ⟨oc,od,.func (PySem.W.fnOf x qual (eB st) (da st) (aL st) .none kV doc pm an cdv ct),osl⟩)
  (c:PySem.W.codeIn K cdv qual=true) (k:PySem.W.keepIn K (.ref f)=true):Fun K x qual st f (PySem.W.fnOf x qual (eB st) (da st) (aL st) .none kV doc pm an cdv ct):=⟨⟨oc,od,kV,doc,pm,an,cdv,ct,osl,rfl,l,c⟩,k⟩
end
section
variable {X:Cx}
theorem pv (i:Nat) {x:Str} {pos:Pos} (hN:X.N[i]? = some x:=by rfl) (hv:Vis X.env.scope x:=by first | exact Or.inl rfl | exact Or.inr (Or.inl rfl) | exact Or.inr (Or.inr rfl)) (hd:(x == ("__debug__" : Str))=false:=by decide)
  (hcd:(x == ("__classdict__" : Str))=false:=by decide):PE X (.Name x pos) (dJ i):=BB hN hv hd hcd
end
theorem eU {A B:Prop} (h:B):if false=true then A else B:=by
 rw [if_neg Bool.false_ne_true]
 exact h
theorem d6 {A B:Prop} (h:A):if true=true then A else B:=by
 rw [if_pos rfl]
 exact h
end L2
set_option maxHeartbeats 4000000
namespace K1
open PySem
def has (signs x:Str):Bool:=x.cps.toList.all fun c=>decide (c∈signs.cps.toList)
def LET:Str:="abcdefghijklmnopqrstuvwxyz"
def TXT:Str:="abcdefghijklmnopqrstuvwxyz0123456789-"
def single:PyData→Bool
 | .int i=>decide ((if i < 0 then -i else i)≤10 ^ 18)
 | .str x=>decide (x.length≤20) && has TXT x
 | _=>false
def aF:Nat→PyData→Bool
 | 0,.tuple _=>false
 | n + 1,.tuple ds=>decide (ds.length≤8) && ds.all (aF n)
 | _,d=>single d
def aE:Nat→PyData→Int
 | n + 1,.tuple ds=>1 + (ds.map (aE n)).sum
 | _,_=>1
def lsz:Nat→PyData→Int
 | n + 1,.tuple ds=>if ds.length > 8 then 100 else 1 + (ds.map (lsz n)).sum
 | _,d=>if single d=true then 1 else 100
def isName:PyData→Bool
 | .str x=>decide (1≤x.length) && decide (x.length≤8) && has LET x
 | _=>false
def aG (d:PyData):Bool:=aF 4 d && decide (aE 4 d≤40)
theorem rO {α:Type} (f:α→Int) (h:∀ a,1≤f a):∀ l:List α,(l.length:Int)≤(l.map f).sum
 | []=>by simp
 | a::r=>by
  have:=rO f h r
  have:=h a
  simp only [List.map_cons,List.sum_cons,List.length_cons]
  omega
def tdp:Nat→PyData→Bool
 | 0,.tuple _=>false
 | n + 1,.tuple ds=>ds.all (tdp n)
 | _,_=>true
theorem lT:∀ (n:Nat) (d:PyData),aF n d=true→tdp n d=true
 | 0,d,h=>by cases d <;> first | rfl | cases h
 | n + 1,d,h=>by
  cases d with
  | tuple ds=>
   have e:aF (n + 1) (.tuple ds)=(decide (ds.length≤8) && ds.all (aF n)):=rfl
   rw [e,Bool.and_eq_true] at h
   show ds.all (tdp n)=true
   exact List.all_eq_true.mpr fun x hx=>lT n x (List.all_eq_true.mp h.2 x hx)
  | _=>rfl
def iZ (best:Int):List Int→Int
 | []=>best
 | n::r=>iZ (if n > best then n else best) r
def gS (d:Int):List Int→Int
 | []=>d
 | n::r=>iZ n r
def bi:Nat→PyData→Int
 | n + 1,.tuple ds=>1 + gS 0 (ds.map (bi n))
 | _,_=>0
def tM (acc:Int):List Int→Int
 | []=>acc
 | n::r=>tM (if 1 + n > acc then 1 + n else acc) r
def ldp:Nat→PyData→Int
 | n + 1,.tuple ds=>tM 1 (ds.map (ldp n))
 | _,_=>0
end K1
namespace L2
open PySem
def bv (env:Env):List (Str×NameKind)→List (Str×Addr)→List (Str×Addr)
 | [],acc=>acc
 | (n,k)::r,acc=>bv env r (if (k == .free)=true then (n,(env.cells.lookup n).getD 0)::acc else acc)
theorem lS {env:Env}:∀ (l:List (Str×NameKind)) (acc:List (Str×Addr)),(∀ x∈l,x.2=.free→∃ c,env.cells.lookup x.1=some c) →
  (forIn l acc (fun x r=>match x with
   | (name,kind)=>if (kind == NameKind.free)=true then (do
     let c ← cellOf env name
     pure (ForInStep.yield ((name,c)::r))) else pure (ForInStep.yield r)):Sem (List (Str×Addr)))=pure (bv env l acc)
 | [],acc,_=>rfl
 | (n,k)::r,acc,h=>by
  rw [List.forIn_cons]
  have hr:∀ x∈r,x.2=.free→∃ c,env.cells.lookup x.1=some c:=fun x hx=>h x (List.mem_cons_of_mem _ hx)
  cases hk:(k == NameKind.free) with
  | false=>
   have ih:=lS r acc hr
   have e:bv env ((n,k)::r) acc=bv env r acc:=by simp [bv,hk]
   rw [e]
   dsimp only
   rw [if_neg (by rw [hk]; exact Bool.false_ne_true)]
   exact ih
  | true=>
   obtain ⟨c,hc⟩:=h (n,k) List.mem_cons_self (by simpa using hk)
   have ih:=lS r ((n,c)::acc) hr
   have hc':env.cells.lookup n=some c:=hc
   have e:bv env ((n,k)::r) acc=bv env r ((n,c)::acc):=by simp [bv,hk,hc']
   have e2:cellOf env n=pure c:=by unfold cellOf; rw [hc']
   rw [e]
   dsimp only
   rw [if_pos hk,e2]
   exact ih
theorem oy {scope:Scope} {env:Env} (h:∀ x∈scope.names,x.2=.free→∃ c,env.cells.lookup x.1=some c):closureFor scope env=pure (bv env scope.names []):=by
 have q:=lS (env:=env) scope.names [] h
 unfold closureFor
 exact congrArg (fun t=>t >>= fun z=>pure z) q
theorem li {env:Env}:∀ (l:List (Str×NameKind)) (acc:List (Str×Addr)) (x:Str) (c:Addr),(∀ y d,acc.lookup y=some d→env.cells.lookup y=some d) →
  (∀ y∈l,y.2=.free→∃ c,env.cells.lookup y.1=some c)→(bv env l acc).lookup x=some c→env.cells.lookup x=some c
 | [],acc,x,c,ha,_,e=>ha x c e
 | (n,k)::r,acc,x,c,ha,h,e=>by
  have hr:∀ x∈r,x.2=.free→∃ c,env.cells.lookup x.1=some c:=fun x hx=>h x (List.mem_cons_of_mem _ hx)
  refine li r _ x c ?_ hr e
  intro y d q
  cases hk:(k == NameKind.free) with
  | false=>rw [hk,if_neg Bool.false_ne_true] at q; exact ha y d q
  | true=>
   rw [hk,if_pos rfl] at q
   obtain ⟨c',hc⟩:=h (n,k) List.mem_cons_self (by simpa using hk)
   have hc':env.cells.lookup n=some c':=hc
   rw [List.lookup_cons] at q
   by_cases z:y=n
   ·subst z
    simp [hc'] at q
    rw [hc',q]
   ·have z':(y == n)=false:=beq_eq_false_iff_ne.mpr z
    rw [z'] at q
    exact ha y d q
theorem oA {env:Env}:∀ (l:List (Str×NameKind)) (acc:List (Str×Addr)) (x:Str),(acc.lookup x).isSome=true→((bv env l acc).lookup x).isSome=true
 | [],_,_,h=>h
 | (n,k)::r,acc,x,h=>by
  refine oA r _ x ?_
  cases hk:(k == NameKind.free) with
  | false=>rw [if_neg Bool.false_ne_true]; exact h
  | true=>
   rw [if_pos rfl,List.lookup_cons]
   cases z:(x == n) with
   | true=>rfl
   | false=>exact h
theorem lB {env:Env}:∀ (l:List (Str×NameKind)) (acc:List (Str×Addr)) (x:Str),(x,NameKind.free)∈l→((bv env l acc).lookup x).isSome=true
 | [],_,_,h=>absurd h (by simp)
 | (n,k)::r,acc,x,h=>by
  rcases List.mem_cons.mp h with e | e
  ·cases e
   refine oA r _ _ ?_
   rw [if_pos (by decide),List.lookup_cons]
   simp
  ·exact lB r _ x e
open PySem PySem.Spec PyProof.Rows
structure CS (osc:Scope) (N:List Str) (x:Str) (scope:Scope) (N':List Str):Prop where
 kind:scope.kind=.function
 nocell:∀ y∈scope.names,y.2≠.cell
 names:∀ y∈scope.names,y.2=.local→scope.names.lookup y.1=some .local
 hx:scope.names.lookup x=some .local
 only:∀ y∈scope.names,y.2=.local→y.1=x∨y.1 = ".0"
 free:∀ y∈scope.names,y.2=.free→osc.names.lookup y.1=some .cell∨osc.names.lookup y.1=some .free
 nd:(x::N').Nodup
 n0:(".0" : Str)∉N'
 len:N'.length=N.length
 rel:∀ p∈N'.zip N,p.1=p.2∨∀ q∈scope.names,q.1≠p.1
theorem CS.at {osc:Scope} {N N':List Str} {x:Str} {scope:Scope} (S:CS osc N x scope N') {j:Nat} {y:Str} (h:N'[j]? = some y):N[j]? = some y∨∀ q∈scope.names,q.1≠y:=by
 have hl:j < N'.length:=(List.getElem?_eq_some_iff.mp h).1
 have hl2:j < N.length:=by rw [← S.len]; exact hl
 have m:(N'.zip N)[j]? = some (y,N[j]):=by
  rw [List.getElem?_zip_eq_some]
  exact ⟨h,List.getElem?_eq_getElem hl2⟩
 rcases S.rel _ (List.mem_of_getElem? m) with z | z
 ·left
  rw [List.getElem?_eq_getElem hl2]
  exact congrArg some z.symm
 ·exact .inr z
theorem pZ {c:Str×NameKind→Bool}:∀ {names:List (Str×NameKind)} {y:Str} {k':NameKind},
  (names.map fun p=>if (p.2 == NameKind.free && c p)=true then (p.1,NameKind.cell) else (p.1,p.2)).lookup y=some k'→∃ k,(y,k)∈names∧(k'=k∨(k=.free∧k'=.cell))
 | [],_,_,h=>by simp at h
 | (n,k)::r,y,k',h=>by
  rw [List.map_cons] at h
  by_cases hy:y=n
  ·subst hy
   cases hc:(k == NameKind.free && c (y,k)) with
   | false=>
    simp only [hc,Bool.false_eq_true,if_false,List.lookup_cons,beq_self_eq_true] at h
    cases h
    exact ⟨k,List.mem_cons_self,.inl rfl⟩
   | true=>
    simp only [hc,if_true,List.lookup_cons,beq_self_eq_true] at h
    cases h
    have e:k=.free:=by
     have:=(Bool.and_eq_true _ _).mp hc
     simpa using this.1
    exact ⟨k,List.mem_cons_self,.inr ⟨e,rfl⟩⟩
  ·have hb:(y == n)=false:=beq_eq_false_iff_ne.mpr hy
   have h':(r.map fun p=>if (p.2 == NameKind.free && c p)=true then (p.1,NameKind.cell) else (p.1,p.2)).lookup y=some k':=by
    cases hc:(k == NameKind.free && c (n,k)) with
    | false=>simp only [hc,Bool.false_eq_true,if_false,List.lookup_cons,hb] at h; exact h
    | true=>simp only [hc,if_true,List.lookup_cons,hb] at h; exact h
   obtain ⟨k2,m,e⟩:=pZ h'
   exact ⟨k2,List.mem_cons_of_mem _ m,e⟩
theorem gZ {scope:Scope} {env:Env} {y:Str} {k':NameKind} (h:(relabel scope env).names.lookup y=some k'):∃ k,(y,k)∈scope.names∧(k'=k∨(k=.free∧k'=.cell)):=by
 refine pZ (c:=fun p=>env.scope.kind == .function && env.kindOf p.1 == some .cell) ?_
 rw [← h]
 unfold relabel
 congr 1
 refine List.map_congr_left fun p _=>?_
 obtain ⟨n,k⟩:=p
 simp only [Bool.and_assoc]
abbrev cS (X:Cx) (x:Str) (scope:Scope) (C:Addr) (s0:Shared) (H0:Hp) (ex:List Addr) (N':List Str):Cx where
 prog:=X.prog
 w:=X.w
 K:=X.K
 mg:=X.mg
 base:=X.base
 A:=X.A
 N:=x::N'
 s₀:=s0
 H₀:=H0
 env:=compEnvC scope (bv X.env scope.names []) C X.env
 outer:=X.stack
 stack:=X.stack
 ex:=ex
 fn:=fun _=>false
 calm:=X.calm
 pn:=[]
 xe:=fun _ _=>False
section
variable {X:Cx} {pins:List (Addr×Obj)} {σ:St} {H:Hp} {s:Shared} {x:Str} {scope:Scope} {N':List Str}
theorem p5 (I:Inv X pins σ H s) (S:CS X.env.scope X.N x scope N'):∀ y∈scope.names,y.2=.free→∃ c,X.env.cells.lookup y.1=some c:=fun y hy e=>
 I.ok.has y.1 (S.free y hy e)
theorem pz (I:Inv X pins σ H s) (S:CS X.env.scope X.N x scope N') {y:Str} {c:Addr} (e:(bv X.env scope.names []).lookup y=some c):X.env.cells.lookup y=some c:=li scope.names [] y c (fun _ _ z=>by simp at z) (p5 I S) e
theorem qh (I:Inv X pins σ H s) (S:CS X.env.scope X.N x scope N') {y:Str} (e:(y,NameKind.free)∈scope.names):∃ c,(bv X.env scope.names []).lookup y=some c∧X.env.cells.lookup y=some c:=by
 obtain ⟨c,hc⟩:=Option.isSome_iff_exists.mp (lB (env:=X.env) scope.names [] y e)
 exact ⟨c,hc,pz I S hc⟩
theorem xD {fp:List Addr} {h':Heap} {m:Str→Option Value} {tk:Nat} {oD oC:Obj} (I:Inv X pins σ H s) (S:CS X.env.scope X.N x scope N') (hf:∀ b∈fp,cq X pins H b) (ho:∀ b∈fp,∃ o,s.heap.get? b=some o)
  (hns:h'.Ns (s.heap.push oD).objs.size m) (hsb:Heap.SameBut (s.heap.push oD).objs.size ((s.heap.push oD).push oC) h') :
  Inv (cS X x scope (s.heap.push oD).objs.size { s with heap:=s.heap.push oD } H (s.heap.objs.size::fp) N') [] (none::σ) H { s with heap:=h',toks:=tk }:=by
 have I3:Inv X pins σ H { s with heap:=s.heap.push oD,toks:=s.toks }:=I.kept fun b o e=>Heap.get?_push_of_some _ e
 have hC:(s.heap.push oD).objs.size=s.heap.objs.size + 1:=Heap.size_push ..
 have up3:∀ b o,(s.heap.push oD).get? b=some o→h'.get? b=some o:=fun b o e=>
  (hsb.2 b (Nat.ne_of_lt (Heap.lt_size e))).trans (Heap.get?_push_of_some _ e)
 have up:∀ b o,s.heap.get? b=some o→h'.get? b=some o:=fun b o e=>up3 b o (Heap.get?_push_of_some _ e)
 have cl:=fun {y c} e=>pz (y:=y) (c:=c) I S e
 have clt:∀ y c,X.env.cells.lookup y=some c→c < s.heap.objs.size:=fun y c e=>let ⟨v,q⟩:=I.cell y c e; q.lt
 have inner:∀ {y:Str} {k':NameKind},(relabel scope X.env).names.lookup y=some k'→(k'=.cell∨k'=.free)→(y,NameKind.free)∈scope.names:=fun {y k'} e hk=>by
  obtain ⟨k,mem,r⟩:=gZ e
  rcases r with r | ⟨r,_⟩
  ·rcases hk with z | z
   ·exact absurd (r.symm.trans z) (S.nocell _ mem)
   ·rw [← r.symm.trans z]; exact mem
  ·rw [← r]; exact mem
 have ok:(cS X x scope (s.heap.push oD).objs.size { s with heap:=s.heap.push oD } H (s.heap.objs.size::fp) N').Ok:=by
  refine ⟨I.ok.mod,S.kind,I.ok.glob,I.ok.blt,Nat.le_refl _,fun y z c e1 e2=>I.ok.inj y z c (cl e1) (cl e2),fun y hk=>?_,fun y c e=>(nomatch e),I.ok.hd,I.ok.frames,.inl rfl,fun b hb=>?_,fun b o e=>?_,
   Nat.le_trans (Nat.le_trans I.ok.bsz I.sz) (by show s.heap.objs.size≤(s.heap.push oD).objs.size; omega),fun b o e hb=>?_,fun b hb z=>?_,I3.stack,I.stkFree⟩
  ·have mem:(y,NameKind.free)∈scope.names:=by
    rcases hk with z | z
    ·exact inner z (.inl rfl)
    ·exact inner z (.inr rfl)
   obtain ⟨c,hc,_⟩:=qh I S mem
   exact ⟨c,hc⟩
  ·rcases List.mem_cons.mp hb with e | e
   ·subst e
    exact ⟨by show s.heap.objs.size≠(s.heap.push oD).objs.size; omega,fun y c e=>Nat.ne_of_lt (clt y c (cl e))⟩
   ·obtain ⟨o,q⟩:=ho b e
    have q2:=Heap.lt_size q
    exact ⟨by show b≠(s.heap.push oD).objs.size; rw [hC]; exact Nat.ne_of_lt (Nat.lt_succ_of_lt q2),fun y c e'=>(hf b e).2.2.2.2.1 y c (cl e')⟩
  ·exact ⟨Heap.get?_push_of_some _ (I.bs b o e).1,(I.bs b o e).2⟩
  ·rcases List.mem_cons.mp hb with z | z
   ·have q2:=Heap.lt_size (I.bs b o e).1
    rw [z] at q2
    exact Nat.lt_irrefl _ q2
   ·rcases (hf b z).2.2.2.1 with q | q
    ·exact I.ok.noex b o e q
    ·have q2:=Heap.lt_size (I.ok.bs b o e).1
     exact Nat.lt_irrefl _ (Nat.lt_of_lt_of_le q2 q)
  ·have z':=I.stkSub b z
   rcases List.mem_cons.mp hb with e | e
   ·subst e
    rcases List.mem_cons.mp z' with q | q
    ·have q2:=I.lt
     rw [← q] at q2
     exact Nat.lt_irrefl _ q2
    ·exact I.nofs (Nat.le_refl _) q
   ·rcases List.mem_cons.mp z' with q | q
    ·exact (hf b e).2.1 q
    ·exact (hf b e).2.2.1 q
 obtain ⟨mo,hno,hlo⟩:=I.loc
 refine ⟨ok,rfl,I.bare,Un.kept up3,⟨m,hns,fun i y v e1 e2 e3=>?_⟩,fun y c e=>?_,I.hok.fresh (by show s.heap.objs.size≤(s.heap.push oD).objs.size; omega),fun y c e=>I.freeC y c (cl e),fun p hp=>absurd hp (by simp),I.hok.kept up,?_⟩
 ·cases i with
  | zero=>simp at e2
  | succ j=>
   have e1n:N'[j]? = some y:=by simpa using e1
   have vis:∃ k,(y,k)∈scope.names:=by
    rcases (show Vis (relabel scope X.env) y from e3) with z | z | z <;> exact let ⟨k,mem,_⟩:=gZ z; ⟨k,mem⟩
   have e1':X.N[j]? = some y:=by
    rcases S.at e1n with z | z
    ·exact z
    ·obtain ⟨k,mem⟩:=vis
     exact absurd rfl (z _ mem)
   have e2':σ[j]? = some (some v):=by simpa using e2
   have yx:y≠x:=fun z=>by
    have nd:=S.nd
    rw [List.nodup_cons] at nd
    refine nd.1 ?_
    rw [← z]
    exact List.mem_of_getElem? e1n
   have kin:((relabel scope X.env).names.lookup y=some .cell∨(relabel scope X.env).names.lookup y=some .free):=by
    rcases (show Vis (relabel scope X.env) y from e3) with z | z | z
    ·obtain ⟨k,mem,r⟩:=gZ z
     rcases r with r | ⟨_,r⟩
     ·rcases S.only _ mem r.symm with z2 | z2
      ·exact absurd z2 yx
      ·exact absurd (List.mem_of_getElem? e1n) (by rw [show y=(".0" : Str) from z2]; exact S.n0)
     ·cases r
    ·exact .inl z
    ·exact .inr z
   have mem:(y,NameKind.free)∈scope.names:=by
    rcases kin with z | z
    ·exact inner z (.inl rfl)
    ·exact inner z (.inr rfl)
   have vo:Vis X.env.scope y:=by
    rcases S.free _ mem rfl with z | z
    ·exact .inr (.inl z)
    ·exact .inr (.inr z)
   obtain ⟨u,ru,lk⟩:=hlo j y v e1' e2' vo
   refine ⟨u,ru,.inr ⟨kin,?_⟩⟩
   obtain ⟨c,hc,hc'⟩:=qh I S mem
   refine ⟨c,hc,?_⟩
   rcases lk with ⟨z,_⟩ | ⟨_,c2,z2,q⟩
   ·exfalso
    have z':X.env.scope.names.lookup y=some .local:=z
    rcases S.free _ mem rfl with r | r <;> (rw [z'] at r; cases r)
   ·rw [hc'] at z2
    cases z2
    obtain ⟨o,q1,q2⟩:=q
    exact ⟨o,up _ _ q1,q2⟩
 ·obtain ⟨v,o,q1,q2⟩:=I.cell y c (cl e)
  exact ⟨v,o,up _ _ q1,q2⟩
 ·have:=I.len
  simp [this,S.len]
theorem xB {fp:List Addr} {σ':St} {pins':List (Addr×Obj)} {H1:Hp} {s1:Shared} {h':Heap} {C:Addr} {oD:Obj} {ys:List V} (I:Inv X pins σ H s) (hf:∀ b∈fp,cq X pins H b)
  (hCd:C=(s.heap.push oD).objs.size) (J:Inv (cS X x scope C { s with heap:=s.heap.push oD } H (s.heap.objs.size::fp) N') pins' σ' H1 s1) (hsb:Heap.SameBut C s1.heap h') (hD0:H1 s.heap.objs.size=none)
  (new:∃ its n,Vals ys its∧s1.heap.get? s.heap.objs.size=some { cls:=.type "list",data:=.seq its.toArray n }) (hz:ys.length≤sizeLine) :
  Inv X pins σ (upd H1 s.heap.objs.size (.lst ys)) { s1 with heap:=h' }:=by
 have hC:C=s.heap.objs.size + 1:=by rw [hCd]; exact Heap.size_push ..
 have nD:∀ b o,s.heap.get? b=some o→b≠s.heap.objs.size:=fun b o e=>Nat.ne_of_lt (Heap.lt_size e)
 have nC:∀ b o,s.heap.get? b=some o→b≠C:=fun b o e=>by rw [hC]; exact Nat.ne_of_lt (Nat.lt_succ_of_lt (Heap.lt_size e))
 have up:∀ b o,s.heap.get? b=some o→(s.heap.push oD).get? b=some o:=fun b o e=>Heap.get?_push_of_some _ e
 have nx:∀ b,b∉fp→b≠s.heap.objs.size→b∉s.heap.objs.size::fp:=fun b h1 h2 z=>(List.mem_cons.mp z).elim h2 h1
 have hDC:s.heap.objs.size≠C:=by rw [hC]; exact Nat.ne_of_lt (Nat.lt_succ_self _)
 have tr:∀ b u,H1 b=some u→b≠s.heap.objs.size:=fun b u e z=>by rw [z,hD0] at e; cases e
 have trC:∀ b u,H1 b=some u→b≠C:=fun b u e z=>by
  have:=J.free
  rw [z] at e
  have q:H1 C=none:=J.free
  rw [q] at e; cases e
 obtain ⟨its,n,rv,eD⟩:=new
 have B:Un (frs X.stack) (s.heap.objs.size::fp) H H1 (s.heap.push oD) s1.heap:=J.base
 refine I.call' (s':={ s1 with heap:=h' }) (ch:=fp) J.os ⟨fun b o e q h1 h2=>?_,fun b o e q h1 h2=>?_,fun b o e q h2=>?_,fun b o e h2=>?_,fun b xs e=>?_,fun b o u e=>?_,fun b ps e=>?_⟩ (fun b u e=>?_) J.bare fun b hb=>?_
 ·exact (hsb.2 b (nC b o e)).trans (B.keep b o (up b o e) q h1 (nx b h2 (nD b o e)))
 ·obtain ⟨sl,z⟩:=B.slot b o (up b o e) q h1 (nx b h2 (nD b o e))
  exact ⟨sl,(hsb.2 b (nC b o e)).trans z⟩
 ·rw [aR (nD b o e)]
  exact B.free b o (up b o e) q (nx b h2 (nD b o e))
 ·obtain ⟨o',z⟩:=B.there b o (up b o e) (nx b h2 (nD b o e))
  exact ⟨o',(hsb.2 b (nC b o e)).trans z⟩
 ·have z:=B.tups b xs e
  rw [aR (tr b _ z)]; exact z
 ·have z:=B.frzs b o u e
  rw [aR (tr b _ z)]; exact z
 ·obtain ⟨more,z⟩:=B.tbls b ps e
  exact ⟨more,by rw [aR (tr b _ z)]; exact z⟩
 ·by_cases hb:b=s.heap.objs.size
  ·subst hb
   rw [bh] at e
   cases e
   exact ⟨hz,its,n,rv,(hsb.2 _ hDC).trans eD⟩
  ·rw [aR hb] at e
   refine (J.hok b u e).stay (fun c v hc q=>(hsb.2 c ?_).trans q) (fun c q=>by rw [aR (tr c _ q)]; exact q) fun c xs q=>by rw [aR (tr c _ q)]; exact q
   rcases hc with z | z
   ·rw [z]; exact trC b u e
   ·exact trC c _ z
 ·obtain ⟨_,f1,_,f3,f4,f5⟩:=hf b hb
  exact ⟨f3,f1,f4,f5⟩
end
def PTs (X:Cx) (ifs:List Expr) (t:TT):Prop:=
 ∀ (pins:List (Addr×Obj)) (s:Shared) (σ:St) (H:Hp) (Q:Bool→Hp→Prop) (E:Value→Shared→Prop),Inv X pins σ H s→t σ H Q →
  wpAny (model X.prog X.w) X.A (forIn ifs true fun c r=>if r=true then do
   let ok ← isTrue c X.env (eval c X.env)
   pure (ForInStep.yield ok) else pure (ForInStep.yield r)) (TP X pins σ Q) E s
theorem Af {X:Cx}:PTs X [] (fun _ H Q=>Q true H):=fun _ _ _ H _ _ I h=>wpAny_tests_nil ⟨H,I,h⟩
theorem Ae {X:Cx} {c:Expr} {t:TT} (hx:X.xe=fun _ _=>False) (h:PT X c t):PTs X [c] t:=fun pins s σ H Q _ I q=>
 wpAny_tests_one (wpAny_mono (h pins s σ H Q I q) (fun _ _ z=>z) fun e s' z=>by rw [hx] at z; exact z.elim)
def nv (σ:St) (J:It) (tt:TT) (te:TE) (W:Nat→Nat→List V→Hp→Prop) (D:List V→Hp→Prop):Prop:=∀ i m ys H,W i m ys H →
 (J.stop i H∧ys.length≤sizeLine∧D ys H)∨(J.go i H∧ys.length < sizeLine∧∃ N:List V→Hp→Prop,(∀ ys' H',N ys' H'→∃ m',m' < m∧W (i + 1) m' ys' H')∧∀ v H',J.yld i H v H'→tt (some v::σ) H' fun b H2=>
  if b=true then te (some v::σ) H2 fun y H3=>N (ys++[y]) H3 else N ys H2)
section
variable {X:Cx} {pins:List (Addr×Obj)} {σ:St} {H:Hp} {s:Shared} {x:Str} {scope:Scope} {N':List Str}
theorem yG {fp:List Addr} {it C:Addr} {tn:Nat→Heap→Prop} {J:It} {oD:Obj} {elt iter:Expr} {ifs:List Expr} {px pos:Pos} {te:TE} {tt:TT} {W:Nat→Nat→List V→Hp→Prop} {Dn:List V→Hp→Prop}
  {R:Result→Shared→Prop} {σ':St} {s4:Shared} {m0:Nat} (hcalm:X.calm=true) (S:CS X.env.scope X.N x scope N') (hf:∀ b∈fp,cq X pins H b) (ho:∀ b∈fp,∃ o,s.heap.get? b=some o) (hCd:C=(s.heap.push oD).objs.size)
  (T:Turn X.prog X.w X.K (.Name x px) J fp it tn) (I4:Inv (cS X x scope C { s with heap:=s.heap.push oD } H (s.heap.objs.size::fp) N') [] (none::σ) H s4) (st4:tn 0 s4.heap) (hD4:s4.heap.get? s.heap.objs.size=some { cls:=.type "list",data:=.seq #[] 0 })
  (hDn:H s.heap.objs.size=none) (hte:PE (cS X x scope C { s with heap:=s.heap.push oD } H (s.heap.objs.size::fp) N') elt te) (htt:PTs (cS X x scope C { s with heap:=s.heap.push oD } H (s.heap.objs.size::fp) N') ifs tt)
  (w0:W 0 m0 [] H) (turn:nv σ J tt te W Dn)
  (hR:∀ s1 H1 σ1 ys its n,Inv (cS X x scope C { s with heap:=s.heap.push oD } H (s.heap.objs.size::fp) N') [] σ1 H1 s1→H1 s.heap.objs.size=none→Vals ys its→s1.heap.get? s.heap.objs.size=some { cls:=.type "list",data:=.seq its.toArray n }→ys.length≤sizeLine→Dn ys H1→R (.ok .next) s1) :
  codeAny (model X.prog X.w) X.A (.compLoop (.ListComp elt [⟨.Name x px,iter,ifs,0⟩] scope pos) 0 (.ref it) (.ref s.heap.objs.size) (compEnvC scope (bv X.env scope.names []) C X.env)) R s4:=by
 have hC:C=s.heap.objs.size + 1:=by rw [hCd]; exact Heap.size_push ..
 generalize hX:cS X x scope C { s with heap:=s.heap.push oD } H (s.heap.objs.size::fp) N'=X' at *
 have xP:X'.prog=X.prog:=by rw [← hX]
 have xW:X'.w=X.w:=by rw [← hX]
 have xK:X'.K=X.K:=by rw [← hX]
 have xA:X'.A=X.A:=by rw [← hX]
 have xE:X'.env=compEnvC scope (bv X.env scope.names []) C X.env:=by rw [← hX]
 have xC:X'.calm=true:=by rw [← hX]; exact hcalm
 have xex:X'.ex=s.heap.objs.size::fp:=by rw [← hX]
 have xpn:X'.pn=[]:=by rw [← hX]
 have xxe:X'.xe=fun _ _=>False:=by rw [← hX]
 have xN:X'.N=x::N':=by rw [← hX]
 have xL:X'.env.locals=C:=by rw [xE]; rfl
 have xloc:X'.env.scope.names.lookup x=some .local:=by rw [xE]; exact lookup_relabel_local S.hx
 have lt:∀ b∈fp,b < s.heap.objs.size:=fun b hb=>let ⟨_,e⟩:=ho b hb; Heap.lt_size e
 have fpk:∀ {pl:List (Addr×Obj)} {H':Hp},(∀ p∈pl,p.1=s.heap.objs.size)→(∀ b∈fp,H' b=none)→∀ b∈fp,cq X' pl H' b:=fun {pl H'} hp hn b hb=>by
  have okk:=I4.ok
  have hm:b∈X'.ex:=by rw [xex]; exact List.mem_cons_of_mem _ hb
  refine ⟨hn b hb,(okk.exf b hm).1,okk.exfs b hm,.inl hm,(okk.exf b hm).2,fun p hpl z=>?_⟩
  rw [xpn] at hpl
  have q1:=hp p (by simpa using hpl)
  have q2:=lt b hb
  rw [← z,q1] at q2
  exact Nat.lt_irrefl _ q2
 have dok:∀ {pl:List (Addr×Obj)} {H':Hp},(∀ p∈pl,p.1∈fp)→H' s.heap.objs.size=none→cq X' pl H' s.heap.objs.size:=fun {pl H'} hp hn=>by
  have okk:=I4.ok
  have hm:s.heap.objs.size∈X'.ex:=by rw [xex]; exact List.mem_cons_self
  refine ⟨hn,(okk.exf _ hm).1,okk.exfs _ hm,.inl hm,(okk.exf _ hm).2,fun p hpl z=>?_⟩
  rw [xpn] at hpl
  have q2:=lt p.1 (hp p (by simpa using hpl))
  rw [z] at q2
  exact Nat.lt_irrefl _ q2
 refine codeAny_compLoop_tests (I:=fun m s'=>∃ i σx H' ys its n,Inv X' [] (σx::σ) H' s'∧tn i s'.heap∧(∀ b∈fp,H' b=none)∧H' s.heap.objs.size=none∧Vals ys its∧s'.heap.get? s.heap.objs.size=some { cls:=.type "list",data:=.seq its.toArray n }∧W i m ys H') ?_ m0
  ⟨0,none,H,[],[],0,I4,st4,fun b hb=>(hf b hb).1,hDn,.nil,hD4,w0⟩
 rintro m s5 ⟨i,σx,H5,ys,its,n,I5,st5,fr5,d5,rv,e5,w5⟩
 have I5d:Inv X' ([]++dG [s.heap.objs.size] s5.heap) (σx::σ) H5 s5:=I5.pinned (fun b hb=>by
   have e:b=s.heap.objs.size:=by simpa using hb
   rw [e]; exact dok (fun p hp=>absurd hp (by simp)) d5) fun b hb=>by
   have e:b=s.heap.objs.size:=by simpa using hb
   rw [e]; exact ⟨_,e5,fun v z=>by cases z⟩
 have pD:([]++dG [s.heap.objs.size] s5.heap:List (Addr×Obj))=[(s.heap.objs.size,{ cls:=.type "list",data:=.seq its.toArray n })]:=by
  simp [dG,e5]
 rw [pD] at I5d
 have p1:∀ p∈[(s.heap.objs.size,({ cls:=.type "list",data:=.seq its.toArray n }:Obj))],p.1=s.heap.objs.size:=fun p hp=>by
  have e:p=(s.heap.objs.size,{ cls:=.type "list",data:=.seq its.toArray n }):=by simpa using hp
  rw [e]
 have hsz:its.length=ys.length:=rv.length.symm
 rcases turn i m ys H5 w5 with ⟨stop,hz,dn⟩ | ⟨go,hz,N,hN,step⟩
 ·have q:=T.done X' xP xW xK xC i _ s5 (σx::σ) H5 (notedBy (model X.prog X.w) X.A (compEnvC scope (bv X.env scope.names []) C X.env) fun e s'=>R (.error e) s') I5d (fpk p1 fr5) st5 stop
  rw [xA] at q
  refine wpAny_mono q (fun r s6 z=>?_) fun _ _ z=>z
  obtain ⟨rfl,I6⟩:=z
  refine hR s6 H5 (σx::σ) ys its n ?_ d5 rv (I6.pin _ (List.mem_append_right _ (List.mem_singleton.mpr rfl))).1 hz dn
  exact I6.pins_of fun p hp=>absurd hp (by simp)
 ·have q:=T.item X' xP xW xK xC i _ s5 (σx::σ) H5 (notedBy (model X.prog X.w) X.A (compEnvC scope (bv X.env scope.names []) C X.env) fun e s'=>R (.error e) s') I5d (fpk p1 fr5) st5 go
  rw [xA] at q
  refine wpAny_mono q (fun r s6 z=>?_) fun _ _ z=>z
  obtain ⟨u,rfl,z⟩:=z
  dsimp only
  have z':wpAny (model X.prog X.w) X.A (pure ()) _ _ s6:=z
  refine wpAny_bind (m:=pure ()) (f:=fun _=>assign (.Name x px) (compEnvC scope (bv X.env scope.names []) C X.env) u) (wpAny_mono z' (fun _ s7 z=>?_) fun _ _ z=>z)
  obtain ⟨v,H7,I7,rv7,y7,st7,fr7⟩:=z
  have I7p:=I7.pinned (fpk p1 fr7) (T.obj _ _ st7)
  rw [← xE]
  have nd:X'.N.Nodup:=by rw [xN]; exact S.nd
  have hi0:X'.N[0]? = some x:=by rw [xN]; rfl
  refine wpAny_assign_Name (jL (E:=notedBy (model X.prog X.w) X.A X'.env fun e s'=>R (.error e) s') (i:=0) I7p nd hi0 (.inl xloc) rv7 (fun s8 I8=>?_) (.inr xloc))
  have I8':Inv X' _ (some v::σ) H7 s8:=I8
  have t8:=htt _ s8 (some v::σ) H7 _ (notedBy (model X.prog X.w) X.A X'.env fun e s'=>R (.error e) s') I8' (step v H7 y7)
  rw [xP,xW,xA] at t8
  refine wpAny_mono t8 (fun ok s9 z=>?_) fun _ _ z=>z
  obtain ⟨H9,I9,q9⟩:=z
  have back:∀ {s':Shared} {H':Hp} {σ2:St},Inv X' ([(s.heap.objs.size,({ cls:=.type "list",data:=.seq its.toArray n }:Obj))]++dG fp s7.heap) σ2 H' s' →
    tn (i + 1) s'.heap∧(∀ b∈fp,H' b=none)∧H' s.heap.objs.size=none∧s'.heap.get? s.heap.objs.size=some { cls:=.type "list",data:=.seq its.toArray n }∧Inv X' [] σ2 H' s':=fun {s' H' σ2} I'=>by
   refine ⟨T.keep _ _ _ st7 fun b hb o e=>(I'.pin (b,o) (List.mem_append_right _ (List.mem_append_right _ (g9 hb e)))).1,fun b hb=>?_,?_,?_,I'.pins_of fun p hp=>absurd hp (by simp)⟩
   ·obtain ⟨o,e,_⟩:=T.obj _ _ st7 b hb
    exact (I'.pin (b,o) (List.mem_append_right _ (List.mem_append_right _ (g9 hb e)))).2.1
   ·exact (I'.pin (s.heap.objs.size,_) (List.mem_append_right _ (List.mem_append_left _ (List.mem_singleton.mpr rfl)))).2.1
   ·exact (I'.pin (s.heap.objs.size,_) (List.mem_append_right _ (List.mem_append_left _ (List.mem_singleton.mpr rfl)))).1
  cases ok with
  | false=>
   simp only [Bool.false_eq_true,if_false] at q9 ⊢
   obtain ⟨m',hm,w9⟩:=hN _ _ q9
   obtain ⟨a1,a2,a3,a4,a5⟩:=back I9
   exact ⟨m',hm,i + 1,some v,H9,ys,its,n,a5,a1,a2,a3,rv,a4,w9⟩
  | true=>
   simp only [if_true] at q9 ⊢
   have t9:=hte _ s9 (some v::σ) H9 _ I9 q9
   rw [xP,xW,xA,xxe] at t9
   refine wpAny_mono t9 (fun u2 s10 z=>?_) fun _ _ z=>z.elim
   obtain ⟨y,H10,I10,r10,q10⟩:=z
   obtain ⟨m',hm,w10⟩:=hN _ _ q10
   obtain ⟨a1,a2,a3,a4,a5⟩:=back I10
   refine wpAny_list_append_plain ⟨n,a4⟩ (fun h' pl sb=>?_) (by rw [List.size_toArray]; omega)
   obtain ⟨n',e'⟩:=pl
   have D0:=dok (pl:=[]) (fun p hp=>absurd hp (by simp)) a3
   refine ⟨m',hm,i + 1,some v,H10,ys++[y],its++[u2],n',a5.turned (t':=s10.toks) (fun b o hb e=>(sb.2 b hb).trans e) D0.1 D0.2.1 D0.2.2.2.1 D0.2.2.2.2.1 D0.2.2.2.2.2,?_,a2,a3,rv.append (.cons r10 .nil),by simpa using e',w10⟩
   exact T.keep _ _ _ a1 fun b hb o e=>(sb.2 b (Nat.ne_of_lt (lt b hb))).trans e
end
section
variable {X:Cx} {x:Str} {scope:Scope} {N':List Str} {elt iter:Expr} {ifs:List Expr} {px pos:Pos} {wi:TI} {te:TE} {tt:TT}
def tm (wi:TI) (tt:TT) (te:TE):TE:=fun σ H Q=>wi σ H fun J H1=>∃ W:Nat→Nat→List V→Hp→Prop,(∃ m,W 0 m [] H1)∧nv σ J tt te W fun ys H=>∀ p,H p=none→Q (.ref p) (upd H p (.lst ys))
theorem Am (hc:X.calm=true) (S:CS X.env.scope X.N x scope N') (hi:PI X (.Name x px) iter wi) (he:∀ C s0 H0 ex,PE (cS X x scope C s0 H0 ex N') elt te)
  (ht:∀ C s0 H0 ex,PTs (cS X x scope C s0 H0 ex N') ifs tt) (hs:∀ v,foldedSetIterable iter X.env v=pure v:=by intro _; rfl):PE X (.ListComp elt [⟨.Name x px,iter,ifs,0⟩] scope pos) (tm wi tt te):=by
 intro pins s σ H Q I h
 rw [eval_ListComp]
 refine wpAny_comprehension_free (use:=none) rfl hs (oy (p5 I S)) S.kind S.names (thn (hi pins s σ H _ I h) fun v s1 h1=>thn h1 fun itv s2 h2=>?_)
 obtain ⟨it,fp,tn,J,H2,rfl,I2,T,st2,f2,W,⟨m0,w0⟩,turn⟩:=h2
 have ho:∀ b∈fp,∃ o,s2.heap.get? b=some o:=fun b hb=>let ⟨o,e,_⟩:=T.obj _ _ st2 b hb; ⟨o,e⟩
 refine wpAny_newObj_type (wpAny_newFunctionEnv S.nocell (by intro y hy; simp at hy) (fun h' hns hsb=>?_) S.kind)
 have I4:=xD (x:=x) (scope:=scope) (tk:=s2.toks + ([]:List (Str×Value)).length) I2 S f2 ho hns hsb
 have up3:∀ b o,(s2.heap.push { cls:=.type "list",dict:=none,data:=.seq ([]:List Value).toArray }).get? b=some o→h'.get? b=some o:=fun b o e=>
  (hsb.2 b (Nat.ne_of_lt (Heap.lt_size e))).trans (Heap.get?_push_of_some _ e)
 have st4:tn 0 h':=T.keep _ _ _ st2 fun b _ o e=>up3 b o (Heap.get?_push_of_some _ e)
 have loop:=yG (elt:=elt) (iter:=iter) (ifs:=ifs) (pos:=pos) (R:=compPost (model X.prog X.w) X.A X.xe none (EP X pins σ Q) (.ref s2.heap.objs.size) (s2.heap.push { cls:=.type "list",dict:=none,data:=.seq ([]:List Value).toArray }).objs.size) (σ':=σ)
  hc S f2 ho rfl T I4 st4 (up3 _ _ (Heap.get?_push_size _ rfl)) (I2.hok.fresh (Nat.le_refl _)) (he _ _ _ _) (ht _ _ _ _) w0 turn fun s5 H5 σ5 ys its n J5 d5 rv e5 hz dn=>by
   obtain ⟨m,hn,_⟩:=J5.loc
   exact ⟨m,hn,fun h'' sb=>⟨.ref s2.heap.objs.size,_,xB I2 f2 rfl J5 sb d5 ⟨its,n,rv,e5⟩ hz,rfl,dn _ d5⟩⟩
 exact codeAny_compStart_list loop (T.self X.A 0 _ _ _ st4 loop)
end
section
variable {σ:St} {tt:TT} {te:TE}
end
def Its (z:Str):It:=⟨fun i _=>i < z.cps.size,fun i H v H'=>H'=H∧∃ c,z.cps[i]? = some c∧v=.str ⟨#[c]⟩,fun i _=>z.cps.size≤i⟩
theorem pJ {P:Program} {w:World} {K:Frag} {tg:Expr} (z:Str) (t:Tok) (ty:String) (it:Addr) (hty:ty = "str_ascii_iterator"∨ty = "str_iterator") :
  Turn P w K tg (Its z) [it] it (fun i h=>h.IsStrIter it ty z t i) where
 mem:=by simp
 obj:=fun i h st b hb=>by
  have e:b=it:=by simpa using hb
  subst e
  obtain ⟨o,e,c,d⟩:=st
  exact ⟨o,e,fun v q=>by rw [d] at q; cases q⟩
 keep:=fun i h h' st k=>let ⟨o,e,r⟩:=st; ⟨o,k it (by simp) o e,r⟩
 item:=by
  intro X hP hw hK hc i pins s σ H E I hf st hg
  subst hP hw hK
  have hi:i < z.cps.size:=hg
  obtain ⟨f0,f1,f2,f3,f4,f5⟩:=hf it (by simp)
  have fin:∀ h',h'.IsStrIter it ty z t (i + 1)→Heap.SameBut it s.heap h'→∃ u,(some (Value.str ⟨#[z.cps[i]]⟩ s.toks):Option Value)=some u ∧
    wpAny (model X.prog X.w) X.A (letOwnedTupleGo tg (.ref it) u) (fun _ s2=>∃ x H',Inv X pins σ H' s2∧RelV x u∧(Its z).yld i H x H'∧s2.heap.IsStrIter it ty z t (i + 1)∧∀ b∈[it],H' b=none) E { s with heap:=h',toks:=s.toks + 1 }:=fun h' st' sb=>by
   have I1:Inv X pins σ H { s with heap:=h',toks:=s.toks + 1 }:=I.turned (fun b o hb e=>(sb.2 b hb).trans e) f0 f1 f3 f4 f5
   obtain ⟨o,e,c,d⟩:=id st'
   refine ⟨_,rfl,jj (s:={ s with heap:=h',toks:=s.toks + 1 }) (n:=ty) e c d ?_ ⟨.str ⟨#[z.cps[i]]⟩,H,I1,⟨_,rfl⟩,⟨rfl,z.cps[i],by simp [hi],rfl⟩,st',fun b hb=>(hf b hb).1⟩⟩
   rcases hty with e | e <;> (rw [e]; decide)
  rcases hty with e | e
  ·subst e
   exact wpAny_pyNext_ascii_item st (c:=z.cps[i]) (by simp [hi]) fin
  ·subst e
   exact wpAny_pyNext_wide_item st (c:=z.cps[i]) (by simp [hi]) fin
 done:=by
  intro X hP hw hK hc i pins s σ H E I hf st hg
  subst hP hw hK
  have hi:z.cps.size≤i:=hg
  obtain ⟨f0,f1,f2,f3,f4,f5⟩:=hf it (by simp)
  have fin:∀ h',Heap.ExtBut it s.heap h'→(none:Option Value)=none∧Inv X pins σ H { s with heap:=h' }:=fun h' eb=>⟨rfl,I.turned (t':=s.toks) (fun b o hb e=>eb b o hb e) f0 f1 f3 f4 f5⟩
  rcases hty with e | e
  ·subst e
   exact wpAny_pyNext_ascii_end (I.ok.hd hc) st (by simp; omega) fin
  ·subst e
   exact wpAny_pyNext_wide_end (I.ok.hd hc) st (by simp; omega) fin
 self:=fun _ _ _ _ _ st h=>by
  rcases hty with e | e
  ·subst e
   exact wpAny_pyIter_striter_ascii st h
  ·subst e
   exact wpAny_pyIter_striter_wide st h
section
variable {X:Cx} {tg:Expr}
end
theorem all_range (bs:List Bool) (n:Nat) (hn:n=bs.length):(List.range n).all (fun i=>bs.getD i false)=bs.all id:=by
 subst hn
 rw [Bool.eq_iff_iff,List.all_eq_true,List.all_eq_true]
 constructor
 ·intro h b hb
  obtain ⟨i,hi,rfl⟩:=List.getElem_of_mem hb
  have:=h i (List.mem_range.mpr hi)
  simpa [List.getD,hi] using this
 ·intro h i hi
  have hi':=List.mem_range.mp hi
  have:=h bs[i] (List.getElem_mem hi')
  simpa [List.getD,hi'] using this
theorem om:∀ (ns:List Int) (k:Nat),k≤ns.length→preSum (fun i=>ns.getD i 0) k=(ns.take k).sum
 | ns,0,_=>by simp [preSum]
 | ns,k + 1,h=>by
  have hk:k < ns.length:=h
  have ih:=om ns k (Nat.le_of_lt hk)
  have e:(ns.take (k + 1)).sum=(ns.take k).sum + ns.getD k 0:=by
   rw [List.take_add_one,List.sum_append]
   simp [List.getD,hk]
  rw [e,← ih]
  rfl
section
variable {X:Cx}
theorem zP (hc:X.calm=true):CallR X (.builtin "all") (fun xs H Q=>∃ (p:Addr) (bs:List Bool),xs=[.ref p]∧SqL X.K H p (bs.map V.bl)∧Q (.bl (bs.all id)) H):=by
 intro pins s σ H xs us Q I r h
 obtain ⟨p,bs,rfl,hq,q⟩:=h
 obtain ⟨u,rfl,ru⟩:=vals1 r
 cases ru
 obtain ⟨its,rv,pl,hz⟩:=I.list hq
 have hlen:its.length=bs.length:=by have:=rv.length; simpa using this.symm
 have hlt:p < s.heap.objs.size:=by
  obtain ⟨o,n,e,_⟩:=pl
  exact Heap.lt_size e
 refine call_all_walk (wpAny_pyIter_list pl.isList ?_)
 refine ⟨s.heap.objs.size,_,_,_,_,_,fun i=>bs.getD i false,rfl,Walks.list (A:=X.A.in1) (I.ok.hd hc) _ p (Nat.ne_of_lt hlt) its.toArray,⟨⟨_,Heap.get?_push_size _ rfl,rfl,rfl⟩,?_⟩,fun i v s' Q' E' hv hQ'=>?_,fun h' tk hk=>?_⟩
 ·obtain ⟨o,n,e,r⟩:=pl.isList
  exact ⟨o,Heap.get?_push_of_some _ n,e,r⟩
 ·have hi:i < its.length:=by
   have:=(Array.getElem?_eq_some_iff.mp hv).1
   simpa using this
  have hi2:i < bs.length:=by omega
  obtain ⟨u,hu,ru⟩:=rv.get (i:=i) (x:=.bl bs[i]) (by simp [hi2])
  have e:v=u:=by
   have hv':its[i]? = some v:=by simpa using hv
   rw [hu] at hv'
   exact (Option.some.inj hv').symm
  subst e
  cases (show v=Value.bool bs[i] from ru)
  refine wpAny_truthy_bool ?_
  have e:bs[i]=bs.getD i false:=by simp [List.getD,hi2]
  rw [e]
  exact hQ'
 ·have e:(List.range its.toArray.size).all (fun i=>bs.getD i false)=bs.all id:=all_range bs _ (by simpa using hlen)
  rw [e]
  exact ⟨.bl _,H,I.kept (t':=tk) fun b o q=>hk b o (by simp; exact Nat.ne_of_lt (Heap.lt_size q)) (Heap.get?_push_of_some _ q),rfl,q⟩
theorem AC {ns:List Int} {its:List Value} (rv:Vals (ns.map V.int) its) {i:Nat} {v:Value} (hv:its.toArray[i]? = some v):∃ t,v=.int (ns.getD i 0) t:=by
 have hlen:its.length=ns.length:=by have:=rv.length; simpa using this.symm
 have hi:i < its.length:=by
  have:=(Array.getElem?_eq_some_iff.mp hv).1
  simpa using this
 have hi2:i < ns.length:=by omega
 obtain ⟨u,hu,ru⟩:=rv.get (i:=i) (x:=.int ns[i]) (by simp [hi2])
 have e:v=u:=by
  have hv':its[i]? = some v:=by simpa using hv
  rw [hu] at hv'
  exact (Option.some.inj hv').symm
 subst e
 obtain ⟨t,e⟩:=(show ∃ t,v=Value.int ns[i] t from ru)
 refine ⟨t,?_⟩
 rw [e]
 simp [List.getD,hi2]
theorem zN (hc:X.calm=true):CallR X (.builtin "sum") (fun xs H Q=>∃ (p:Addr) (ns:List Int),xs=[.ref p]∧SqL X.K H p (ns.map V.int)∧Q (.int ns.sum) H):=by
 intro pins s σ H xs us Q I r h
 obtain ⟨p,ns,rfl,hq,q⟩:=h
 obtain ⟨u,rfl,ru⟩:=vals1 r
 cases ru
 obtain ⟨its,rv,pl,hz⟩:=I.list hq
 have hlen:its.length=ns.length:=by have:=rv.length; simpa using this.symm
 have hlt:p < s.heap.objs.size:=by
  obtain ⟨o,n,e,_⟩:=pl
  exact Heap.lt_size e
 refine call_sum_walkG (wpAny_pyIter_list pl.isList ?_)
 refine ⟨s.heap.objs.size,_,_,_,_,_,fun i=>ns.getD i 0,rfl,Walks.list (A:=X.A.in1) (I.ok.hd hc) _ p (Nat.ne_of_lt hlt) its.toArray,⟨⟨_,Heap.get?_push_size _ rfl,rfl,rfl⟩,?_⟩,fun b hb=>?_,fun i v hv=>AC rv hv,fun h' tk t' hk=>?_⟩
 ·obtain ⟨o,n,e,r⟩:=pl.isList
  exact ⟨o,Heap.get?_push_of_some _ n,e,r⟩
 ·rw [Heap.size_push]
  rcases (by simpa using hb:b=s.heap.objs.size∨b=p) with e | e
  ·rw [e]; exact Nat.lt_succ_self _
  ·rw [e]; exact Nat.lt_succ_of_lt hlt
 ·have e:preSum (fun i=>ns.getD i 0) its.toArray.size=ns.sum:=by
   rw [om ns _ (by simp; omega)]
   rw [List.take_of_length_le (by simp; omega)]
  rw [e]
  exact ⟨.int _,H,I.kept (t':=tk) fun b o q=>hk b o (by simp; exact Nat.ne_of_lt (Heap.lt_size q)) (Heap.get?_push_of_some _ q),⟨t',rfl⟩,q⟩
end
open K1 (iZ gS)
section
variable {prog:Program} {w:World} {A:Around} {R:Result→Shared→Prop} {it S:Addr} {fp wr:List Addr} {P:Nat→Value→Prop} {St:Nat→Heap→Prop} {ns:List Int} {kw:List (Str×Value)}
end
section
variable {X:Cx}
end
section
variable {X:Cx} {e ed:Expr} {te td:TE} {p pos kpos:Pos}
end
section
variable {X:Cx}
theorem op_catG:OpR X (binaryOp .Add) (fun x y H Q=>∃ a b xs ys,x=.ref a∧y=.ref b∧SqT X.K H a xs∧SqT X.K H b ys∧xs.length + ys.length≤sizeLine ∧
  (xs=[]→Q (.ref b) H)∧(xs≠[]→ys=[]→Q (.ref a) H)∧(xs≠[]→ys≠[]→∀ p,H p=none→Q (.ref p) (upd H p (.tup (xs++ys))))):=by
 intro pins s σ H x y v u Q I rx ry h
 obtain ⟨a,b,xs,ys,rfl,rfl,ha,hb,hz,q0,q1,q2⟩:=h
 by_cases hx:xs=[]
 ·cases rx
  cases ry
  obtain ⟨its,r1,p1,_⟩:=I.tuple ha
  obtain ⟨its2,r2,p2,_⟩:=I.tuple hb
  have hv:its=[]:=r1.nil_iff.mpr hx
  obtain ⟨⟨cls,dd,data,sl⟩,ho,hc,n,hd⟩:=id p1
  obtain ⟨⟨cls2,dd2,data2,sl2⟩,ho2,hc2,n2,hd2⟩:=id p2
  simp only at hc hd hc2 hd2
  subst hc hd hc2 hd2
  exact concat_meets ⟨_,ho,rfl⟩ ⟨_,ho2,rfl⟩ noFill_tuple_add seq_tuple_add PySem.F.slot_tuple_add PySem.F.entry_tuple_add (PySem.F.args_tuple_add_2 _ _)
   (tuple_addW0 a b its.toArray its2.toArray n n2 dd dd2 sl sl2 (by simp [hv])) ⟨ho,ho2,⟨.ref b,H,I,rfl,q0 hx⟩⟩
 ·exact As pins s σ H _ _ v u Q I rx ry ⟨a,b,xs,ys,rfl,rfl,ha,hb,hx,hz,q1 hx,q2 hx⟩
theorem Bp:SlR X (fun x lo hi H Q=>∃ z:Str,x=.str z∧z.length≤sizeLine∧Q (.str (Txt.slice z lo hi)) H):=by
 intro pins s σ H x v vl vu lo hi sl Q I rx hs pl pu h
 obtain ⟨z,rfl,hz,q⟩:=h
 obtain ⟨t,rfl⟩:=rx
 have fin:∀ l u:Option (Int×Tok),l.map (·.1)=lo→u.map (·.1)=hi→s.heap.IsSlice sl l u none→wpAny (model X.prog X.w) X.A (getItem (.str z t) (.ref sl)) (EP X pins σ Q) X.xe s:=fun l u el eu h=>by
  refine wpAny_getItem_str_slice h rfl ?_
  refine post_val_or_made (fun _=>?_) fun t' k=>?_
  ·have:=sliceIndices_le (l.map (·.1)) (u.map (·.1)) z.length
   have e:=List.length_filterMap_le (fun i=>z.cps[i]?) (slicePicked z l u none)
   show ((slicePicked z l u none).filterMap (z.cps[·]?)).toArray.size≤sizeLine
   rw [List.size_toArray]
   unfold slicePicked at e ⊢
   simp only [Option.map_none,Option.getD_none] at e ⊢
   omega
  ·refine ⟨.str (Txt.slice z lo hi),H,I.tok _,⟨t',?_⟩,q⟩
   rw [← el,← eu]
   rfl
 refine ⟨"str",_,PySem.F.slot_str_getitem.lookup,typeIs_str s z t,?_⟩
 cases pl with
 | none=>
  cases pu with
  | none=>exact fin none none rfl rfl hs
  | int j u=>exact fin none (some (j,u)) rfl rfl hs
 | int i u=>
  cases pu with
  | none=>exact fin (some (i,u)) none rfl rfl hs
  | int j u'=>exact fin (some (i,u)) (some (j,u')) rfl rfl hs
theorem op_mulS:OpR X (binaryOp .Mult) (fun x y H Q=>∃ z k,x=.str z∧y=.int k∧0≤k∧k≤2000∧z.length≤1000∧Q (.str (Txt.mul z k)) H):=by
 intro pins s σ H x y v u Q I rx ry h
 obtain ⟨z,k,rfl,rfl,h1,h2,h3,q⟩:=h
 obtain ⟨t,rfl⟩:=rx
 obtain ⟨t',rfl⟩:=ry
 have hm:z.length * k.toNat≤1000 * 2000:=Nat.mul_le_mul h3 (by omega)
 refine SB.mul ⟨?_,fun g1 g2=>?_,fun g1 g2=>?_⟩ fun t' k'=>⟨.str _,H,I.tok _,⟨t',rfl⟩,q⟩
 ·simp; omega
 ·have hk:1≤k:=by simp at g1; omega
  have e1:(1000:Int)≤(2 ^ 63 - 1) / k:=by
   rw [Int.le_ediv_iff_mul_le (by omega)]
   omega
  omega
 ·unfold Builtin.Str.tooLong
  simp [sizeLine]
  omega
end
theorem wQ {ys:List Str}:∀ {us:List Value},Vals (ys.map V.str) us→StrsAre us ys:=by
 induction ys with
 | nil=>intro us r; rw [List.map_nil] at r; cases r; exact .nil
 | cons y ys ih=>
  intro us r
  rw [List.map_cons] at r
  cases r with
  | cons r1 r2=>
   obtain ⟨t,e⟩:=r1
   subst e
   exact .cons y t (ih r2)
section
variable {X:Cx}
end
structure Fn (P:Program) (w:World) (K:Frag) (mg:Str→Option Value) (base:Heap) (name:Str) (ps:List Str) (k:Nat) (sp:Sp):Prop where
 ex:∃ f fd,FnOk P w K mg base CX0 k f fd ps sp∧Binds K fd ps []∧PySem.W.keepIn K (.ref f)=true∧mg name=some (.ref f)
section
variable {X:Cx} {name:Str} {ps:List Str} {k:Nat} {sp:Sp} {e:Expr} {es:List Expr} {t:TA} {p pos:Pos}
theorem tE (F:Fn X.prog X.w X.K X.mg X.base name ps k sp) (hr:Room k X.A) (hg:Gl X name) (ha:PA X (e::es) t) (hdb:(name == ("__debug__" : Str))=false:=by decide)
  (he:starEach (e::es) X.env=(false,eval e X.env)::starEach es X.env:=by rfl) (hpl:(backTo pos (starEach es X.env)).any (·.1)=false:=by rfl):PE X (.Call (.Name name p) (e::es) [] pos) (tq sp [] E0 t):=by
 obtain ⟨f,fd,h1,h2,h3,h4⟩:=F.ex
 exact Ao h1 hr hg h4 h3 h2 .nil C3 ha hdb he hpl
end
theorem zc {X:Cx} {x:Str} {scope osc:Scope} {N N':List Str} {elt iter:Expr} {ifs:List Expr} {px pos:Pos} {wi:TI} {te:TE} {tt:TT} (S:CS osc N x scope N') (hi:PI X (.Name x px) iter wi)
  (he:∀ C s0 H0 ex,PE (cS X x scope C s0 H0 ex N') elt te) (ht:∀ C s0 H0 ex,PTs (cS X x scope C s0 H0 ex N') ifs tt) (hc:X.calm=true:=by rfl) (hs:X.env.scope=osc:=by rfl) (hN:X.N=N:=by rfl)
  (hf:∀ v,foldedSetIterable iter X.env v=pure v:=by intro _; rfl):PE X (.ListComp elt [⟨.Name x px,iter,ifs,0⟩] scope pos) (tm wi tt te):=by
 subst hs hN
 exact Am hc S hi he ht hf
end L2
namespace D
open PySem PySem.Spec PyProof.Rows L2
inductive Gh (P:Hp→Prop):Hp→Prop where
 | done {H:Hp}:P H→Gh P H
 | frz {H:Hp} {a:Addr} {kvs:List (Key×V)}:H a=some (.dK kvs)→(∀ o,Gh P (upd H a (.frz o (.dK kvs))))→Gh P H
theorem Gh.imp {P P':Hp→Prop} {H:Hp} (g:Gh P H) (i:∀ H,P H→P' H):Gh P' H:=by
 induction g with
 | done h=>exact .done (i _ h)
 | frz e _ ih=>exact .frz e ih
section
variable {X:Cx} {pins:List (Addr×Obj)} {σ:L2.St} {H:Hp} {s:Shared}
theorem qL (I:Inv X pins σ H s) {a:Addr} {kvs:List (Key×V)} (e:H a=some (.dK kvs)):∃ o,Inv X pins σ (upd H a (.frz o (.dK kvs))) s:=by
 obtain ⟨z,y,vs,kv,o,es,ep,eo,r⟩:=I.hok a _ e
 have U:∀ {b:Addr} {u:HO},H b=some u→(∀ ks,u≠.dK ks)→upd H a (.frz o (.dK kvs)) b=some u:=fun {b u} q n=>by
  rw [aR (fun z=>by subst z; rw [e] at q; cases q; exact n _ rfl)]
  exact q
 have hok:HOk X.prog X.w (upd H a (.frz o (.dK kvs))) s.heap:=fun b u q=>by
  by_cases hb:b=a
  ·subst hb
   rw [bh] at q
   cases q
   exact ⟨eo,(I.hok b _ e).stay (fun _ _ _ q=>q) (fun c q=>U q (fun _ z=>nomatch z)) fun c xs q=>U q (fun _ z=>nomatch z)⟩
  ·rw [aR hb] at q
   exact (I.hok b u q).stay (fun _ _ _ q=>q) (fun c q=>U q (fun _ z=>nomatch z)) fun c xs q=>U q (fun _ z=>nomatch z)
 exact ⟨o,I.un (h':=s.heap) (t':=s.toks) ⟨fun b ob q n _ _=>q,fun b ob q n _ _=>⟨_,q⟩,fun b ob q n _=>by rw [aR (fun z=>by subst z; rw [e] at n; cases n)]; exact n,fun b ob q _=>⟨_,q⟩,fun b xs q=>U q (fun _ z=>nomatch z),
  fun b ob u q=>U q (fun _ z=>nomatch z),fun b ps q=>⟨#[],by rw [U q (fun _ z=>nomatch z)]; simp⟩⟩ hok⟩
theorem Gh.ok {P:Hp→Prop} (g:Gh P H) (I:Inv X pins σ H s):∃ H',Inv X pins σ H' s∧P H':=by
 induction g with
 | done h=>exact ⟨_,I,h⟩
 | frz e _ ih=>
  obtain ⟨o,I'⟩:=qL I e
  exact ih o I'
end
section
variable {X:Cx}
theorem CQ {st:Stmt} {t:TS} (h:PS X st t):PS X st (fun D σ H=>Gh (t D σ) H):=fun pins s σ H D I q=>by
 obtain ⟨H',I',q'⟩:=q.ok I
 exact h pins s σ H' D I' q'
theorem C0 {e:Expr} {t:TE} (h:PE X e t):PE X e (fun σ H Q=>t σ H fun v H1=>Gh (Q v) H1):=fun pins s σ H Q I q=>
 thn (h pins s σ H _ I q) fun u s' ⟨v,H',I',r,q'⟩=>by
  obtain ⟨H2,I2,q2⟩:=q'.ok I'
  exact ⟨v,H2,I2,r,q2⟩
end
def gf (o:Obj):Nat:=match o.data with
 | .dict _ ep=>ep
 | _=>0
def Itd (a:Addr) (o:Obj) (kvs:List (Key×V)):It:=⟨fun i H=>H a=some (.frz o (.dK kvs))∧i < kvs.length,fun i H x H'=>H'=H∧∃ k v,kvs[i]? = some (k,v)∧x=kV k,fun i H=>H a=some (.frz o (.dK kvs))∧i=kvs.length⟩
theorem gx {P:Program} {w:World} {H:Hp} {h:Heap} {a:Addr} {o:Obj} {kvs:List (Key×V)} (ok:HOk P w H h) (e:H a=some (.frz o (.dK kvs))):kvs.length≤sizeLine∧(a == sysModules)=false∧∃ vs,KV kvs vs∧h.DictAt (bB P w) a vs (gf o):=by
 obtain ⟨e1,z,y,vs,kv,o',es,ep,e2,ed,dd,r⟩:=ok a _ e
 rw [e1] at e2
 cases e2
 refine ⟨z,y,vs,kv,o,es,e1,ed,?_,r⟩
 unfold gf
 rw [dd]
theorem nI {P:Program} {w:World} {k:Key} {v:Value} (e:(bB P w).is k v=true):RelV (kV k) v:=by
 rcases dB (show dW k v=true from e) with ⟨i,t,rfl,rfl⟩ | ⟨x,t,rfl,rfl⟩
 ·exact ⟨t,rfl⟩
 ·exact ⟨t,rfl⟩
theorem Dk {kvs:List (Key×V)} {vs:List (Key×Value)} (r:KV kvs vs) {i:Nat} {k:Key} {x:Value} (e:vs[i]? = some (k,x)):∃ v,kvs[i]? = some (k,v):=by
 have h:=r.keys
 have h1:(vs.map (·.1))[i]? = some k:=by rw [List.getElem?_map,e]; rfl
 rw [← h,List.getElem?_map] at h1
 cases q:kvs[i]? with
 | none=>rw [q] at h1; cases h1
 | some p=>
  rw [q] at h1
  cases h1
  exact ⟨p.2,rfl⟩
theorem xM {P:Program} {w:World} {K:Frag} {tg:Expr} (a it:Addr) (o:Obj) (kvs:List (Key×V)):Turn P w K tg (Itd a o kvs) [it] it (fun i h=>h.IsKeyIter it a i kvs.length (gf o)) where
 mem:=by simp
 obj:=fun i h st b hb=>by
  have e:b=it:=by simpa using hb
  subst e
  obtain ⟨o,e,c,d⟩:=st
  exact ⟨o,e,fun v z=>by rw [d] at z; cases z⟩
 keep:=fun i h h' st k=>st.at fun o e=>k it (by simp) o e
 item:=by
  intro X hP hw hK hc i pins s σ H E I hf st hg
  subst hP hw hK
  obtain ⟨hg1,hg2⟩:=hg
  obtain ⟨z,y,vs,kv,dd⟩:=gx I.hok hg1
  obtain ⟨f0,f1,f2,f3,f4,f5⟩:=hf it (by simp)
  have hl:=kv.length
  have ne:a≠it:=fun q=>by rw [q,f0] at hg1; cases hg1
  have W:=Walks.dictKeys (prog:=X.prog) (w:=X.w) (knd:=bB X.prog X.w) (I.ok.hd hc) it a ne vs (gf o)
  refine W.item i s _ _ (by omega) ⟨by rw [← hl]; exact st,dd⟩ fun v h' tk hv st' kk=>?_
  obtain ⟨k,x,h1,h2⟩:=hv
  have I1:Inv X pins σ H { s with heap:=h',toks:=tk }:=I.turned (fun b o hb e=>kk b o (by simpa using hb) e) f0 f1 f3 f4 f5
  have st1:h'.IsKeyIter it a (i + 1) kvs.length (gf o):=by rw [hl]; exact st'.1
  obtain ⟨o1,e1,c1,d1⟩:=id st1
  obtain ⟨v0,h3⟩:=Dk kv h1
  exact ⟨v,rfl,jj (s:={ s with heap:=h',toks:=tk }) e1 c1 d1 (by decide) ⟨kV k,H,I1,nI h2,⟨rfl,k,v0,h3,rfl⟩,st1,fun b hb=>(hf b hb).1⟩⟩
 done:=by
  intro X hP hw hK hc i pins s σ H E I hf st hg
  subst hP hw hK
  obtain ⟨hg1,hg2⟩:=hg
  obtain ⟨z,y,vs,kv,dd⟩:=gx I.hok hg1
  obtain ⟨f0,f1,f2,f3,f4,f5⟩:=hf it (by simp)
  have hl:=kv.length
  have ne:a≠it:=fun q=>by rw [q,f0] at hg1; cases hg1
  have W:=Walks.dictKeys (prog:=X.prog) (w:=X.w) (knd:=bB X.prog X.w) (I.ok.hd hc) it a ne vs (gf o)
  refine W.done s _ _ ⟨by rw [← hl,← hg2]; rw [← hg2] at st; exact st,dd⟩ fun h' tk kk=>⟨rfl,I.turned (fun b o hb e=>kk b o (by simpa using hb) e) f0 f1 f3 f4 f5⟩
 self:=fun _ _ _ _ _ st h=>wpAny_pyIter_keyiter st h
inductive W where
 | d (x:PyData) | tp (i:Nat) | loc (x:PyData)
abbrev Tp:=List (List PyData)
abbrev Rho:=List (Option W)
noncomputable def bnd {α β:Type} (o:Option (α×Tp)) (k:α→Tp→Option β):Option β:=match o with
 | some (a,T)=>k a T
 | none=>none
theorem aT {α β:Type} {o:Option (α×Tp)} {k:α→Tp→Option β} {b:β} (h:bnd o k=some b):∃ a T,o=some (a,T)∧k a T=some b:=by
 cases o with
 | none=>cases h
 | some p=>exact ⟨p.1,p.2,rfl,h⟩
def gc:Key→PyData
 | .inl i=>.int i
 | .inr x=>.str x
def TupAt (K:Frag) (O:Addr→Prop) (H:Hp) (a:Addr) (vs:List V):Prop:=(¬ O a∧Rd H a (.tup vs))∨SqT K (fun _=>none) a vs
def LstAt (K:Frag) (O:Addr→Prop) (H:Hp) (a:Addr) (vs:List V):Prop:=(¬ O a∧Rd H a (.lst vs))∨SqL K (fun _=>none) a vs
theorem Bl {K:Frag} {H:Hp} {a:Addr} {vs:List V} (h:SqT K (fun _=>none) a vs):SqT K H a vs:=by
 rcases h with (h | ⟨o,h⟩) | h
 ·cases h
 ·cases h
 ·exact .inr h
theorem Bm {K:Frag} {H:Hp} {a:Addr} {vs:List V} (h:SqL K (fun _=>none) a vs):SqL K H a vs:=by
 rcases h with (h | ⟨o,h⟩) | h
 ·cases h
 ·cases h
 ·exact .inr h
theorem TupAt.sq {K:Frag} {O:Addr→Prop} {H:Hp} {a:Addr} {vs:List V} (h:TupAt K O H a vs):SqT K H a vs:=by
 rcases h with h | h
 ·exact .inl h.2
 ·exact Bl h
theorem LstAt.sq {K:Frag} {O:Addr→Prop} {H:Hp} {a:Addr} {vs:List V} (h:LstAt K O H a vs):SqL K H a vs:=by
 rcases h with h | h
 ·exact .inl h.2
 ·exact Bm h
mutual
inductive Rep (K:Frag) (O:Addr→Prop) (H:Hp):V→PyData→Prop where
 | non:Rep K O H .non .none
 | bl (b:Bool):Rep K O H (.bl b) (.bool b)
 | int (i:Int):Rep K O H (.int i) (.int i)
 | str (x:Str):Rep K O H (.str x) (.str x)
 | tup {a:Addr} {vs:List V} {ds:List PyData}:TupAt K O H a vs→Reps K O H vs ds→Rep K O H (.ref a) (.tuple ds)
 | lst {a:Addr} {vs:List V} {ds:List PyData}:LstAt K O H a vs→Reps K O H vs ds→Rep K O H (.ref a) (.list ds)
 | dct {a:Addr} {o:Obj} {kvs:List (Key×V)} {ds:List (PyData×PyData)}:¬ O a→H a=some (.frz o (.dK kvs))→RepK K O H kvs ds→Rep K O H (.ref a) (.dict ds)
inductive Reps (K:Frag) (O:Addr→Prop) (H:Hp):List V→List PyData→Prop where
 | nil:Reps K O H [] []
 | cons {v:V} {d:PyData} {vs:List V} {ds:List PyData}:Rep K O H v d→Reps K O H vs ds→Reps K O H (v::vs) (d::ds)
inductive RepK (K:Frag) (O:Addr→Prop) (H:Hp):List (Key×V)→List (PyData×PyData)→Prop where
 | nil:RepK K O H [] []
 | cons {k:Key} {v:V} {d:PyData} {kvs:List (Key×V)} {ds:List (PyData×PyData)}:Rep K O H v d→RepK K O H kvs ds→RepK K O H ((k,v)::kvs) ((gc k,d)::ds)
end
def Le (O:Addr→Prop) (H:Hp) (O':Addr→Prop) (H':Hp):Prop:=∀ a o,¬ O a→H a=some o→¬ O' a∧H' a=some o
theorem Le.trans {O O1 O2:Addr→Prop} {H H1 H2:Hp} (h:Le O H O1 H1) (g:Le O1 H1 O2 H2):Le O H O2 H2:=fun a o n e=>let ⟨n1,e1⟩:=h a o n e; g a o n1 e1
theorem TupAt.mono {K:Frag} {O O':Addr→Prop} {H H':Hp} (h:Le O H O' H') {a:Addr} {vs:List V} (t:TupAt K O H a vs):TupAt K O' H' a vs:=by
 rcases t with ⟨n,t | ⟨o,t⟩⟩ | t
 ·exact .inl ⟨(h _ _ n t).1,.inl (h _ _ n t).2⟩
 ·exact .inl ⟨(h _ _ n t).1,.inr ⟨o,(h _ _ n t).2⟩⟩
 ·exact .inr t
theorem LstAt.mono {K:Frag} {O O':Addr→Prop} {H H':Hp} (h:Le O H O' H') {a:Addr} {vs:List V} (t:LstAt K O H a vs):LstAt K O' H' a vs:=by
 rcases t with ⟨n,t | ⟨o,t⟩⟩ | t
 ·exact .inl ⟨(h _ _ n t).1,.inl (h _ _ n t).2⟩
 ·exact .inl ⟨(h _ _ n t).1,.inr ⟨o,(h _ _ n t).2⟩⟩
 ·exact .inr t
mutual
theorem Rep.mono {K:Frag} {O O':Addr→Prop} {H H':Hp} (e:Le O H O' H'):∀ {v:V} {d:PyData},Rep K O H v d→Rep K O' H' v d
 | _,_,.non=>.non
 | _,_,.bl b=>.bl b
 | _,_,.int i=>.int i
 | _,_,.str x=>.str x
 | _,_,.tup t r=>.tup (t.mono e) (Reps.mono e r)
 | _,_,.lst t r=>.lst (t.mono e) (Reps.mono e r)
 | _,_,.dct n h r=>.dct (e _ _ n h).1 (e _ _ n h).2 (RepK.mono e r)
theorem Reps.mono {K:Frag} {O O':Addr→Prop} {H H':Hp} (e:Le O H O' H'):∀ {vs:List V} {ds:List PyData},Reps K O H vs ds→Reps K O' H' vs ds
 | _,_,.nil=>.nil
 | _,_,.cons r t=>.cons (Rep.mono e r) (Reps.mono e t)
theorem RepK.mono {K:Frag} {O O':Addr→Prop} {H H':Hp} (e:Le O H O' H'):∀ {vs:List (Key×V)} {ds:List (PyData×PyData)},RepK K O H vs ds→RepK K O' H' vs ds
 | _,_,.nil=>.nil
 | _,_,.cons r t=>.cons (Rep.mono e r) (RepK.mono e t)
end
section
variable {K:Frag} {O:Addr→Prop} {H:Hp}
theorem Reps.length:∀ {vs:List V} {ds:List PyData},Reps K O H vs ds→vs.length=ds.length
 | _,_,.nil=>rfl
 | _,_,.cons _ t=>congrArg (· + 1) (Reps.length t)
theorem Reps.get:∀ {vs:List V} {ds:List PyData} {i:Nat} {v:V},Reps K O H vs ds→vs[i]? = some v→∃ d,ds[i]? = some d∧Rep K O H v d
 | _,_,_,_,.nil,e=>by simp at e
 | _,_,0,_,.cons r _,e=>by simp at e; subst e; exact ⟨_,rfl,r⟩
 | _,_,i + 1,v,.cons _ t,e=>by
  obtain ⟨d,h1,h2⟩:=Reps.get (i:=i) (v:=v) t (by simpa using e)
  exact ⟨d,by simpa using h1,h2⟩
theorem Reps.getD:∀ {vs:List V} {ds:List PyData} {i:Nat} {d:PyData},Reps K O H vs ds→ds[i]? = some d→∃ v,vs[i]? = some v∧Rep K O H v d
 | _,_,_,_,.nil,e=>by simp at e
 | _,_,0,_,.cons r _,e=>by simp at e; subst e; exact ⟨_,rfl,r⟩
 | _,_,i + 1,v,.cons _ t,e=>by
  obtain ⟨d,h1,h2⟩:=Reps.getD (i:=i) (d:=v) t (by simpa using e)
  exact ⟨d,by simpa using h1,h2⟩
theorem Reps.set {v:V} {d:PyData} (r:Rep K O H v d):∀ {vs:List V} {ds:List PyData} (i:Nat),Reps K O H vs ds→Reps K O H (vs.set i v) (ds.set i d)
 | _,_,_,.nil=>.nil
 | _,_,0,.cons _ t=>.cons r t
 | _,_,i + 1,.cons q t=>.cons q (Reps.set r i t)
theorem Reps.append {ws:List V} {es:List PyData}:∀ {vs:List V} {ds:List PyData},Reps K O H vs ds→Reps K O H ws es→Reps K O H (vs++ws) (ds++es)
 | _,_,.nil,r=>r
 | _,_,.cons q t,r=>.cons q (Reps.append t r)
theorem Reps.take:∀ {vs:List V} {ds:List PyData} (n:Nat),Reps K O H vs ds→Reps K O H (vs.take n) (ds.take n)
 | _,_,0,_=>.nil
 | _,_,_ + 1,.nil=>.nil
 | _,_,n + 1,.cons r t=>.cons r (Reps.take n t)
theorem Reps.drop:∀ {vs:List V} {ds:List PyData} (n:Nat),Reps K O H vs ds→Reps K O H (vs.drop n) (ds.drop n)
 | _,_,0,r=>r
 | _,_,_ + 1,.nil=>.nil
 | _,_,n + 1,.cons _ t=>Reps.drop n t
theorem Reps.rep {vs:List V} {ds:List PyData} (r:Reps K O H vs ds):∀ n:Nat,Reps K O H (List.replicate n vs).flatten (List.replicate n ds).flatten
 | 0=>.nil
 | n + 1=>by
  rw [List.replicate_succ,List.replicate_succ,List.flatten_cons,List.flatten_cons]
  exact r.append (r.rep n)
end
def SameX (ts:List Addr) (H H':Hp):Prop:=∀ b o,b∉ts→H b=some o→H' b=some o
theorem SameX.refl (ts:List Addr) (H:Hp):SameX ts H H:=fun _ _ _ h=>h
theorem SameX.trans {ts:List Addr} {H H1 H2:Hp} (a:SameX ts H H1) (b:SameX ts H1 H2):SameX ts H H2:=fun c o n h=>b c o n (a c o n h)
theorem SameX.new {ts:List Addr} {H:Hp} {p:Addr} (h:H p=none) (o:HO):SameX ts H (upd H p o):=fun b u _ q=>by rw [aR (cu q h)]; exact q
def Mut (o:Option HO):Prop:=(∃ vs,o=some (.lst vs))∨(∃ kvs,o=some (.dK kvs))∨∃ C dx fs,o=some (.ins C dx fs)
theorem Mut.ex {o:Option HO} (h:Mut o):∃ u,o=some u:=by rcases h with ⟨vs,e⟩ | ⟨vs,e⟩ | ⟨C,dx,fs,e⟩ <;> exact ⟨_,e⟩
theorem Mut.to {o o':Option HO} (h:Mut o) (k:∀ u,o=some u→o'=some u):Mut o':=by
 rcases h with ⟨vs,e⟩ | ⟨vs,e⟩ | ⟨C,dx,fs,e⟩
 ·exact .inl ⟨vs,k _ e⟩
 ·exact .inr (.inl ⟨vs,k _ e⟩)
 ·exact .inr (.inr ⟨C,dx,fs,k _ e⟩)
def DH (C:Addr):PyData:=.dict [(.none,.int (C:Int))]
def isO:List PyData→Bool
 | .dict [(.none,_)]::_=>true
 | _=>false
def pairF (p:Str×PyData):PyData:=.tuple [.str p.1,p.2]
inductive RepF (K:Frag) (O:Addr→Prop) (H:Hp):List (Str×V)→List (Str×PyData)→Prop where
 | nil:RepF K O H [] []
 | cons {n:Str} {v:V} {d:PyData} {vs:List (Str×V)} {ds:List (Str×PyData)}:Rep K O H v d→RepF K O H vs ds→RepF K O H ((n,v)::vs) ((n,d)::ds)
theorem RepF.mono {K:Frag} {O O':Addr→Prop} {H H':Hp} (e:Le O H O' H') {vs:List (Str×V)} {ds:List (Str×PyData)} (r:RepF K O H vs ds):RepF K O' H' vs ds:=by
 induction r with
 | nil=>exact .nil
 | cons r _ ih=>exact .cons (Rep.mono e r) ih
def RowAt (K:Frag) (O:Addr→Prop) (H:Hp) (a:Addr) (xs:List PyData):Prop:=(isO xs=false∧∃ vs,H a=some (.lst vs)∧Reps K O H vs xs)∨∃ C dx fs fd,H a=some (.ins C dx fs)∧xs=DH C::fd.map pairF∧RepF K O H fs fd
theorem RowAt.mono {K:Frag} {O O':Addr→Prop} {H H':Hp} {a:Addr} {xs:List PyData} (h:RowAt K O H a xs) (k:∀ o,H a=some o→H' a=some o) (l:Le O H O' H'):RowAt K O' H' a xs:=by
 rcases h with ⟨n,vs,h1,h2⟩ | ⟨C,dx,fs,fd,h1,h2,h3⟩
 ·exact .inl ⟨n,vs,k _ h1,h2.mono l⟩
 ·exact .inr ⟨C,dx,fs,fd,k _ h1,h2,h3.mono l⟩
theorem RowAt.lst {K:Frag} {O:Addr→Prop} {H:Hp} {a:Addr} {xs:List PyData} (h:RowAt K O H a xs) (n:isO xs=false):∃ vs,H a=some (.lst vs)∧Reps K O H vs xs:=by
 rcases h with ⟨_,h⟩ | ⟨C,dx,fs,fd,h1,h2,h3⟩
 ·exact h
 ·rw [h2] at n
  cases n
theorem Aa {K:Frag} {O:Addr→Prop} {H:Hp} {v:V} {y:PyData} (h:Rep K O H v (.dict [(.none,y)])):False:=by
 cases h with
 | dct _ _ r=>
  generalize hl:[(PyData.none,y)]=l at r
  cases r with
  | nil=>cases hl
  | @cons k _ _ _ _ _ _=>
   injection hl with h1 _
   injection h1 with h1 _
   rcases k with i | x
   ·cases h1
   ·cases h1
theorem Reps.notO {K:Frag} {O:Addr→Prop} {H:Hp} {vs:List V} {xs:List PyData} (r:Reps K O H vs xs):isO xs=false:=by
 cases r with
 | nil=>rfl
 | cons h _=>
  rename_i d _ _ _
  unfold isO
  split
  ·rename_i e
   cases e
   exact (Aa h).elim
  ·rfl
structure HC (K:Frag) (O:Addr→Prop) (ts:List Addr) (H:Hp) (T:Tp):Prop where
 own:∀ b∈ts,O b
 trk:∀ b,O b→Mut (H b)
 nd:ts.Nodup
 len:ts.length=T.length
 tape:∀ (i:Nat) (a:Addr) (xs:List PyData),ts[i]? = some a→T[i]? = some xs→RowAt K O H a xs
section
variable {K:Frag} {O:Addr→Prop} {ts:List Addr} {H H':Hp} {T:Tp}
theorem HC.le (c:HC K O ts H T) (s:SameX ts H H'):Le O H O H':=fun a o n e=>⟨n,s a o (fun z=>n (c.own a z)) e⟩
theorem HC.step (c:HC K O ts H T) (s:SameX ts H H') (t:∀ b∈ts,H' b=H b):HC K O ts H' T where
 own:=c.own
 trk:=fun b hb=>by
  by_cases z:b∈ts
  ·rw [t b z]; exact c.trk b hb
  ·exact (c.trk b hb).to fun u e=>s b _ z e
 nd:=c.nd
 len:=c.len
 tape:=fun i a xs e1 e2=>by
  exact (c.tape i a xs e1 e2).mono (fun o h1=>by rw [t a (List.mem_of_getElem? e1)]; exact h1) (c.le s)
theorem HC.fresh (c:HC K O ts H T) {p:Addr} (h:H p=none):¬ O p:=fun z=>by
 obtain ⟨u,e⟩:=(c.trk p z).ex
 rw [h] at e
 cases e
theorem HC.new (c:HC K O ts H T) {p:Addr} (h:H p=none) (o:HO):HC K O ts (upd H p o) T:=c.step (.new h o) fun b hb=>aR fun z=>c.fresh h (z ▸ c.own b hb)
theorem HC.leNew (c:HC K O ts H T) {p:Addr} (h:H p=none) (o:HO):Le O H O (upd H p o):=c.le (.new h o)
theorem HC.newT (c:HC K O ts H T) {p:Addr} (h:H p=none) {vs:List V} {ds:List PyData} (r:Reps K O H vs ds):Rep K O (upd H p (.tup vs)) (.ref p) (.tuple ds):=.tup (.inl ⟨c.fresh h,.inl bh⟩) (r.mono (c.leNew h _))
theorem HC.newL (c:HC K O ts H T) {p:Addr} (h:H p=none) {vs:List V} {ds:List PyData} (r:Reps K O H vs ds):Rep K O (upd H p (.lst vs)) (.ref p) (.list ds):=.lst (.inl ⟨c.fresh h,.inl bh⟩) (r.mono (c.leNew h _))
end
inductive Vw (K:Frag) (O:Addr→Prop) (H:Hp):V→PyData→Prop where
 | rep {v:V} {x:PyData}:Rep K O H v x→Vw K O H v x
 | raw {a:Addr} {vs:List V} {xs:List PyData}:H a=some (.lst vs)→Reps K O H vs xs→Vw K O H (.ref a) (.list xs)
 | rawD {a:Addr} {kvs:List (Key×V)} {ds:List (PyData×PyData)}:H a=some (.dK kvs)→RepK K O H kvs ds→Vw K O H (.ref a) (.dict ds)
section
variable {K:Frag} {O:Addr→Prop} {H:Hp} {v:V}
theorem Vw.int {i:Int} (h:Vw K O H v (.int i)):v=.int i:=by cases h with | rep h=>cases h; rfl
theorem Vw.str {x:Str} (h:Vw K O H v (.str x)):v=.str x:=by cases h with | rep h=>cases h; rfl
theorem Vw.bl {b:Bool} (h:Vw K O H v (.bool b)):v=.bl b:=by cases h with | rep h=>cases h; rfl
theorem Vw.non (h:Vw K O H v .none):v=.non:=by cases h with | rep h=>cases h; rfl
theorem Vw.tup {ds:List PyData} (h:Vw K O H v (.tuple ds)):∃ a vs,v=.ref a∧TupAt K O H a vs∧Reps K O H vs ds:=by cases h with | rep h=>cases h with | tup t r=>exact ⟨_,_,rfl,t,r⟩
theorem Vw.tupR {ds:List PyData} (h:Vw K O H v (.tuple ds)):Rep K O H v (.tuple ds):=by cases h with | rep h=>exact h
theorem Vw.lst {ds:List PyData} (h:Vw K O H v (.list ds)):∃ a vs,v=.ref a∧SqL K H a vs∧Reps K O H vs ds:=by
 cases h with
 | rep h=>cases h with | lst t r=>exact ⟨_,_,rfl,t.sq,r⟩
 | raw h r=>exact ⟨_,_,rfl,SqL.of h,r⟩
theorem Vw.dct {ds:List (PyData×PyData)} (h:Vw K O H v (.dict ds)):∃ a kvs,v=.ref a∧Rd H a (.dK kvs)∧RepK K O H kvs ds:=by
 cases h with
 | rep h=>cases h with | dct n t r=>exact ⟨_,_,rfl,.inr ⟨_,t⟩,r⟩
 | rawD t r=>exact ⟨_,_,rfl,.inl t,r⟩
end
def OwnAt (K:Frag) (O:Addr→Prop) (H:Hp) (a:Addr):PyData→Prop
 | .list xs=>∃ vs,H a=some (.lst vs)∧Reps K O H vs xs
 | .dict ds=>∃ kvs,H a=some (.dK kvs)∧RepK K O H kvs ds
 | _=>False
theorem OwnAt.mono {K:Frag} {O O':Addr→Prop} {H H':Hp} {a:Addr} {x:PyData} (h:OwnAt K O H a x) (k:∀ o,H a=some o→H' a=some o) (l:Le O H O' H'):OwnAt K O' H' a x:=by
 cases x with
 | list xs=>obtain ⟨vs,h1,h2⟩:=h; exact ⟨vs,k _ h1,h2.mono l⟩
 | dict ds=>obtain ⟨vs,h1,h2⟩:=h; exact ⟨vs,k _ h1,h2.mono l⟩
 | _=>cases h
theorem OwnAt.some {K:Frag} {O:Addr→Prop} {H:Hp} {a:Addr} {x:PyData} (h:OwnAt K O H a x):∃ o,H a=some o:=by
 cases x with
 | list xs=>obtain ⟨vs,h1,h2⟩:=h; exact ⟨_,h1⟩
 | dict ds=>obtain ⟨vs,h1,h2⟩:=h; exact ⟨_,h1⟩
 | _=>cases h
def RepW (K:Frag) (O:Addr→Prop) (ts:List Addr) (H:Hp) (v:V):W→Prop
 | .d x=>Rep K O H v x
 | .tp i=>∃ a,ts[i]? = some a∧v=.ref a
 | .loc x=>∃ a,v=.ref a∧O a∧a∉ts∧OwnAt K O H a x
def iP (xs:List PyData):Option PyData:=if isO xs=true then none else some (.list xs)
noncomputable def view (T:Tp):W→Option PyData
 | .d x=>some x
 | .tp i=>(T[i]?).bind iP
 | .loc (.list xs)=>some (.list xs)
 | .loc (.dict ds)=>some (.dict ds)
 | .loc _=>none
noncomputable def views (T:Tp):List W→Option (List PyData)
 | []=>some []
 | w::r=>match view T w with
  | some x=>(match views T r with
   | some xs=>some (x::xs)
   | none=>none)
  | none=>none
def eP (K:Frag) (O:Addr→Prop) (ts:List Addr) (H:Hp):List V→List W→Prop:=Paired fun v w=>RepW K O ts H v w
def Vws (K:Frag) (O:Addr→Prop) (H:Hp):List V→List PyData→Prop:=Paired fun v x=>Vw K O H v x
def RelE (K:Frag) (O:Addr→Prop) (ts:List Addr) (H:Hp) (σ:L2.St) (ρ:Rho):Prop:=∀ (i:Nat) (w:W),ρ[i]? = some (some w)→∃ v,σ[i]? = some (some v)∧RepW K O ts H v w
section
variable {K:Frag} {O:Addr→Prop} {ts:List Addr} {H H':Hp} {T:Tp} {v:V} {w:W}
theorem RepW.mono (r:RepW K O ts H v w) (c:HC K O ts H T) (s:SameX ts H H'):RepW K O ts H' v w:=by
 cases w with
 | d x=>exact Rep.mono (c.le s) r
 | tp i=>exact r
 | loc xs=>
  obtain ⟨a,e,h1,h2,h3⟩:=r
  exact ⟨a,e,h1,h2,h3.mono (fun o q=>s _ _ h2 q) (c.le s)⟩
theorem RelE.mono {σ:L2.St} {ρ:Rho} (r:RelE K O ts H σ ρ) (c:HC K O ts H T) (s:SameX ts H H'):RelE K O ts H' σ ρ:=fun i w e=>
 let ⟨v,h1,h2⟩:=r i w e; ⟨v,h1,h2.mono c s⟩
theorem HC.view (c:HC K O ts H T) {x:PyData} (r:RepW K O ts H v w) (e:view T w=some x):Vw K O H v x:=by
 cases w with
 | d y=>cases e; exact .rep r
 | tp i=>
  obtain ⟨a,h1,rfl⟩:=r
  have e':(T[i]?).bind iP=some x:=e
  cases ht:T[i]? with
  | none=>rw [ht] at e'; cases e'
  | some xs=>
   rw [ht] at e'
   have e2:(if isO xs=true then none else some (PyData.list xs))=some x:=e'
   split at e2
   ·cases e2
   ·rename_i hn
    cases e2
    obtain ⟨vs,h2,h3⟩:=(c.tape i a xs h1 ht).lst (by simpa using hn)
    exact .raw h2 h3
 | loc xs=>
  obtain ⟨a,rfl,_,_,h3⟩:=r
  cases xs with
  | list xs=>cases e; obtain ⟨vs,h1,h2⟩:=h3; exact .raw h1 h2
  | dict ds=>cases e; obtain ⟨vs,h1,h2⟩:=h3; exact .rawD h1 h2
  | _=>cases h3
theorem HC.views (c:HC K O ts H T):∀ {vs:List V} {ws:List W} {xs:List PyData},eP K O ts H vs ws→views T ws=some xs→Vws K O H vs xs
 | _,[],xs,.nil,e=>by cases e; exact .nil
 | _,w::r,xs,.cons h t,e=>by
  unfold D.views at e
  split at e
  ·rename_i x h1
   split at e
   ·rename_i ys h2
    cases e
    exact .cons (c.view h h1) (HC.views c t h2)
   ·cases e
  ·cases e
end
def noStar:Expr→Bool
 | .Starred _ _=>false
 | _=>true
theorem b5 {e:Expr} {es:List Expr} {env:Env} (h:noStar e=true):starEach (e::es) env=(false,eval e env)::starEach es env:=by cases e <;> first | rfl | cases h
theorem pO {e:Expr} {env:Env} (h:noStar e=true):starEach [e] env=[(false,eval e env)]:=b5 h
theorem c8 {env:Env} {pos:Pos}:∀ {es:List Expr},es.all noStar=true→(backTo pos (starEach es env)).any (·.1)=false
 | [],_=>rfl
 | e::r,h=>by
  rw [List.all_cons,Bool.and_eq_true] at h
  rw [b5 h.1]
  show (false || (backTo pos (starEach r env)).any (·.1))=false
  rw [c8 h.2]
  rfl
theorem uL {e:Expr} {env:Env} {cpos:Pos} (h:noStar e=true):((backTo cpos (starEach [e] env)).all (fun x=>!x.1) && (backToKw cpos (keywordEach [] env)).all (fun x=>x.1.isSome)
   && decide (([e]:List Expr).length + ([]:List Keyword).length + (if ([]:List Keyword).isEmpty then 0 else 1) < 30))=true:=by
 rw [pO h]
 rfl
abbrev FE:=Rho→Tp→Option (W×Tp)
abbrev FT:=Rho→Tp→Option (Bool×Tp)
abbrev FA:=Rho→Tp→Option (List W×Tp)
inductive LiftP (K:Frag) (f:FE) (σ:L2.St) (H:Hp) (Q:VK):Prop where
 | mk (O:Addr→Prop) (ts:List Addr) (ρ:Rho) (T:Tp) (w:W) (T':Tp) (hc:HC K O ts H T) (re:RelE K O ts H σ ρ) (e:f ρ T=some (w,T')) (q:∀ v H',SameX ts H H'→HC K O ts H' T'→RepW K O ts H' v w→Q v H'):LiftP K f σ H Q
def lift (K:Frag) (f:FE):TE:=fun σ H Q=>LiftP K f σ H Q
inductive LiftTP (K:Frag) (f:FT) (σ:L2.St) (H:Hp) (Q:Bool→Hp→Prop):Prop where
 | mk (O:Addr→Prop) (ts:List Addr) (ρ:Rho) (T:Tp) (b:Bool) (T':Tp) (hc:HC K O ts H T) (re:RelE K O ts H σ ρ) (e:f ρ T=some (b,T')) (q:∀ H',SameX ts H H'→HC K O ts H' T'→Q b H'):LiftTP K f σ H Q
def liftT (K:Frag) (f:FT):TT:=fun σ H Q=>LiftTP K f σ H Q
inductive LiftAP (K:Frag) (f:FA) (σ:L2.St) (H:Hp) (Q:List V→Hp→Prop):Prop where
 | mk (O:Addr→Prop) (ts:List Addr) (ρ:Rho) (T:Tp) (ws:List W) (T':Tp) (hc:HC K O ts H T) (re:RelE K O ts H σ ρ) (e:f ρ T=some (ws,T')) (q:∀ vs H',SameX ts H H'→HC K O ts H' T'→eP K O ts H' vs ws→Q vs H'):LiftAP K f σ H Q
def tN (K:Frag) (f:FA):TA:=fun σ H Q=>LiftAP K f σ H Q
structure DE (X:Cx) (e:Expr) (f:FE):Prop where
 pe:PE X e (lift X.K f)
structure DT (X:Cx) (e:Expr) (f:FT):Prop where
 pe:PT X e (liftT X.K f)
structure DW (X:Cx) (e:Expr) (f:FT):Prop where
 pe:PW X e (liftT X.K f)
structure DA (X:Cx) (es:List Expr) (f:FA):Prop where
 pe:PA X es (tN X.K f)
theorem pe_imp {X:Cx} {e:Expr} {t t':TE} (h:PE X e t) (i:∀ σ H Q,t' σ H Q→t σ H Q):PE X e t':=fun pins s σ H Q I q=>h pins s σ H Q I (i σ H Q q)
theorem kf {X:Cx} {e:Expr} {t t':TT} (h:PT X e t) (i:∀ σ H Q,t' σ H Q→t σ H Q):PT X e t':=fun pins s σ H Q I q=>h pins s σ H Q I (i σ H Q q)
theorem rS {X:Cx} {e:Expr} {t t':TT} (h:PW X e t) (i:∀ σ H Q,t' σ H Q→t σ H Q):PW X e t':=fun wh pins s σ H Q I q=>h wh pins s σ H Q I (i σ H Q q)
theorem r8 {X:Cx} {e:List Expr} {t t':TA} (h:PA X e t) (i:∀ σ H Q,t' σ H Q→t σ H Q):PA X e t':=fun po pins s σ H Q I q=>h po pins s σ H Q I (i σ H Q q)
def aa (i:Nat):FE:=fun ρ T=>match ρ[i]? with
 | some (some w)=>some (w,T)
 | _=>none
noncomputable def fC (x:PyData):FE:=fun _ T=>some (.d x,T)
section
variable {X:Cx} {pos:Pos}
theorem af (i:Nat) {x:Str} (hN:X.N[i]? = some x:=by rfl) (hv:Vis X.env.scope x:=by first | exact Or.inl rfl | exact Or.inr (Or.inl rfl) | exact Or.inr (Or.inr rfl)) (hd:(x == ("__debug__" : Str))=false:=by decide)
  (hcd:(x == ("__classdict__" : Str))=false:=by decide):DE X (.Name x pos) (aa i):=by
 refine ⟨?_⟩
 refine pe_imp (pv i hN hv hd hcd) fun σ H Q=>?_
 rintro ⟨O,ts,ρ,T,w,T',hc,re,e,q⟩
 unfold aa at e
 split at e
 ·rename_i w' he
  cases e
  obtain ⟨v,h1,h2⟩:=re i _ he
  exact ⟨v,h1,q v H (.refl _ _) hc h2⟩
 ·cases e
theorem gF {x:PyData} {v:V} (h:∀ O H,Rep X.K O H v x):∀ σ H Q,lift X.K (fC x) σ H Q→tC v σ H Q:=by
 rintro σ H Q ⟨O,ts,ρ,T,w,T',hc,re,e,q⟩
 cases e
 exact q v H (.refl _ _) hc (h O H)
theorem ak {i j}:DE X (.Constant (.int i) j pos) (fC (.int i)):=⟨pe_imp BE (gF fun _ _=>.int i)⟩
theorem cV {i j}:DE X (.Constant (.bool i) j pos) (fC (.bool i)):=⟨pe_imp C2 (gF fun _ _=>.bl i)⟩
theorem ay {i j}:DE X (.Constant (.str i) j pos) (fC (.str i)):=⟨pe_imp BC (gF fun _ _=>.str i)⟩
theorem sO {j}:DE X (.Constant .none j pos) (fC .none):=⟨pe_imp BD (gF fun _ _=>.non)⟩
theorem iW {x:Str} {i:Int} (hg:Gl X x) (hm:∃ t,X.mg x=some (.int i t)) (hd:(x == ("__debug__" : Str))=false:=by decide):DE X (.Name x pos) (fC (.int i)):=by
 refine ⟨?_⟩
 obtain ⟨t,hm⟩:=hm
 exact pe_imp (gC (v:=.int i) hg hm ⟨t,rfl⟩ hd) (gF fun _ _=>.int i)
theorem qe {x:Str} {i:Str} (hg:Gl X x) (hm:∃ t,X.mg x=some (.str i t)) (hd:(x == ("__debug__" : Str))=false:=by decide):DE X (.Name x pos) (fC (.str i)):=by
 refine ⟨?_⟩
 obtain ⟨t,hm⟩:=hm
 exact pe_imp (gC (v:=.str i) hg hm ⟨t,rfl⟩ hd) (gF fun _ _=>.str i)
end
def op1 (g:PyData→Option PyData) (T:Tp) (w:W):Option (W×Tp):=match view T w with
 | some x=>match g x with
  | some d=>some (.d d,T)
  | none=>none
 | none=>none
def op2 (g:PyData→PyData→Option PyData) (T:Tp) (w1 w2:W):Option (W×Tp):=match view T w1,view T w2 with
 | some x,some y=>match g x y with
  | some d=>some (.d d,T)
  | none=>none
 | _,_=>none
theorem i7 {g:PyData→Option PyData} {T T':Tp} {w1 w:W} (e:op1 g T w1=some (w,T')):∃ x d,view T w1=some x∧g x=some d∧w=.d d∧T'=T:=by
 unfold op1 at e
 split at e
 ·rename_i x h1
  split at e
  ·rename_i d h3
   cases e
   exact ⟨x,d,h1,h3,rfl,rfl⟩
  ·cases e
 ·cases e
theorem kg {g:PyData→PyData→Option PyData} {T T':Tp} {w1 w2 w:W} (e:op2 g T w1 w2=some (w,T')):∃ x y d,view T w1=some x∧view T w2=some y∧g x y=some d∧w=.d d∧T'=T:=by
 unfold op2 at e
 split at e
 ·rename_i x y h1 h2
  split at e
  ·rename_i d h3
   cases e
   exact ⟨x,y,d,h1,h2,h3,rfl,rfl⟩
  ·cases e
 ·cases e
def ag (g:PyData→PyData→Option PyData) (fa fb:FE):FE:=fun ρ T=>bnd (fa ρ T) fun w1 T1=>bnd (fb ρ T1) fun w2 T2=>op2 g T2 w1 w2
def fUn (g:PyData→Option PyData) (fa:FE):FE:=fun ρ T=>bnd (fa ρ T) fun w1 T1=>op1 g T1 w1
def gi (K:Frag) (r:R2) (g:PyData→PyData→Option PyData):Prop:=∀ (O:Addr→Prop) (ts:List Addr) (H:Hp) (T:Tp) (v1 v2:V) (x y d:PyData) (Q:VK),HC K O ts H T→Vw K O H v1 x→Vw K O H v2 y→g x y=some d →
 (∀ v H',SameX ts H H'→HC K O ts H' T→Rep K O H' v d→Q v H')→r v1 v2 H Q
def Ej (K:Frag) (r:V→Hp→VK→Prop) (g:PyData→Option PyData):Prop:=∀ (O:Addr→Prop) (ts:List Addr) (H:Hp) (T:Tp) (v1:V) (x d:PyData) (Q:VK),HC K O ts H T→Vw K O H v1 x→g x=some d →
 (∀ v H',SameX ts H H'→HC K O ts H' T→Rep K O H' v d→Q v H')→r v1 H Q
def OpD (X:Cx) (f:Value→Value→Sem Value) (g:PyData→PyData→Option PyData):Prop:=∃ r,OpR X f r∧gi X.K r g
def IxD (X:Cx) (g:PyData→PyData→Option PyData):Prop:=∃ r,IxR X r∧gi X.K r g
theorem j9 {K:Frag} {r:R2} {g:PyData→PyData→Option PyData} {fa fb:FE} (snd:gi K r g) {σ:L2.St} {H:Hp} {Q:VK} (h:lift K (ag g fa fb) σ H Q):tOp r (lift K fa) (lift K fb) σ H Q:=by
 obtain ⟨O,ts,ρ,T,w,T',hc,re,e,q⟩:=h
 obtain ⟨w1,T1,e1,e⟩:=aT e
 obtain ⟨w2,T2,e2,e⟩:=aT e
 obtain ⟨x,y,d,h1,h2,h3,rfl,rfl⟩:=kg e
 refine ⟨O,ts,ρ,T,w1,T1,hc,re,e1,fun v1 H1 s1 hc1 r1=>?_⟩
 refine ⟨O,ts,ρ,T1,w2,T',hc1,re.mono hc s1,e2,fun v2 H2 s2 hc2 r2=>?_⟩
 exact snd O ts H2 T' v1 v2 x y d Q hc2 (hc2.view (r1.mono hc1 s2) h1) (hc2.view r2 h2) h3 fun v H' s3 hc3 r3=>q v H' (s1.trans (s2.trans s3)) hc3 r3
noncomputable def asB:W→Option Bool
 | .d (.bool b)=>some b
 | _=>none
theorem ky {w:W} {b:Bool} (h:asB w=some b):w=.d (.bool b):=by
 unfold asB at h
 split at h
 ·cases h; rfl
 ·cases h
def aH (f:FE):FT:=fun ρ T=>bnd (f ρ T) fun w T1=>match asB w with
 | some b=>some (b,T1)
 | none=>none
theorem qo {K:Frag} {f:FE} {σ:L2.St} {H:Hp} {Q:Bool→Hp→Prop} (h:liftT K (aH f) σ H Q):lift K f σ H fun x H'=>∃ k,x=.bl k∧Q k H':=by
 obtain ⟨O,ts,ρ,T,w,T',hc,re,e,q⟩:=h
 obtain ⟨w1,T1,e1,e⟩:=aT e
 refine ⟨O,ts,ρ,T,w1,T1,hc,re,e1,fun v1 H1 s1 hc1 r1=>?_⟩
 split at e
 ·rename_i b hb
  cases e
  have hw:=ky hb
  subst hw
  cases (show Rep K O H1 v1 _ from r1)
  exact ⟨_,rfl,q H1 s1 hc1⟩
 ·cases e
section
variable {X:Cx} {pos:Pos} {a b c:Expr} {fa fb fc:FE} {g g':PyData→PyData→Option PyData}
theorem aP {op:Operator} (ho:OpD X (binaryOp op) g) (ha:DE X a fa) (hb:DE X b fb):DE X (.BinOp a op b pos) (ag g fa fb):=by
 refine ⟨?_⟩
 obtain ⟨r,hr,snd⟩:=ho
 exact pe_imp (CW hr ha.pe hb.pe) fun σ H Q=>j9 snd
theorem bE {op:CmpOp} (ho:OpD X (compareOp op) g) (ha:DE X a fa) (hb:DE X b fb) (hm:behindInMarks op b=false:=by first | exact se _ | with_unfolding_all rfl):DE X (.Compare a [op] [b] pos) (ag g fa fb):=by
 refine ⟨?_⟩
 obtain ⟨r,hr,snd⟩:=ho
 exact pe_imp (An hr ha.pe hb.pe hm) fun σ H Q=>j9 snd
theorem aN {op:CmpOp} (ho:OpD X (compareOp op) g) (ha:DE X a fa) (hb:DE X b fb) (hm:behindInMarks op b=false:=by first | exact se _ | with_unfolding_all rfl):DT X (.Compare a [op] [b] pos) (aH (ag g fa fb)):=by
 refine ⟨?_⟩
 obtain ⟨r,hr,snd⟩:=ho
 exact kf (Ag hr ha.pe hb.pe hm) fun σ H Q h=>j9 snd (qo h)
theorem av (ho:IxD X g) (ha:DE X a fa) (hb:DE X b fb) (hs:rB b:=by exact fun _ _=>rfl):DE X (.Subscript a b pos) (ag g fa fb):=by
 refine ⟨?_⟩
 obtain ⟨r,hr,snd⟩:=ho
 exact pe_imp (CZ hr ha.pe hb.pe hs) fun σ H Q=>j9 snd
def gI (g g':PyData→PyData→Option PyData) (fa fb fc:FE):FE:=fun ρ T=>bnd (fa ρ T) fun w1 T1=>bnd (fb ρ T1) fun w2 T2=>bnd (op2 g T2 w1 w2) fun w T3=>match asB w with
 | some b=>if b=true then bnd (fc ρ T3) fun w3 T4=>op2 g' T4 w2 w3 else some (.d (.bool false),T3)
 | none=>none
theorem pB {K:Frag} {r r':R2} (snd:gi K r g) (snd':gi K r' g') {σ:L2.St} {H:Hp} {Q:VK} (h:lift K (gI g g' fa fb fc) σ H Q):mL r r' (lift K fa) (lift K fb) (lift K fc) σ H Q:=by
 obtain ⟨O,ts,ρ,T,w,T',hc,re,e,q⟩:=h
 obtain ⟨w1,T1,e1,e⟩:=aT e
 obtain ⟨w2,T2,e2,e⟩:=aT e
 obtain ⟨wz,T3,e3,ez⟩:=aT e
 obtain ⟨x,y,d,h1,h2,h3,rfl,rfl⟩:=kg e3
 clear e
 refine ⟨O,ts,ρ,T,w1,T1,hc,re,e1,fun v1 H1 s1 hc1 r1=>?_⟩
 refine ⟨O,ts,ρ,T1,w2,T3,hc1,re.mono hc s1,e2,fun v2 H2 s2 hc2 r2=>?_⟩
 refine snd O ts H2 T3 v1 v2 x y d _ hc2 (hc2.view (r1.mono hc1 s2) h1) (hc2.view r2 h2) h3 fun v H3 s3 hc3 r3=>?_
 split at ez
 ·rename_i b hb
  have hd:=ky hb
  injection hd with hd
  subst hd
  cases r3
  cases b with
  | true=>
   rw [if_pos rfl] at ez
   refine ⟨true,rfl,d6 ?_⟩
   obtain ⟨w3,T4,e4,e5⟩:=aT ez
   obtain ⟨x',y',d',h1',h2',h3',rfl,rfl⟩:=kg e5
   refine ⟨O,ts,ρ,T3,w3,T',hc3,(re.mono hc (s1.trans (s2.trans s3))),e4,fun v3 H4 s4 hc4 r4=>?_⟩
   exact snd' O ts H4 T' v2 v3 x' y' d' Q hc4 (hc4.view (r2.mono hc2 (s3.trans s4)) h1') (hc4.view r4 h2') h3' fun v H' s5 hc5 r5=>q v H' (s1.trans (s2.trans (s3.trans (s4.trans s5)))) hc5 r5
  | false=>
   rw [if_neg Bool.false_ne_true] at ez
   cases ez
   exact ⟨false,rfl,eU (q _ H3 (s1.trans (s2.trans s3)) hc3 (.bl false))⟩
 ·cases ez
theorem zI {op op':CmpOp} (ho:OpD X (compareOp op) g) (ho':OpD X (compareOp op') g') (ha:DE X a fa) (hb:DE X b fb) (hc:DE X c fc)
  (hm:lastMarks [op,op'] [b,c]=false:=by with_unfolding_all rfl):DE X (.Compare a [op,op'] [b,c] pos) (gI g g' fa fb fc):=by
 refine ⟨?_⟩
 obtain ⟨r,hr,snd⟩:=ho
 obtain ⟨r',hr',snd'⟩:=ho'
 exact pe_imp (zd hr hr' ha.pe hb.pe hc.pe hm) fun σ H Q=>pB snd snd'
theorem qa {op op':CmpOp} (ho:OpD X (compareOp op) g) (ho':OpD X (compareOp op') g') (ha:DE X a fa) (hb:DE X b fb) (hc:DE X c fc)
  (hm:lastMarks [op,op'] [b,c]=false:=by with_unfolding_all rfl):DT X (.Compare a [op,op'] [b,c] pos) (aH (gI g g' fa fb fc)):=by
 refine ⟨?_⟩
 obtain ⟨r,hr,snd⟩:=ho
 obtain ⟨r',hr',snd'⟩:=ho'
 exact kf (yZ hr hr' ha.pe hb.pe hc.pe hm) fun σ H Q h=>pB snd snd' (qo h)
def kU:PyData→Option Bool
 | .none=>some false
 | .bool b=>some b
 | .int i=>some (i != 0)
 | .str y=>if y.length≤sizeLine then some ((y.length:Int) != 0) else none
 | .list xs=>some (!xs.isEmpty)
 | .tuple xs=>some (!xs.isEmpty)
 | .dict _=>none
def kW (T:Tp) (w:W):Option (Bool×Tp):=match view T w with
 | some x=>match kU x with
  | some b=>some (b,T)
  | none=>none
 | none=>none
def aV (f:FE):FT:=fun ρ T=>bnd (f ρ T) fun w T1=>kW T1 w
theorem oj {K:Frag} {O:Addr→Prop} {H:Hp} {vs:List V} {ds:List PyData} (r:Reps K O H vs ds):vs.isEmpty=ds.isEmpty:=by cases r <;> rfl
theorem Bf {K:Frag} {O:Addr→Prop} {H:Hp} {v:V} {x:PyData} {b:Bool} (h:Vw K O H v x) (e:kU x=some b):nL K v H b:=by
 cases x with
 | none=>cases h.non; cases e; rfl
 | bool c=>cases h.bl; cases e; rfl
 | int i=>cases h.int; cases e; rfl
 | str y=>
  cases h.str
  have e':(if y.length≤sizeLine then some ((y.length:Int) != 0) else none)=some b:=e
  split at e'
  ·rename_i hl
   cases e'
   exact ⟨hl,rfl⟩
  ·cases e'
 | list xs=>
  obtain ⟨a,vs,rfl,h1,h2⟩:=h.lst
  cases e
  exact .inl ⟨vs,h1,by rw [oj h2]⟩
 | tuple xs=>
  obtain ⟨a,vs,rfl,h1,h2⟩:=h.tup
  cases e
  exact .inr (.inl ⟨vs,h1.sq,by rw [oj h2]⟩)
 | dict kvs=>
  cases e
theorem a8 (ha:DE X a fa) (he:∀ whole,isTrue a X.env whole=(do let v ← whole; standAt a.pos; holding [v] (truthy v)):=by intro _; rfl):DT X a (aV fa):=by
 refine ⟨?_⟩
 refine kf (yY ha.pe he) fun σ H Q=>?_
 rintro ⟨O,ts,ρ,T,b,T',hc,re,e,q⟩
 obtain ⟨w1,T1,e1,e⟩:=aT e
 refine ⟨O,ts,ρ,T,w1,T1,hc,re,e1,fun v1 H1 s1 hc1 r1=>?_⟩
 unfold kW at e
 split at e
 ·rename_i x h1
  split at e
  ·rename_i k h2
   cases e
   exact ⟨b,Bf (hc1.view r1 h1) h2,q H1 s1 hc1⟩
  ·cases e
 ·cases e
def cM (f g:FT):FT:=fun ρ T=>bnd (f ρ T) fun b T1=>if b=true then g ρ T1 else some (false,T1)
def cF (f g:FT):FT:=fun ρ T=>bnd (f ρ T) fun b T1=>if b=true then some (true,T1) else g ρ T1
def bH (f:FT):FT:=fun ρ T=>bnd (f ρ T) fun b T1=>some (!b,T1)
variable {ta tb:FT} {rest:List Expr}
theorem bL {f:FT} (h:DW X a f):DT X a f:=⟨PW.pt h.pe⟩
theorem dR (ha:DT X a ta):DW X (.BoolOp .And [a] pos) ta:=⟨Ac ha.pe⟩
theorem dH (ha:DT X a ta):DW X (.BoolOp .Or [a] pos) ta:=⟨Bu ha.pe⟩
theorem dj (ha:DT X a ta) (hb:DW X (.BoolOp .And (b::rest) pos) tb):DW X (.BoolOp .And (a::b::rest) pos) (cM ta tb):=by
 refine ⟨?_⟩
 refine rS (Bv ha.pe hb.pe) fun σ H Q=>?_
 rintro ⟨O,ts,ρ,T,b,T',hc,re,e,q⟩
 obtain ⟨b1,T1,e1,e⟩:=aT e
 refine ⟨O,ts,ρ,T,b1,T1,hc,re,e1,fun H1 s1 hc1=>?_⟩
 cases b1 with
 | true=>exact d6 ⟨O,ts,ρ,T1,b,T',hc1,re.mono hc s1,by simpa using e,fun H2 s2 hc2=>q H2 (s1.trans s2) hc2⟩
 | false=>
  have e':some (false,T1)=some (b,T'):=by simpa using e
  cases e'
  exact eU (q H1 s1 hc1)
theorem cU (ha:DT X a ta) (hb:DW X (.BoolOp .Or (b::rest) pos) tb):DW X (.BoolOp .Or (a::b::rest) pos) (cF ta tb):=by
 refine ⟨?_⟩
 refine rS (CO ha.pe hb.pe) fun σ H Q=>?_
 rintro ⟨O,ts,ρ,T,b,T',hc,re,e,q⟩
 obtain ⟨b1,T1,e1,e⟩:=aT e
 refine ⟨O,ts,ρ,T,b1,T1,hc,re,e1,fun H1 s1 hc1=>?_⟩
 cases b1 with
 | false=>exact eU ⟨O,ts,ρ,T1,b,T',hc1,re.mono hc s1,by simpa using e,fun H2 s2 hc2=>q H2 (s1.trans s2) hc2⟩
 | true=>
  have e':some (true,T1)=some (b,T'):=by simpa using e
  cases e'
  exact d6 (q H1 s1 hc1)
theorem b6 (ha:DT X a ta):DT X (.UnaryOp .Not a pos) (bH ta):=by
 refine ⟨?_⟩
 refine kf (Bw ha.pe) fun σ H Q=>?_
 rintro ⟨O,ts,ρ,T,b,T',hc,re,e,q⟩
 obtain ⟨b1,T1,e1,e⟩:=aT e
 cases e
 exact ⟨O,ts,ρ,T,b1,T',hc,re,e1,fun H1 s1 hc1=>q H1 s1 hc1⟩
def bY (f g:FE):FE:=fun ρ T=>bnd (f ρ T) fun w T1=>match asB w with
 | some b=>if b=true then g ρ T1 else some (.d (.bool false),T1)
 | none=>none
def Ed (f g:FE):FE:=fun ρ T=>bnd (f ρ T) fun w T1=>match asB w with
 | some b=>if b=true then some (.d (.bool true),T1) else g ρ T1
 | none=>none
def kN (f:FE):FE:=fun ρ T=>bnd (f ρ T) fun w T1=>match asB w with
 | some b=>some (.d (.bool (!b)),T1)
 | none=>none
theorem cQ {op} (h:DE X a fa):DE X (.BoolOp op [a] pos) fa:=⟨mT h.pe⟩
theorem cz (ha:DE X a fa) (hb:DE X (.BoolOp .And (b::rest) pos) fb):DE X (.BoolOp .And (a::b::rest) pos) (bY fa fb):=by
 refine ⟨?_⟩
 refine pe_imp (r6 ha.pe hb.pe) fun σ H Q=>?_
 rintro ⟨O,ts,ρ,T,w,T',hc,re,e,q⟩
 obtain ⟨w1,T1,e1,e⟩:=aT e
 refine ⟨O,ts,ρ,T,w1,T1,hc,re,e1,fun v1 H1 s1 hc1 r1=>?_⟩
 split at e
 ·rename_i b hb
  have hw:=ky hb
  subst hw
  cases (show Rep X.K O H1 v1 _ from r1)
  cases b with
  | true=>exact ⟨_,rfl,d6 ⟨O,ts,ρ,T1,w,T',hc1,re.mono hc s1,by simpa using e,fun v H2 s2 hc2 r2=>q v H2 (s1.trans s2) hc2 r2⟩⟩
  | false=>
   rw [if_neg Bool.false_ne_true] at e
   cases e
   exact ⟨_,rfl,eU (q _ H1 s1 hc1 (.bl false))⟩
 ·cases e
theorem sN (ha:DE X a fa):DE X (.UnaryOp .Not a pos) (kN fa):=by
 refine ⟨?_⟩
 refine pe_imp (rY ha.pe) fun σ H Q=>?_
 rintro ⟨O,ts,ρ,T,w,T',hc,re,e,q⟩
 obtain ⟨w1,T1,e1,e⟩:=aT e
 refine ⟨O,ts,ρ,T,w1,T1,hc,re,e1,fun v1 H1 s1 hc1 r1=>?_⟩
 split at e
 ·rename_i b hb
  have hw:=ky hb
  subst hw
  cases (show Rep X.K O H1 v1 _ from r1)
  cases e
  exact ⟨_,rfl,q _ H1 s1 hc1 (.bl _)⟩
 ·cases e
def cW (c:FT) (f g:FE):FE:=fun ρ T=>bnd (c ρ T) fun b T1=>if b=true then f ρ T1 else g ρ T1
theorem eN (hc:DT X c ta) (ha:DE X a fa) (hb:DE X b fb):DE X (.IfExp c a b pos) (cW ta fa fb):=by
 refine ⟨?_⟩
 refine pe_imp (y9 hc.pe ha.pe hb.pe) fun σ H Q=>?_
 rintro ⟨O,ts,ρ,T,w,T',hc,re,e,q⟩
 obtain ⟨b1,T1,e1,e⟩:=aT e
 refine ⟨O,ts,ρ,T,b1,T1,hc,re,e1,fun H1 s1 hc1=>?_⟩
 cases b1 with
 | true=>exact d6 ⟨O,ts,ρ,T1,w,T',hc1,re.mono hc s1,by simpa using e,fun v H2 s2 hc2 r2=>q v H2 (s1.trans s2) hc2 r2⟩
 | false=>exact eU ⟨O,ts,ρ,T1,w,T',hc1,re.mono hc s1,by simpa using e,fun v H2 s2 hc2 r2=>q v H2 (s1.trans s2) hc2 r2⟩
theorem Dw {op:UnaryOp} {r:V→Hp→VK→Prop} {g1:PyData→Option PyData} (hr:UnR X (unaryOp op) r) (snd:Ej X.K r g1) (ha:DE X a fa):DE X (.UnaryOp op a pos) (fUn g1 fa):=by
 refine ⟨?_⟩
 refine pe_imp (CU hr ha.pe) fun σ H Q=>?_
 rintro ⟨O,ts,ρ,T,w,T',hc,re,e,q⟩
 obtain ⟨w1,T1,e1,e⟩:=aT e
 obtain ⟨x,d,h1,h3,rfl,rfl⟩:=i7 e
 refine ⟨O,ts,ρ,T,w1,T',hc,re,e1,fun v1 H1 s1 hc1 r1=>?_⟩
 exact snd O ts H1 T' v1 x d Q hc1 (hc1.view r1 h1) h3 fun v H' s3 hc3 r3=>q v H' (s1.trans s3) hc3 r3
end
def ai:FA:=fun _ T=>some ([],T)
def ae (f:FE) (g:FA):FA:=fun ρ T=>bnd (f ρ T) fun w T1=>bnd (g ρ T1) fun ws T2=>some (w::ws,T2)
def dw:List W→Option (List PyData)
 | []=>some []
 | .d x::r=>match dw r with
  | some xs=>some (x::xs)
  | none=>none
 | _::_=>none
theorem iX {K:Frag} {O:Addr→Prop} {ts:List Addr} {H:Hp}:∀ {vs:List V} {ws:List W} {xs:List PyData},eP K O ts H vs ws→dw ws=some xs→Reps K O H vs xs
 | _,[],_,.nil,e=>by cases e; exact .nil
 | _,.d x::r,xs,.cons h t,e=>by
  unfold dw at e
  split at e
  ·rename_i ys h2
   cases e
   exact .cons h (iX t h2)
  ·cases e
 | _,.tp _::_,_,.cons _ _,e=>by cases e
 | _,.loc _::_,_,.cons _ _,e=>by cases e
def aD (mk:List PyData→PyData) (f:FA):FE:=fun ρ T=>bnd (f ρ T) fun ws T1=>match dw ws with
 | some xs=>if xs.length≤1000 then some (.d (mk xs),T1) else none
 | none=>none
theorem j4 {n:Nat} (h:n≤1000):n≤sizeLine:=Nat.le_trans h (by decide)
def eQ (X:Cx) (f:Value) (g:List PyData→Option PyData):Prop:=∃ r,CallR X f r∧∀ (O:Addr→Prop) (ts:List Addr) (H:Hp) (T:Tp) (vs:List V) (xs:List PyData) (d:PyData) (Q:VK),HC X.K O ts H T→Vws X.K O H vs xs→g xs=some d →
 (∀ v H',SameX ts H H'→HC X.K O ts H' T→Rep X.K O H' v d→Q v H')→r vs H Q
def fCB (g:List PyData→Option PyData) (f:FA):FE:=fun ρ T=>bnd (f ρ T) fun ws T1=>match views T1 ws with
 | some xs=>match g xs with
  | some d=>some (.d d,T1)
  | none=>none
 | none=>none
section
variable {X:Cx} {pos p:Pos} {e:Expr} {es:List Expr} {f:FE} {g:FA}
theorem aj:DA X [] ai:=by
 refine ⟨?_⟩
 refine r8 bX fun σ H Q=>?_
 rintro ⟨O,ts,ρ,T,w,T',hc,re,e,q⟩
 cases e
 exact q [] H (.refl _ _) hc .nil
theorem ah (ha:DE X e f) (hr:DA X es g) (hs:starEach (e::es) X.env=(false,eval e X.env)::starEach es X.env:=by exact b5 rfl):DA X (e::es) (ae f g):=by
 refine ⟨?_⟩
 refine r8 (bu ha.pe hr.pe hs) fun σ H Q=>?_
 rintro ⟨O,ts,ρ,T,w,T',hc,re,e,q⟩
 obtain ⟨w1,T1,e1,e⟩:=aT e
 obtain ⟨ws,T2,e2,e⟩:=aT e
 cases e
 refine ⟨O,ts,ρ,T,w1,T1,hc,re,e1,fun v1 H1 s1 hc1 r1=>?_⟩
 exact ⟨O,ts,ρ,T1,ws,_,hc1,re.mono hc s1,e2,fun vs H2 s2 hc2 r2=>q _ H2 (s1.trans s2) hc2 (.cons (r1.mono hc1 s2) r2)⟩
theorem qr {mk:List PyData→PyData} {g:FA} {ρ:Rho} {T T':Tp} {w:W} (e:aD mk g ρ T=some (w,T')):∃ ws xs,g ρ T=some (ws,T')∧dw ws=some xs∧xs.length≤1000∧w=.d (mk xs):=by
 obtain ⟨ws,T1,e1,e⟩:=aT e
 split at e
 ·rename_i xs h1
  split at e
  ·rename_i h2
   cases e
   exact ⟨ws,xs,e1,h1,h2,rfl⟩
  ·cases e
 ·cases e
theorem aS {x1} (h:DA X es g):DE X (.Tuple es x1 pos) (aD .tuple g):=by
 refine ⟨?_⟩
 refine pe_imp (mS h.pe) fun σ H Q=>?_
 rintro ⟨O,ts,ρ,T,w,T',hc,re,e,q⟩
 obtain ⟨ws,xs,e1,h1,h2,rfl⟩:=qr e
 refine ⟨O,ts,ρ,T,ws,T',hc,re,e1,fun vs H1 s1 hc1 r1=>?_⟩
 have rs:=iX r1 h1
 refine ⟨j4 (by rw [rs.length]; exact h2),fun p hp=>?_⟩
 exact q _ _ (s1.trans (.new hp _)) (hc1.new hp _) (hc1.newT hp rs)
theorem cR (h:DA X es g):DE X (.List es pos) (aD .list g):=by
 refine ⟨?_⟩
 refine pe_imp (i6 h.pe) fun σ H Q=>?_
 rintro ⟨O,ts,ρ,T,w,T',hc,re,e,q⟩
 obtain ⟨ws,xs,e1,h1,h2,rfl⟩:=qr e
 refine ⟨O,ts,ρ,T,ws,T',hc,re,e1,fun vs H1 s1 hc1 r1=>?_⟩
 have rs:=iX r1 h1
 refine ⟨j4 (by rw [rs.length]; exact h2),fun p hp=>?_⟩
 exact q _ _ (s1.trans (.new hp _)) (hc1.new hp _) (hc1.newL hp rs)
theorem sT {K:Frag} {r:List V→Hp→VK→Prop} {gg:List PyData→Option PyData} (snd:∀ (O:Addr→Prop) (ts:List Addr) (H:Hp) (T:Tp) (vs:List V) (xs:List PyData) (d:PyData) (Q:VK),HC K O ts H T→Vws K O H vs xs→gg xs=some d →
  (∀ v H',SameX ts H H'→HC K O ts H' T→Rep K O H' v d→Q v H')→r vs H Q) {σ:L2.St} {H:Hp} {Q:VK} (h:lift K (fCB gg g) σ H Q):tCB r (tN K g) σ H Q:=by
 obtain ⟨O,ts,ρ,T,w,T',hc,re,e,q⟩:=h
 obtain ⟨ws,T1,e1,e⟩:=aT e
 refine ⟨O,ts,ρ,T,ws,T1,hc,re,e1,fun vs H1 s1 hc1 r1=>?_⟩
 split at e
 ·rename_i xs h1
  split at e
  ·rename_i d h2
   cases e
   exact snd O ts H1 T' vs xs d Q hc1 (hc1.views r1 h1) h2 fun v H' s3 hc3 r3=>q v H' (s1.trans s3) hc3 r3
  ·cases e
 ·cases e
theorem bt {x:Str} {id:String} {gg:List PyData→Option PyData} (hc:eQ X (.builtin id) gg) (hg:Gl X x) (hm:X.mg x=none) (hv:bootBuiltins x=some (.builtin id)) (ha:DA X (e::es) g) (hn:x≠"__name__":=by decide) (hdb:(x == ("__debug__" : Str))=false:=by decide)
  (he:starEach (e::es) X.env=(false,eval e X.env)::starEach es X.env:=by exact b5 rfl) (hpl:(backTo pos (starEach es X.env)).any (·.1)=false:=by exact c8 rfl):DE X (.Call (.Name x p) (e::es) [] pos) (fCB gg g):=by
 refine ⟨?_⟩
 obtain ⟨r,hr,snd⟩:=hc
 exact pe_imp (fS hr hg hm hv ha.pe hn hdb he hpl) fun σ H Q h=>sT snd h
theorem cx {x:Str} {id:String} {gg:List PyData→Option PyData} (hc:eQ X (.type id) gg) (hg:Gl X x) (hm:X.mg x=none) (hv:bootBuiltins x=some (.type id)) (ha:DA X (e::es) g) (hn:x≠"__name__":=by decide) (hdb:(x == ("__debug__" : Str))=false:=by decide)
  (he:starEach (e::es) X.env=(false,eval e X.env)::starEach es X.env:=by exact b5 rfl) (hpl:(backTo pos (starEach es X.env)).any (·.1)=false:=by exact c8 rfl):DE X (.Call (.Name x p) (e::es) [] pos) (fCB gg g):=by
 refine ⟨?_⟩
 obtain ⟨r,hr,snd⟩:=hc
 exact pe_imp (lM hr hg hm hv ha.pe hn hdb he hpl) fun σ H Q h=>sT snd h
end
abbrev FI:=Rho→Tp→Option (List PyData×Tp)
def Eb (K:Frag) (tl:TE):TI:=fun σ H R=>tl σ H fun x H1=>(∃ a xs,x=.ref a∧SqL K H1 a xs∧(xs.length≤sizeLine→R (Itl K a) H1))∨(∃ a xs,x=.ref a∧SqT K H1 a xs∧(xs.length≤sizeLine→R (Itt K a) H1))∨(∃ z,x=.str z∧R (Its z) H1)∨∃ a o kvs,x=.ref a∧H1 a=some (.frz o (.dK kvs))∧(kvs.length≤sizeLine→R (Itd a o kvs) H1)
theorem By {X:Cx} {tg l:Expr} {tl:TE} (hl:PE X l tl):PI X tg l (Eb X.K tl):=by
 intro pins s σ H R I h
 refine thn (hl pins s σ H _ I h) fun v s1 ⟨x,H1,I1,r1,q1⟩=>?_
 have fk:∀ b∈[s1.heap.objs.size],cq X pins H1 b:=fun b hb=>by
  have e:b=s1.heap.objs.size:=by simpa using hb
  subst e
  exact I1.fpOk (Nat.le_refl _) (I1.hok.fresh (Nat.le_refl _))
 rcases q1 with ⟨a,xs,e,hq,q⟩ | ⟨a,xs,e,hq,q⟩ | ⟨z,e,q⟩ | ⟨a,o,kvs,e,hq,q⟩
 ·subst e
  cases r1
  obtain ⟨its,rv,p,hz⟩:=I1.list hq
  refine wpAny_pyIter_list p.isList ?_
  exact ⟨s1.heap.objs.size,[s1.heap.objs.size],_,_,H1,rfl,I1.kept (t':=s1.toks) fun b o e=>Heap.get?_push_of_some _ e,xJ a _,⟨_,Heap.get?_push_size _ rfl,rfl,rfl⟩,fk,q hz⟩
 ·subst e
  cases r1
  obtain ⟨its,rv,p,hz⟩:=I1.tuple hq
  refine wpAny_pyIter_tuple (show s1.heap.IsTuple a its.toArray from p) ?_
  exact ⟨s1.heap.objs.size,[s1.heap.objs.size],_,_,H1,rfl,I1.kept (t':=s1.toks) fun b o e=>Heap.get?_push_of_some _ e,wK a _,⟨_,Heap.get?_push_size _ rfl,rfl,rfl⟩,fk,q hz⟩
 ·subst e
  obtain ⟨t,rfl⟩:=r1
  cases ha:z.cps.all (· < 128) with
  | false=>
   refine wpAny_pyIter_wide ha ?_
   exact ⟨s1.heap.objs.size,[s1.heap.objs.size],_,_,H1,rfl,I1.kept (t':=s1.toks) fun b o e=>Heap.get?_push_of_some _ e,pJ z t "str_iterator" _ (.inr rfl),⟨_,Heap.get?_push_size _ rfl,rfl,rfl⟩,fk,q⟩
  | true=>
   refine wpAny_pyIter_ascii ha ?_
   exact ⟨s1.heap.objs.size,[s1.heap.objs.size],_,_,H1,rfl,I1.kept (t':=s1.toks) fun b o e=>Heap.get?_push_of_some _ e,pJ z t "str_ascii_iterator" _ (.inl rfl),⟨_,Heap.get?_push_size _ rfl,rfl,rfl⟩,fk,q⟩
 ·subst e
  cases r1
  obtain ⟨z,y,vs,kv,dd⟩:=gx I1.hok hq
  refine wpAny_pyIter_dict y dd ?_
  exact ⟨s1.heap.objs.size,[s1.heap.objs.size],_,_,H1,rfl,I1.kept (t':=s1.toks) fun b o e=>Heap.get?_push_of_some _ e,xM a _ o kvs,⟨_,Heap.get?_push_size _ rfl,rfl,by rw [kv.length]; rfl⟩,fk,q z⟩
def ItOk (K:Frag) (O:Addr→Prop) (H1:Hp) (J:It) (ds:List PyData):Prop:=∀ O' H',Le O H1 O' H'→(∀ i,i < ds.length→J.go i H')∧J.stop ds.length H'∧∀ i v H'',J.yld i H' v H''→i < ds.length→H''=H'∧∃ d,ds[i]? = some d∧Rep K O' H' v d
inductive LiftIP (K:Frag) (f:FI) (σ:L2.St) (H:Hp) (R:It→Hp→Prop):Prop where
 | mk (O:Addr→Prop) (ts:List Addr) (ρ:Rho) (T:Tp) (ds:List PyData) (T':Tp) (hc:HC K O ts H T) (re:RelE K O ts H σ ρ) (e:f ρ T=some (ds,T')) (q:∀ J H1,SameX ts H H1→HC K O ts H1 T'→ItOk K O H1 J ds→ds.length≤sizeLine→R J H1):LiftIP K f σ H R
def nq (K:Frag) (f:FI):TI:=fun σ H R=>LiftIP K f σ H R
structure DI (X:Cx) (tg e:Expr) (f:FI):Prop where
 pe:PI X tg e (nq X.K f)
theorem rX {X:Cx} {tg e:Expr} {t t':TI} (h:PI X tg e t) (i:∀ σ H Q,t' σ H Q→t σ H Q):PI X tg e t':=fun pins s σ H Q I q=>h pins s σ H Q I (i σ H Q q)
def signs (z:Str):List PyData:=z.cps.toList.map fun c=>.str ⟨#[c]⟩
def gH:PyData→Option (List PyData)
 | .list xs=>some xs
 | .tuple xs=>some xs
 | .str z=>if z.length≤sizeLine then some (signs z) else none
 | .dict ds=>some (ds.map (·.1))
 | _=>none
def bD (f:FE):FI:=fun ρ T=>bnd (f ρ T) fun w T1=>match w with
 | .d x=>match gH x with
  | some xs=>some (xs,T1)
  | none=>none
 | _=>none
theorem ItOk.lst {K:Frag} {O:Addr→Prop} {H1:Hp} {a:Addr} {vs:List V} {ds:List PyData} (h:LstAt K O H1 a vs) (r:Reps K O H1 vs ds):ItOk K O H1 (Itl K a) ds:=fun O' H' le=>by
 have sq:=(h.mono le).sq
 have hl:=r.length
 refine ⟨fun i hi=>⟨vs,vs[i]'(by omega),sq,by simp⟩,⟨vs,sq,by omega⟩,fun i v H'' y hi=>?_⟩
 obtain ⟨e,y⟩:=y
 obtain ⟨d,h1,h2⟩:=r.get (y vs sq)
 exact ⟨e,d,h1,h2.mono le⟩
theorem ItOk.tup {K:Frag} {O:Addr→Prop} {H1:Hp} {a:Addr} {vs:List V} {ds:List PyData} (h:TupAt K O H1 a vs) (r:Reps K O H1 vs ds):ItOk K O H1 (Itt K a) ds:=fun O' H' le=>by
 have sq:=(h.mono le).sq
 have hl:=r.length
 refine ⟨fun i hi=>⟨vs,vs[i]'(by omega),sq,by simp⟩,⟨vs,sq,by omega⟩,fun i v H'' y hi=>?_⟩
 obtain ⟨e,y⟩:=y
 obtain ⟨d,h1,h2⟩:=r.get (y vs sq)
 exact ⟨e,d,h1,h2.mono le⟩
theorem ItOk.str {K:Frag} {O:Addr→Prop} {H1:Hp} {z:Str}:ItOk K O H1 (Its z) (signs z):=fun O' H' le=>by
 have hl:(signs z).length=z.cps.size:=by simp [signs]
 refine ⟨fun i hi=>by rw [hl] at hi; exact hi,by rw [hl]; exact Nat.le_refl _,fun i v H'' y hi=>?_⟩
 obtain ⟨e,c,hc,y⟩:=y
 subst y
 refine ⟨e,.str ⟨#[c]⟩,?_,.str _⟩
 unfold signs
 rw [List.getElem?_map]
 have:z.cps.toList[i]? = some c:=by simpa using hc
 rw [this]
 rfl
theorem jF {K:Frag} {O:Addr→Prop} {H:Hp}:∀ {kvs:List (Key×V)} {ds:List (PyData×PyData)},RepK K O H kvs ds→kvs.length=ds.length
 | _,_,.nil=>rfl
 | _,_,.cons _ t=>congrArg (· + 1) (jF t)
theorem pV {K:Frag} {O:Addr→Prop} {H:Hp}:∀ {kvs:List (Key×V)} {ds:List (PyData×PyData)} {i:Nat} {k:Key} {v:V},RepK K O H kvs ds→kvs[i]? = some (k,v)→(ds.map (·.1))[i]? = some (gc k)
 | _,_,_,_,_,.nil,e=>by simp at e
 | _,_,0,_,_,.cons r _,e=>by simp at e; obtain ⟨rfl,rfl⟩:=e; rfl
 | _,_,i + 1,k,v,.cons _ t,e=>by
  have:=pV (i:=i) t (by simpa using e)
  simpa using this
theorem l9 {K:Frag} {O:Addr→Prop} {H:Hp} (k:Key):Rep K O H (kV k) (gc k):=by
 cases k with
 | inl i=>exact .int i
 | inr x=>exact .str x
theorem ItOk.dct {K:Frag} {O:Addr→Prop} {H1:Hp} {a:Addr} {o:Obj} {kvs:List (Key×V)} {ds:List (PyData×PyData)} (n:¬ O a) (h:H1 a=some (.frz o (.dK kvs))) (r:RepK K O H1 kvs ds):ItOk K O H1 (Itd a o kvs) (ds.map (·.1)):=fun O' H' le=>by
 have h':=(le a _ n h).2
 have hl:=jF r
 refine ⟨fun i hi=>⟨h',by simp at hi; omega⟩,⟨h',by simp [hl]⟩,fun i v H'' y hi=>?_⟩
 obtain ⟨e,k,v0,y1,y2⟩:=y
 subst y2
 exact ⟨e,_,pV r y1,l9 k⟩
theorem cj {X:Cx} {tg e:Expr} {f:FE} (h:DE X e f):DI X tg e (bD f):=by
 refine ⟨?_⟩
 refine rX (By h.pe) fun σ H R=>?_
 rintro ⟨O,ts,ρ,T,ds,T',hc,re,e,q⟩
 obtain ⟨w1,T1,e1,e⟩:=aT e
 refine ⟨O,ts,ρ,T,w1,T1,hc,re,e1,fun v1 H1 s1 hc1 r1=>?_⟩
 split at e
 ·rename_i x
  split at e
  ·rename_i xs h1
   cases e
   have rr:Rep X.K O H1 v1 x:=r1
   cases x with
   | list ys=>
    cases h1
    cases rr with
    | lst t r=>exact .inl ⟨_,_,rfl,t.sq,fun hz=>q _ H1 s1 hc1 (.lst t r) (by rw [← r.length]; exact hz)⟩
   | tuple ys=>
    cases h1
    cases rr with
    | tup t r=>exact .inr (.inl ⟨_,_,rfl,t.sq,fun hz=>q _ H1 s1 hc1 (.tup t r) (by rw [← r.length]; exact hz)⟩)
   | str z=>
    have h1':(if z.length≤sizeLine then some (signs z) else none)=some _:=h1
    split at h1'
    ·rename_i hz
     cases h1'
     cases rr
     exact .inr (.inr (.inl ⟨z,rfl,q _ H1 s1 hc1 .str (by rw [show (signs z).length=z.cps.size by simp [signs]]; exact hz)⟩))
    ·cases h1'
   | dict ys=>
    cases h1
    cases rr with
    | dct n t r=>exact .inr (.inr (.inr ⟨_,_,_,rfl,t,fun hz=>q _ H1 s1 hc1 (.dct n t r) (by rw [List.length_map,← jF r]; exact hz)⟩))
   | _=>cases h1
  ·cases e
 ·cases e
def bF (lo:Int) (n:Nat):List PyData:=(List.range n).map fun (i:Nat)=>.int (lo + (i:Int))
theorem ItOk.rng {K:Frag} {O:Addr→Prop} {H1:Hp} {lo:Int} {n:Nat}:ItOk K O H1 (Itr lo n) (bF lo n):=fun O' H' le=>by
 have hl:(bF lo n).length=n:=by simp [bF]
 refine ⟨fun i hi=>by rw [hl] at hi; exact hi,by rw [hl]; exact Nat.le_refl _,fun i v H'' y hi=>?_⟩
 obtain ⟨e,y⟩:=y
 subst y
 rw [hl] at hi
 exact ⟨e,.int (lo + i),by simp [bF,hi],.int _⟩
def je (j:Int):Bool:=decide (-1000000≤j∧j≤16777216)
theorem Bt {j:Int} (h:je j=true) : -(2 ^ 62)≤j∧j < 2 ^ 62∧j.toNat≤sizeLine:=by
 have h':=of_decide_eq_true h
 have e:sizeLine=16777216:=by decide
 omega
def eM (f:FE):FI:=fun ρ T=>bnd (f ρ T) fun w T1=>match w with
 | .d (.int j)=>if je j=true then some (bF 0 j.toNat,T1) else none
 | _=>none
theorem iq {X:Cx} {tg a:Expr} {f:FE} {p pos:Pos} (hg:Gl X "range") (hm:X.mg "range" = none) (ha:DE X a f) (hs:starEach [a] X.env=[(false,eval a X.env)]:=by exact pO rfl):DI X tg (.Call (.Name "range" p) [a] [] pos) (eM f):=by
 refine ⟨?_⟩
 refine rX (x8 (ta:=jd (lift X.K f) kX) hg hm (bu ha.pe bX (by rw [hs]; rfl)) hs) fun σ H R=>?_
 rintro ⟨O,ts,ρ,T,ds,T',hc,re,e,q⟩
 obtain ⟨w1,T1,e1,e⟩:=aT e
 refine ⟨O,ts,ρ,T,w1,T1,hc,re,e1,fun v1 H1 s1 hc1 r1=>?_⟩
 split at e
 ·rename_i j
  split at e
  ·rename_i h1
   cases e
   cases (show Rep X.K O H1 v1 _ from r1)
   obtain ⟨b1,b2,b3⟩:=Bt h1
   exact ⟨j,rfl,b1,b2,q _ H1 s1 hc1 .rng (by simpa [bF] using b3)⟩
  ·cases e
 ·cases e
def bN (c:FT) (e:FE) (ρ:Rho):List PyData→Tp→Option (List PyData×Tp)
 | [],T=>some ([],T)
 | d::r,T=>bnd (c (some (.d d)::ρ) T) fun b T1=>if b=true then bnd (e (some (.d d)::ρ) T1) fun w T2=>match w with
   | .d y=>bnd (bN c e ρ r T2) fun ys T3=>some (y::ys,T3)
   | _=>none
  else bN c e ρ r T1
def cB (it:FI) (c:FT) (e:FE):FE:=fun ρ T=>bnd (it ρ T) fun ds T1=>bnd (bN c e ρ ds T1) fun ys T2=>some (.d (.list ys),T2)
def bG:FT:=fun _ T=>some (true,T)
theorem RelE.cons {K:Frag} {O:Addr→Prop} {ts:List Addr} {H:Hp} {σ:L2.St} {ρ:Rho} {v:V} {d:PyData} (re:RelE K O ts H σ ρ) (r:Rep K O H v d):RelE K O ts H (some v::σ) (some (.d d)::ρ):=fun i w e=>by
 cases i with
 | zero=>cases e; exact ⟨v,rfl,r⟩
 | succ i=>
  obtain ⟨u,h1,h2⟩:=re i w (by simpa using e)
  exact ⟨u,by simpa using h1,h2⟩
theorem AN {K:Frag} {O:Addr→Prop} {ts:List Addr} {H1:Hp} {σ:L2.St} {ρ:Rho} {J:It} {c:FT} {e:FE} {ds ys:List PyData} {T1 T2:Tp} {Dn:List V→Hp→Prop} (hc:HC K O ts H1 T1) (re:RelE K O ts H1 σ ρ) (ok:ItOk K O H1 J ds) (hz:ds.length≤sizeLine)
  (ee:bN c e ρ ds T1=some (ys,T2)) (q:∀ vs H',SameX ts H1 H'→HC K O ts H' T2→Reps K O H' vs ys→Dn vs H') :
  ∃ W:Nat→Nat→List V→Hp→Prop,(∃ m,W 0 m [] H1)∧nv σ J (liftT K c) (lift K e) W Dn:=by
 refine ⟨fun i m vs H'=>m=ds.length - i∧i≤ds.length∧vs.length≤i∧∃ T dn rs,SameX ts H1 H'∧HC K O ts H' T∧Reps K O H' vs dn∧bN c e ρ (ds.drop i) T=some (rs,T2)∧ys=dn++rs,⟨_,rfl,Nat.zero_le _,Nat.le_refl _,T1,[],ys,.refl _ _,hc,.nil,ee,rfl⟩,?_⟩
 rintro i m vs H' ⟨rfl,hi,hv,T,dn,rs,s1,hc1,rv,ec,ey⟩
 obtain ⟨k1,k2,k3⟩:=ok O H' (hc.le s1)
 by_cases hlt:i < ds.length
 ·refine .inr ⟨k1 i hlt,by omega,fun vs' H2=>i + 1≤ds.length∧vs'.length≤i + 1∧∃ T dn rs,SameX ts H1 H2∧HC K O ts H2 T∧Reps K O H2 vs' dn∧bN c e ρ (ds.drop (i + 1)) T=some (rs,T2)∧ys=dn++rs,fun vs' H2 n=>⟨ds.length - (i + 1),by omega,rfl,n⟩,fun v H2 y=>?_⟩
  obtain ⟨e2,d,hd,rd⟩:=k3 i v H2 y hlt
  subst e2
  have hdr:ds.drop i=d::ds.drop (i + 1):=by
   rw [List.drop_eq_getElem_cons hlt]
   have:=(List.getElem?_eq_some_iff.mp hd).2
   rw [this]
  rw [hdr] at ec
  obtain ⟨b,T3,e3,ec⟩:=aT ec
  refine ⟨O,ts,some (.d d)::ρ,T,b,T3,hc1,(re.mono hc s1).cons rd,e3,fun H3 s3 hc3=>?_⟩
  cases b with
  | false=>
   rw [if_neg Bool.false_ne_true] at ec
   exact eU ⟨hlt,by omega,T3,dn,rs,s1.trans s3,hc3,rv.mono (hc1.le s3),ec,ey⟩
  | true=>
   rw [if_pos rfl] at ec
   obtain ⟨w,T4,e4,ec⟩:=aT ec
   refine d6 ⟨O,ts,some (.d d)::ρ,T3,w,T4,hc3,((re.mono hc s1).cons rd).mono hc1 s3,e4,fun u H4 s4 hc4 r4=>?_⟩
   split at ec
   ·rename_i y
    obtain ⟨zs,T5,e5,ec⟩:=aT ec
    cases ec
    refine ⟨hlt,by simp; omega,T4,dn++[y],zs,s1.trans (s3.trans s4),hc4,(rv.mono (hc1.le (s3.trans s4))).append (.cons r4 .nil),e5,by rw [ey]; simp⟩
   ·cases ec
 ·have e:i=ds.length:=by omega
  subst e
  rw [List.drop_eq_nil_of_le (Nat.le_refl _)] at ec
  cases ec
  rw [List.append_nil] at ey
  subst ey
  exact .inl ⟨k2,by omega,q vs H' s1 hc1 rv⟩
structure DTs (X:Cx) (es:List Expr) (f:FT):Prop where
 pe:PTs X es (liftT X.K f)
theorem c9 {X:Cx}:DTs X [] bG:=⟨fun pins s σ H Q E I h=>by
 refine Af pins s σ H Q E I ?_
 obtain ⟨O,ts,ρ,T,w,T',hc,re,e,q⟩:=h
 cases e
 exact q H (.refl _ _) hc⟩
theorem my {X:Cx} {c:Expr} {f:FT} (hx:X.xe=fun _ _=>False) (h:DT X c f):DTs X [c] f:=⟨Ae hx h.pe⟩
theorem cI {X:Cx} {x:Str} {scope osc:Scope} {N N':List Str} {elt iter:Expr} {ifs:List Expr} {px pos:Pos} {it:FI} {c:FT} {f:FE} (S:CS osc N x scope N') (hi:DI X (.Name x px) iter it)
  (he:∀ C s0 H0 ex,DE (cS X x scope C s0 H0 ex N') elt f) (ht:∀ C s0 H0 ex,DTs (cS X x scope C s0 H0 ex N') ifs c) (hc:X.calm=true:=by rfl) (hs:X.env.scope=osc:=by rfl) (hN:X.N=N:=by rfl)
  (hf:∀ v,foldedSetIterable iter X.env v=pure v:=by intro _; rfl):DE X (.ListComp elt [⟨.Name x px,iter,ifs,0⟩] scope pos) (cB it c f):=by
 refine ⟨?_⟩
 refine pe_imp (zc (wi:=nq X.K it) (tt:=liftT X.K c) (te:=lift X.K f) S hi.pe (fun C s0 H0 ex=>(he C s0 H0 ex).pe) (fun C s0 H0 ex=>(ht C s0 H0 ex).pe) hc hs hN hf) fun σ H Q=>?_
 rintro ⟨O,ts,ρ,T,w,T',hc,re,e,q⟩
 obtain ⟨ds,T1,e1,e⟩:=aT e
 obtain ⟨ys,T2,e2,e⟩:=aT e
 cases e
 refine ⟨O,ts,ρ,T,ds,T1,hc,re,e1,fun J H1 s1 hc1 ok hz=>?_⟩
 exact AN hc1 (re.mono hc s1) ok hz e2 fun vs H' s2 hc2 r2 p hp=>q _ _ (s1.trans (s2.trans (.new hp _))) (hc2.new hp _) (hc2.newL hp r2)
inductive Fl where
 | nx | rt (x:PyData) | ro (x:PyData) | bk | ct
abbrev FS:=Rho→Tp→Option ((Fl×Rho)×Tp)
structure RS (K:Frag) (O₀:Addr→Prop) (H₀:Hp) (F:List ((Addr→Prop)×Hp)) (ts:List Addr) (O:Addr→Prop) (H:Hp) (σ:L2.St) (ρ:Rho) (T:Tp):Prop where
 hc:HC K O ts H T
 re:RelE K O ts H σ ρ
 sub:∀ b,O₀ b→O b
 ots:∀ b∈ts,O₀ b
 same:SameX ts H₀ H
 fresh:∀ (i:Nat) (xs:PyData) (a:Addr),ρ[i]? = some (some (.loc xs))→σ[i]? = some (some (.ref a))→H₀ a=none∧¬ O₀ a
 dist:∀ (i j:Nat) (xs ys:PyData) (v:V),ρ[i]? = some (some (.loc xs))→ρ[j]? = some (some (.loc ys))→σ[i]? = some (some v)→σ[j]? = some (some v)→i=j
 frs:∀ f∈F,Le f.1 f.2 O H
 len:σ.length=ρ.length
def OwnV (K:Frag) (O A:Addr→Prop) (H:Hp) (v:V):PyData→Prop
 | .tuple [x,y]=>∃ p a b,v=.ref p∧a≠b∧(∀ c,A c↔c=a∨c=b)∧¬ O p∧H p=some (.tup [.ref a,.ref b])∧OwnAt K O H a x∧OwnAt K O H b y
 | x=>∃ a,v=.ref a∧(∀ c,A c↔c=a)∧OwnAt K O H a x
theorem OwnV.mono {K:Frag} {O O' A:Addr→Prop} {H:Hp} {v:V} {x:PyData} (le:Le O H O' H) (h:OwnV K O A H v x):OwnV K O' A H v x:=by
 unfold OwnV at h ⊢
 split at h
 ·obtain ⟨p,a,b,e1,e2,e3,np,hp,oa,ob⟩:=h
  exact ⟨p,a,b,e1,e2,e3,(le p _ np hp).1,hp,oa.mono (fun _ h=>h) le,ob.mono (fun _ h=>h) le⟩
 ·obtain ⟨a,e,hA,oa⟩:=h
  exact ⟨a,e,hA,oa.mono (fun _ h=>h) le⟩
def uj (K:Frag) (O₀:Addr→Prop) (H₀:Hp) (F:List ((Addr→Prop)×Hp)) (ts:List Addr) (D:Ends) (ρ':Rho) (T':Tp):Fl→Prop
 | .nx=>∀ O' σ' H',RS K O₀ H₀ F ts O' H' σ' ρ' T'→D.nx σ' H'
 | .bk=>∀ O' σ' H',RS K O₀ H₀ F ts O' H' σ' ρ' T'→D.bk σ' H'
 | .ct=>∀ O' σ' H',RS K O₀ H₀ F ts O' H' σ' ρ' T'→D.ct σ' H'
 | .rt x=>∀ v H',SameX ts H₀ H'→HC K O₀ ts H' T'→Rep K O₀ H' v x→D.rt v H'
 | .ro x=>∀ (A:Addr→Prop) v H',SameX ts H₀ H'→(∀ b,A b→H₀ b=none∧¬ O₀ b)→HC K (fun b=>O₀ b∨A b) ts H' T'→OwnV K (fun b=>O₀ b∨A b) A H' v x→D.rt v H'
inductive LiftSP (K:Frag) (f:FS) (D:Ends) (σ:L2.St) (H:Hp):Prop where
 | mk (O₀:Addr→Prop) (H₀:Hp) (F:List ((Addr→Prop)×Hp)) (ts:List Addr) (O:Addr→Prop) (ρ:Rho) (T:Tp) (fl:Fl) (ρ':Rho) (T':Tp) (rs:RS K O₀ H₀ F ts O H σ ρ T) (e:f ρ T=some ((fl,ρ'),T')) (q:uj K O₀ H₀ F ts D ρ' T' fl):LiftSP K f D σ H
def nj (K:Frag) (f:FS):TS:=fun D σ H=>LiftSP K f D σ H
structure DS (X:Cx) (s:Stmt) (f:FS):Prop where
 pe:PS X s (nj X.K f)
structure DSs (X:Cx) (s:List Stmt) (f:FS):Prop where
 pe:PSs X s (nj X.K f)
theorem df {X:Cx} {e:Stmt} {t t':TS} (h:PS X e t) (i:∀ D σ H,t' D σ H→t D σ H):PS X e t':=fun pins s σ H D I q=>h pins s σ H D I (i D σ H q)
theorem me {X:Cx} {e:List Stmt} {t t':TS} (h:PSs X e t) (i:∀ D σ H,t' D σ H→t D σ H):PSs X e t':=fun pins s σ H D I q=>h pins s σ H D I (i D σ H q)
section
variable {K:Frag} {O₀:Addr→Prop} {H₀:Hp} {F:List ((Addr→Prop)×Hp)} {ts:List Addr} {O:Addr→Prop} {H H1:Hp} {σ:L2.St} {ρ:Rho} {T T1:Tp}
theorem RS.step (r:RS K O₀ H₀ F ts O H σ ρ T) (s:SameX ts H H1) (c:HC K O ts H1 T1):RS K O₀ H₀ F ts O H1 σ ρ T1 where
 hc:=c
 re:=r.re.mono r.hc s
 sub:=r.sub
 ots:=r.ots
 same:=r.same.trans s
 fresh:=r.fresh
 dist:=r.dist
 frs:=fun f hf=>(r.frs f hf).trans (r.hc.le s)
 len:=r.len
theorem ft {i j:Nat} {w:W} {xs:PyData} (hw:∀ ys,w≠.loc ys) (e:(ρ.set i (some w))[j]? = some (some (.loc xs))):j≠i∧ρ[j]? = some (some (.loc xs)):=by
 by_cases z:i=j
 ·subst z
  rw [List.getElem?_set_self'] at e
  cases h:ρ[i]? with
  | none=>rw [h] at e; cases e
  | some u=>
   rw [h] at e
   have e':some (some w)=some (some (W.loc xs)):=e
   cases e'
   exact absurd rfl (hw xs)
 ·rw [List.getElem?_set_ne z] at e
  exact ⟨fun q=>z q.symm,e⟩
theorem RS.set {i:Nat} {v:V} {w:W} (r:RS K O₀ H₀ F ts O H σ ρ T) (rw':RepW K O ts H v w) (hw:∀ ys,w≠.loc ys):RS K O₀ H₀ F ts O H (σ.set i (some v)) (ρ.set i (some w)) T where
 hc:=r.hc
 re:=fun j u e=>by
  by_cases z:i=j
  ·subst z
   have hl:i < ρ.length:=by
    have:=(List.getElem?_eq_some_iff.mp e).1
    simpa using this
   rw [List.getElem?_set_self hl] at e
   cases e
   exact ⟨v,by rw [List.getElem?_set_self (by rw [r.len]; exact hl)],rw'⟩
  ·rw [List.getElem?_set_ne z] at e
   obtain ⟨x,h1,h2⟩:=r.re j u e
   exact ⟨x,by rw [List.getElem?_set_ne z]; exact h1,h2⟩
 sub:=r.sub
 ots:=r.ots
 same:=r.same
 fresh:=fun j xs a e1 e2=>by
  obtain ⟨n,e⟩:=ft hw e1
  rw [List.getElem?_set_ne (Ne.symm n)] at e2
  exact r.fresh j xs a e e2
 dist:=fun j k xs ys u e1 e2 e3 e4=>by
  obtain ⟨n1,e1⟩:=ft hw e1
  obtain ⟨n2,e2⟩:=ft hw e2
  rw [List.getElem?_set_ne (Ne.symm n1)] at e3
  rw [List.getElem?_set_ne (Ne.symm n2)] at e4
  exact r.dist j k xs ys u e1 e2 e3 e4
 frs:=r.frs
 len:=by simp [r.len]
theorem RS.ownO {i:Nat} {p:Addr} {o:HO} {xs:PyData} (r:RS K O₀ H₀ F ts O H σ ρ T) (hp:H p=none) (hm:Mut (some o)) (rv:Le O H (fun b=>O b∨b=p) (upd H p o)→OwnAt K (fun b=>O b∨b=p) (upd H p o) p xs):RS K O₀ H₀ F ts (fun b=>O b∨b=p) (upd H p o) (σ.set i (some (.ref p))) (ρ.set i (some (.loc xs))) T:=by
 have le:Le O H (fun b=>O b∨b=p) (upd H p o):=fun a o n e=>by
  have z:a≠p:=cu e hp
  exact ⟨fun q=>q.elim n z,by rw [aR z]; exact e⟩
 have h0:∀ {G:Hp},SameX ts G H→p∉ts→G p=none:=fun {G} s nt=>by
  cases e:G p with
  | none=>rfl
  | some o=>rw [s p o nt e] at hp; cases hp
 have nO:=r.hc.fresh hp
 have nt:p∉ts:=fun z=>nO (r.hc.own p z)
 have old:∀ {j:Nat} {v:V} {w:W},σ[j]? = some (some v)→RepW K O ts H v w→RepW K (fun b=>O b∨b=p) ts (upd H p o) v w:=fun {j v w} e q=>by
  cases w with
  | d x=>exact Rep.mono le q
  | tp k=>exact q
  | loc ys=>
   obtain ⟨a,e1,h1,h2,h3⟩:=q
   exact ⟨a,e1,.inl h1,h2,h3.mono (fun o' q=>by rw [aR (cu q hp)]; exact q) le⟩
 have notp:∀ {j:Nat} {ys:PyData},ρ[j]? = some (some (.loc ys))→σ[j]? = some (some (.ref p))→False:=fun {j ys} e1 e2=>by
  obtain ⟨v,h1,a,ea,h2,h3,h4⟩:=r.re j _ e1
  rw [e2] at h1
  cases h1
  cases ea
  obtain ⟨o',h5⟩:=h4.some
  rw [hp] at h5
  cases h5
 refine ⟨⟨fun b hb=>.inl (r.hc.own b hb),fun b hb=>?_,r.hc.nd,r.hc.len,fun j a ys e1 e2=>?_⟩,fun j w e=>?_,fun b hb=>.inl (r.sub b hb),r.ots,r.same.trans (.new hp _),fun j ys a e1 e2=>?_,fun j k ys zs v e1 e2 e3 e4=>?_,fun f hf=>(r.frs f hf).trans le,by simp [r.len]⟩
 ·by_cases z:b=p
  ·subst z; rw [bh]; exact hm
  ·rw [aR z]
   exact r.hc.trk b (hb.resolve_right z)
 ·exact (r.hc.tape j a ys e1 e2).mono (fun o' h1=>by rw [aR (cu h1 hp)]; exact h1) le
 ·by_cases z:i=j
  ·subst z
   have hl:i < ρ.length:=by
    have:=(List.getElem?_eq_some_iff.mp e).1
    simpa using this
   rw [List.getElem?_set_self hl] at e
   cases e
   exact ⟨.ref p,by rw [List.getElem?_set_self (by rw [r.len]; exact hl)],p,rfl,.inr rfl,nt,rv le⟩
  ·rw [List.getElem?_set_ne z] at e
   obtain ⟨x,h1,h2⟩:=r.re j w e
   exact ⟨x,by rw [List.getElem?_set_ne z]; exact h1,old h1 h2⟩
 ·by_cases z:i=j
  ·subst z
   have hl:i < ρ.length:=by
    have:=(List.getElem?_eq_some_iff.mp e1).1
    simpa using this
   rw [List.getElem?_set_self (by rw [r.len]; exact hl)] at e2
   cases e2
   exact ⟨h0 r.same nt,fun q=>nO (r.sub _ q)⟩
  ·rw [List.getElem?_set_ne z] at e1 e2
   exact r.fresh j ys a e1 e2
 ·by_cases z:i=j
  ·by_cases z':i=k
   ·rw [← z,← z']
   ·exfalso
    subst z
    have hl:i < ρ.length:=by
     have:=(List.getElem?_eq_some_iff.mp e1).1
     simpa using this
    rw [List.getElem?_set_self (by rw [r.len]; exact hl)] at e3
    cases e3
    rw [List.getElem?_set_ne z'] at e2 e4
    exact notp e2 e4
  ·by_cases z':i=k
   ·exfalso
    subst z'
    have hl:i < ρ.length:=by
     have:=(List.getElem?_eq_some_iff.mp e2).1
     simpa using this
    rw [List.getElem?_set_self (by rw [r.len]; exact hl)] at e4
    cases e4
    rw [List.getElem?_set_ne z] at e1 e3
    exact notp e1 e3
   ·rw [List.getElem?_set_ne z] at e1 e3
    rw [List.getElem?_set_ne z'] at e2 e4
    exact r.dist j k ys zs v e1 e2 e3 e4
theorem RS.own {i:Nat} {p:Addr} {vs:List V} {xs:List PyData} (r:RS K O₀ H₀ F ts O H σ ρ T) (hp:H p=none) (rv:Reps K O H vs xs):RS K O₀ H₀ F ts (fun b=>O b∨b=p) (upd H p (.lst vs)) (σ.set i (some (.ref p))) (ρ.set i (some (.loc (.list xs)))) T:=r.ownO hp (.inl ⟨_,rfl⟩) fun le=>⟨vs,bh,rv.mono le⟩
theorem RS.putO {i:Nat} {a:Addr} {o:HO} {xs ys:PyData} (r:RS K O₀ H₀ F ts O H σ ρ T) (e1:ρ[i]? = some (some (.loc xs))) (e2:σ[i]? = some (some (.ref a))) (hm:Mut (some o)) (rv:Le O H O (upd H a o)→OwnAt K O (upd H a o) a ys):RS K O₀ H₀ F ts O (upd H a o) σ (ρ.set i (some (.loc ys))) T:=by
 obtain ⟨v,z1,a',ea,oa,nt,ha⟩:=r.re i _ e1
 rw [e2] at z1
 cases z1
 cases ea
 have hl:i < ρ.length:=(List.getElem?_eq_some_iff.mp e1).1
 obtain ⟨f1,f2⟩:=r.fresh i xs a e1 e2
 have le:Le O H O (upd H a o):=fun b o n e=>⟨n,by rw [aR (show b≠a from fun z=>n (by rw [z]; exact oa))]; exact e⟩
 have back:∀ {j:Nat} {zs:PyData},(ρ.set i (some (W.loc ys)))[j]? = some (some (.loc zs))→∃ ws,ρ[j]? = some (some (.loc ws)):=fun {j zs} e=>by
  by_cases z:i=j
  ·subst z; exact ⟨xs,e1⟩
  ·rw [List.getElem?_set_ne z] at e; exact ⟨zs,e⟩
 refine ⟨⟨r.hc.own,fun b hb=>?_,r.hc.nd,r.hc.len,fun j b zs q1 q2=>?_⟩,fun j w e=>?_,r.sub,r.ots,fun b o n e=>?_,fun j zs b q1 q2=>?_,fun j k zs zs' v q1 q2 q3 q4=>?_,fun f hf=>(r.frs f hf).trans le,by simp [r.len]⟩
 ·by_cases z:b=a
  ·subst z; rw [bh]; exact hm
  ·rw [aR z]; exact r.hc.trk b hb
 ·exact (r.hc.tape j b zs q1 q2).mono (fun o' h1=>by rw [aR (show b≠a from fun z=>nt (by rw [← z]; exact List.mem_of_getElem? q1))]; exact h1) le
 ·by_cases z:i=j
  ·subst z
   rw [List.getElem?_set_self hl] at e
   cases e
   exact ⟨.ref a,e2,a,rfl,oa,nt,rv le⟩
  ·rw [List.getElem?_set_ne z] at e
   obtain ⟨x,h1,h2⟩:=r.re j w e
   refine ⟨x,h1,?_⟩
   cases w with
   | d x=>exact Rep.mono le h2
   | tp k=>exact h2
   | loc zs=>
    obtain ⟨b,eb,k1,k2,k3⟩:=h2
    have n:b≠a:=fun q=>z (r.dist i j xs zs (.ref a) e1 e e2 (by rw [h1,eb,q]))
    exact ⟨b,eb,k1,k2,k3.mono (fun o' q=>by rw [aR n]; exact q) le⟩
 ·have:=r.same b o n e
  rw [aR (show b≠a from fun z=>by rw [z,f1] at e; cases e)]
  exact this
 ·obtain ⟨ws,q⟩:=back q1
  exact r.fresh j ws b q q2
 ·obtain ⟨ws,q⟩:=back q1
  obtain ⟨ws',q'⟩:=back q2
  exact r.dist j k ws ws' v q q' q3 q4
theorem RS.put {i:Nat} {a:Addr} {vs us:List V} {xs ys:List PyData} (r:RS K O₀ H₀ F ts O H σ ρ T) (e1:ρ[i]? = some (some (.loc (.list xs)))) (e2:σ[i]? = some (some (.ref a))) (rv:Reps K O H vs ys):RS K O₀ H₀ F ts O (upd H a (.lst vs)) σ (ρ.set i (some (.loc (.list ys)))) T:=r.putO e1 e2 (.inl ⟨_,rfl⟩) fun le=>⟨vs,bh,rv.mono le⟩
theorem RS.tapeO {n:Nat} {a:Addr} {o:HO} {ys:List PyData} (r:RS K O₀ H₀ F ts O H σ ρ T) (e:ts[n]? = some a) (hm:Mut (some o)) (rv:Le O H O (upd H a o)→RowAt K O (upd H a o) a ys):RS K O₀ H₀ F ts O (upd H a o) σ ρ (T.set n ys):=by
 have am:a∈ts:=List.mem_of_getElem? e
 have le:Le O H O (upd H a o):=fun b o' k q=>⟨k,by rw [aR (show b≠a from fun z=>k (by rw [z]; exact r.hc.own a am))]; exact q⟩
 have sx:SameX ts H (upd H a o):=fun b o' k q=>by rw [aR (show b≠a from fun z=>k (by rw [z]; exact am))]; exact q
 refine ⟨⟨r.hc.own,fun b hb=>?_,r.hc.nd,by simp [r.hc.len],fun j b zs q1 q2=>?_⟩,r.re.mono r.hc sx,r.sub,r.ots,r.same.trans sx,r.fresh,r.dist,fun f hf=>(r.frs f hf).trans le,r.len⟩
 ·by_cases z:b=a
  ·subst z; rw [bh]; exact hm
  ·rw [aR z]; exact r.hc.trk b hb
 ·by_cases z:n=j
  ·subst z
   rw [e] at q1
   cases q1
   have hl:n < T.length:=by
    have:=(List.getElem?_eq_some_iff.mp e).1
    rw [← r.hc.len]; exact this
   rw [List.getElem?_set_self hl] at q2
   cases q2
   exact rv le
  ·rw [List.getElem?_set_ne z] at q2
   refine (r.hc.tape j b zs q1 q2).mono (fun o' h1=>?_) le
   have nb:b≠a:=fun q=>by
    rw [q] at q1
    exact z ((List.getElem?_inj (List.getElem?_eq_some_iff.mp e).1 r.hc.nd).mp (e.trans q1.symm))
   rw [aR nb]
   exact h1
theorem RS.tape {n:Nat} {a:Addr} {vs:List V} {ys:List PyData} (r:RS K O₀ H₀ F ts O H σ ρ T) (e:ts[n]? = some a) (rv:Reps K O H vs ys):RS K O₀ H₀ F ts O (upd H a (.lst vs)) σ ρ (T.set n ys):=r.tapeO e (.inl ⟨_,rfl⟩) fun le=>.inl ⟨rv.notO,vs,bh,rv.mono le⟩
def iR:W→W
 | .loc x=>.d x
 | w=>w
def bU (ρ:Rho):Rho:=ρ.map (Option.map iR)
theorem RS.frzH (r:RS K O₀ H₀ F ts O H σ ρ T):HC K O₀ ts H T:=by
 have le:Le O H O₀ H:=fun a o n e=>⟨fun z=>n (r.sub a z),e⟩
 exact ⟨r.ots,fun b hb=>r.hc.trk b (r.sub b hb),r.hc.nd,r.hc.len,fun i a xs e1 e2=>(r.hc.tape i a xs e1 e2).mono (fun _ h=>h) le⟩
def uS (ρ:Rho):Prop:=∀ (i:Nat) (ds:List (PyData×PyData)),ρ[i]?≠some (some (.loc (.dict ds)))
theorem RS.frz (r:RS K O₀ H₀ F ts O H σ ρ T) (nd:uS ρ):HC K O₀ ts H T∧RelE K O₀ ts H σ (bU ρ):=by
 have le:Le O H O₀ H:=fun a o n e=>⟨fun z=>n (r.sub a z),e⟩
 refine ⟨r.frzH,fun i w e=>?_⟩
 unfold bU at e
 rw [List.getElem?_map] at e
 cases hu:ρ[i]? with
 | none=>rw [hu] at e; cases e
 | some u=>
  cases u with
  | none=>rw [hu] at e; cases e
  | some u=>
   rw [hu] at e
   cases e
   obtain ⟨v,h1,h2⟩:=r.re i u hu
   refine ⟨v,h1,?_⟩
   cases u with
   | d x=>exact Rep.mono le h2
   | tp k=>exact h2
   | loc xs=>
    obtain ⟨a,rfl,k1,k2,k3⟩:=h2
    cases xs with
    | list xs=>obtain ⟨vs,k3,k4⟩:=k3; exact .lst (.inl ⟨(r.fresh i _ a hu h1).2,.inl k3⟩) (k4.mono le)
    | dict xs=>exact absurd hu (nd i xs)
    | _=>cases k3
theorem RS.frzD {i:Nat} {ds:List (PyData×PyData)} (r:RS K O₀ H₀ F ts O H σ ρ T) (h1:ρ[i]? = some (some (.loc (.dict ds)))):∃ a kvs,H a=some (.dK kvs)∧∀ o,RS K O₀ H₀ F ts (fun b=>O b∧b≠a) (upd H a (.frz o (.dK kvs))) σ (ρ.set i (some (.d (.dict ds)))) T:=by
 obtain ⟨v,k1,a,rfl,k2,k3,kvs,k4,k5⟩:=r.re i _ h1
 refine ⟨a,kvs,k4,fun o=>?_⟩
 have hl:i < ρ.length:=(List.getElem?_eq_some_iff.mp h1).1
 have U:∀ {b:Addr},b≠a→upd H a (.frz o (.dK kvs)) b=H b:=fun n=>aR n
 have le:Le O H (fun b=>O b∧b≠a) (upd H a (.frz o (.dK kvs))):=fun b u n e=>⟨fun z=>n z.1,by rw [U (show b≠a from fun z=>n (by rw [z]; exact k2))]; exact e⟩
 have fr:=r.fresh i _ a h1 k1
 have hw:∀ ys,W.d (.dict ds)≠.loc ys:=fun _ z=>nomatch z
 refine ⟨⟨fun b hb=>⟨r.hc.own b hb,fun z=>k3 (z ▸ hb)⟩,fun b hb=>by rw [U hb.2]; exact r.hc.trk b hb.1,r.hc.nd,r.hc.len,fun j b ys e1 e2=>?_⟩,fun j w e=>?_,fun b hb=>⟨r.sub b hb,fun z=>fr.2 (z ▸ hb)⟩,r.ots,fun b u n e=>?_,fun j ys b e1 e2=>?_,fun j k ys zs v e1 e2 e3 e4=>?_,fun f hf=>(r.frs f hf).trans le,by simp [r.len]⟩
 ·exact (r.hc.tape j b ys e1 e2).mono (fun _ h=>by rw [U (show b≠a from fun z=>k3 (by rw [← z]; exact List.mem_of_getElem? e1))]; exact h) le
 ·by_cases z:i=j
  ·subst z
   rw [List.getElem?_set_self hl] at e
   cases e
   exact ⟨.ref a,k1,.dct (fun z=>z.2 rfl) bh (k5.mono le)⟩
  ·rw [List.getElem?_set_ne z] at e
   obtain ⟨x,q1,q2⟩:=r.re j w e
   refine ⟨x,q1,?_⟩
   cases w with
   | d y=>exact Rep.mono le q2
   | tp k=>exact q2
   | loc ys=>
    obtain ⟨b,eb,m1,m2,m3⟩:=q2
    have nb:b≠a:=fun q=>z (r.dist i j _ ys (.ref a) h1 e k1 (by rw [q1,eb,q]))
    exact ⟨b,eb,⟨m1,nb⟩,m2,m3.mono (fun _ q=>by rw [U nb]; exact q) le⟩
 ·rw [U (show b≠a from fun z=>by rw [z,fr.1] at e; cases e)]
  exact r.same b u n e
 ·obtain ⟨n,e⟩:=ft hw e1
  exact r.fresh j ys b e e2
 ·obtain ⟨n1,e1⟩:=ft hw e1
  obtain ⟨n2,e2⟩:=ft hw e2
  exact r.dist j k ys zs v e1 e2 e3 e4
theorem zy {i:Nat} {x:PyData} (h:ρ[i]? = some (some (.loc x))):bU (ρ.set i (some (.d x)))=bU ρ:=by
 apply List.ext_getElem?
 intro j
 unfold bU
 rw [List.getElem?_map,List.getElem?_map]
 by_cases z:i=j
 ·subst z
  rw [List.getElem?_set_self (List.getElem?_eq_some_iff.mp h).1,h]
  rfl
 ·rw [List.getElem?_set_ne z]
theorem RS.frzN (R:Rho):∀ (k:Nat) {O:Addr→Prop} {H:Hp} {ρ:Rho},RS K O₀ H₀ F ts O H σ ρ T→(∀ j ds,k≤j→ρ[j]?≠some (some (.loc (.dict ds))))→bU ρ=R →
  Gh (fun H'=>∃ O' ρ',RS K O₀ H₀ F ts O' H' σ ρ' T∧uS ρ'∧bU ρ'=R) H
 | 0,O,H,ρ,r,n,e=>.done ⟨O,ρ,r,fun j ds=>n j ds (Nat.zero_le _),e⟩
 | k + 1,O,H,ρ,r,n,e=>by
  by_cases h:∃ ds,ρ[k]? = some (some (.loc (.dict ds)))
  ·obtain ⟨ds,h⟩:=h
   obtain ⟨a,kvs,e1,f⟩:=r.frzD h
   refine .frz e1 fun o=>RS.frzN R k (f o) (fun j es hj=>?_) (by rw [zy h]; exact e)
   by_cases z:k=j
   ·subst z
    rw [List.getElem?_set_self (List.getElem?_eq_some_iff.mp h).1]
    intro q
    cases q
   ·rw [List.getElem?_set_ne z]
    exact n j es (by omega)
  ·refine RS.frzN R k r (fun j ds hj=>?_) e
   by_cases z:k=j
   ·subst z
    exact fun q=>h ⟨ds,q⟩
   ·exact n j ds (by omega)
theorem RS.frzG (r:RS K O₀ H₀ F ts O H σ ρ T):Gh (fun H'=>SameX ts H₀ H'∧HC K O₀ ts H' T∧RelE K O₀ ts H' σ (bU ρ)) H:=(RS.frzN (bU ρ) ρ.length r (fun j ds hj=>by rw [List.getElem?_eq_none hj]; exact fun z=>nomatch z) rfl).imp fun H' ⟨O',ρ',r',n,e⟩=>⟨r'.same,by rw [← e]; exact r'.frz n⟩
end
def aK:FS:=fun ρ T=>some ((.nx,ρ),T)
def aq (f g:FS):FS:=fun ρ T=>bnd (f ρ T) fun p T1=>match p with
 | (.nx,ρ1)=>g ρ1 T1
 | (fl,ρ1)=>some ((fl,ρ1),T1)
def aQ (i:Nat) (f:FE):FS:=fun ρ T=>bnd (f ρ T) fun w T1=>match w with
 | .d x=>some ((.nx,ρ.set i (some (.d x))),T1)
 | .tp k=>some ((.nx,ρ.set i (some (.tp k))),T1)
 | .loc _=>none
def dI (i:Nat) (g:FA):FS:=fun ρ T=>bnd (g ρ T) fun ws T1=>match dw ws with
 | some xs=>if xs.length≤1000 then some ((.nx,ρ.set i (some (.loc (.list xs)))),T1) else none
 | none=>none
def cX (i:Nat) (f:FE):FS:=fun ρ T=>bnd (f ρ T) fun w T1=>match w with
 | .d x=>(match ρ[i]? with
  | some (some (.loc (.list xs)))=>if xs.length < sizeLine then some ((.nx,ρ.set i (some (.loc (.list (xs++[x]))))),T1) else none
  | _=>none)
 | _=>none
def nJ (fo fk fe:FE):FS:=fun ρ T=>bnd (fe ρ T) fun w T1=>bnd (fo ρ T1) fun o T2=>bnd (fk ρ T2) fun k T3=>match w,o,k with
 | .d x,.tp n,.d (.int i)=>match T3[n]? with
  | some xs=>if isO xs=true then none else match ixN xs.length i with
   | some j=>some ((.nx,ρ),T3.set n (xs.set j x))
   | none=>none
  | none=>none
 | _,_,_=>none
def fIf (c:FT) (f g:FS):FS:=fun ρ T=>bnd (c ρ T) fun b T1=>if b=true then f ρ T1 else g ρ T1
def ax (f:FE):FS:=fun ρ T=>bnd (f (bU ρ) T) fun w T1=>match w with
 | .d x=>some ((.rt x,ρ),T1)
 | _=>none
def forL (i:Nat) (body:FS):List PyData→FS
 | []=>aK
 | d::r=>fun ρ T=>bnd (body (ρ.set i (some (.d d))) T) fun p T1=>match p with
  | (.nx,ρ1)=>forL i body r ρ1 T1
  | (.ct,ρ1)=>forL i body r ρ1 T1
  | (.bk,ρ1)=>some ((.nx,ρ1),T1)
  | (.rt x,ρ1)=>some ((.rt x,ρ1),T1)
  | (.ro x,ρ1)=>some ((.ro x,ρ1),T1)
def ck (i:Nat) (it:FI) (body:FS):FS:=fun ρ T=>bnd (it ρ T) fun ds T1=>forL i body ds ρ T1
def bC (c:FT) (body:FS):Nat→FS
 | 0=>fun _ _=>none
 | n + 1=>fun ρ T=>bnd (c ρ T) fun b T1=>if b=true then bnd (body ρ T1) fun p T2=>match p with
   | (.nx,ρ1)=>bC c body n ρ1 T2
   | (.ct,ρ1)=>bC c body n ρ1 T2
   | (.bk,ρ1)=>some ((.nx,ρ1),T2)
   | (.rt x,ρ1)=>some ((.rt x,ρ1),T2)
   | (.ro x,ρ1)=>some ((.ro x,ρ1),T2)
  else some ((.nx,ρ),T1)
section
variable {X:Cx} {pos:Pos} {st:Stmt} {rest:List Stmt} {f g:FS} {e:Expr} {fe:FE} {c:FT}
theorem aO:DSs X [] aK:=by
 refine ⟨?_⟩
 refine me qy fun D σ H=>?_
 rintro ⟨O₀,H₀,F,ts,O,ρ,T,fl,ρ',T',rs,e,q⟩
 cases e
 exact q O σ H rs
theorem az (h1:DS X st f) (h2:DSs X rest g):DSs X (st::rest) (aq f g):=by
 refine ⟨?_⟩
 refine me (gy h1.pe h2.pe) fun D σ H=>?_
 rintro ⟨O₀,H₀,F,ts,O,ρ,T,fl,ρ',T',rs,e,q⟩
 obtain ⟨⟨fl1,ρ1⟩,T1,e1,e⟩:=aT e
 refine ⟨O₀,H₀,F,ts,O,ρ,T,fl1,ρ1,T1,rs,e1,?_⟩
 cases fl1 with
 | nx=>exact fun O' σ' H' rs'=>⟨O₀,H₀,F,ts,O',ρ1,T1,fl,ρ',T',rs',e,q⟩
 | rt x=>cases e; exact q
 | ro x=>cases e; exact q
 | bk=>cases e; exact q
 | ct=>cases e; exact q
theorem au (h1:DS X st f):DSs X [st] f:=⟨ic h1.pe⟩
theorem aY {i:Nat} {x:Str} {pos':Pos} (hN:X.N.Nodup) (he:DE X e fe) (hi:X.N[i]? = some x:=by rfl) (hx:Loc X.env.scope x:=by first | exact Or.inl rfl | exact Or.inr rfl) (hs:swapsWith e (some (.Name x pos')) pos.line X.env=pure false:=by rfl)
  (hf:X.fn x=true∨X.env.scope.names.lookup x=some .local:=by first | exact .inl rfl | exact .inr rfl | assumption):DS X (.Assign [.Name x pos'] e pos) (aQ i fe):=by
 refine ⟨?_⟩
 refine df (iz hN hi hx he.pe hs hf) fun D σ H=>?_
 rintro ⟨O₀,H₀,F,ts,O,ρ,T,fl,ρ',T',rs,e,q⟩
 obtain ⟨w,T1,e1,e⟩:=aT e
 refine ⟨O,ts,ρ,T,w,T1,rs.hc,rs.re,e1,fun v H1 s1 hc1 r1=>?_⟩
 cases w with
 | d x=>cases e; exact q O _ _ ((rs.step s1 hc1).set r1 fun _ z=>nomatch z)
 | tp k=>cases e; exact q O _ _ ((rs.step s1 hc1).set r1 fun _ z=>nomatch z)
 | loc xs=>cases e
theorem i3 {i:Nat} {x:Str} {pos':Pos} {es:List Expr} {lpos:Pos} {g:FA} (hN:X.N.Nodup) (he:DA X es g) (hi:X.N[i]? = some x:=by rfl) (hx:Loc X.env.scope x:=by first | exact Or.inl rfl | exact Or.inr rfl)
  (hs:swapsWith (.List es lpos) (some (.Name x pos')) pos.line X.env=pure false:=by rfl) (hf:X.fn x=true∨X.env.scope.names.lookup x=some .local:=by first | exact .inl rfl | exact .inr rfl | assumption):DS X (.Assign [.Name x pos'] (.List es lpos) pos) (dI i g):=by
 refine ⟨?_⟩
 refine df (iz hN hi hx (i6 he.pe) hs hf) fun D σ H=>?_
 rintro ⟨O₀,H₀,F,ts,O,ρ,T,fl,ρ',T',rs,e,q⟩
 obtain ⟨ws,T1,e1,e⟩:=aT e
 refine ⟨O,ts,ρ,T,ws,T1,rs.hc,rs.re,e1,fun vs H1 s1 hc1 r1=>?_⟩
 split at e
 ·rename_i xs h1
  split at e
  ·rename_i h2
   cases e
   have rv:=iX r1 h1
   exact ⟨j4 (by rw [rv.length]; exact h2),fun p hp=>q _ _ _ ((rs.step s1 hc1).own hp rv)⟩
  ·cases e
 ·cases e
theorem aM {ce:Expr} {a b:List Stmt} (hc:DT X ce c) (ha:DSs X a f) (hb:DSs X b g):DS X (.If ce a b pos) (fIf c f g):=by
 refine ⟨?_⟩
 refine df (tD hc.pe ha.pe hb.pe) fun D σ H=>?_
 rintro ⟨O₀,H₀,F,ts,O,ρ,T,fl,ρ',T',rs,e,q⟩
 obtain ⟨b1,T1,e1,e⟩:=aT e
 refine ⟨O,ts,ρ,T,b1,T1,rs.hc,rs.re,e1,fun H1 s1 hc1=>?_⟩
 cases b1 with
 | true=>exact d6 ⟨O₀,H₀,F,ts,O,ρ,T1,fl,ρ',T',rs.step s1 hc1,by simpa using e,q⟩
 | false=>exact eU ⟨O₀,H₀,F,ts,O,ρ,T1,fl,ρ',T',rs.step s1 hc1,by simpa using e,q⟩
theorem aC (he:DE X e fe):DS X (.Return (some e) pos) (ax fe):=by
 refine ⟨?_⟩
 refine df (CQ (mP he.pe)) fun D σ H=>?_
 rintro ⟨O₀,H₀,F,ts,O,ρ,T,fl,ρ',T',rs,e,q⟩
 obtain ⟨w,T1,e1,e⟩:=aT e
 refine rs.frzG.imp fun H0 ⟨same,c0,re0⟩=>?_
 refine ⟨O₀,ts,bU ρ,T,w,T1,c0,re0,e1,fun v H1 s1 hc1 r1=>?_⟩
 cases w with
 | d x=>cases e; exact q v H1 (same.trans s1) hc1 r1
 | tp k=>cases e
 | loc xs=>cases e
theorem iH {i:Nat} {x:Str} {p apos:Pos} (he:DE X e fe) (hN:X.N[i]? = some x:=by rfl) (hv:Vis X.env.scope x:=by first | exact Or.inl rfl | exact Or.inr (Or.inl rfl) | exact Or.inr (Or.inr rfl)) (hd:(x == ("__debug__" : Str))=false:=by decide)
  (hcd:(x == ("__classdict__" : Str))=false:=by decide) {cpos:Pos}
  (hbase:attributeBase (.Name x p) "append" X.env (eval (.Name x p) X.env)=eval (.Name x p) X.env:=by rfl)
  (hfew:((backTo cpos (starEach [e] X.env)).all (fun x=>!x.1) && (backToKw cpos (keywordEach [] X.env)).all (fun x=>x.1.isSome)
   && decide (([e]:List Expr).length + ([]:List Keyword).length + (if ([]:List Keyword).isEmpty then 0 else 1) < 30))=true:=by exact uL rfl)
  (hline:(apos.endLine == cpos.line)=true:=by rfl) (hse:starEach [e] X.env=(false,eval e X.env)::starEach [] X.env:=by exact b5 rfl) (hplain:(backTo cpos (starEach [] X.env)).any (·.1)=false:=by exact c8 rfl)
  (hs:swapsWith (.Call (.Attribute (.Name x p) "append" apos) [e] [] cpos) none pos.line X.env=pure false:=by rfl) :
  DS X (.Expr (.Call (.Attribute (.Name x p) "append" apos) [e] [] cpos) pos) (cX i fe):=by
 refine ⟨?_⟩
 refine df (qz (tG PySem.F.plainAttrs_list PySem.F.slot_list_append PySem.F.type_list_append yd (pv i hN hv hd hcd) (bu he.pe bX hse) hbase hfew hline hse hplain) hs) fun D σ H=>?_
 rintro ⟨O₀,H₀,F,ts,O,ρ,T,fl,ρ',T',rs,e,q⟩
 obtain ⟨w,T1,e1,e⟩:=aT e
 split at e
 ·rename_i x0
  split at e
  ·rename_i xs h1
   split at e
   ·rename_i h2
    cases e
    obtain ⟨v,k1,a,rfl,k2,k3,vs,k4,k5⟩:=rs.re i _ h1
    refine ⟨_,k1,.inl ⟨rfl,vs,SqL.of k4⟩,O,ts,ρ,T,_,_,rs.hc,rs.re,e1,fun u H1 s1 hc1 r1=>?_⟩
    have rs1:=rs.step s1 hc1
    exact ⟨a,vs,u,rfl,rfl,s1 _ _ k3 k4,by rw [k5.length]; exact h2,q O _ _ (rs1.put (us:=[]) h1 k1 ((k5.mono (rs.hc.le s1)).append (.cons r1 .nil)))⟩
   ·cases e
  ·cases e
 ·cases e
theorem Cf {o k:Expr} {fo fk:FE} {tpos:Pos} (ho:DE X o fo) (hk:DE X k fk) (he:DE X e fe) (ha:∀ v,assign (.Subscript o k tpos) X.env v=(do
   let ov ← holding [v] (eval o X.env)
   let iv ← holding [v,ov] (eval k X.env)
   standAt tpos
   holding [v,ov,iv] (setItem ov iv v)
   release [v,ov,iv] []):=by intro _; rfl)
  (hs:swapsWithSole [.Subscript o k tpos] e pos.line X.env=pure false:=by rfl) (hw:swappedStores [.Subscript o k tpos] e X.env=pure none:=by rfl)
  (h1:(assignEach [.Subscript o k tpos] X.env).map (·.2)=[assign (.Subscript o k tpos) X.env]:=by rfl):DS X (.Assign [.Subscript o k tpos] e pos) (nJ fo fk fe):=by
 refine ⟨?_⟩
 refine df (rV he.pe (Bz ho.pe hk.pe set_list ha) hs hw h1) fun D σ H=>?_
 rintro ⟨O₀,H₀,F,ts,O,ρ,T,fl,ρ',T',rs,e,q⟩
 obtain ⟨w,T1,e1,e⟩:=aT e
 obtain ⟨wo,T2,e2,e⟩:=aT e
 obtain ⟨wk,T3,e3,e⟩:=aT e
 refine ⟨O,ts,ρ,T,w,T1,rs.hc,rs.re,e1,fun v H1 s1 hc1 r1=>?_⟩
 have rs1:=rs.step s1 hc1
 refine ⟨O,ts,ρ,T1,wo,T2,hc1,rs1.re,e2,fun vo H2 s2 hc2 r2=>?_⟩
 have rs2:=rs1.step s2 hc2
 refine ⟨O,ts,ρ,T2,wk,T3,hc2,rs2.re,e3,fun vk H3 s3 hc3 r3=>?_⟩
 have rs3:=rs2.step s3 hc3
 split at e
 ·split at e
  ·rename_i xs h1
   split at e
   ·cases e
   ·rename_i hn
    split at e
    ·rename_i j h2
     cases e
     obtain ⟨a,k1,rfl⟩:=r2
     cases (show Rep X.K O H3 vk (.int _) from r3)
     obtain ⟨vs,k2,k3⟩:=(hc3.tape _ a xs k1 h1).lst (by simpa using hn)
     refine ⟨a,vs,_,j,rfl,rfl,k2,by rw [k3.length]; exact h2,q O _ _ (rs3.tape k1 (Reps.set ?_ j k3))⟩
     exact Rep.mono ((hc1.le s2).trans (hc2.le s3)) r1
    ·cases e
  ·cases e
 ·cases e
end
section
variable {K:Frag} {O₀:Addr→Prop} {H₀:Hp} {F:List ((Addr→Prop)×Hp)} {ts:List Addr} {O:Addr→Prop} {H H1:Hp} {σ:L2.St} {ρ:Rho} {T T1:Tp}
theorem RS.less {f:(Addr→Prop)×Hp} (r:RS K O₀ H₀ (f::F) ts O H σ ρ T):RS K O₀ H₀ F ts O H σ ρ T:=⟨r.hc,r.re,r.sub,r.ots,r.same,r.fresh,r.dist,fun f hf=>r.frs f (List.mem_cons_of_mem _ hf),r.len⟩
theorem RS.more (r:RS K O₀ H₀ F ts O H σ ρ T):RS K O₀ H₀ ((O,H)::F) ts O H σ ρ T:=⟨r.hc,r.re,r.sub,r.ots,r.same,r.fresh,r.dist,fun f hf=>by
 rcases List.mem_cons.mp hf with z | z
 ·subst z; exact fun a o n e=>⟨n,e⟩
 ·exact r.frs f z,r.len⟩
end
section
variable {X:Cx} {pos:Pos} {st:Stmt} {rest:List Stmt} {f g:FS} {e:Expr} {fe:FE} {c:FT}
theorem fX {i:Nat} {x:Str} {iter:Expr} {body:List Stmt} {tpos:Pos} {it:FI} (hN:X.N.Nodup) (hi:DI X (.Name x tpos) iter it) (hb:DSs X body f) (hix:X.N[i]? = some x:=by rfl) (hx:Loc X.env.scope x:=by first | exact Or.inl rfl | exact Or.inr rfl)
  (hf:X.fn x=true∨X.env.scope.names.lookup x=some .local:=by first | exact .inl rfl | exact .inr rfl | assumption) (hp:PassesOwn (model X.prog X.w) X.A X.env X.xe:=by exact PassesOwn.never) (hc:X.calm=true:=by rfl)
  (hs:∀ x,foldedSetIterable iter X.env x=pure x:=by intro _; rfl):DS X (.For (.Name x tpos) iter body [] pos) (ck i it f):=by
 refine ⟨?_⟩
 refine df (rT hp hc hi.pe (gB hN hix hx hf) hb.pe hs) fun D σ H=>?_
 rintro ⟨O₀,H₀,F,ts,O,ρ,T,fl,ρ',T',rs,e,q⟩
 obtain ⟨ds,T1,e1,e⟩:=aT e
 refine ⟨O,ts,ρ,T,ds,T1,rs.hc,rs.re,e1,fun J H1 s1 hc1 ok hz=>?_⟩
 refine ⟨fun k m σ H=>m=ds.length - k∧k≤ds.length∧∃ O' ρk Tk,RS X.K O₀ H₀ ((O,H1)::F) ts O' H σ ρk Tk∧forL i f (ds.drop k) ρk Tk=some ((fl,ρ'),T'),⟨_,rfl,Nat.zero_le _,O,ρ,T1,(rs.step s1 hc1).more,e⟩,?_⟩
 rintro k m σ2 H2 ⟨rfl,hk,O',ρk,Tk,rs2,ek⟩
 obtain ⟨k1,k2,k3⟩:=ok O' H2 (rs2.frs _ List.mem_cons_self)
 by_cases hlt:k < ds.length
 ·refine .inr ⟨k1 k hlt,fun σ3 H3=>∃ O' ρk Tk,RS X.K O₀ H₀ ((O,H1)::F) ts O' H3 σ3 ρk Tk∧forL i f (ds.drop (k + 1)) ρk Tk=some ((fl,ρ'),T'),fun σ3 H3 n=>⟨ds.length - (k + 1),by omega,rfl,hlt,n⟩,fun v H3 y=>?_⟩
  obtain ⟨e2,d,hd,rd⟩:=k3 k v H3 y hlt
  subst e2
  have hdr:ds.drop k=d::ds.drop (k + 1):=by
   rw [List.drop_eq_getElem_cons hlt]
   have:=(List.getElem?_eq_some_iff.mp hd).2
   rw [this]
  rw [hdr] at ek
  obtain ⟨⟨fl1,ρ1⟩,T3,e3,ek⟩:=aT ek
  refine ⟨O₀,H₀,(O,H1)::F,ts,O',_,Tk,fl1,ρ1,T3,rs2.set (i:=i) (w:=.d d) rd (fun _ z=>nomatch z),e3,?_⟩
  cases fl1 with
  | nx=>exact fun O3 σ3 H3 rs3=>⟨O3,ρ1,T3,rs3,ek⟩
  | ct=>exact fun O3 σ3 H3 rs3=>⟨O3,ρ1,T3,rs3,ek⟩
  | bk=>
   cases ek
   exact fun O3 σ3 H3 rs3=>q O3 σ3 H3 rs3.less
  | rt x=>
   cases ek
   exact q
  | ro x=>
   cases ek
   exact q
 ·have e:k=ds.length:=by omega
  subst e
  rw [List.drop_eq_nil_of_le (Nat.le_refl _)] at ek
  cases ek
  exact .inl ⟨k2,q O' σ2 H2 rs2.less⟩
theorem jP {ce:Expr} {body:List Stmt} (n:Nat) (hc:DT X ce c) (hb:DSs X body f) (hp:PassesOwn (model X.prog X.w) X.A X.env X.xe:=by exact PassesOwn.never):DS X (.While ce body [] pos) (bC c f n):=by
 refine ⟨?_⟩
 refine df (y0 hp hc.pe hb.pe) fun D σ H=>?_
 rintro ⟨O₀,H₀,F,ts,O,ρ,T,fl,ρ',T',rs,e,q⟩
 refine ⟨fun m σ H=>∃ O' ρm Tm,RS X.K O₀ H₀ F ts O' H σ ρm Tm∧bC c f m ρm Tm=some ((fl,ρ'),T'),⟨n,O,ρ,T,rs,e⟩,?_⟩
 rintro m σ2 H2 ⟨O',ρm,Tm,rs2,em⟩
 cases m with
 | zero=>cases em
 | succ m=>
  obtain ⟨b,T3,e3,em⟩:=aT em
  refine ⟨O',ts,ρm,Tm,b,T3,rs2.hc,rs2.re,e3,fun H3 s3 hc3=>?_⟩
  have rs3:=rs2.step s3 hc3
  cases b with
  | false=>
   rw [if_neg Bool.false_ne_true] at em
   cases em
   exact eU (q O' σ2 H3 rs3)
  | true=>
   rw [if_pos rfl] at em
   obtain ⟨⟨fl1,ρ1⟩,T4,e4,em⟩:=aT em
   refine d6 ⟨fun σ3 H3=>∃ O' ρm Tm,RS X.K O₀ H₀ F ts O' H3 σ3 ρm Tm∧bC c f m ρm Tm=some ((fl,ρ'),T'),fun σ3 H3 n=>⟨m,Nat.lt_succ_self m,n⟩,O₀,H₀,F,ts,O',ρm,T3,fl1,ρ1,T4,rs3,e4,?_⟩
   cases fl1 with
   | nx=>exact fun O3 σ3 H3 rs3=>⟨O3,ρ1,T4,rs3,em⟩
   | ct=>exact fun O3 σ3 H3 rs3=>⟨O3,ρ1,T4,rs3,em⟩
   | bk=>
    cases em
    exact fun O3 σ3 H3 rs3=>q O3 σ3 H3 rs3
   | rt x=>
    cases em
    exact q
   | ro x=>
    cases em
    exact q
end
abbrev FnM:=List W→Tp→Option (PyData×Tp)
def du:List W→Bool
 | []=>true
 | .loc _::_=>false
 | _::r=>du r
def eK (o:Option ((Fl×Rho)×Tp)):Option (PyData×Tp):=bnd o fun p T=>match p with
 | (.rt x,_)=>some (x,T)
 | (.nx,_)=>some (.none,T)
 | _=>none
def aW (N:Nat) (f:FS):FnM:=fun ws T=>if du ws=true then eK (f (ws.map some++List.replicate (N - ws.length) none) T) else none
inductive SpMP (K:Frag) (n:Nat) (m:FnM) (vs:List V) (H:Hp) (Q:VK):Prop where
 | mk (O:Addr→Prop) (ts:List Addr) (T:Tp) (ws:List W) (x:PyData) (T':Tp) (hc:HC K O ts H T) (r:eP K O ts H vs ws) (hl:ws.length=n) (e:m ws T=some (x,T')) (q:∀ v H',SameX ts H H'→HC K O ts H' T'→Rep K O H' v x→Q v H'):SpMP K n m vs H Q
def spM (K:Frag) (n:Nat) (m:FnM):Sp:=fun vs H Q _=>SpMP K n m vs H Q
theorem lH {K:Frag} {O:Addr→Prop} {ts:List Addr} {H:Hp}:∀ {vs:List V} {ws:List W} {i:Nat} {w:W},eP K O ts H vs ws→ws[i]? = some w→∃ v,vs[i]? = some v∧RepW K O ts H v w
 | _,_,_,_,.nil,e=>by simp at e
 | _,_,0,_,.cons r _,e=>by simp at e; subst e; exact ⟨_,rfl,r⟩
 | _,_,i + 1,w,.cons _ t,e=>by
  obtain ⟨d,h1,h2⟩:=lH (i:=i) (w:=w) t (by simpa using e)
  exact ⟨d,by simpa using h1,h2⟩
theorem jG:∀ {ws:List W} {xs:PyData},du ws=true→W.loc xs∉ws
 | [],_,_,h=>by cases h
 | .loc _::_,_,e,_=>by cases e
 | .d _::r,_,e,h=>by
  rcases List.mem_cons.mp h with z | z
  ·cases z
  ·exact jG (ws:=r) e z
 | .tp _::r,_,e,h=>by
  rcases List.mem_cons.mp h with z | z
  ·cases z
  ·exact jG (ws:=r) e z
theorem jC {ws:List W} {n i:Nat} {w:W} (e:(ws.map some++List.replicate n none)[i]? = some (some w)):ws[i]? = some w:=by
 by_cases h:i < ws.length
 ·rw [List.getElem?_append_left (by simpa using h),List.getElem?_map] at e
  cases q:ws[i]? with
  | none=>rw [q] at e; cases e
  | some u=>rw [q] at e; cases e; rfl
 ·rw [List.getElem?_append_right (by simpa using h)] at e
  have:=List.mem_of_getElem? e
  rw [List.mem_replicate] at this
  cases this.2
theorem dfn {P:Program} {w:World} {K:Frag} {mg:Str→Option Value} {base:Heap} {x qual:Str} {st:Stmt} {f:Addr} {fd:FuncData} {N ps:List Str} {k:Nat} {m:FS} (F:Fun K x qual st f fd) (S:FnScope N ps (aL st))
  (hbody:∀ (cdv:Value) (A:Around) (outer:List Env) (s:Shared) (H:Hp) (E:XK),Room k (A.deeper (envOfC qual (aL st) s.heap.objs.size f cdv))→DSs (d8 CX0 P w K mg base N qual (aL st) f cdv A outer s H E).nox (da st) m) :
  FnOk P w K mg base CX0 (k + 1) f fd ps (spM K ps.length (aW N.length m)):=by
 refine F.ok S (fun vs H Q E h=>?_) (fun cdv A outer s H vs Q E hr h=>⟨_,(hbody cdv A outer s H E hr).pe,?_⟩)
 ·obtain ⟨O,ts,T,ws,x,T',hc,rw',hl,_⟩:=h
  rw [← hl]
  exact Paired.length rw'
 obtain ⟨O,ts,T,ws,x,T',hc,rw',hl,e,q⟩:=h
 unfold aW at e
 split at e
 ·rename_i hn
  obtain ⟨⟨fl,ρ'⟩,T1,e1,e⟩:=aT e
  have hlen:vs.length=ws.length:=Paired.length rw'
  have noL:∀ {i:Nat} {xs:PyData},(ws.map some++List.replicate (N.length - ws.length) none)[i]? = some (some (W.loc xs))→False:=fun {i xs} e=>jG hn (List.mem_of_getElem? (jC e))
  refine ⟨O,H,[],ts,O,_,T,fl,ρ',T1,⟨hc,fun i u e=>?_,fun _ h=>h,hc.own,.refl _ _,fun i xs a e1 _=>(noL e1).elim,fun i j xs ys v e1 _ _ _=>(noL e1).elim,fun f hf=>absurd hf (by simp),by simp [L2.start,hlen]⟩,e1,?_⟩
  ·obtain ⟨v,h1,h2⟩:=lH rw' (jC e)
   refine ⟨v,?_,h2⟩
   unfold L2.start
   have hi:i < vs.length:=(List.getElem?_eq_some_iff.mp h1).1
   rw [List.getElem?_append_left (by simpa using hi),List.getElem?_map,h1]
   rfl
  ·cases fl with
   | rt y=>cases e; exact fun v H' s1 c1 r1=>q v H' s1 c1 r1
   | nx=>
    cases e
    exact fun O' σ' H' rs=>q _ _ rs.same rs.frzH .non
   | bk=>cases e
   | ct=>cases e
   | ro y=>cases e
 ·cases e
def ar (m:FnM) (g:FA):FE:=fun ρ T=>bnd (g ρ T) fun ws T1=>bnd (m ws T1) fun x T2=>some (.d x,T2)
def jx (g:FA) (n:Nat):Prop:=∀ ρ T ws T',g ρ T=some (ws,T')→ws.length=n
theorem aI:jx ai 0:=fun ρ T ws T' e=>by cases e; rfl
theorem ao {f:FE} {g:FA} {n:Nat} (h:jx g n):jx (ae f g) (n + 1):=fun ρ T ws T' e=>by
 obtain ⟨w1,T1,e1,e⟩:=aT e
 obtain ⟨ws,T2,e2,e⟩:=aT e
 cases e
 rw [List.length_cons,h _ _ _ _ e2]
theorem aJ {X:Cx} {name:Str} {ps:List Str} {k:Nat} {m:FnM} {e:Expr} {es:List Expr} {g:FA} {p pos:Pos} (F:Fn X.prog X.w X.K X.mg X.base name ps k (spM X.K ps.length m)) (hr:Room k X.A) (hg:Gl X name) (ha:DA X (e::es) g) (hl:jx g ps.length) (hdb:(name == ("__debug__" : Str))=false:=by decide)
  (he:starEach (e::es) X.env=(false,eval e X.env)::starEach es X.env:=by exact b5 rfl) (hpl:(backTo pos (starEach es X.env)).any (·.1)=false:=by exact c8 rfl):DE X (.Call (.Name name p) (e::es) [] pos) (ar m g):=by
 refine ⟨?_⟩
 refine pe_imp (tE F hr hg ha.pe hdb he hpl) fun σ H Q=>?_
 rintro ⟨O,ts,ρ,T,w,T',hc,re,e,q⟩
 obtain ⟨ws,T1,e1,e⟩:=aT e
 obtain ⟨x,T2,e2,e⟩:=aT e
 cases e
 refine ⟨O,ts,ρ,T,ws,T1,hc,re,e1,fun vs H1 s1 hc1 r1=>?_⟩
 refine ⟨O,ts,T1,ws,x,_,hc1,by rw [List.append_nil]; exact r1,hl _ _ _ _ e1,e2,fun v H2 s2 hc2 r2=>q v H2 (s1.trans s2) hc2 r2⟩
noncomputable def iop (g:Int→Int→Option PyData):PyData→PyData→Option PyData
 | .int i,.int j=>g i j
 | _,_=>none
def dZ:PyData→PyData→Option PyData:=iop fun i j=>some (.int (i - j))
def bT:PyData→PyData→Option PyData:=iop fun i j=>if 0 < j then some (.int (i % j)) else none
def fF:PyData→PyData→Option PyData:=iop fun i j=>if 0 < j∧j < 1073741824 then some (.int (i / j)) else none
def gb:PyData→PyData→Option PyData:=iop fun i j=>if 0≤j∧j≤1000000∧i.natAbs < 2 ^ 64 then some (.int (i ^ j.toNat)) else none
def ltD:PyData→PyData→Option PyData:=iop fun i j=>some (.bool (decide (i < j)))
def leD:PyData→PyData→Option PyData:=iop fun i j=>some (.bool (decide (i≤j)))
def gtD:PyData→PyData→Option PyData:=iop fun i j=>some (.bool (decide (j < i)))
def geD:PyData→PyData→Option PyData:=iop fun i j=>some (.bool (decide (j≤i)))
theorem sA {g:Int→Int→Option PyData} {x y d:PyData} (e:iop g x y=some d):∃ i j,x=.int i∧y=.int j∧g i j=some d:=by
 unfold iop at e
 split at e
 ·exact ⟨_,_,rfl,rfl,e⟩
 ·cases e
theorem mN {K:Frag} {C:Int→Int→Prop} {g:Int→Int→V} {gd:Int→Int→Option PyData} (h:∀ i j d,gd i j=some d→C i j∧∀ O H,Rep K O H (g i j) d):gi K (rI C g) (iop gd):=fun O ts H T v1 v2 x y d Q hc h1 h2 e q=>by
 obtain ⟨i,j,rfl,rfl,e⟩:=sA e
 obtain ⟨c,r⟩:=h i j d e
 exact ⟨i,j,h1.int,h2.int,c,q _ H (.refl _ _) hc (r O H)⟩
theorem iY {K:Frag} {g:Int→Int→V} {gd:Int→Int→Option PyData} (h:∀ i j d,gd i j=some d→∀ O H,Rep K O H (g i j) d):gi K (rI0 g) (iop gd):=fun O ts H T v1 v2 x y d Q hc h1 h2 e q=>by
 obtain ⟨i,j,rfl,rfl,e⟩:=sA e
 exact ⟨i,j,h1.int,h2.int,q _ H (.refl _ _) hc (h i j d e O H)⟩
section
variable {X:Cx}
theorem gM:OpD X (binaryOp .Sub) dZ:=⟨_,BG,iY fun i j d e O H=>by cases e; exact .int _⟩
theorem dU:OpD X (binaryOp .Mod) bT:=⟨_,BI,mN fun i j d e=>by
 split at e
 ·rename_i h; cases e; exact ⟨h,fun _ _=>.int _⟩
 ·cases e⟩
theorem kh:OpD X (binaryOp .FloorDiv) fF:=⟨_,Ar,mN fun i j d e=>by
 split at e
 ·rename_i h; cases e; exact ⟨h,fun _ _=>.int _⟩
 ·cases e⟩
theorem jf:OpD X (binaryOp .Pow) gb:=⟨_,BH,mN fun i j d e=>by
 split at e
 ·rename_i h; cases e; exact ⟨h,fun _ _=>.int _⟩
 ·cases e⟩
theorem d4:OpD X (compareOp .Lt) ltD:=⟨_,C5,iY fun i j d e O H=>by cases e; exact .bl _⟩
theorem eS:OpD X (compareOp .LtE) leD:=⟨_,C6,iY fun i j d e O H=>by cases e; exact .bl _⟩
theorem dM:OpD X (compareOp .Gt) gtD:=⟨_,C7,iY fun i j d e O H=>by cases e; exact .bl _⟩
theorem D4:OpD X (compareOp .GtE) geD:=⟨_,C8,iY fun i j d e O H=>by cases e; exact .bl _⟩
def aU:PyData→PyData→Option PyData
 | .int i,.int j=>some (.int (i + j))
 | .str x,.str y=>if x.length + y.length≤sizeLine then some (.str (x++y)) else none
 | .tuple xs,.tuple ys=>if xs.length + ys.length≤sizeLine then some (.tuple (xs++ys)) else none
 | .list xs,.list ys=>if xs.length + ys.length≤sizeLine then some (.list (xs++ys)) else none
 | _,_=>none
def CN (K:Frag):R2:=fun x y H Q=>∃ l b xs zs,x=.ref l∧y=.ref b∧SqL K H l xs∧SqL K H b zs∧xs.length + zs.length≤sizeLine∧∀ p,H p=none→Q (.ref p) (upd H p (.lst (xs++zs)))
theorem Au:OpR X (binaryOp .Add) (CN X.K):=by
 intro pins s σ H x y v u Q I rx ry h
 obtain ⟨l,b,xs,zs,rfl,rfl,hH,hB,hz,q⟩:=h
 cases rx
 cases ry
 obtain ⟨its,r,p1,_⟩:=I.list hH
 obtain ⟨its2,r2,p2,_⟩:=I.list hB
 have hl:=r.length
 have hl2:=r2.length
 obtain ⟨⟨cls,dd,data,sl⟩,ho,hc,n,hd⟩:=id p1.isList
 obtain ⟨⟨cls2,dd2,data2,sl2⟩,ho2,hc2,n2,hd2⟩:=id p2.isList
 simp only at hc hd hc2 hd2
 subst hc hd hc2 hd2
 have ea:its.toArray++its2.toArray=(its++its2).toArray:=by simp
 refine concat_meets ⟨_,ho,rfl⟩ ⟨_,ho2,rfl⟩ noFill_list_add seq_list_add PySem.F.slot_list_add PySem.F.entry_list_add (PySem.F.args_list_add_2 _ _) (list_addW l b its.toArray its2.toArray n n2 dd dd2 sl sl2 (by rw [List.size_toArray,List.size_toArray]; omega)) ⟨ho,ho2,?_⟩
 rw [ea]
 exact ⟨.ref _,_,I.lnew (t':=s.toks) (r.append r2) (by rw [List.length_append]; omega),rfl,q _ I.fresh⟩
theorem bg:OpD X (binaryOp .Add) aU:=by
 refine ⟨_,op_add.or (op_add_str.or (op_catG.or Au)),fun O ts H T v1 v2 x y d Q hc h1 h2 e q=>?_⟩
 unfold aU at e
 split at e
 ·cases e
  exact .inl ⟨_,_,h1.int,h2.int,q _ H (.refl _ _) hc (.int _)⟩
 ·split at e
  ·rename_i hz
   cases e
   exact .inr (.inl ⟨_,_,h1.str,h2.str,hz,q _ H (.refl _ _) hc (.str _)⟩)
  ·cases e
 ·split at e
  ·rename_i xs ys hz
   cases e
   obtain ⟨a,vs,rfl,t1,r1⟩:=h1.tup
   obtain ⟨b,us,rfl,t2,r2⟩:=h2.tup
   refine .inr (.inr (.inl ⟨a,b,vs,us,rfl,rfl,t1.sq,t2.sq,by rw [r1.length,r2.length]; exact hz,fun z=>?_,fun _ z=>?_,fun _ _ p hp=>?_⟩))
   ·subst z
    cases r1
    exact q _ H (.refl _ _) hc (.tup t2 r2)
   ·subst z
    cases r2
    rw [List.append_nil] at q
    exact q _ H (.refl _ _) hc (.tup t1 r1)
   ·exact q _ _ (.new hp _) (hc.new hp _) (hc.newT hp (r1.append r2))
  ·cases e
 ·split at e
  ·rename_i xs ys hz
   cases e
   obtain ⟨a,vs,rfl,t1,r1⟩:=h1.lst
   obtain ⟨b,us,rfl,t2,r2⟩:=h2.lst
   exact .inr (.inr (.inr ⟨a,b,vs,us,rfl,rfl,t1,t2,by rw [r1.length,r2.length]; exact hz,fun p hp=>q _ _ (.new hp _) (hc.new hp _) (hc.newL hp (r1.append r2))⟩))
  ·cases e
 ·cases e
theorem uX:fillsNumberSlot (.type "tuple") "mul" = pure false:=PySem.fillsNumberSlot_seq (id:="tuple.__mul__") (r:=some (.builtin "tuple.__rmul__")) PySem.F.slot_tuple_mul.lookup (by decide +kernel) PySem.F.slot_tuple_rmul.lookup (by decide +kernel)
theorem vI:seqRepeat? (.type "tuple")=pure (some (.builtin "tuple.__mul__")):=by
 unfold seqRepeat?
 rw [PySem.seqSlot_of (T:="tuple") (name:="__mul__") (id:="tuple.__mul__") PySem.F.slot_tuple_mul.lookup (by decide +kernel),PySem.seqSlot_of (T:="tuple") (name:="__rmul__") (id:="tuple.__rmul__") PySem.F.slot_tuple_rmul.lookup (by decide +kernel)]
 rfl
theorem vg (a:Int) (t:Tok) (l:Addr) (items:Array Value) (n:Nat) (dd:Option Addr) (sl:Array (Option Value)) :
  Meets (Builtin.«int.__rmul__» ⟨[.int a t,.ref l],[]⟩) (fun _ R s=>s.heap.get? l=some { cls:=.type "tuple",dict:=dd,data:=.seq items n,slots:=sl }∧R (.ok (.ret Value.notImplemented)) s):=.of_wp fun prog w A R s h=>by obtain ⟨hp,g,d,tk,os⟩:=s; obtain ⟨hl,h⟩:=h; wp_walk; exact ⟨_,rfl,h⟩
theorem wN (l:Addr) (items:Array Value) (n:Nat) (dd:Option Addr) (sl:Array (Option Value)) (k:Int) (t:Tok) (h1:2≤k) (h2:k≤1000) (h3:items.isEmpty=false) (h4:items.size≤1000) :
  Meets (Builtin.«tuple.__mul__» ⟨[.ref l,.int k t],[]⟩) (fun _ R s=>s.heap.get? l=some { cls:=.type "tuple",dict:=dd,data:=.seq items n,slots:=sl }∧R (.ok (.ret (Value.ref s.heap.objs.size))) { s with heap:=s.heap.push { cls:=Value.type "tuple",data:=Data.seq (List.foldl (fun x1 x2=>x1++x2) #[] (List.replicate k.toNat items)) },toks:=s.toks }):=
 .of_wp fun prog w A R s h=>by
  obtain ⟨hp,g,d,tk,os⟩:=s
  obtain ⟨hl,h⟩:=h
  have hc0:¬ (decide (k < -(2 ^ 63)) || decide (k≥2 ^ 63))=true:=by simp; omega
  have hc1:¬ (items.isEmpty || k == 1)=true:=by rw [h3]; simp; omega
  have hc2:¬ (decide (k≤0) || items.isEmpty)=true:=by rw [h3]; simp; omega
  have hm:items.size * k.toNat≤1000 * 1000:=Nat.mul_le_mul h4 (by omega)
  have hm':(items.size:Int) * k≤1000000:=by
   have e:((items.size * k.toNat:Nat):Int)=(items.size:Int) * k:=by rw [Int.natCast_mul,Int.toNat_of_nonneg (by omega)]
   omega
  have hc3:¬ (items.size:Int) * k > (2 ^ 63 - 1) / 8:=by
   have:(1000000:Int)≤(2 ^ 63 - 1) / 8:=by decide
   omega
  have hc4:¬ Builtin.Tuple.tupleTooMany ((items.size:Int) * k)=true:=by
   unfold Builtin.Tuple.tupleTooMany
   have:sizeLine=16777216:=by decide
   simp
   omega
  have ht:IsTup hp l items:=⟨_,hl,rfl,n,rfl⟩
  wp_walk
  rw [if_neg hc0]
  dsimp only
  refine wpAny_bind (tupleItemsOf_ ht ?_)
  rw [if_neg hc1,if_neg hc2,if_neg hc3,if_neg hc4]
  have fit:sizeOk (.seq (List.foldl (fun x1 x2=>x1++x2) #[] (List.replicate k.toNat items))):=by
   show (List.foldl (fun x1 x2=>x1++x2) #[] (List.replicate k.toNat items)).size≤sizeLine
   have q:=foldl_rep items.toList k.toNat []
   rw [List.nil_append] at q
   have q':List.foldl (fun x1 x2=>x1++x2) #[] (List.replicate k.toNat items)=(List.replicate k.toNat items.toList).flatten.toArray:=by simpa using q
   rw [q',List.size_toArray,len_rep]
   have:sizeLine=16777216:=by decide
   rw [Array.length_toList,Nat.mul_comm]
   omega
  first
  | exact wpAny_bind (m:=Builtin.Tuple.tupleExact _) (wpAny_newObj_type (wpAny_pure ⟨_,rfl,h⟩) fit)
  | exact wpAny_bind (m:=Builtin.Tuple.tupleExact _) (wpAny_newObj_type (wpAny_bind (wpAny_pure (wpAny_pure ⟨_,rfl,h⟩))) fit)
theorem Aq:OpR X (binaryOp .Mult) (fun x y H Q=>∃ a k xs,x=.ref a∧y=.int k∧SqT X.K H a xs∧2≤k∧k≤1000∧xs≠[]∧xs.length≤1000∧∀ p,H p=none→Q (.ref p) (upd H p (.tup (List.replicate k.toNat xs).flatten))):=by
 intro pins s σ H x y v u Q I rx ry h
 obtain ⟨a,k,xs,rfl,rfl,hq,h1,h2,h3,h4,q⟩:=h
 cases rx
 obtain ⟨t,rfl⟩:=ry
 obtain ⟨its,r,p1,_⟩:=I.tuple hq
 have hl:=r.length
 have hv:its≠[]:=fun z=>h3 (r.nil_iff.mp z)
 obtain ⟨⟨cls,dd,data,sl⟩,ho,hc,n,hd⟩:=id p1
 simp only at hc hd
 subst hc hd
 have hnew:List.foldl (fun x1 x2=>x1++x2) #[] (List.replicate k.toNat its.toArray)=(List.replicate k.toNat its).flatten.toArray:=by
  have q:=foldl_rep its k.toNat []
  rw [List.nil_append] at q
  exact q
 have he:its.toArray.isEmpty=false:=by
  cases its with
  | nil=>exact absurd rfl hv
  | cons _ _=>simp
 refine wpAny_binaryOp_repeat_ref (T:="tuple") (U:="int") (by decide) ⟨_,ho,rfl⟩ (fun s'=>typeIs_int s' k t) uX F.fills_int_mul F.slot_int_rmul vI F.slot_int_index.lookup
  (call_meets F.slot_int_rmul (typeIs_int s k t) F.entry_int_rmul (F.args_int_rmul_2 _ _) (vg k t a its.toArray n dd sl)
   ⟨ho,rfl,⟨_,ho,rfl⟩,call_meets PySem.F.slot_tuple_mul ⟨_,ho,rfl⟩ PySem.F.entry_tuple_mul (PySem.F.args_tuple_mul_2 _ _) (wN a its.toArray n dd sl k t h1 h2 he (by rw [List.size_toArray]; omega)) ⟨ho,?_⟩⟩)
 rw [hnew]
 refine ⟨.ref s.heap.objs.size,_,I.laid (t':=s.toks) (o:=.tup (List.replicate k.toNat xs).flatten) (fun b ob q=>Heap.get?_push_of_some _ q) (Nat.le_refl _) ?_,rfl,q _ (I.hok.fresh (Nat.le_refl _))⟩
 refine ⟨?_,_,r.rep k.toNat,IsTup.new _ _⟩
 rw [len_rep]
 have:k.toNat * xs.length≤1000 * 1000:=Nat.mul_le_mul (by omega) h4
 have:sizeLine=16777216:=by decide
 omega
def bO:PyData→PyData→Option PyData
 | .int i,.int j=>if (-(2 ^ 64) < i∧i < 2 ^ 64)∨(-(2 ^ 64) < j∧j < 2 ^ 64) then some (.int (i * j)) else none
 | .str z,.int k=>if 0≤k∧k≤2000∧z.length≤1000 then some (.str (Txt.mul z k)) else none
 | .tuple xs,.int k=>if 2≤k∧k≤1000∧xs.isEmpty=false∧xs.length≤1000 then some (.tuple (List.replicate k.toNat xs).flatten) else none
 | _,_=>none
theorem eI:OpD X (binaryOp .Mult) bO:=by
 refine ⟨_,op_mul.or (op_mulS.or Aq),fun O ts H T v1 v2 x y d Q hc h1 h2 e q=>?_⟩
 unfold bO at e
 split at e
 ·split at e
  ·rename_i hz
   cases e
   exact .inl ⟨_,_,h1.int,h2.int,hz,q _ H (.refl _ _) hc (.int _)⟩
  ·cases e
 ·split at e
  ·rename_i hz
   cases e
   exact .inr (.inl ⟨_,_,h1.str,h2.int,hz.1,hz.2.1,hz.2.2,q _ H (.refl _ _) hc (.str _)⟩)
  ·cases e
 ·split at e
  ·rename_i xs k hz
   cases e
   obtain ⟨a,vs,rfl,t1,r1⟩:=h1.tup
   exact .inr (.inr ⟨a,_,vs,rfl,h2.int,t1.sq,hz.1,hz.2.1,fun z=>by subst z; cases r1; exact absurd hz.2.2.1 (by simp),by rw [r1.length]; exact hz.2.2.2,fun p hp=>q _ _ (.new hp _) (hc.new hp _) (hc.newT hp (r1.rep _))⟩)
  ·cases e
 ·cases e
def eqS:PyData→PyData→Option Bool
 | .int i,.int j=>some (decide (i=j))
 | .str x,.str y=>some (decide (x=y))
 | .bool a,.bool b=>some (decide (a=b))
 | .none,.none=>some true
 | .none,.int _=>some false | .int _,.none=>some false | .none,.bool _=>some false | .bool _,.none=>some false | .none,.str _=>some false | .str _,.none=>some false
 | .int _,.str _=>some false | .str _,.int _=>some false | .bool _,.str _=>some false | .str _,.bool _=>some false
 | _,_=>none
theorem sG {K:Frag} {O:Addr→Prop} {H:Hp} {v1 v2:V} {x y:PyData} {b:Bool} (h1:Vw K O H v1 x) (h2:Vw K O H v2 y) (e:eqS x y=some b):nE v1 v2=true∧decide (v1=v2)=b:=by
 unfold eqS at e
 split at e
 all_goals first | (cases e; done) | skip
 ·cases h1.int; cases h2.int; cases e; exact ⟨rfl,by simp⟩
 ·cases h1.str; cases h2.str; cases e; exact ⟨rfl,by simp⟩
 ·cases h1.bl; cases h2.bl; cases e; exact ⟨rfl,by simp⟩
 ·cases h1.non; cases h2.non; cases e; exact ⟨rfl,by simp⟩
 ·cases h1.non; cases h2.int; cases e; exact ⟨rfl,by simp⟩
 ·cases h1.int; cases h2.non; cases e; exact ⟨rfl,by simp⟩
 ·cases h1.non; cases h2.bl; cases e; exact ⟨rfl,by simp⟩
 ·cases h1.bl; cases h2.non; cases e; exact ⟨rfl,by simp⟩
 ·cases h1.non; cases h2.str; cases e; exact ⟨rfl,by simp⟩
 ·cases h1.str; cases h2.non; cases e; exact ⟨rfl,by simp⟩
 ·cases h1.int; cases h2.str; cases e; exact ⟨rfl,by simp⟩
 ·cases h1.str; cases h2.int; cases e; exact ⟨rfl,by simp⟩
 ·cases h1.bl; cases h2.str; cases e; exact ⟨rfl,by simp⟩
 ·cases h1.str; cases h2.bl; cases e; exact ⟨rfl,by simp⟩
def eqD (x y:PyData):Option PyData:=(eqS x y).map .bool
def neD (x y:PyData):Option PyData:=(eqS x y).map fun b=>.bool (!b)
theorem aX:OpD X (compareOp .Eq) eqD:=⟨_,C9,fun O ts H T v1 v2 x y d Q hc h1 h2 e q=>by
 unfold eqD at e
 obtain ⟨b,e1,rfl⟩:=Option.map_eq_some_iff.mp e
 obtain ⟨k1,k2⟩:=sG h1 h2 e1
 exact ⟨k1,by rw [k2]; exact q _ H (.refl _ _) hc (.bl _)⟩⟩
theorem kZ:OpD X (compareOp .NotEq) neD:=⟨_,C4,fun O ts H T v1 v2 x y d Q hc h1 h2 e q=>by
 unfold neD at e
 obtain ⟨b,e1,rfl⟩:=Option.map_eq_some_iff.mp e
 obtain ⟨k1,k2⟩:=sG h1 h2 e1
 exact ⟨k1,by rw [k2]; exact q _ H (.refl _ _) hc (.bl _)⟩⟩
def isNone:PyData→Bool
 | .none=>true
 | _=>false
theorem yn {K:Frag} {O:Addr→Prop} {H:Hp} {v:V} {x:PyData} (h:Vw K O H v x):decide (v=.non)=isNone x:=by
 cases h with
 | rep h=>cases h <;> rfl
 | raw _ _=>rfl
 | rawD _ _=>rfl
def isD:PyData→PyData→Option PyData
 | x,.none=>some (.bool (isNone x))
 | _,_=>none
theorem D3:OpD X (compareOp .Is) isD:=⟨_,BJ,fun O ts H T v1 v2 x y d Q hc h1 h2 e q=>by
 unfold isD at e
 split at e
 ·cases e
  exact ⟨h2.non,by rw [yn h1]; exact q _ H (.refl _ _) hc (.bl _)⟩
 ·cases e⟩
def B4:PyData→PyData→Option PyData
 | x,.none=>some (.bool (!isNone x))
 | .bool a,.bool b=>some (.bool (a != b))
 | _,_=>none
def cL:PyData→Bool
 | .none=>true | .bool _=>true | .int _=>true | .str _=>true
 | _=>false
def eqF:PyData→PyData→Bool
 | .none,.none=>true
 | .bool a,.bool b=>a == b
 | .bool a,.int b=>(if a then 1 else 0) == b
 | .int a,.bool b=>a == (if b then 1 else 0)
 | .int a,.int b=>a == b
 | .str a,.str b=>a == b
 | _,_=>false
def gW (y x:Str):Bool:=!(Builtin.Str.occurrences y x 0 y.length 1).isEmpty
def inS:PyData→PyData→Option Bool
 | .str x,.str y=>some (gW y x)
 | x,.list ys=>if cL x && ys.all cL then some (ys.any fun y=>eqF y x) else none
 | x,.tuple ys=>if cL x && ys.all cL then some (ys.any fun y=>eqF y x) else none
 | _,_=>none
theorem mw {K:Frag} {O:Addr→Prop} {H:Hp} {v:V} {x:PyData} (h:Rep K O H v x) (e:cL x=true):eL v=true:=by cases h <;> first | rfl | cases e
theorem Cc {K:Frag} {O:Addr→Prop} {H:Hp} {v u:V} {x y:PyData} (h:Rep K O H v x) (g:Rep K O H u y) (ex:cL x=true) (ey:cL y=true):eqV v u=eqF x y:=by cases h <;> cases g <;> first | rfl | cases ex | cases ey
theorem l0 {K:Frag} {O:Addr→Prop} {H:Hp}:∀ {vs:List V} {xs:List PyData},Reps K O H vs xs→xs.all cL=true→vs.all eL=true
 | _,_,.nil,_=>rfl
 | _,_,.cons r t,e=>by
  rw [List.all_cons,Bool.and_eq_true] at e
  rw [List.all_cons,mw r e.1,l0 t e.2]
  rfl
theorem mH {K:Frag} {O:Addr→Prop} {H:Hp} {v:V} {x:PyData} (h:Rep K O H v x) (ex:cL x=true):∀ {vs:List V} {xs:List PyData},Reps K O H vs xs→xs.all cL=true→(vs.any fun y=>eqV y v)=xs.any fun y=>eqF y x
 | _,_,.nil,_=>rfl
 | _,_,.cons r t,e=>by
  rw [List.all_cons,Bool.and_eq_true] at e
  rw [List.any_cons,List.any_cons,Cc r h e.1 ex,mH h ex t e.2]
theorem Vw.flat {K:Frag} {O:Addr→Prop} {H:Hp} {v:V} {x:PyData} (h:Vw K O H v x) (e:cL x=true):Rep K O H v x:=by
 cases h with
 | rep h=>exact h
 | raw _ _=>cases e
 | rawD _ _=>cases e
def inD (x y:PyData):Option PyData:=(inS x y).map .bool
def i8 (x y:PyData):Option PyData:=(inS x y).map fun b=>.bool (!b)
theorem kc {K:Frag} (neg:Bool):gi K (fun x y H Q=>(∃ i j,x=.str i∧y=.str j∧Q (.bl (if neg then !(gW j i) else gW j i)) H)∨rIn K neg x y H Q) (fun x y=>(inS x y).map fun b=>.bool (if neg then !b else b)):=fun O ts H T v1 v2 x y d Q hc h1 h2 e q=>by
 obtain ⟨b,e1,rfl⟩:=Option.map_eq_some_iff.mp e
 unfold inS at e1
 split at e1
 ·cases e1
  exact .inl ⟨_,_,h1.str,h2.str,q _ H (.refl _ _) hc (.bl _)⟩
 ·split at e1
  ·rename_i hf
   cases e1
   rw [Bool.and_eq_true] at hf
   obtain ⟨a,vs,rfl,t,r⟩:=h2.lst
   have r1:=h1.flat hf.1
   refine .inr ⟨a,vs,rfl,.inl t,mw r1 hf.1,l0 r hf.2,?_⟩
   have z:inV v1 vs=_:=mH r1 hf.1 r hf.2
   rw [z]
   exact q _ H (.refl _ _) hc (.bl _)
  ·cases e1
 ·split at e1
  ·rename_i hf
   cases e1
   rw [Bool.and_eq_true] at hf
   obtain ⟨a,vs,rfl,t,r⟩:=h2.tup
   have r1:=h1.flat hf.1
   refine .inr ⟨a,vs,rfl,.inr t.sq,mw r1 hf.1,l0 r hf.2,?_⟩
   have z:inV v1 vs=_:=mH r1 hf.1 r hf.2
   rw [z]
   exact q _ H (.refl _ _) hc (.bl _)
  ·cases e1
 ·cases e1
theorem nF:OpD X (compareOp .In) inD:=⟨_,op_in_str.or oY,kc false⟩
theorem qA:OpD X (compareOp .NotIn) i8:=⟨_,op_notin_str.or nT,kc true⟩
def js:PyData→Option PyData
 | .int i=>some (.int (-i))
 | _=>none
theorem sP {a:Expr} {fa:FE} {pos:Pos} (ha:DE X a fa):DE X (.UnaryOp .USub a pos) (fUn js fa):=Dw Ba (fun O ts H T v x d Q hc h e q=>by
 unfold js at e
 split at e
 ·cases e
  exact ⟨_,h.int,q _ H (.refl _ _) hc (.int _)⟩
 ·cases e) ha
def ixD:PyData→PyData→Option PyData
 | .list xs,.int i=>atI xs i
 | .tuple xs,.int i=>atI xs i
 | .str z,.int i=>if z.length≤sizeLine then (atI z.cps.toList i).map fun c=>.str ⟨#[c]⟩ else none
 | _,_=>none
theorem qv {K:Frag} {O:Addr→Prop} {H:Hp} {vs:List V} {xs:List PyData} {i:Int} {d:PyData} (r:Reps K O H vs xs) (e:atI xs i=some d):∃ v,atI vs i=some v∧Rep K O H v d:=by
 unfold atI at e ⊢
 rw [r.length]
 cases h:ixN xs.length i with
 | none=>rw [h] at e; cases e
 | some j=>
  rw [h] at e
  exact r.getD e
theorem aA:IxD X ixD:=⟨_,B0,fun O ts H T v1 v2 x y d Q hc h1 h2 e q=>by
 unfold ixD at e
 split at e
 ·obtain ⟨a,vs,rfl,t,r⟩:=h1.lst
  obtain ⟨v,k1,k2⟩:=qv r e
  exact .inl ⟨a,vs,_,v,rfl,h2.int,t,k1,q _ H (.refl _ _) hc k2⟩
 ·obtain ⟨a,vs,rfl,t,r⟩:=h1.tup
  obtain ⟨v,k1,k2⟩:=qv r e
  exact .inr (.inl ⟨a,vs,_,v,rfl,h2.int,t.sq,k1,q _ H (.refl _ _) hc k2⟩)
 ·split at e
  ·rename_i hz
   obtain ⟨c,k1,rfl⟩:=Option.map_eq_some_iff.mp e
   exact .inr (.inr ⟨_,_,c,h1.str,h2.int,hz,k1,q _ H (.refl _ _) hc (.str _)⟩)
  ·cases e
 ·cases e⟩
end
theorem uT {prog:Program} {w:World} {A:Around} {E:Value→Shared→Prop} {s:Shared} {t sl:Addr} {items:Array Value} {vl vu:Value} {lo hi:Option Int} {Q:Value→Shared→Prop} (ht:IsTup s.heap t items) (hs:s.heap.IsSliceOf sl vl vu .none) (pl:IsPart vl lo) (pu:IsPart vu hi)
  (hw:HT.sIx items.size 0 lo=0∧HT.sIx items.size items.size hi=items.size) (h:Q (.ref t) s):wpAny (model prog w) A (getItem (.ref t) (.ref sl)) Q E s:=by
 obtain ⟨os,hos,hcs,hds⟩:=id hs
 have hTs:s.TypeIs (.ref sl) "slice":=⟨os,hos,hcs⟩
 unfold getItem
 try with_reducible refine wpAny_holding ?_
 first | refine wpAny_bind (wpAny_pure ?_) | skip
 refine wpAny_bind (wpAny_sequenceKey ht.typeIs (by decide) ?_)
 refine wpAny_bind (wpAny_callSpecial?_slot (name:=Str.ofString "__getitem__") ht.typeIs PyProof.Rows.slot_tuple_getitem
  (wpAny_call_entry PyProof.Rows.slot_tuple_getitem ht.typeIs entry_tuple_getitem ?_ (args_tuple_getitem _ _)))
 show wpAny _ _ (Builtin.Tuple.tupleItemsOf (.ref t) >>= _) _ _ s
 refine wpAny_bind (tupleItemsOf_ ht ?_)
 refine wpAny_bind (wpAny_typeOf hTs ?_)
 rw [if_pos (by decide)]
 refine wpAny_bind (HT.nP hs pl pu ?_)
 have hyes:((((HT.sIx items.size 0 lo:Nat):Int) == 0 && (1:Int) == 1 && (HT.sIx items.size items.size hi - HT.sIx items.size 0 lo) == items.size)=true):=by
  rw [hw.1,hw.2]
  simp
 show wpAny _ _ (if (((HT.sIx items.size 0 lo:Nat):Int) == 0 && (1:Int) == 1 && (HT.sIx items.size items.size hi - HT.sIx items.size 0 lo) == items.size)=true then _ else _) _ _ s
 rw [if_pos hyes]
 refine wpAny_bind (m:=Builtin.Tuple.tupleIsExact (.ref t)) (wpAny_bind (wpAny_typeOf ht.typeIs (wpAny_pure ?_)))
 first
 | exact wpAny_bind (wpAny_rule (wpAny_bind (wpAny_pure ⟨_,rfl,wpAny_pure h⟩)))
 | (simp only [beq_self_eq_true,if_true]; exact wpAny_bind (wpAny_rule (wpAny_pure ⟨_,rfl,wpAny_pure h⟩)))
def cY {α:Type} (xs:List α) (lo hi:Option Int):List α:=(xs.drop (HT.sIx xs.length 0 lo)).take (HT.sIx xs.length xs.length hi - HT.sIx xs.length 0 lo)
theorem Reps.cut {K:Frag} {O:Addr→Prop} {H:Hp} {vs:List V} {ds:List PyData} (r:Reps K O H vs ds) (lo hi:Option Int):Reps K O H (fM vs lo hi) (cY ds lo hi):=by
 unfold fM cY
 rw [r.length]
 exact (r.drop _).take _
theorem yF {α:Type} {xs:List α} {lo hi:Option Int} (h:HT.sIx xs.length 0 lo=0∧HT.sIx xs.length xs.length hi=xs.length):cY xs lo hi=xs:=by
 unfold cY
 rw [h.1,h.2]
 simp
section
variable {X:Cx}
theorem sl_tupA:SlR X (fun x lo hi H Q=>∃ a xs,x=.ref a∧SqT X.K H a xs∧((HT.sIx xs.length 0 lo=0∧HT.sIx xs.length xs.length hi=xs.length)→Q (.ref a) H) ∧
  (¬ (HT.sIx xs.length 0 lo=0∧HT.sIx xs.length xs.length hi=xs.length)→∀ p,H p=none→Q (.ref p) (upd H p (.tup (fM xs lo hi))))):=by
 intro pins s σ H x v vl vu lo hi sl Q I rx hs pl pu h
 obtain ⟨a,xs,rfl,hx,q1,q2⟩:=h
 by_cases hw:HT.sIx xs.length 0 lo=0∧HT.sIx xs.length xs.length hi=xs.length
 ·cases rx
  obtain ⟨its,r,ht,hz⟩:=I.tuple hx
  have hlen:its.toArray.size=xs.length:=by rw [List.size_toArray]; exact r.length.symm
  refine ⟨"tuple",_,PyProof.Rows.slot_tuple_getitem.lookup,ht.typeIs,?_⟩
  exact uT ht hs pl pu (by rw [hlen]; exact hw) ⟨.ref a,H,I,rfl,q1 hw⟩
 ·exact Bo pins s σ H _ v vl vu lo hi sl Q I rx hs pl pu ⟨a,xs,rfl,hx,hw,q2 hw⟩
def i5 (x:PyData) (lo hi:Option Int):Option PyData:=match x with
 | .list xs=>some (.list (cY xs lo hi))
 | .tuple xs=>some (.tuple (cY xs lo hi))
 | .str z=>if z.length≤sizeLine then some (.str (Txt.slice z lo hi)) else none
 | _=>none
abbrev FO:=Rho→Tp→Option (Option Int×Tp)
def fK:FO:=fun _ T=>some (none,T)
def fP (f:FE):FO:=fun ρ T=>bnd (f ρ T) fun w T1=>match w with
 | .d (.int i)=>some (some i,T1)
 | _=>none
inductive LiftOP (K:Frag) (f:FO) (σ:L2.St) (H:Hp) (Q:Option Int→Hp→Prop):Prop where
 | mk (O:Addr→Prop) (ts:List Addr) (ρ:Rho) (T:Tp) (o:Option Int) (T':Tp) (hc:HC K O ts H T) (re:RelE K O ts H σ ρ) (e:f ρ T=some (o,T')) (q:∀ H',SameX ts H H'→HC K O ts H' T'→Q o H'):LiftOP K f σ H Q
def Dj (K:Frag) (f:FO):TO:=fun σ H Q=>LiftOP K f σ H Q
structure DO (X:Cx) (e:Option Expr) (f:FO):Prop where
 pe:PO X e (Dj X.K f)
theorem rW {e:Option Expr} {t t':TO} (h:PO X e t) (i:∀ σ H Q,t' σ H Q→t σ H Q):PO X e t':=fun pins s σ H Q I q=>h pins s σ H Q I (i σ H Q q)
theorem ip:DO X none fK:=by
 refine ⟨?_⟩
 refine rW Aj fun σ H Q=>?_
 rintro ⟨O,ts,ρ,T,o,T',hc,re,e,q⟩
 cases e
 exact q H (.refl _ _) hc
theorem il {e:Expr} {f:FE} (h:DE X e f):DO X (some e) (fP f):=by
 refine ⟨?_⟩
 refine rW (Ai h.pe) fun σ H Q=>?_
 rintro ⟨O,ts,ρ,T,o,T',hc,re,e,q⟩
 obtain ⟨w1,T1,e1,e⟩:=aT e
 refine ⟨O,ts,ρ,T,w1,T1,hc,re,e1,fun v1 H1 s1 hc1 r1=>?_⟩
 split at e
 ·cases e
  cases (show Rep X.K O H1 v1 _ from r1)
  exact ⟨_,rfl,q H1 s1 hc1⟩
 ·cases e
def fSl (f:FE) (l u:FO):FE:=fun ρ T=>bnd (f ρ T) fun w T1=>bnd (l ρ T1) fun lo T2=>bnd (u ρ T2) fun hi T3=>op1 (fun x=>i5 x lo hi) T3 w
theorem iN {e:Expr} {lo hi:Option Expr} {f:FE} {l u:FO} {pos p2:Pos} (he:DE X e f) (hl:DO X lo l) (hu:DO X hi u):DE X (.Subscript e (.Slice lo hi none p2) pos) (fSl f l u):=by
 refine ⟨?_⟩
 refine pe_imp (y8 (sl_list.or (sl_tupA.or Bp)) he.pe hl.pe hu.pe) fun σ H Q=>?_
 rintro ⟨O,ts,ρ,T,w,T',hc,re,e,q⟩
 obtain ⟨w1,T1,e1,e⟩:=aT e
 obtain ⟨o1,T2,e2,e⟩:=aT e
 obtain ⟨o2,T3,e3,e⟩:=aT e
 obtain ⟨x,d,h1,h3,rfl,rfl⟩:=i7 e
 refine ⟨O,ts,ρ,T,w1,T1,hc,re,e1,fun v1 H1 s1 hc1 r1=>?_⟩
 refine ⟨O,ts,ρ,T1,o1,T2,hc1,re.mono hc s1,e2,fun H2 s2 hc2=>?_⟩
 refine ⟨O,ts,ρ,T2,o2,T',hc2,re.mono hc (s1.trans s2),e3,fun H3 s3 hc3=>?_⟩
 have vw:=hc3.view (r1.mono hc1 (s2.trans s3)) h1
 have q':∀ v H',SameX ts H3 H'→HC X.K O ts H' T'→Rep X.K O H' v d→Q v H':=fun v H' s c r=>q v H' (s1.trans (s2.trans (s3.trans s))) c r
 clear q
 cases x with
 | list xs=>
  cases h3
  obtain ⟨a,vs,rfl,t,r⟩:=vw.lst
  exact .inl ⟨a,vs,rfl,t,fun p hp=>q' _ _ (.new hp _) (hc3.new hp _) (hc3.newL hp (r.cut _ _))⟩
 | tuple xs=>
  cases h3
  obtain ⟨a,vs,rfl,t,r⟩:=vw.tup
  refine .inr (.inl ⟨a,vs,rfl,t.sq,fun hw=>?_,fun hw p hp=>?_⟩)
  ·rw [r.length] at hw
   rw [yF hw] at q'
   exact q' _ H3 (.refl _ _) hc3 vw.tupR
  ·exact q' _ _ (.new hp _) (hc3.new hp _) (hc3.newT hp (r.cut _ _))
 | str z=>
  have h3':(if z.length≤sizeLine then some (PyData.str (Txt.slice z o1 o2)) else none)=some d:=h3
  split at h3'
  ·rename_i hz
   cases h3'
   exact .inr (.inr ⟨z,vw.str,hz,q' _ H3 (.refl _ _) hc3 (.str _)⟩)
  ·cases h3'
 | _=>cases h3
end
inductive Kd where
 | non | bl | int | str | tup | lst | dct
 deriving DecidableEq
def Kd.name:Kd→String
 | .non=>"NoneType" | .bl=>"bool" | .int=>"int" | .str=>"str" | .tup=>"tuple" | .lst=>"list" | .dct=>"dict"
def kd:PyData→Kd
 | .none=>.non | .bool _=>.bl | .int _=>.int | .str _=>.str | .list _=>.lst | .tuple _=>.tup | .dict _=>.dct
def a6 (a b:Kd):Bool:=decide (a=b) || (decide (a=.bl) && decide (b=.int))
def D9 (t c:String):Option Bool:=if (Value.type t == Value.type c)=true then some true else if PySem.W.kitMeta c=true then (fastBuiltinMro t).map (·.contains (.type c)) else none
theorem fw (a b:Kd):b≠.non→D9 a.name b.name=some (a6 a b):=by cases a <;> cases b <;> first | (intro h; exact absurd rfl h) | (intro _; decide +kernel)
section
variable {X:Cx}
theorem zO:CallR X (.builtin "isinstance") (fun xs H Q=>∃ (x:V) (c:Kd) (O:Addr→Prop) (d:PyData),xs=[x,.ty c.name]∧Vw X.K O H x d∧c≠.non∧Q (.bl (a6 (kd d) c)) H):=by
 intro pins s σ H xs us Q I r h
 obtain ⟨x,c,O,d,rfl,vw,hc,q⟩:=h
 obtain ⟨u,w',rfl,ru,rw'⟩:=vals2 r
 cases (show w'=Value.type c.name from rw')
 have fin:∀ tk,EP X pins σ Q (.bool (a6 (kd d) c)) { s with toks:=tk }:=fun tk=>⟨.bl _,H,I.tok _,rfl,q⟩
 cases d with
 | none=>cases vw.non; exact jH I ru .non (show PySem.W.kitOne X.K (.type (Kd.name .non)) (.type c.name)=some _ from fw .non c hc) fin
 | bool b=>cases vw.bl; exact jH I ru (.bl b) (show PySem.W.kitOne X.K (.type (Kd.name .bl)) (.type c.name)=some _ from fw .bl c hc) fin
 | int i=>cases vw.int; exact jH I ru (.int i) (show PySem.W.kitOne X.K (.type (Kd.name .int)) (.type c.name)=some _ from fw .int c hc) fin
 | str z=>cases vw.str; exact jH I ru (.str z) (show PySem.W.kitOne X.K (.type (Kd.name .str)) (.type c.name)=some _ from fw .str c hc) fin
 | list ds=>
  obtain ⟨a,vs,rfl,t,r⟩:=vw.lst
  cases (show u=Value.ref a from ru)
  obtain ⟨its,_,pl,_⟩:=I.list t
  obtain ⟨o,n,e,c1,_⟩:=pl
  exact PySem.W.kia_one PySem.W.kitx_list I.kIn ⟨o,e,c1⟩ (show PySem.W.kitOne X.K (.type (Kd.name .lst)) (.type c.name)=some _ from fw .lst c hc) (fun z=>nomatch z) fin
 | tuple ds=>
  obtain ⟨a,vs,rfl,t,r⟩:=vw.tup
  cases (show u=Value.ref a from ru)
  obtain ⟨its,_,pl,_⟩:=I.tuple t.sq
  obtain ⟨o,e,c1,_⟩:=pl
  exact PySem.W.kia_one PySem.W.kitx_tuple I.kIn ⟨o,e,c1⟩ (show PySem.W.kitOne X.K (.type (Kd.name .tup)) (.type c.name)=some _ from fw .tup c hc) (fun z=>nomatch z) fin
 | dict ds=>
  obtain ⟨a,vs,rfl,t,r⟩:=vw.dct
  cases (show u=Value.ref a from ru)
  obtain ⟨_,_,_,_,o,_,_,e,c1,_⟩:=dX I.hok t
  exact PySem.W.kia_one PySem.W.kitx_dict I.kIn ⟨o,e,c1.1⟩ (show PySem.W.kitOne X.K (.type (Kd.name .dct)) (.type c.name)=some _ from fw .dct c hc) (fun z=>nomatch z) fin
def a9 (c:Kd) (x:PyData):Option PyData:=some (.bool (a6 (kd x) c))
theorem ba {e:Expr} {f:FE} {p p' pos:Pos} {T:Str} (c:Kd) (hi:X.mg "isinstance" = none) (he:DE X e f) (hm:X.mg T=none) (hb:bootBuiltins T=some (.type c.name)) (hcn:c≠.non:=by decide) (hg:Gl X "isinstance":=by rfl) (hT:Gl X T:=by rfl) (hn:T≠"__name__":=by decide) (hdb:(T == ("__debug__" : Str))=false:=by decide)
  (hs:starEach [e,.Name T p] X.env=(false,eval e X.env)::starEach [.Name T p] X.env:=by exact b5 rfl) (hs2:starEach [.Name T p] X.env=(false,eval (.Name T p) X.env)::starEach [] X.env:=by exact b5 rfl)
  (hpl:(backTo pos (starEach [.Name T p] X.env)).any (·.1)=false:=by exact c8 rfl):DE X (.Call (.Name "isinstance" p') [e,.Name T p] [] pos) (fUn (a9 c) f):=by
 refine ⟨?_⟩
 refine pe_imp (fS zO hg hi PyProof.Rows.boot_isinstance (bu he.pe (bu (jY (v:=.ty c.name) hT hm hb rfl hn hdb) bX hs2) hs) (by decide) (by decide) hs hpl) fun σ H Q=>?_
 rintro ⟨O,ts,ρ,T,w,T',hc,re,e,q⟩
 obtain ⟨w1,T1,e1,e⟩:=aT e
 obtain ⟨x,d,h1,h3,rfl,rfl⟩:=i7 e
 cases h3
 refine ⟨O,ts,ρ,T,w1,T',hc,re,e1,fun v1 H1 s1 hc1 r1=>?_⟩
 exact ⟨v1,c,O,x,rfl,hc1.view r1 h1,hcn,q _ H1 s1 hc1 (.bl _)⟩
def bq:List PyData→Option PyData
 | [.list xs]=>some (.int xs.length)
 | [.tuple xs]=>some (.int xs.length)
 | [.str z]=>if z.length≤sizeLine then some (.int z.length) else none
 | [.dict kvs]=>some (.int kvs.length)
 | _=>none
theorem cN {K:Frag} {O:Addr→Prop} {H:Hp} {vs:List V} {x:PyData} (h:Vws K O H vs [x]):∃ v,vs=[v]∧Vw K O H v x:=by cases h with | cons h t=>cases t; exact ⟨_,rfl,h⟩
theorem pU {K:Frag} {O:Addr→Prop} {H:Hp}:∀ {kvs:List (Key×V)} {ds:List (PyData×PyData)},RepK K O H kvs ds→kvs.length=ds.length
 | _,_,.nil=>rfl
 | _,_,.cons _ t=>congrArg (· + 1) (pU t)
theorem yJ:CallR X (.builtin "len") (fun xs H Q=>∃ a kvs,xs=[V.ref a]∧Rd H a (.dK kvs)∧Q (.int kvs.length) H):=by
 intro pins s σ H xs us Q I r h
 obtain ⟨a,kvs,rfl,ha,q⟩:=h
 obtain ⟨u,rfl,ru⟩:=vals1 r
 cases ru
 exact Dy I ha fun t s' I'=>⟨.int kvs.length,H,I',⟨t,rfl⟩,q⟩
theorem bM:eQ X (.builtin "len") bq:=⟨_,call_len_seq.or (call_len_str.or yJ),fun O ts H T vs xs d Q hc h e q=>by
 unfold bq at e
 split at e
 ·cases e
  obtain ⟨v,rfl,g⟩:=cN h
  obtain ⟨a,vs,rfl,t,r⟩:=g.lst
  exact .inl ⟨a,vs,rfl,.inl t,by rw [r.length]; exact q _ H (.refl _ _) hc (.int _)⟩
 ·cases e
  obtain ⟨v,rfl,g⟩:=cN h
  obtain ⟨a,vs,rfl,t,r⟩:=g.tup
  exact .inl ⟨a,vs,rfl,.inr t.sq,by rw [r.length]; exact q _ H (.refl _ _) hc (.int _)⟩
 ·split at e
  ·rename_i hz
   cases e
   obtain ⟨v,rfl,g⟩:=cN h
   cases g.str
   exact .inr (.inl ⟨_,rfl,hz,q _ H (.refl _ _) hc (.int _)⟩)
  ·cases e
 ·cases e
  obtain ⟨v,rfl,g⟩:=cN h
  obtain ⟨a,kvs,rfl,t,r⟩:=g.dct
  exact .inr (.inr ⟨a,kvs,rfl,t,by rw [pU r]; exact q _ H (.refl _ _) hc (.int _)⟩)
 ·cases e⟩
def jw:List PyData→Option PyData
 | [.int i]=>some (.int (if i < 0 then -i else i))
 | _=>none
theorem ud:eQ X (.builtin "abs") jw:=⟨_,zQ,fun O ts H T vs xs d Q hc h e q=>by
 unfold jw at e
 split at e
 ·cases e
  obtain ⟨v,rfl,g⟩:=cN h
  cases g.int
  exact ⟨_,rfl,q _ H (.refl _ _) hc (.int _)⟩
 ·cases e⟩
def Di:List PyData→Option PyData
 | [.int i,.int j]=>some (.int (if j > i then j else i))
 | _=>none
def Dg:List PyData→Option PyData
 | [.int i,.int j]=>some (.int (if j < i then j else i))
 | _=>none
def gL:List PyData→Option (List Bool)
 | []=>some []
 | .bool b::r=>(gL r).map (b::·)
 | _=>none
def fE:List PyData→Option (List Int)
 | []=>some []
 | .int b::r=>(fE r).map (b::·)
 | _=>none
def dq:List PyData→Option (List Str)
 | []=>some []
 | .str b::r=>(dq r).map (b::·)
 | _=>none
theorem qj {K:Frag} {O:Addr→Prop} {H:Hp}:∀ {vs:List V} {xs:List PyData} {bs:List Bool},Reps K O H vs xs→gL xs=some bs→vs=bs.map V.bl
 | _,_,_,.nil,e=>by cases e; rfl
 | _,x::r,bs,.cons h t,e=>by
  cases x with
  | bool b=>
   obtain ⟨cs,e1,rfl⟩:=Option.map_eq_some_iff.mp (show (gL r).map (b::·)=some bs from e)
   cases h
   rw [qj t e1]
   rfl
  | _=>cases e
theorem p0 {K:Frag} {O:Addr→Prop} {H:Hp}:∀ {vs:List V} {xs:List PyData} {bs:List Int},Reps K O H vs xs→fE xs=some bs→vs=bs.map V.int
 | _,_,_,.nil,e=>by cases e; rfl
 | _,x::r,bs,.cons h t,e=>by
  cases x with
  | int b=>
   obtain ⟨cs,e1,rfl⟩:=Option.map_eq_some_iff.mp (show (fE r).map (b::·)=some bs from e)
   cases h
   rw [p0 t e1]
   rfl
  | _=>cases e
theorem l8 {K:Frag} {O:Addr→Prop} {H:Hp}:∀ {vs:List V} {xs:List PyData} {bs:List Str},Reps K O H vs xs→dq xs=some bs→vs=bs.map V.str
 | _,_,_,.nil,e=>by cases e; rfl
 | _,x::r,bs,.cons h t,e=>by
  cases x with
  | str b=>
   obtain ⟨cs,e1,rfl⟩:=Option.map_eq_some_iff.mp (show (dq r).map (b::·)=some bs from e)
   cases h
   rw [l8 t e1]
   rfl
  | _=>cases e
def gh:List PyData→Option PyData
 | [.list xs]=>(gL xs).map fun bs=>.bool (bs.all id)
 | _=>none
theorem kR (hc:X.calm=true:=by rfl):eQ X (.builtin "all") gh:=⟨_,zP hc,fun O ts H T vs xs d Q hc h e q=>by
 unfold gh at e
 split at e
 ·obtain ⟨bs,e1,rfl⟩:=Option.map_eq_some_iff.mp e
  obtain ⟨v,rfl,g⟩:=cN h
  obtain ⟨a,vs,rfl,t,r⟩:=g.lst
  rw [qj r e1] at t
  exact ⟨a,bs,rfl,t,q _ H (.refl _ _) hc (.bl _)⟩
 ·cases e⟩
def jo:List PyData→Option PyData
 | [.list xs]=>(fE xs).map fun bs=>.int bs.sum
 | _=>none
theorem ub (hc:X.calm=true:=by rfl):eQ X (.builtin "sum") jo:=⟨_,zN hc,fun O ts H T vs xs d Q hc h e q=>by
 unfold jo at e
 split at e
 ·obtain ⟨bs,e1,rfl⟩:=Option.map_eq_some_iff.mp e
  obtain ⟨v,rfl,g⟩:=cN h
  obtain ⟨a,vs,rfl,t,r⟩:=g.lst
  rw [p0 r e1] at t
  exact ⟨a,bs,rfl,t,q _ H (.refl _ _) hc (.int _)⟩
 ·cases e⟩
def Dh:PyData→PyData→Option PyData
 | .list xs,.int d=>(fE xs).map fun bs=>.int (K1.gS d bs)
 | _,_=>none
def jp:List PyData→Option PyData
 | [.int i]=>if i.natAbs.log2 < 1920 then some (.str (toString i)) else none
 | _=>none
theorem uc:eQ X (.type "str") jp:=⟨_,vX,fun O ts H T vs xs d Q hc h e q=>by
 unfold jp at e
 split at e
 ·split at e
  ·rename_i hz
   cases e
   obtain ⟨v,rfl,g⟩:=cN h
   cases g.int
   exact ⟨_,rfl,hz,q _ H (.refl _ _) hc (.str _)⟩
  ·cases e
 ·cases e⟩
def cy:List PyData→Option PyData
 | [.list xs]=>some (.tuple xs)
 | [.tuple xs]=>some (.tuple xs)
 | _=>none
theorem ir:eQ X (.type "tuple") cy:=⟨_,vx,fun O ts H T vs xs d Q hc h e q=>by
 unfold cy at e
 split at e
 ·cases e
  obtain ⟨v,rfl,g⟩:=cN h
  obtain ⟨a,vs,rfl,t,r⟩:=g.lst
  exact ⟨a,vs,rfl,.inl ⟨t,fun p hp=>q _ _ (.new hp _) (hc.new hp _) (hc.newT hp r)⟩⟩
 ·cases e
  obtain ⟨v,rfl,g⟩:=cN h
  obtain ⟨a,vs,e1,t,r⟩:=g.tup
  subst e1
  exact ⟨a,vs,rfl,.inr ⟨t.sq,q _ H (.refl _ _) hc (.tup t r)⟩⟩
 ·cases e⟩
def dv:List PyData→Option PyData
 | [.list xs]=>some (.list xs)
 | [.tuple xs]=>some (.list xs)
 | _=>none
theorem ku:eQ X (.type "list") dv:=⟨_,vY,fun O ts H T vs xs d Q hc h e q=>by
 unfold dv at e
 split at e
 ·cases e
  obtain ⟨v,rfl,g⟩:=cN h
  obtain ⟨a,vs,rfl,t,r⟩:=g.lst
  exact ⟨a,vs,rfl,.inl t,fun p hp=>q _ _ (.new hp _) (hc.new hp _) (hc.newL hp r)⟩
 ·cases e
  obtain ⟨v,rfl,g⟩:=cN h
  obtain ⟨a,vs,rfl,t,r⟩:=g.tup
  exact ⟨a,vs,rfl,.inr t.sq,fun p hp=>q _ _ (.new hp _) (hc.new hp _) (hc.newL hp r)⟩
 ·cases e⟩
theorem zg:MtR X "str.join" (fun x vs H Q=>∃ (z:Str) (l:Addr) (ys:List Str),x=.str z∧vs=[.ref l]∧SqL X.K H l (ys.map V.str)∧(ys.map (·.length)).sum + ys.length * z.length≤16777216∧Q (.str (Str.join z ys)) H):=by
 intro pins s σ H x vs v us Q I rx rv h
 obtain ⟨z,l,ys,rfl,rfl,hq,hz,q⟩:=h
 obtain ⟨t,rfl⟩:=rx
 obtain ⟨u,rfl,ru⟩:=vals1 rv
 cases ru
 obtain ⟨its,rw',pl,_⟩:=I.list hq
 refine join_list (ys:=ys) pl.isList (by simpa using wQ rw') hz fun t' k=>⟨.str _,H,I.tok _,⟨t',?_⟩,q⟩
 show Value.str (Builtin.Str.glued z ys) t'=_
 rw [StrLaws.glued_eq_join]
def ji:PyData→PyData→Option PyData
 | .str z,.list xs=>match dq xs with
  | some ys=>if (ys.map (·.length)).sum + ys.length * z.length≤16777216 then some (.str (Str.join z ys)) else none
  | none=>none
 | _,_=>none
theorem rf {o e:Expr} {fo fe:FE} {apos cpos:Pos} (ho:DE X o fo) (he:DE X e fe)
  (hbase:attributeBase o "join" X.env (eval o X.env)=eval o X.env:=by rfl)
  (hfew:((backTo cpos (starEach [e] X.env)).all (fun x=>!x.1) && (backToKw cpos (keywordEach [] X.env)).all (fun x=>x.1.isSome)
   && decide (([e]:List Expr).length + ([]:List Keyword).length + (if ([]:List Keyword).isEmpty then 0 else 1) < 30))=true:=by exact uL rfl)
  (hline:(apos.endLine == cpos.line)=true:=by rfl) (hse:starEach [e] X.env=(false,eval e X.env)::starEach [] X.env:=by exact b5 rfl) (hplain:(backTo cpos (starEach [] X.env)).any (·.1)=false:=by exact c8 rfl) :
  DE X (.Call (.Attribute o "join" apos) [e] [] cpos) (ag ji fo fe):=by
 refine ⟨?_⟩
 refine pe_imp (tG PySem.F.plainAttrs_str PySem.F.slot_str_join PySem.F.type_str_join zg ho.pe (bu he.pe bX hse) hbase hfew hline hse hplain) fun σ H Q=>?_
 rintro ⟨O,ts,ρ,T,w,T',hc,re,e,q⟩
 obtain ⟨w1,T1,e1,e⟩:=aT e
 obtain ⟨w2,T2,e2,e⟩:=aT e
 obtain ⟨x,y,d,h1,h2,h3,rfl,rfl⟩:=kg e
 unfold ji at h3
 split at h3
 ·rename_i z xs
  split at h3
  ·rename_i ys hy
   split at h3
   ·rename_i hz
    cases h3
    refine ⟨O,ts,ρ,T,w1,T1,hc,re,e1,fun v1 H1 s1 hc1 r1=>?_⟩
    have ev:v1=.str z:=by
     cases w1 with
     | d x=>cases h1; cases (show Rep X.K O H1 v1 _ from r1); rfl
     | tp k=>exact (by
       have h1':(T'[k]?).bind iP=some (PyData.str z):=h1
       cases hk:T'[k]? with
       | none=>rw [hk] at h1'; cases h1'
       | some xs=>
        rw [hk] at h1'
        have e2:(if isO xs=true then none else some (PyData.list xs))=some (PyData.str z):=h1'
        split at e2 <;> cases e2)
     | loc zs=>cases zs <;> cases h1
    subst ev
    refine ⟨rfl,O,ts,ρ,T1,w2,T',hc1,re.mono hc s1,e2,fun v2 H2 s2 hc2 r2=>?_⟩
    obtain ⟨a,vs,rfl,t,r⟩:=(hc2.view r2 h2).lst
    rw [l8 r hy] at t
    exact ⟨z,a,ys,rfl,rfl,t,hz,q _ H2 (s1.trans s2) hc2 (.str _)⟩
   ·cases h3
  ·cases h3
 ·cases h3
end
mutual
def iK:PyData→Bool
 | .list _=>false
 | .tuple ds=>ki ds
 | .dict kvs=>kj kvs
 | .none | .bool _ | .int _ | .str _=>true
def ki:List PyData→Bool
 | []=>true
 | d::r=>iK d && ki r
def kj:List (PyData×PyData)→Bool
 | []=>true
 | (_,v)::r=>iK v && kj r
end
section
variable {X:Cx} {pins:List (Addr×Obj)} {σ:L2.St} {H:Hp} {s:Shared} {O:Addr→Prop}
theorem yi {h:Heap} {k:Key} {v:Value} (e:dW k v=true):Reads h v (gc k) []:=by
 rcases dB e with ⟨i,t,rfl,rfl⟩ | ⟨x,t,rfl,rfl⟩
 ·exact .int i t
 ·exact .str x t
mutual
theorem Rep.reads (I:Inv X pins σ H s):∀ {v:V} {d:PyData} {u:Value},Rep X.K O H v d→RelV v u→∃ as,Reads s.heap u d as∧(iK d=true→sysModules∉as)
 | _,_,_,.non,r=>by cases r; exact ⟨_,.none,fun _=>by simp⟩
 | _,_,_,.bl b,r=>by cases r; exact ⟨_,.bool b,fun _=>by simp⟩
 | _,_,_,.int i,r=>by obtain ⟨t,rfl⟩:=r; exact ⟨_,.int i t,fun _=>by simp⟩
 | _,_,_,.str x,r=>by obtain ⟨t,rfl⟩:=r; exact ⟨_,.str x t,fun _=>by simp⟩
 | _,_,_,.tup (a:=a) (vs:=vs) h rs,r=>by
  cases r
  obtain ⟨its,rv,⟨o,e,c,n,dd⟩,_⟩:=I.tuple h.sq
  obtain ⟨as,q,f⟩:=Reps.reads I rs rv
  exact ⟨as,.tuple e c dd (by simpa using q),f⟩
 | _,_,_,.lst (a:=a) (vs:=vs) h rs,r=>by
  cases r
  obtain ⟨its,rv,pl,_⟩:=I.list h.sq
  obtain ⟨o,n,e,c,_,dd⟩:=pl
  obtain ⟨as,q,f⟩:=Reps.reads I rs rv
  exact ⟨_,.list e c dd (by simpa using q),fun z=>by cases z⟩
 | _,_,_,.dct (a:=a) (kvs:=kvs) (ds:=ds) _ h rk,r=>by
  cases r
  obtain ⟨z,y,vs,kv,o,es,ep,e,ed,dd,_,ek,_⟩:=(show ObjOk X.prog X.w H s.heap a (.dK kvs) from (I.hok a _ h).2)
  obtain ⟨bs,q1,q2,f⟩:=RepK.reads I rk kv ek
  refine ⟨_,.dict (kvs:=ds) (as:=[]) (bs:=bs) e ed.1 dd q1 q2,fun zz hm=>?_⟩
  rcases List.mem_cons.mp (by simpa using hm:sysModules∈a::bs) with q | q
  ·rw [q] at y
   simp at y
  ·exact f zz q
theorem Reps.reads (I:Inv X pins σ H s):∀ {vs:List V} {ds:List PyData} {us:List Value},Reps X.K O H vs ds→Vals vs us→∃ as,ReadsAll s.heap us ds as∧(ki ds=true→sysModules∉as)
 | _,_,_,.nil,r=>by cases r; exact ⟨_,.nil,fun _=>by simp⟩
 | _,_,_,.cons (d:=d) (ds:=ds) q t,r=>by
  cases r with
  | cons r1 r2=>
   obtain ⟨as,h1,f1⟩:=Rep.reads I q r1
   obtain ⟨bs,h2,f2⟩:=Reps.reads I t r2
   refine ⟨as++bs,.cons h1 h2,fun z=>?_⟩
   have z':(iK d && ki ds)=true:=z
   rw [Bool.and_eq_true] at z'
   intro hm
   rcases List.mem_append.mp hm with hm | hm
   ·exact f1 z'.1 hm
   ·exact f2 z'.2 hm
theorem RepK.reads (I:Inv X pins σ H s):∀ {kvs:List (Key×V)} {ds:List (PyData×PyData)} {vs:List (Key×Value)} {es:List DictEntry},RepK X.K O H kvs ds→KV kvs vs→Pairs (bB X.prog X.w) es vs →
  ∃ bs,ReadsAll s.heap (es.map (·.key)) (ds.map (·.1)) []∧ReadsAll s.heap (es.map (·.val)) (ds.map (·.2)) bs∧(kj ds=true→sysModules∉bs)
 | _,_,_,_,.nil,r,ek=>by
  cases r
  cases ek
  exact ⟨[],.nil,.nil,fun _=>by simp⟩
 | _,_,_,_,.cons (k:=k) (d:=d) (ds:=ds) q t,r,ek=>by
  cases r with
  | cons r1 r2=>
   cases ek with
   | cons e1 e1' e2=>
    obtain ⟨as,h1,f1⟩:=Rep.reads I q r1.2
    obtain ⟨bs,h2,h3,f2⟩:=RepK.reads I t r2 e2
    rw [← e1'] at h1
    have k1:=yi (h:=s.heap) (show dW _ _=true from e1)
    rw [← r1.1] at k1
    refine ⟨as++bs,.cons (as:=[]) (bs:=[]) k1 h2,.cons h1 h3,fun z=>?_⟩
    have z':(iK d && kj ds)=true:=z
    rw [Bool.and_eq_true] at z'
    intro hm
    rcases List.mem_append.mp hm with hm | hm
    ·exact f1 z'.1 hm
    ·exact f2 z'.2 hm
end
end
def gO (d:PyData):Bool:=d.showable && d.leavesShort 200 && decide (d.depth≤60) && decide (d.weight≤60000) && (!d.hasDict || iK d)
theorem shown_fits {d:PyData} (h1:d.leavesShort 200=true) (h2:d.weight≤60000):d.shown.length≤sizeLine:=by
 have q:=PyData.shown_le 200 (by decide) d h1
 have e:sizeLine=16777216:=by decide
 have:(200 + 2) * d.weight≤202 * 60000:=Nat.mul_le_mul_left _ h2
 omega
section
variable {X:Cx}
theorem yI {k:Nat} (hr:Room k X.A):CallR X (.builtin "repr") (fun xs H Q=>∃ O x d,xs=[x]∧Rep X.K O H x d∧gO d=true∧Q (.str d.shown) H):=by
 intro pins s σ H xs us Q I r h
 obtain ⟨O,x,d,rfl,rp,hg,q⟩:=h
 unfold gO at hg
 rw [Bool.and_eq_true,Bool.and_eq_true,Bool.and_eq_true,Bool.and_eq_true] at hg
 obtain ⟨⟨⟨⟨g1,g2⟩,g3⟩,g4⟩,g5⟩:=hg
 have g3:=of_decide_eq_true g3
 have g4:=of_decide_eq_true g4
 obtain ⟨u,rfl,ru⟩:=vals1 r
 have hz:=shown_fits g2 g4
 have fin:∀ h' t k',(∀ b o,s.heap.get? b=some o→h'.get? b=some o)→EP X pins σ Q (.str d.shown t) { s with heap:=h',toks:=k' }:=fun h' t k' kk=>⟨.str d.shown,H,I.kept kk,⟨t,rfl⟩,q⟩
 have big:∀ a,u=.ref a→wpAny (model X.prog X.w) X.A (call (.builtin "repr") [u]) (EP X pins σ Q) X.xe s:=fun a e=>by
  obtain ⟨as,rd,f⟩:=rp.reads I ru
  subst e
  refine repr_of_reads' rd g1 (fun z=>f ?_) hr.gd ?_ (fun _ _ e=>e) (fun h' u tk kk=>fin h' u tk kk) hz
  ·rw [z] at g5
   simpa using g5
  ·have h2:=hr.un
   omega
 cases rp with
 | non=>cases ru; exact PySem.P.repr_of_none (fin _ _ _ fun _ _ e=>e)
 | bl b=>cases ru; exact PySem.P.repr_of_bool (fin _ _ _ fun _ _ e=>e)
 | int i=>
  obtain ⟨t,rfl⟩:=ru
  exact PySem.P.repr_of_int (of_decide_eq_true g1) (fin _ _ _ fun _ _ e=>e)
 | str x=>
  obtain ⟨t,rfl⟩:=ru
  exact PySem.P.repr_of_str (fin _ _ _ fun _ _ e=>e) hz
 | tup _ _=>exact big _ ru
 | lst _ _=>exact big _ ru
 | dct _ _ _=>exact big _ ru
def kB (T:Tp) (w:W):Option (W×Tp):=match w with
 | .d x=>if gO x=true then some (.d (.str x.shown),T) else none
 | _=>none
def iL (f:FE):FE:=fun ρ T=>bnd (f ρ T) fun w T1=>kB T1 w
theorem mB {k:Nat} {e:Expr} {f:FE} {p pos:Pos} (hr:Room k X.A) (hm:X.mg "repr" = none) (he:DE X e f) (hg:Gl X "repr":=by rfl) (hse:starEach [e] X.env=(false,eval e X.env)::starEach [] X.env:=by exact b5 rfl) (hpl:(backTo pos (starEach [] X.env)).any (·.1)=false:=by exact c8 rfl) :
  DE X (.Call (.Name "repr" p) [e] [] pos) (iL f):=by
 refine ⟨?_⟩
 refine pe_imp (fS (yI hr) hg hm boot_repr (bu he.pe bX hse) (by decide) (by decide) hse hpl) fun σ H Q=>?_
 rintro ⟨O,ts,ρ,T,w,T',hc,re,e,q⟩
 obtain ⟨w1,T1,e1,e⟩:=aT e
 refine ⟨O,ts,ρ,T,w1,T1,hc,re,e1,fun v1 H1 s1 hc1 r1=>?_⟩
 unfold kB at e
 split at e
 ·split at e
  ·rename_i x hx
   cases e
   exact ⟨O,v1,x,rfl,r1,hx,q _ H1 s1 hc1 (.str _)⟩
  ·cases e
 ·cases e
end
structure Df (K:Frag) (name:Str) (st:Stmt):Prop where
 ex:∃ (f:Addr) (oc:Value) (od an:Option Addr) (sl:Array (Option Value)) (kV dc pm cd ct:Value),PySem.W.nsIn K mainGlobals name=some (some (.ref f)) ∧
  K.lookup f=some ⟨oc,od,.func (PySem.W.fnOf name name (eB st) (da st) (aL st) .none kV dc pm an cd ct),sl⟩∧PySem.W.codeIn K cd name=true∧PySem.W.keepIn K (.ref f)=true
theorem Dv {K:Frag} {name:Str} {st:Stmt} {f:Addr} {oc:Value} {od an:Option Addr} {sl:Array (Option Value)} {kV dc pm cd ct:Value} (a:PySem.W.nsIn K mainGlobals name=some (some (.ref f)))
  (l:K.lookup f=some ⟨oc,od,.func (PySem.W.fnOf name name (eB st) (da st) (aL st) .none kV dc pm an cd ct),sl⟩) (c:PySem.W.codeIn K cd name=true) (k:PySem.W.keepIn K (.ref f)=true):Df K name st:=⟨f,oc,od,an,sl,kV,dc,pm,cd,ct,a,l,c,k⟩
theorem Df.fn {P:Program} {w:World} {K:Frag} {mg:Str→Option Value} {base h:Heap} {name:Str} {st:Stmt} {ps:List Str} {k:Nat} {sp:Sp} (d:Df K name st) (X:K.In h) (G:h.Ns mainGlobals mg)
  (hb:∀ (kV doc pm:Value) (an:Option Addr) (cdv ct:Value) (us:List Value),us.length=ps.length→bindArgs (PySem.W.fnOf name name (eB st) (da st) (aL st) .none kV doc pm an cdv ct) ⟨us,[]⟩=pure (ps.zip us))
  (ok:∀ f fd,Fun K name name st f fd→FnOk P w K mg base CX0 k f fd ps sp):Fn P w K mg base name ps k sp:=by
 obtain ⟨f,oc,od,an,sl,kV,dc,pm,cd,ct,a,l,c,kp⟩:=d.ex
 have F:=ko (st:=st) l c kp
 exact ⟨f,_,ok f _ F,F.binds hb,kp,PySem.W.mg_of X G a⟩
theorem dF {P:Program} {w:World} {K:Frag} {mg:Str→Option Value} {base:Heap} {k n:Nat} {f:Addr} {fd:FuncData} {ps:List Str}:FnOk P w K mg base CX0 k f fd ps (spM K n fun _ _=>none):=by
 have no:∀ vs H Q E,¬ spM K n (fun _ _=>none) vs H Q E:=fun vs H Q E h=>by
  obtain ⟨O,ts,T,ws,x,T',_,_,_,e,_⟩:=h
  cases e
 exact ⟨fun vs H Q E h=>absurd h (no vs H Q E),fun A outer s H args us vs Q E _ _ _ _ h=>absurd h (no vs H Q E)⟩
def kz (K:Frag):Sp:=fun vs H Q _=>∃ (a:Addr) (ns:List Int),vs=[.ref a]∧SqL K H a (ns.map V.int)∧ns.length≤63∧∀ H',Q (.bl true) H'
def de (ns:List Int):PyData:=.list (ns.map .int)
theorem oW {K:Frag} {O:Addr→Prop} {H:Hp}:∀ ns:List Int,Reps K O H (ns.map V.int) (ns.map PyData.int)
 | []=>.nil
 | _::r=>.cons (.int _) (oW r)
section
variable {α β:Type} {ρ:Rho} {T:Tp} {f g:FE} {c c':FT} {s s':FS} {a:FA} {w w':W} {x y:PyData}
@[simp] theorem sE {b:α} {k:α→Tp→Option β}:bnd (some (b,T)) k=k b T:=rfl
@[simp] theorem Gw {k:α→Tp→Option β}:bnd none k=none:=rfl
@[simp] theorem Gx {p:Prop} [Decidable p] {u v:Option (α×Tp)} {k:α→Tp→Option β}:bnd (if p then u else v) k=if p then bnd u k else bnd v k:=by split <;> rfl
@[simp] theorem Dq {N:Nat} {ws:List W}:aW N s ws T=if du ws=true then eK (s (ws.map some++List.replicate (N - ws.length) none) T) else none:=rfl
@[simp] theorem yB:du []=true:=rfl
@[simp] theorem yA {r:List W}:du (.d x::r)=du r:=rfl
@[simp] theorem yz {i:Nat} {r:List W}:du (.tp i::r)=du r:=rfl
@[simp] theorem Gn {r:Rho}:eK (some ((.rt x,r),T))=some (x,T):=rfl
@[simp] theorem Gp {r:Rho}:eK (some ((.nx,r),T))=some (.none,T):=rfl
@[simp] theorem Gq {p:Prop} [Decidable p] {u v:Option ((Fl×Rho)×Tp)}:eK (if p then u else v)=if p then eK u else eK v:=by split <;> rfl
def iO (s':FS) (p:Fl×Rho) (T:Tp):Option ((Fl×Rho)×Tp):=match p with
 | (.nx,ρ1)=>s' ρ1 T
 | (fl,ρ1)=>some ((fl,ρ1),T)
@[simp] theorem G3:aq s s' ρ T=bnd (s ρ T) (iO s'):=rfl
@[simp] theorem Fx {ρ1:Rho}:iO s' (.nx,ρ1) T=s' ρ1 T:=rfl
@[simp] theorem Fw {ρ1:Rho}:iO s' (.rt x,ρ1) T=some ((.rt x,ρ1),T):=rfl
@[simp] theorem FD {ρ1:Rho}:iO s' (.bk,ρ1) T=some ((.bk,ρ1),T):=rfl
@[simp] theorem FC {ρ1:Rho}:iO s' (.ct,ρ1) T=some ((.ct,ρ1),T):=rfl
@[simp] theorem FX:aK ρ T=some ((.nx,ρ),T):=rfl
def ifK (s s':FS) (ρ:Rho) (b:Bool) (T1:Tp):Option ((Fl×Rho)×Tp):=if b=true then s ρ T1 else s' ρ T1
@[simp] theorem HX:fIf c s s' ρ T=bnd (c ρ T) (ifK s s' ρ):=rfl
@[simp] theorem HA {b:Bool}:ifK s s' ρ b T=if b=true then s ρ T else s' ρ T:=rfl
def uy (ρ:Rho):W→Tp→Option ((Fl×Rho)×Tp):=fun w T1=>match w with
 | .d x=>some ((.rt x,ρ),T1)
 | _=>none
@[simp] theorem G4:ax f ρ T=bnd (f (bU ρ) T) (uy ρ):=rfl
@[simp] theorem FJ:uy ρ (.d x) T=some ((.rt x,ρ),T):=rfl
@[simp] theorem Gk:bU []=[]:=rfl
@[simp] theorem Gg {r:Rho}:bU (none::r)=none::bU r:=rfl
@[simp] theorem Gj {r:Rho}:bU (some (.d x)::r)=some (.d x)::bU r:=rfl
@[simp] theorem Gf {i:Nat} {r:Rho}:bU (some (.tp i)::r)=some (.tp i)::bU r:=rfl
@[simp] theorem Gi {x:PyData} {r:Rho}:bU (some (.loc x)::r)=some (.d x)::bU r:=rfl
def nB (i:Nat) (ρ:Rho):W→Tp→Option ((Fl×Rho)×Tp):=fun w T1=>match w with
 | .d x=>some ((.nx,ρ.set i (some (.d x))),T1)
 | .tp k=>some ((.nx,ρ.set i (some (.tp k))),T1)
 | .loc _=>none
@[simp] theorem G0 {i:Nat}:aQ i f ρ T=bnd (f ρ T) (nB i ρ):=rfl
@[simp] theorem Fv {i:Nat}:nB i ρ (.d x) T=some ((.nx,ρ.set i (some (.d x))),T):=rfl
@[simp] theorem Fs {i k:Nat}:nB i ρ (.tp k) T=some ((.nx,ρ.set i (some (.tp k))),T):=rfl
def tw (i:Nat) (ρ:Rho) (T:Tp):Option (List PyData)→Option ((Fl×Rho)×Tp)
 | some xs=>if xs.length≤1000 then some ((.nx,ρ.set i (some (.loc (.list xs)))),T) else none
 | none=>none
@[simp] theorem Ft {i:Nat}:dI i a ρ T=bnd (a ρ T) fun ws T1=>tw i ρ T1 (dw ws):=rfl
@[simp] theorem EL {i:Nat} {xs:List PyData}:tw i ρ T (some xs)=if xs.length≤1000 then some ((.nx,ρ.set i (some (.loc (.list xs)))),T) else none:=rfl
def uO (i:Nat) (ρ:Rho) (x:PyData) (T:Tp) (o:Option (Option W)):Option ((Fl×Rho)×Tp):=match o with
 | some (some (.loc (.list xs)))=>if xs.length < sizeLine then some ((.nx,ρ.set i (some (.loc (.list (xs++[x]))))),T) else none
 | _=>none
def uN (i:Nat) (ρ:Rho):W→Tp→Option ((Fl×Rho)×Tp):=fun w T1=>match w with
 | .d x=>(match ρ[i]? with
  | some (some (.loc (.list xs)))=>if xs.length < sizeLine then some ((.nx,ρ.set i (some (.loc (.list (xs++[x]))))),T1) else none
  | _=>none)
 | _=>none
@[simp] theorem HL {i:Nat}:cX i f ρ T=bnd (f ρ T) (uN i ρ):=rfl
@[simp] theorem Gz {i:Nat}:uN i ρ (.d x) T=uO i ρ x T ρ[i]?:=rfl
@[simp] theorem GA {i:Nat} {xs:List PyData}:uO i ρ x T (some (some (.loc (.list xs))))=if xs.length < sizeLine then some ((.nx,ρ.set i (some (.loc (.list (xs++[x]))))),T) else none:=rfl
@[simp] theorem HR {l u:FO}:fSl f l u ρ T=bnd (f ρ T) fun w T1=>bnd (l ρ T1) fun lo T2=>bnd (u ρ T2) fun hi T3=>op1 (fun x=>i5 x lo hi) T3 w:=rfl
@[simp] theorem Hb:fK ρ T=some (none,T):=rfl
def pK:W→Tp→Option (Option Int×Tp):=fun w T1=>match w with
 | .d (.int i)=>some (some i,T1)
 | _=>none
@[simp] theorem Ir:fP f ρ T=bnd (f ρ T) pK:=rfl
@[simp] theorem HS {i:Int}:pK (.d (.int i)) T=some (some i,T):=rfl
@[simp] theorem GY {z:Str} {lo hi:Option Int}:i5 (.str z) lo hi=if z.length≤sizeLine then some (.str (Txt.slice z lo hi)) else none:=rfl
@[simp] theorem GX {xs:List PyData} {lo hi:Option Int}:i5 (.tuple xs) lo hi=some (.tuple (cY xs lo hi)):=rfl
@[simp] theorem GZ {xs:List PyData} {lo hi:Option Int}:i5 (.list xs) lo hi=some (.list (cY xs lo hi)):=rfl
@[simp] theorem Fj {o:W} {r:Rho}:aa 0 (some o::r) T=some (o,T):=rfl
@[simp] theorem fA {i:Nat} {o:Option W} {r:Rho}:aa (i + 1) (o::r) T=aa i r T:=rfl
@[simp] theorem Fi {o:Option W} {r:Rho}:aa 1 (o::r) T=aa 0 r T:=fA
@[simp] theorem Fh {o:Option W} {r:Rho}:aa 2 (o::r) T=aa 1 r T:=fA
@[simp] theorem Fg {o:Option W} {r:Rho}:aa 3 (o::r) T=aa 2 r T:=fA
@[simp] theorem Ff {o:Option W} {r:Rho}:aa 4 (o::r) T=aa 3 r T:=fA
@[simp] theorem Fe {o:Option W} {r:Rho}:aa 5 (o::r) T=aa 4 r T:=fA
@[simp] theorem Fd {o:Option W} {r:Rho}:aa 6 (o::r) T=aa 5 r T:=fA
@[simp] theorem Fc {o:Option W} {r:Rho}:aa 7 (o::r) T=aa 6 r T:=fA
@[simp] theorem Fb {o:Option W} {r:Rho}:aa 8 (o::r) T=aa 7 r T:=fA
@[simp] theorem E9 {o:Option W} {r:Rho}:aa 9 (o::r) T=aa 8 r T:=fA
@[simp] theorem Iu:fC x ρ T=some (.d x,T):=rfl
@[simp] theorem E8:view T (.d x)=some x:=rfl
@[simp] theorem EI {i:Nat}:view T (.tp i)=(T[i]?).bind iP:=rfl
@[simp] theorem FF {xs:List PyData}:iP xs=if isO xs=true then none else some (.list xs):=rfl
@[simp] theorem E7 {xs r:List PyData}:isO (.list xs::r)=false:=rfl
@[simp] theorem EJ {xs:List PyData}:view T (.loc (.list xs))=some (.list xs):=rfl
@[simp] theorem ev_viewLD {xs:List (PyData×PyData)}:view T (.loc (.dict xs))=some (.dict xs):=rfl
noncomputable def mkD (T:Tp) (o:Option PyData):Option (W×Tp):=match o with
 | some d=>some (.d d,T)
 | none=>none
@[simp] theorem Hi:mkD T (some x)=some (.d x,T):=rfl
@[simp] theorem F0:mkD T none=none:=rfl
@[simp] theorem F1 {p:Prop} [Decidable p] {u v:Option PyData}:mkD T (if p then u else v)=if p then mkD T u else mkD T v:=by split <;> rfl
def uM (o:PyData→PyData→Option PyData) (g:FE) (ρ:Rho) (w1:W) (T1:Tp):Option (W×Tp):=bnd (g ρ T1) fun w2 T2=>op2 o T2 w1 w2
@[simp] theorem HJ {o:PyData→PyData→Option PyData}:ag o f g ρ T=bnd (f ρ T) (uM o g ρ):=rfl
@[simp] theorem Gy {o:PyData→PyData→Option PyData}:uM o g ρ w T=bnd (g ρ T) fun w2 T2=>op2 o T2 w w2:=rfl
@[simp] theorem G9 {o:PyData→PyData→Option PyData}:op2 o T (.d x) (.d y)=mkD T (o x y):=rfl
@[simp] theorem FQ {o:PyData→PyData→Option PyData} {zs xs:List PyData} {r:Tp}:op2 o ((.list zs::xs)::r) (.tp 0) (.d y)=mkD ((.list zs::xs)::r) (o (.list (.list zs::xs)) y):=rfl
@[simp] theorem HQ {o:PyData→Option PyData}:fUn o f ρ T=bnd (f ρ T) fun w1 T1=>op1 o T1 w1:=rfl
@[simp] theorem Ha {o:PyData→Option PyData}:op1 o T (.d x)=mkD T (o x):=rfl
@[simp] theorem HK {b:Bool}:asB (.d (.bool b))=some b:=rfl
def um:W→Tp→Option (Bool×Tp):=fun w T1=>match asB w with
 | some b=>some (b,T1)
 | none=>none
@[simp] theorem GQ:aH f ρ T=bnd (f ρ T) um:=rfl
@[simp] theorem Fk {b:Bool}:um (.d (.bool b)) T=some (b,T):=rfl
@[simp] theorem GS:aV f ρ T=bnd (f ρ T) fun w T1=>kW T1 w:=rfl
def uo (T:Tp) (o:Option Bool):Option (Bool×Tp):=match o with
 | some b=>some (b,T)
 | none=>none
@[simp] theorem Fp:kW T (.d x)=uo T (kU x):=rfl
@[simp] theorem Fm {b:Bool}:uo T (some b)=some (b,T):=rfl
@[simp] theorem Fo {b:Bool}:kU (.bool b)=some b:=rfl
def uf (c':FT) (ρ:Rho) (b:Bool) (T1:Tp):Option (Bool×Tp):=if b=true then c' ρ T1 else some (false,T1)
@[simp] theorem GC:cM c c' ρ T=bnd (c ρ T) (uf c' ρ):=rfl
@[simp] theorem E4 {b:Bool}:uf c' ρ b T=if b=true then c' ρ T else some (false,T):=rfl
def uC (c':FT) (ρ:Rho) (b:Bool) (T1:Tp):Option (Bool×Tp):=if b=true then some (true,T1) else c' ρ T1
@[simp] theorem G7:cF c c' ρ T=bnd (c ρ T) (uC c' ρ):=rfl
@[simp] theorem FN {b:Bool}:uC c' ρ b T=if b=true then some (true,T) else c' ρ T:=rfl
@[simp] theorem FU:bH c ρ T=bnd (c ρ T) fun b T1=>some (!b,T1):=rfl
@[simp] theorem EK:bG ρ T=some (true,T):=rfl
def uP (g:FE) (ρ:Rho) (w:W) (T:Tp):Option (W×Tp):=match asB w with
 | some b=>if b=true then g ρ T else some (.d (.bool false),T)
 | none=>none
@[simp] theorem GB:bY f g ρ T=bnd (f ρ T) (uP g ρ):=rfl
@[simp] theorem GD {b:Bool}:uP g ρ (.d (.bool b)) T=if b=true then g ρ T else some (.d (.bool false),T):=rfl
def orK (g:FE) (ρ:Rho) (w:W) (T:Tp):Option (W×Tp):=match asB w with
 | some b=>if b=true then some (.d (.bool true),T) else g ρ T
 | none=>none
@[simp] theorem G6:Ed f g ρ T=bnd (f ρ T) (orK g ρ):=rfl
@[simp] theorem G8 {b:Bool}:orK g ρ (.d (.bool b)) T=if b=true then some (.d (.bool true),T) else g ρ T:=rfl
def uF (w:W) (T:Tp):Option (W×Tp):=match asB w with
 | some b=>some (.d (.bool (!b)),T)
 | none=>none
@[simp] theorem FR:kN f ρ T=bnd (f ρ T) uF:=rfl
@[simp] theorem FV {b:Bool}:uF (.d (.bool b)) T=some (.d (.bool (!b)),T):=rfl
def uI (f g:FE) (ρ:Rho) (b:Bool) (T1:Tp):Option (W×Tp):=if b=true then f ρ T1 else g ρ T1
@[simp] theorem HB:cW c f g ρ T=bnd (c ρ T) (uI f g ρ):=rfl
@[simp] theorem Ge {b:Bool}:uI f g ρ b T=if b=true then f ρ T else g ρ T:=rfl
def chK (o':PyData→PyData→Option PyData) (h:FE) (ρ:Rho) (w2 w:W) (T:Tp):Option (W×Tp):=match asB w with
 | some b=>if b=true then bnd (h ρ T) fun w3 T4=>op2 o' T4 w2 w3 else some (.d (.bool false),T)
 | none=>none
@[simp] theorem E2 {o o':PyData→PyData→Option PyData} {h:FE}:gI o o' f g h ρ T=bnd (f ρ T) fun w1 T1=>bnd (g ρ T1) fun w2 T2=>bnd (op2 o T2 w1 w2) (chK o' h ρ w2):=rfl
@[simp] theorem HH {o':PyData→PyData→Option PyData} {h:FE} {b:Bool}:chK o' h ρ w (.d (.bool b)) T=if b=true then bnd (h ρ T) fun w3 T4=>op2 o' T4 w w3 else some (.d (.bool false),T):=rfl
@[simp] theorem Hc:ai ρ T=some ([],T):=rfl
def ua (a:FA) (ρ:Rho) (w:W) (T1:Tp):Option (List W×Tp):=bnd (a ρ T1) fun ws T2=>some (w::ws,T2)
@[simp] theorem Gs:ae f a ρ T=bnd (f ρ T) (ua a ρ):=rfl
@[simp] theorem E1:ua a ρ w T=bnd (a ρ T) fun ws T2=>some (w::ws,T2):=rfl
@[simp] theorem Eo:views T []=some []:=rfl
def jl (x:PyData) (o:Option (List PyData)):Option (List PyData):=match o with
 | some xs=>some (x::xs)
 | none=>none
@[simp] theorem EZ {xs:List PyData}:jl x (some xs)=some (x::xs):=rfl
@[simp] theorem EH {r:List W}:views T (.d x::r)=jl x (views T r):=rfl
@[simp] theorem En {xs:List PyData} {r:List W}:views T (.loc (.list xs)::r)=jl (.list xs) (views T r):=rfl
@[simp] theorem EG:dw []=some []:=rfl
@[simp] theorem EY {r:List W}:dw (.d x::r)=jl x (dw r):=rfl
def sqK (mk:List PyData→PyData) (T:Tp):Option (List PyData)→Option (W×Tp)
 | some xs=>if xs.length≤1000 then some (.d (mk xs),T) else none
 | none=>none
@[simp] theorem Fy {mk:List PyData→PyData}:aD mk a ρ T=bnd (a ρ T) fun ws T1=>sqK mk T1 (dw ws):=rfl
@[simp] theorem GW {mk:List PyData→PyData} {xs:List PyData}:sqK mk T (some xs)=if xs.length≤1000 then some (.d (mk xs),T) else none:=rfl
def cbK (o:List PyData→Option PyData) (T:Tp) (v:Option (List PyData)):Option (W×Tp):=match v with
 | some xs=>(match o xs with
  | some d=>some (.d d,T)
  | none=>none)
 | none=>none
@[simp] theorem Ia {o:List PyData→Option PyData}:fCB o a ρ T=bnd (a ρ T) fun ws T1=>cbK o T1 (views T1 ws):=rfl
@[simp] theorem HI {o:List PyData→Option PyData} {xs:List PyData}:cbK o T (some xs)=mkD T (o xs):=rfl
@[simp] theorem Gv {m:FnM}:ar m a ρ T=bnd (a ρ T) fun ws T1=>bnd (m ws T1) fun x T2=>some (.d x,T2):=rfl
@[simp] theorem Gu {it:FI}:cB it c f ρ T=bnd (it ρ T) fun ds T1=>bnd (bN c f ρ ds T1) fun ys T2=>some (.d (.list ys),T2):=rfl
def itK (T:Tp) (o:Option (List PyData)):Option (List PyData×Tp):=match o with
 | some xs=>some (xs,T)
 | none=>none
def itW:W→Tp→Option (List PyData×Tp):=fun w T1=>match w with
 | .d x=>(match gH x with
  | some xs=>some (xs,T1)
  | none=>none)
 | _=>none
@[simp] theorem F9:bD f ρ T=bnd (f ρ T) itW:=rfl
@[simp] theorem Hw:itW (.d x) T=itK T (gH x):=rfl
@[simp] theorem Hx {xs:List PyData}:itK T (some xs)=some (xs,T):=rfl
@[simp] theorem EE {xs:List PyData}:gH (.list xs)=some xs:=rfl
@[simp] theorem EF {ds:List (PyData×PyData)}:gH (.dict ds)=some (ds.map (·.1)):=rfl
@[simp] theorem EC {xs:List PyData}:gH (.tuple xs)=some xs:=rfl
@[simp] theorem ED {z:Str}:gH (.str z)=if z.length≤sizeLine then some (signs z) else none:=rfl
def ux:W→Tp→Option (List PyData×Tp):=fun w T1=>match w with
 | .d (.int j)=>if je j=true then some (bF 0 j.toNat,T1) else none
 | _=>none
@[simp] theorem FH:eM f ρ T=bnd (f ρ T) ux:=rfl
@[simp] theorem FG {j:Int}:ux (.d (.int j)) T=if je j=true then some (bF 0 j.toNat,T) else none:=rfl
@[simp] theorem HD {i:Nat} {it:FI}:ck i it s ρ T=bnd (it ρ T) fun ds T1=>forL i s ds ρ T1:=rfl
@[simp] theorem GU {i j:Int}:dZ (.int i) (.int j)=some (.int (i - j)):=rfl
@[simp] theorem Hh {i j:Int}:bT (.int i) (.int j)=if 0 < j then some (.int (i % j)) else none:=rfl
@[simp] theorem Gm {i j:Int}:fF (.int i) (.int j)=if 0 < j∧j < 1073741824 then some (.int (i / j)) else none:=rfl
@[simp] theorem G5 {i j:Int}:gb (.int i) (.int j)=if 0≤j∧j≤1000000∧i.natAbs < 2 ^ 64 then some (.int (i ^ j.toNat)) else none:=rfl
@[simp] theorem HU {i j:Int}:ltD (.int i) (.int j)=some (.bool (decide (i < j))):=rfl
@[simp] theorem HV {i j:Int}:leD (.int i) (.int j)=some (.bool (decide (i≤j))):=rfl
@[simp] theorem HY {i j:Int}:gtD (.int i) (.int j)=some (.bool (decide (j < i))):=rfl
@[simp] theorem HZ {i j:Int}:geD (.int i) (.int j)=some (.bool (decide (j≤i))):=rfl
@[simp] theorem GI {i j:Int}:aU (.int i) (.int j)=some (.int (i + j)):=rfl
@[simp] theorem GF {u v:Str}:aU (.str u) (.str v)=if u.length + v.length≤sizeLine then some (.str (u++v)) else none:=rfl
@[simp] theorem GE {u v:List PyData}:aU (.tuple u) (.tuple v)=if u.length + v.length≤sizeLine then some (.tuple (u++v)) else none:=rfl
@[simp] theorem GH {u v:List PyData}:aU (.list u) (.list v)=if u.length + v.length≤sizeLine then some (.list (u++v)) else none:=rfl
@[simp] theorem FZ {i j:Int}:bO (.int i) (.int j)=if (-(2 ^ 64) < i∧i < 2 ^ 64)∨(-(2 ^ 64) < j∧j < 2 ^ 64) then some (.int (i * j)) else none:=rfl
@[simp] theorem FY {z:Str} {k:Int}:bO (.str z) (.int k)=if 0≤k∧k≤2000∧z.length≤1000 then some (.str (Txt.mul z k)) else none:=rfl
@[simp] theorem HF {i j:Int}:eqD (.int i) (.int j)=some (.bool (decide (i=j))):=rfl
@[simp] theorem HE {i j:Str}:eqD (.str i) (.str j)=some (.bool (decide (i=j))):=rfl
@[simp] theorem HG {i j:Bool}:eqD (.bool i) (.bool j)=some (.bool (decide (i=j))):=rfl
@[simp] theorem Hf {i j:Int}:neD (.int i) (.int j)=some (.bool (!decide (i=j))):=rfl
@[simp] theorem He {i j:Str}:neD (.str i) (.str j)=some (.bool (!decide (i=j))):=rfl
@[simp] theorem Hg {i j:Bool}:neD (.bool i) (.bool j)=some (.bool (!decide (i=j))):=rfl
@[simp] theorem HW:isD x .none=some (.bool (isNone x)):=by cases x <;> rfl
@[simp] theorem EX {i j:Bool}:B4 (.bool i) (.bool j)=some (.bool (i != j)):=rfl
@[simp] theorem Hd {i:Int}:js (.int i)=some (.int (-i)):=rfl
@[simp] theorem Hy {k:Kd}:a9 k x=some (.bool (a6 (kd x) k)):=rfl
@[simp] theorem Hv {xs:List PyData} {i:Int}:ixD (.list xs) (.int i)=atI xs i:=rfl
@[simp] theorem Ht {xs:List PyData} {i:Int}:ixD (.tuple xs) (.int i)=atI xs i:=rfl
@[simp] theorem Hu {z:Str} {i:Int}:ixD (.str z) (.int i)=if z.length≤sizeLine then (atI z.cps.toList i).map (fun c=>.str ⟨#[c]⟩) else none:=rfl
@[simp] theorem F6 {xs:List PyData}:bq [.list xs]=some (.int xs.length):=rfl
@[simp] theorem F4 {xs:List PyData}:bq [.tuple xs]=some (.int xs.length):=rfl
@[simp] theorem F5 {z:Str}:bq [.str z]=if z.length≤sizeLine then some (.int z.length) else none:=rfl
@[simp] theorem HM {i:Int}:jw [.int i]=some (.int (if i < 0 then -i else i)):=rfl
@[simp] theorem Hk {i j:Int}:Di [.int i,.int j]=some (.int (if j > i then j else i)):=rfl
@[simp] theorem Hj {i j:Int}:Dg [.int i,.int j]=some (.int (if j < i then j else i)):=rfl
@[simp] theorem Er {xs:List PyData}:cy [.list xs]=some (.tuple xs):=rfl
@[simp] theorem Ep {xs:List PyData}:cy [.tuple xs]=some (.tuple xs):=rfl
@[simp] theorem EU {xs:List PyData}:dv [.list xs]=some (.list xs):=rfl
@[simp] theorem ET {xs:List PyData}:dv [.tuple xs]=some (.list xs):=rfl
@[simp] theorem Hq {i:Int}:kd (.int i)=.int:=rfl
@[simp] theorem Hs {i:Bool}:kd (.bool i)=.bl:=rfl
@[simp] theorem Hm {i:Str}:kd (.str i)=.str:=rfl
@[simp] theorem Hl {i:List PyData}:kd (.tuple i)=.tup:=rfl
@[simp] theorem Ho {i:List PyData}:kd (.list i)=.lst:=rfl
@[simp] theorem Hr {i:List (PyData×PyData)}:kd (.dict i)=.dct:=rfl
@[simp] theorem Hn:kd .none=.non:=rfl
end
theorem at1 {α:Type} {a b c:α}:atI [a,b,c] 1=some b:=rfl
theorem dE {e:FE} {ρ:Rho} {T:Tp} {g:PyData→PyData}:∀ {ds:List PyData},(∀ d∈ds,e (some (.d d)::ρ) T=some (.d (g d),T))→bN bG e ρ ds T=some (ds.map g,T)
 | [],_=>rfl
 | d::r,h=>by
  have ih:=dE (ds:=r) fun x hx=>h x (List.mem_cons_of_mem _ hx)
  have h0:=h d List.mem_cons_self
  unfold bN
  simp [h0,ih]
theorem k8 {c:FT} {ρ:Rho} {T:Tp} {p:PyData→Bool}:∀ {ds:List PyData},(∀ d∈ds,c (some (.d d)::ρ) T=some (p d,T))→bN c (aa 0) ρ ds T=some (ds.filter p,T)
 | [],_=>rfl
 | d::r,h=>by
  have ih:=k8 (ds:=r) fun x hx=>h x (List.mem_cons_of_mem _ hx)
  have h0:=h d List.mem_cons_self
  unfold bN
  cases hp:p d with
  | false=>simp [h0,hp,ih]
  | true=>simp [h0,hp,ih]
theorem pw {e:FE} {ρ:Rho} {P:Tp→Prop} {Q:PyData→Prop}:∀ {ds:List PyData} {T:Tp},P T→(∀ d∈ds,∀ T,P T→∃ y T',e (some (.d d)::ρ) T=some (.d y,T')∧P T'∧Q y)→∃ ys T',bN bG e ρ ds T=some (ys,T')∧P T'∧ys.length=ds.length∧∀ y∈ys,Q y
 | [],T,p,_=>⟨[],T,rfl,p,rfl,fun y hy=>by cases hy⟩
 | d::r,T,p,h=>by
  obtain ⟨y,T1,e1,p1,q1⟩:=h d List.mem_cons_self T p
  obtain ⟨ys,T2,e2,p2,l2,q2⟩:=pw (ds:=r) p1 fun x hx=>h x (List.mem_cons_of_mem _ hx)
  refine ⟨y::ys,T2,?_,p2,by simp [l2],fun z hz=>?_⟩
  ·unfold bN
   simp [e1,e2]
  ·rcases List.mem_cons.mp hz with k | k
   ·subst k; exact q1
   ·exact q2 z k
theorem oF {α:Type} (p:α→Bool):∀ l:List α,gL (l.map fun d=>.bool (p d))=some (l.map p)
 | []=>rfl
 | d::r=>by
  show (gL (r.map fun d=>.bool (p d))).map (p d::·)=_
  rw [oF p r]
  rfl
theorem lO {α:Type} (p:α→Int):∀ l:List α,fE (l.map fun d=>.int (p d))=some (l.map p)
 | []=>rfl
 | d::r=>by
  show (fE (r.map fun d=>.int (p d))).map (p d::·)=_
  rw [lO p r]
  rfl
theorem jB {α:Type} (p:α→Str):∀ l:List α,dq (l.map fun d=>.str (p d))=some (l.map p)
 | []=>rfl
 | d::r=>by
  show (dq (r.map fun d=>.str (p d))).map (p d::·)=_
  rw [jB p r]
  rfl
@[simp] theorem Cb {α:Type} (p:α→Bool) (l:List α):gh [.list (l.map fun d=>.bool (p d))]=some (.bool (l.all p)):=by
 show (gL _).map (fun bs=>PyData.bool (bs.all id))=_
 rw [oF,Option.map_some,List.all_map]
 rfl
@[simp] theorem GT {α:Type} (p:α→Int) (l:List α):jo [.list (l.map fun d=>.int (p d))]=some (.int (l.map p).sum):=by
 show (fE _).map (fun bs=>PyData.int bs.sum)=_
 rw [lO,Option.map_some]
@[simp] theorem F2 {α:Type} (p:α→Int) (l:List α) (k:Int):Dh (.list (l.map fun d=>.int (p d))) (.int k)=some (.int (K1.gS k (l.map p))):=by
 show (fE _).map (fun bs=>PyData.int (K1.gS k bs))=_
 rw [lO,Option.map_some]
def mM (y:Str):PyData→Bool
 | .str z=>gW y z
 | _=>false
theorem zw (y:Str) (c:Nat):gW y ⟨#[c]⟩=decide (c∈y.cps.toList):=StrLaws.found_one ..
@[simp] theorem Hz {x y:Str}:inD (.str x) (.str y)=some (.bool (gW y x)):=rfl
theorem xU {x:Str} {d:PyData} (h:d∈D.signs x):∃ c,c∈x.cps.toList∧d=.str ⟨#[c]⟩:=by
 obtain ⟨c,hc,rfl⟩:=List.mem_map.mp h
 exact ⟨c,hc,rfl⟩
section
variable {X:Cx}
def z4:PyData→PyData→Option PyData
 | .str z,.str y=>some (.bool (Txt.startswith z y))
 | _,_=>none
theorem yK:CallR X (.type "int") (fun xs H Q=>∃ x n,xs=[.str x]∧PySem.intText? x=some n∧x.length≤640∧Q (.int n) H):=by
 intro pins s σ H xs us Q I r h
 obtain ⟨x,n,rfl,hn,hl,q⟩:=h
 obtain ⟨u,rfl,ru⟩:=vals1 r
 obtain ⟨t,rfl⟩:=ru
 exact PySem.W.KIN.call_text hn hl ⟨.int n,H,I.tok _,⟨_,rfl⟩,q⟩
def intD:List PyData→Option PyData
 | [.int i]=>some (.int i)
 | [.bool b]=>some (.int (if b then 1 else 0))
 | [.str x]=>if x.length≤640 then (PySem.intText? x).map .int else none
 | _=>none
theorem jm:eQ X (.type "int") intD:=⟨_,call_int1.or yK,fun O ts H T vs xs d Q hc h e q=>by
 unfold intD at e
 split at e
 ·cases e
  obtain ⟨v,rfl,g⟩:=cN h
  cases g.int
  exact .inl (.inl ⟨_,rfl,q _ H (.refl _ _) hc (.int _)⟩)
 ·cases e
  obtain ⟨v,rfl,g⟩:=cN h
  cases g.bl
  exact .inl (.inr ⟨_,rfl,q _ H (.refl _ _) hc (.int _)⟩)
 ·split at e
  ·rename_i hz
   obtain ⟨n,e1,rfl⟩:=Option.map_eq_some_iff.mp e
   obtain ⟨v,rfl,g⟩:=cN h
   cases g.str
   exact .inr ⟨_,n,rfl,e1,hz,q _ H (.refl _ _) hc (.int _)⟩
  ·cases e
 ·cases e⟩
end
@[simp] theorem Es {z y:Str}:z4 (.str z) (.str y)=some (.bool (Txt.startswith z y)):=rfl
@[simp] theorem Ga {x:Str}:intD [.str x]=if x.length≤640 then (PySem.intText? x).map .int else none:=rfl
@[simp] theorem Gb {i:Int}:intD [.int i]=some (.int i):=rfl
@[simp] theorem Gc {b:Bool}:intD [.bool b]=some (.int (if b then 1 else 0)):=rfl
def eqG (x y:PyData):Option PyData:=if SeqAt.shaped x=true∧SeqAt.shaped y=true then some (.bool (PyData.eqv x y)) else none
section
variable {X:Cx}
theorem Vw.reads {pins:List (Addr×Obj)} {σ:L2.St} {H:Hp} {s:Shared} {O:Addr→Prop} {v:V} {d:PyData} {u:Value} (I:Inv X pins σ H s) (h:Vw X.K O H v d) (r:RelV v u):∃ as,Reads s.heap u d as:=by
 cases h with
 | rep h=>obtain ⟨as,rd,_⟩:=h.reads I r; exact ⟨as,rd⟩
 | raw h hs=>
  cases r
  obtain ⟨its,rv,pl,_⟩:=I.list (SqL.of h)
  obtain ⟨o,n,e,c,_,dd⟩:=pl
  obtain ⟨as,rd,_⟩:=hs.reads I rv
  exact ⟨_,.list e c dd (by simpa using rd)⟩
 | rawD h rk=>
  cases r
  obtain ⟨z,y,vs,kv,o,es,ep,e,ed,dd,_,ek,_⟩:=(show ObjOk X.prog X.w H s.heap _ (.dK _) from I.hok _ _ h)
  obtain ⟨bs,q1,q2,f⟩:=RepK.reads I rk kv ek
  exact ⟨_,.dict (as:=[]) (bs:=bs) e ed.1 dd q1 q2⟩
theorem BM {k:Nat} (hr:Room k X.A):OpR X (compareOp .Eq) (fun x y H Q=>∃ O d1 d2,Vw X.K O H x d1∧Vw X.K O H y d2∧SeqAt.shaped d1=true∧SeqAt.shaped d2=true∧Q (.bl (PyData.eqv d1 d2)) H):=by
 intro pins s σ H x y v u Q I rx ry h
 obtain ⟨O,d1,d2,h1,h2,s1,s2,q⟩:=h
 obtain ⟨as,r1⟩:=h1.reads I rx
 obtain ⟨bs,r2⟩:=h2.reads I ry
 exact SeqAt.compareEq_shaped r1 r2 s1 s2 (by have:=hr.un; omega) ⟨.bl _,H,I,rfl,q⟩
theorem kG {k:Nat} (hr:Room k X.A):OpD X (compareOp .Eq) eqG:=⟨_,BM hr,fun O ts H T v1 v2 x y d Q hc h1 h2 e q=>by
 unfold eqG at e
 split at e
 ·rename_i h
  cases e
  exact ⟨O,x,y,h1,h2,h.1,h.2,q _ H (.refl _ _) hc (.bl _)⟩
 ·cases e⟩
open Classical in
def ju (h:Heap) (x:PyData) (v:Value):Bool:=if e:∃ p:PyData×List Addr,Reads h v p.1 p.2 then PyData.eqv e.choose.1 x else false
theorem qP {h:Heap} {x d:PyData} {v:Value} {as:List Addr} (r:Reads h v d as):ju h x v=PyData.eqv d x:=by
 have e:∃ p:PyData×List Addr,Reads h v p.1 p.2:=⟨(d,as),r⟩
 unfold ju
 rw [dif_pos e]
 have:=(PySem.Reads.unique e.choose_spec d as r).1
 rw [this]
theorem p9 {h:Heap} {x:PyData}:∀ {vs:List Value} {ds:List PyData} {as:List Addr},ReadsAll h vs ds as→vs.any (ju h x)=ds.any fun d=>PyData.eqv d x
 | _,_,_,.nil=>rfl
 | _,_,_,.cons r rs=>by rw [List.any_cons,List.any_cons,qP r,p9 rs]
theorem readsAll_mem {h:Heap}:∀ {vs:List Value} {ds:List PyData} {as:List Addr} {v:Value},ReadsAll h vs ds as→v∈vs→∃ d bs,d∈ds∧Reads h v d bs
 | _,_,_,_,.cons r rs,hm=>by
  rcases List.mem_cons.mp hm with z | z
  ·subst z; exact ⟨_,_,List.mem_cons_self,r⟩
  ·obtain ⟨d,bs,h1,h2⟩:=readsAll_mem rs z
   exact ⟨d,bs,List.mem_cons_of_mem _ h1,h2⟩
def inG:PyData→PyData→Option PyData
 | x,.tuple ys=>if SeqAt.shaped x=true∧ys.all SeqAt.shaped=true then some (.bool (ys.any fun y=>PyData.eqv y x)) else none
 | _,_=>none
theorem BK {k:Nat} (hr:Room k X.A):OpR X (compareOp .In) (fun x y H Q=>∃ O d1 a vs ds,Vw X.K O H x d1∧y=.ref a∧SqT X.K H a vs∧Reps X.K O H vs ds∧SeqAt.shaped d1=true∧ds.all SeqAt.shaped=true∧Q (.bl (ds.any fun y=>PyData.eqv y d1)) H):=by
 intro pins s σ H x y v u Q I rx ry h
 obtain ⟨O,d1,a,vs,ds,h1,rfl,h2,h3,s1,s2,q⟩:=h
 cases ry
 obtain ⟨as,r1⟩:=h1.reads I rx
 obtain ⟨its,rv,p1,_⟩:=I.tuple h2
 obtain ⟨bs,r2,_⟩:=h3.reads I rv
 refine SeqAt.in_tupleAt (ju s.heap d1) p1 (fun y hy=>?_) ?_
 ·obtain ⟨d,cs,hd,rd⟩:=readsAll_mem r2 (by simpa using hy)
  rw [qP rd]
  have sd:=List.all_eq_true.mp s2 d hd
  refine SeqAt.eqAt_reads d d1 _ s y v _ _ rd r1 (SeqAt.canLay_of_shaped sd) (SeqAt.canLay_of_shaped s1) (SeqAt.room_of_shaped sd ?_)
  have:=hr.un
  show X.A.in1.units + 64 < cLine
  have e:X.A.in1.units≤X.A.units + 1:=by simp [Around.in1]
  omega
 ·have e:its.toArray.any (ju s.heap d1)=ds.any fun y=>PyData.eqv y d1:=by
   rw [← p9 r2]
   simp
  rw [e]
  exact ⟨.bl _,H,I,rfl,q⟩
theorem Da {k:Nat} (hr:Room k X.A):OpD X (compareOp .In) inG:=⟨_,BK hr,fun O ts H T v1 v2 x y d Q hc h1 h2 e q=>by
 unfold inG at e
 split at e
 ·split at e
  ·rename_i h
   cases e
   obtain ⟨a,vs,rfl,t,r⟩:=h2.tup
   exact ⟨O,x,a,vs,_,h1,rfl,t.sq,r,h.1,h.2,q _ H (.refl _ _) hc (.bl _)⟩
  ·cases e
 ·cases e⟩
end
section
variable {X:Cx}
variable {pos:Pos} {e:Expr} {fe:FE}
end
section
variable {X:Cx} {pos:Pos} {e:Expr} {f:FE} {x:Str} {p:Pos} {B:List (Str×Int)}
end
end D
namespace L2
open PySem PySem.Spec PyProof.Rows
open K1 (iZ gS)
section
variable {prog:Program} {w:World} {A:Around} {R:Result→Shared→Prop} {it S:Addr} {fp wr:List Addr} {P:Nat→Value→Prop} {St:Nat→Heap→Prop} {ns:List Int} {kw:List (Str×Value)}
end
section
variable {X:Cx}
end
end L2
namespace D
open PySem PySem.Spec PyProof.Rows L2
section
variable {X:Cx} {pos:Pos} {e:Expr} {f:FE} {x:Str} {p:Pos}
variable {B:List (Str×Int)}
def jW:List Value→List Str→Bool
 | [],[]=>true
 | .str x _::r,y::s=>decide (x=y) && jW r s
 | _,_=>false
def ib (look:Addr→Option Obj) (a:Addr) (ss:List Str):Bool:=match look a with
 | some ⟨.type n,_,.seq its _,_⟩=>decide (n = "tuple") && jW its.toList ss
 | _=>false
def uQ (K:Frag) (mg:Str→Option Value) (x:Str) (ss:List Str):Prop:=∃ a,mg x=some (.ref a)∧ib (fun b=>K.lookup b) a ss=true
theorem oO:∀ {vs:List Value} {ss:List Str},jW vs ss=true→Vals (ss.map V.str) vs
 | [],[],_=>.nil
 | .str x t::r,y::s,h=>by
  have h':(decide (x=y) && jW r s)=true:=h
  rw [Bool.and_eq_true] at h'
  exact .cons ⟨t,by rw [of_decide_eq_true h'.1]⟩ (oO h'.2)
theorem lK {K:Frag} {O:Addr→Prop} {H:Hp}:∀ ss:List Str,Reps K O H (ss.map V.str) (ss.map PyData.str)
 | []=>.nil
 | x::r=>.cons (.str x) (lK r)
theorem zG {ss:List Str} (hg:Gl X x) (ht:uQ X.K X.mg x ss) (hz:ss.length≤sizeLine:=by decide) (hd:(x == ("__debug__" : Str))=false:=by decide):DE X (.Name x p) (fC (.tuple (ss.map PyData.str))):=by
 obtain ⟨a,hx,hl⟩:=ht
 refine ⟨?_⟩
 refine pe_imp (gC (v:=.ref a) hg hx rfl hd) (gF fun O H=>?_)
 unfold ib at hl
 split at hl
 ·rename_i n dd its c sl hk
  rw [Bool.and_eq_true] at hl
  have rv:=oO hl.2
  have hn:=of_decide_eq_true hl.1
  subst hn
  refine .tup (vs:=ss.map V.str) (.inr (.inr ⟨_,its,c,hk,rfl,rfl,?_,rv⟩)) (lK ss)
  have:=rv.length
  rw [List.length_map] at this
  have e2:its.toList.length=its.size:=Array.length_toList
  omega
 ·cases hl
def nA (o:Obj) (ss:List Str):Bool:=ib (fun _=>some o) 0 ss
theorem xO {K:Frag} {a:Addr} {o:Obj} {ss:List Str} (h:K.lookup a=some o) (g:nA o ss=true):ib (fun b=>K.lookup b) a ss=true:=by
 unfold nA ib at g
 unfold ib
 dsimp only
 rw [h]
 exact g
end
mutual
def aZ:PyData→Bool
 | .tuple ds=>br ds
 | .list _=>false
 | .dict _=>false
 | _=>true
def br:List PyData→Bool
 | []=>true
 | d::r=>aZ d && br r
end
section
variable {K:Frag} {O:Addr→Prop} {H:Hp}
theorem TupAt.own (hm:∀ b,O b→Mut (H b)) {a:Addr} {vs:List V} (t:TupAt K (fun _=>False) H a vs):TupAt K O H a vs:=by
 rcases t with ⟨_,t⟩ | t
 ·refine .inl ⟨fun z=>?_,t⟩
  rcases hm a z with ⟨us,e⟩ | ⟨us,e⟩ | ⟨C,dx,us,e⟩ <;> rcases t with t | ⟨o,t⟩ <;> (rw [e] at t; cases t)
 ·exact .inr t
mutual
theorem Rep.own (hm:∀ b,O b→Mut (H b)):∀ {v:V} {d:PyData},Rep K (fun _=>False) H v d→aZ d=true→Rep K O H v d
 | _,_,.non,_=>.non
 | _,_,.bl b,_=>.bl b
 | _,_,.int i,_=>.int i
 | _,_,.str x,_=>.str x
 | _,_,.tup t r,h=>.tup (t.own hm) (Reps.own hm r (by simpa [aZ] using h))
 | _,_,.lst t r,h=>by simp [aZ] at h
 | _,_,.dct n t r,h=>by simp [aZ] at h
theorem Reps.own (hm:∀ b,O b→Mut (H b)):∀ {vs:List V} {ds:List PyData},Reps K (fun _=>False) H vs ds→br ds=true→Reps K O H vs ds
 | _,_,.nil,_=>.nil
 | _,_,.cons (d:=d) (ds:=ds) r t,h=>by
  have h':(aZ d && br ds)=true:=by simpa [br] using h
  rw [Bool.and_eq_true] at h'
  exact .cons (Rep.own hm r h'.1) (Reps.own hm t h'.2)
end
end
def jq:List W→Bool
 | []=>true
 | .tp _::_=>false
 | .loc (.dict _)::_=>false
 | _::r=>jq r
theorem nG {K:Frag} {O:Addr→Prop} {ts:List Addr} {H:Hp}:∀ {vs:List V} {ws:List W},eP K O ts H vs ws→jq ws=true→eP K (fun _=>False) [] H vs (ws.map iR)
 | _,[],.nil,_=>.nil
 | _,.d x::r,.cons h t,e=>.cons (show Rep K (fun _=>False) H _ x from Rep.mono (fun a o n e=>⟨fun z=>z,e⟩) h) (nG t e)
 | _,.tp _::_,.cons _ _,e=>by cases e
 | _,.loc x::r,.cons h t,e=>by
  have le:Le O H (fun _=>False) H:=fun a o n e=>⟨fun z=>z,e⟩
  obtain ⟨a,rfl,_,_,h3⟩:=h
  cases x with
  | list xs=>obtain ⟨vs,h1,h2⟩:=h3; exact .cons (.lst (.inl ⟨fun z=>z,.inl h1⟩) (h2.mono le)) (nG t e)
  | dict xs=>cases e
  | _=>cases h3
def iG (m:FnM) (g:FA):FE:=fun ρ T=>bnd (g ρ T) fun ws T1=>if jq ws=true then (match m (ws.map iR) [] with
 | some (x,_)=>if aZ x=true then some (.d x,T1) else none
 | none=>none) else none
theorem qf {X:Cx} {name:Str} {ps:List Str} {k:Nat} {m:FnM} {e:Expr} {es:List Expr} {g:FA} {p pos:Pos} (F:Fn X.prog X.w X.K X.mg X.base name ps k (spM X.K ps.length m)) (hr:Room k X.A) (hg:Gl X name) (ha:DA X (e::es) g) (hl:jx g ps.length) (hdb:(name == ("__debug__" : Str))=false:=by decide)
  (he:starEach (e::es) X.env=(false,eval e X.env)::starEach es X.env:=by exact b5 rfl) (hpl:(backTo pos (starEach es X.env)).any (·.1)=false:=by exact c8 rfl):DE X (.Call (.Name name p) (e::es) [] pos) (iG m g):=by
 refine ⟨?_⟩
 refine pe_imp (tE F hr hg ha.pe hdb he hpl) fun σ H Q=>?_
 rintro ⟨O,ts,ρ,T,w,T',hc,re,e,q⟩
 obtain ⟨ws,T1,e1,e⟩:=aT e
 split at e
 ·rename_i hn
  split at e
  ·rename_i x T2 e2
   split at e
   ·rename_i hx
    cases e
    refine ⟨O,ts,ρ,T,ws,_,hc,re,e1,fun vs H1 s1 hc1 r1=>?_⟩
    refine ⟨fun _=>False,[],[],ws.map iR,x,T2,⟨fun b hb=>(by cases hb),fun b hb=>hb.elim,List.nodup_nil,rfl,fun i a xs e1 _=>by simp at e1⟩,by rw [List.append_nil]; exact nG r1 hn,by rw [List.length_map]; exact hl _ _ _ _ e1,e2,fun v H2 s2 hc2 r2=>?_⟩
    have s2':SameX ts H1 H2:=fun b o _ q=>s2 b o (by simp) q
    have hm:∀ b,O b→Mut (H2 b):=fun b hb=>by
     exact (hc1.trk b hb).to fun u z=>s2 b _ (by simp) z
    have hc2':=hc1.step s2' fun b hb=>by
     obtain ⟨u,z⟩:=(hc1.trk b (hc1.own b hb)).ex
     rw [z]; exact s2 b _ (by simp) z
    exact q v H2 (s1.trans s2') hc2' (Rep.own hm r2 hx)
   ·cases e
  ·cases e
 ·cases e
def aB (ds:List (PyData×PyData)) (s:Str):Option PyData:=match ds with
 | []=>none
 | (.str k,d)::r=>if k=s then some d else aB r s
 | _::r=>aB r s
theorem hW {K:Frag} {O:Addr→Prop} {H:Hp} {s:Str}:∀ {kvs:List (Key×V)} {ds:List (PyData×PyData)},RepK K O H kvs ds→(aB ds s=none∧bz kvs (Sum.inr s:Key)=none)∨∃ v d,aB ds s=some d∧bz kvs (Sum.inr s:Key)=some v∧Rep K O H v d
 | _,_,.nil=>.inl ⟨rfl,rfl⟩
 | _,_,.cons (k:=.inl i) (v:=v) (d:=d) (kvs:=kvs) (ds:=ds) r t=>by
  have e:bz (((Sum.inl i:Key),v)::kvs) (Sum.inr s:Key)=bz kvs (Sum.inr s:Key):=by simp [bz,List.find?_cons]
  rw [e]
  show (aB ds s=none∧_)∨∃ v d,aB ds s=some d∧_
  exact hW (s:=s) t
 | _,_,.cons (k:=.inr k) (v:=v) (d:=d) (kvs:=kvs) (ds:=ds) r t=>by
  by_cases hk:k=s
  ·subst hk
   exact .inr ⟨v,d,by show (if k=k then some d else aB ds k)=some d; rw [if_pos rfl],by simp [bz,List.find?_cons],r⟩
  ·have e:bz (((Sum.inr k:Key),v)::kvs) (Sum.inr s:Key)=bz kvs (Sum.inr s:Key):=by simp [bz,List.find?_cons,hk]
   have e2:aB ((gc (Sum.inr k:Key),d)::ds) s=aB ds s:=by show (if k=s then some d else aB ds s)=_; rw [if_neg hk]
   rw [e,e2]
   exact hW (s:=s) t
theorem DGet.rd {H:Hp} {a:Addr} {kvs:List (Key×V)} {k:Key} (e:Rd H a (.dK kvs)):DGet H a (kV k) (bz kvs k):=.inl ⟨kvs,k,e,rfl,rfl⟩
section
variable {X:Cx} {pos:Pos} {k:Nat}
theorem kK {k:Nat} {A:Around} (hr:Room k A):A.units + 1 < cLine:=by have:=hr.un; omega
end
section
variable {K:Frag} {O₀:Addr→Prop} {H₀:Hp} {F:List ((Addr→Prop)×Hp)} {ts:List Addr} {O:Addr→Prop} {H H1:Hp} {σ:L2.St} {ρ:Rho} {T T1:Tp}
end
section
variable {X:Cx} {pos:Pos}
def bK (ds:List (PyData×PyData)) (s:Str) (x:PyData):List (PyData×PyData):=match ds with
 | []=>[]
 | (.str k,d)::r=>if k=s then (.str k,x)::bK r s x else (.str k,d)::bK r s x
 | p::r=>p::bK r s x
theorem lL {K:Frag} {O:Addr→Prop} {H:Hp} {s:Str} {v:V} {x:PyData} (rx:Rep K O H v x):∀ {kvs:List (Key×V)} {ds:List (PyData×PyData)},RepK K O H kvs ds→RepK K O H (kvs.map fun kv=>if kv.1=(Sum.inr s:Key) then (kv.1,v) else kv) (bK ds s x)
 | _,_,.nil=>.nil
 | _,_,.cons (k:=.inl i) r t=>by
  rw [List.map_cons]
  rw [if_neg (by intro z; cases z)]
  exact .cons (k:=.inl i) r (lL rx t)
 | _,_,.cons (k:=.inr k) (v:=u) (d:=d) (kvs:=kvs) (ds:=ds) r t=>by
  rw [List.map_cons]
  have ih:=lL (s:=s) rx t
  show RepK K O H _ (if k=s then (.str k,x)::bK ds s x else (.str k,d)::bK ds s x)
  by_cases hk:k=s
  ·rw [if_pos hk,if_pos (by rw [hk])]
   exact .cons (k:=.inr k) rx ih
  ·rw [if_neg hk,if_neg (fun z=>hk (Sum.inr.inj z))]
   exact .cons (k:=.inr k) r ih
theorem pW {K:Frag} {O:Addr→Prop} {H:Hp}:∀ {kvs:List (Key×V)} {ds:List (PyData×PyData)},RepK K O H kvs ds→kvs.length=ds.length
 | _,_,.nil=>rfl
 | _,_,.cons _ t=>congrArg (· + 1) (pW t)
theorem xH {kvs:List (Key×V)} {k:Key} (h:(bz kvs k).isSome=true):(kvs.any fun kv=>decide (kv.1=k))=true:=by
 unfold bz at h
 rw [Option.isSome_map] at h
 rw [List.any_eq_true]
 obtain ⟨p,hp⟩:=Option.isSome_iff_exists.mp h
 exact ⟨p,List.mem_of_find?_eq_some hp,by have:=List.find?_some hp; simpa using this⟩
end
section
variable {X:Cx} {pos:Pos} {e:Expr} {f:FE} {x:Str} {p:Pos} {B:List (Str×Str)}
def jt (i j:Nat) (f:FE):FS:=fun ρ T=>bnd (f ρ T) fun w T1=>match w with
 | .d (.tuple [x,y])=>some ((.nx,(ρ.set i (some (.d x))).set j (some (.d y))),T1)
 | _=>none
theorem Ce {i j:Nat} {y:Str} {k:Nat} {px py tp:Pos} (hN:X.N.Nodup) (he:DE X e f) (hi:X.N[i]? = some x:=by rfl) (hj:X.N[j]? = some y:=by rfl) (hx:Loc X.env.scope x:=by first | exact Or.inl rfl | exact Or.inr rfl) (hy:Loc X.env.scope y:=by first | exact Or.inl rfl | exact Or.inr rfl)
  (hf:X.fn x=true∨X.env.scope.names.lookup x=some .local:=by first | exact .inl rfl | exact .inr rfl | assumption) (hf':X.fn y=true∨X.env.scope.names.lookup y=some .local:=by first | exact .inl rfl | exact .inr rfl | assumption) (hc:X.calm=true:=by rfl)
  (hs:swapsWithSole [.Tuple [.Name x px,.Name y py] k tp] e pos.line X.env=pure false:=by rfl) (hw:swappedStores [.Tuple [.Name x px,.Name y py] k tp] e X.env=pure none:=by rfl)
  (h1:(assignEach [.Tuple [.Name x px,.Name y py] k tp] X.env).map (·.2)=[assign (.Tuple [.Name x px,.Name y py] k tp) X.env]:=by rfl):DS X (.Assign [.Tuple [.Name x px,.Name y py] k tp] e pos) (jt i j f):=by
 refine ⟨?_⟩
 refine df (rV he.pe (mQ hc (hU (gB hN hi hx hf) (hU (gB hN hj hy hf') mf))) hs hw h1) fun D σ H=>?_
 rintro ⟨O₀,H₀,F,ts,O,ρ,T,fl,ρ',T',rs,e,q⟩
 obtain ⟨w,T1,e1,e⟩:=aT e
 refine ⟨O,ts,ρ,T,w,T1,rs.hc,rs.re,e1,fun v H1 s1 hc1 r1=>?_⟩
 split at e
 ·rename_i a b
  cases e
  have rs1:=rs.step s1 hc1
  have r1':Rep X.K O H1 v (.tuple [a,b]):=r1
  cases r1' with
  | tup t r=>
   cases r with
   | cons ra r=>
    cases r with
    | cons rb r=>
     cases r
     exact ⟨_,_,rfl,t.sq,rfl,_,_,rfl,_,_,rfl,rfl,q O _ _ ((rs1.set (w:=.d a) ra fun _ z=>nomatch z).set (w:=.d b) rb fun _ z=>nomatch z)⟩
 ·cases e
end
section
variable {K:Frag} {O:Addr→Prop} {ts:List Addr} {H H':Hp} {T:Tp} {n:Nat} {a C:Addr} {ps:List PyData}
end
section
variable {X:Cx} {C:Addr} {o e:Expr} {f m:Str} {pos pos' apos:Pos} {fo fe:FE}
structure Mth (P:Program) (w:World) (K:Frag) (mg:Str→Option Value) (base:Heap) (C:Addr) (m:Str) (ps:List Str) (k:Nat) (sp:Sp):Prop where
 ex:∃ f fd,FnOk P w K mg base CX0 k f fd ps sp∧Binds K fd ps []∧Meth K C m f
variable {ps:List Str} {k:Nat} {mm:FnM} {g:FA} {es:List Expr} {pl:Sem Bool}
def tY:FS:=fun _ _=>none
theorem qW {st:Stmt}:DS X st tY:=⟨fun _ _ _ _ _ _ h=>by
 obtain ⟨O₀,H₀,F,ts,O,ρ,T,fl,ρ',T',rs,e,q⟩:=h
 cases e⟩
end
def jg (T:Tp):Option (Tp×List PyData):=match T.getLast? with
 | some xs=>some (T.dropLast,xs)
 | none=>none
theorem zp {T T1:Tp} {ys:List PyData} (h:jg T=some (T1,ys)):T=T1++[ys]:=by
 unfold jg at h
 split at h
 ·rename_i xs e
  cases h
  obtain ⟨zs,hl⟩:=List.getLast?_eq_some_iff.mp e
  rw [hl]
  simp
 ·cases h
section
variable {X:Cx} {C f:Addr} {e:Expr} {fe:FE} {fr:FS} {rest:List Stmt} {cn x:Str} {p pos pos' cpos:Pos} {ps:List Str} {k i:Nat} {m:FnM} {fd:FuncData}
end
end D
namespace L2
open PySem PySem.Spec PyProof.Rows
section
variable {X:Cx}
end
end L2
namespace D
open PySem PySem.Spec PyProof.Rows L2
section
variable {X:Cx} {pos:Pos}
structure Ini (P:Program) (w:World) (K:Frag) (mg:Str→Option Value) (base:Heap) (C:Addr) (ps:List Str) (k:Nat) (sp:Sp):Prop where
 ex:∃ f fd,FnOk P w K mg base CX0 k f fd ps sp∧L2.Binds K fd ps []∧Mk K C f
structure DfM (K:Frag) (C:Addr) (name qual:Str) (st:Stmt):Prop where
 ex:∃ (f:Addr) (oc:Value) (od an:Option Addr) (sl:Array (Option Value)) (kV dc pm cd ct:Value),PySem.W.findIn K (.ref C) name=some (some (.ref f)) ∧
  K.lookup f=some ⟨oc,od,.func (PySem.W.fnOf name qual (eB st) (da st) (aL st) .none kV dc pm an cd ct),sl⟩∧PySem.W.codeIn K cd qual=true∧PySem.W.keepIn K (.ref f)=true∧PySem.W.isFn K (.ref f)=true
theorem Ci {K:Frag} {C:Addr} {name qual:Str} {st:Stmt} {f:Addr} {oc:Value} {od an:Option Addr} {sl:Array (Option Value)} {kV dc pm cd ct:Value} (a:PySem.W.findIn K (.ref C) name=some (some (.ref f)))
  (l:K.lookup f=some ⟨oc,od,.func (PySem.W.fnOf name qual (eB st) (da st) (aL st) .none kV dc pm an cd ct),sl⟩) (c:PySem.W.codeIn K cd qual=true) (k:PySem.W.keepIn K (.ref f)=true) (n:PySem.W.isFn K (.ref f)=true):DfM K C name qual st:=⟨f,oc,od,an,sl,kV,dc,pm,cd,ct,a,l,c,k,n⟩
theorem oH {P:Program} {w:World}:∀ {kvs:List (Key×V)} {vs:List (Key×Value)} {us:List Value},KV kvs vs→us.length=vs.length→(∀ (j:Nat) (v:Value),us[j]? = some v→∃ k x,vs[j]? = some (k,x)∧(bB P w).is k v=true)→Vals (kvs.map fun p=>kV p.1) us
 | [],[],[],_,_,_=>.nil
 | _::_,[],_,r,_,_=>by cases r
 | [],_::_,_,r,_,_=>by cases r
 | _,[],_::_,_,h,_=>by simp at h
 | _,_::_,[],_,h,_=>by simp at h
 | (k,v)::kvs,(k',x)::vs,u::us,r,h,f=>by
  cases r with
  | cons r1 r2=>
   refine .cons ?_ (oH (P:=P) (w:=w) r2 (by simpa using h) fun j v e=>?_)
   ·obtain ⟨k2,x2,e2,e3⟩:=f 0 u rfl
    cases e2
    have:k=k':=r1.1
    subst this
    exact nI e3
   ·obtain ⟨k2,x2,e2,e3⟩:=f (j + 1) v (by simpa using e)
    exact ⟨k2,x2,by simpa using e2,e3⟩
def eJ (ds:List (PyData×PyData)):List PyData:=ds.map (·.1)
theorem oV {K:Frag} {O:Addr→Prop} {H:Hp} {O':Addr→Prop} {H':Hp}:∀ {kvs:List (Key×V)} {ds:List (PyData×PyData)},RepK K O H kvs ds→Reps K O' H' (kvs.map fun p=>kV p.1) (eJ ds)
 | _,_,.nil=>.nil
 | _,_,.cons (k:=k) _ t=>.cons (l9 k) (oV t)
end
theorem sj:∀ a b:List Nat,ltCps a b=false→ltCps b a=false→a=b
 | [],[],_,_=>rfl
 | [],_::_,h,_=>by simp [ltCps] at h
 | _::_,[],_,h=>by simp [ltCps] at h
 | x::r,y::t,h,g=>by
  simp [ltCps] at h g
  have:x=y:=by omega
  subst this
  rw [sj r t (by simpa using h) (by simpa using g)]
theorem qF:∀ a b:List Nat,ltCps a b=true→ltCps b a=false
 | [],[],h=>by simp [ltCps] at h
 | [],_::_,_=>rfl
 | _::_,[],h=>by simp [ltCps] at h
 | x::r,y::t,h=>by
  simp [ltCps] at h ⊢
  rcases h with h | h
  ·omega
  ·refine ⟨by omega,fun e=>?_⟩
   exact qF r t h.2
theorem oZ:∀ a b c:List Nat,ltCps b a=false→ltCps c b=false→ltCps c a=false
 | a,[],c,h,g=>by
  cases a with
  | nil=>exact g
  | cons x r=>simp [ltCps] at h
 | [],b,c,h,g=>by cases c <;> rfl
 | x::r,y::t,[],h,g=>by simp [ltCps] at g
 | x::r,y::t,z::u,h,g=>by
  simp [ltCps] at h g ⊢
  refine ⟨by omega,fun e=>?_⟩
  subst e
  by_cases q:z=y
  ·subst q
   exact oZ r t u (h.2 rfl) (g.2 rfl)
  ·exfalso
   omega
def leS (a b:Str):Bool:=!ltCps b.cps.toList a.cps.toList
theorem AA (a b:Str):leS a b=true∨leS b a=true:=by
 unfold leS
 cases h:ltCps b.cps.toList a.cps.toList with
 | false=>exact .inl rfl
 | true=>
  refine .inr ?_
  cases g:ltCps a.cps.toList b.cps.toList with
  | false=>rfl
  | true=>
   exfalso
   have:=qF _ _ h
   rw [g] at this
   cases this
theorem zj {a b:Str} (h:leS a b=true) (g:leS b a=true):a=b:=by
 unfold leS at h g
 have:=sj a.cps.toList b.cps.toList (by simpa using g) (by simpa using h)
 cases a; cases b
 simp at this
 rw [this]
theorem pb {a b c:Str} (h:leS a b=true) (g:leS b c=true):leS a c=true:=by
 unfold leS at *
 have:=oZ a.cps.toList b.cps.toList c.cps.toList (by simpa using h) (by simpa using g)
 rw [this]; rfl
def gU (x:Str):List Str→List Str
 | []=>[x]
 | y::r=>if leS x y=true then x::y::r else y::gU x r
def cD:List Str→List Str
 | []=>[]
 | x::r=>gU x (cD r)
theorem lP (x:Str):∀ l:List Str,(gU x l).Perm (x::l)
 | []=>.refl _
 | y::r=>by
  unfold gU
  split
  ·exact .refl _
  ·exact ((lP x r).cons y).trans (.swap _ _ _)
theorem g6:∀ l:List Str,(cD l).Perm l
 | []=>.refl _
 | x::r=>(lP x _).trans ((g6 r).cons x)
theorem nY (x:Str):∀ l:List Str,l.Pairwise (fun a b=>leS a b=true)→(gU x l).Pairwise (fun a b=>leS a b=true)
 | [],_=>by simp [gU]
 | y::r,h=>by
  obtain ⟨h1,h2⟩:=List.pairwise_cons.mp h
  unfold gU
  split
  ·rename_i hx
   refine List.pairwise_cons.mpr ⟨fun z hz=>?_,h⟩
   rcases List.mem_cons.mp hz with e | e
   ·rw [e]; exact hx
   ·exact pb hx (h1 z e)
  ·rename_i hx
   refine List.pairwise_cons.mpr ⟨fun z hz=>?_,nY x r h2⟩
   rcases List.mem_cons.mp ((lP x r).mem_iff.mp hz) with e | e
   ·rw [e]; exact (AA x y).resolve_left hx
   ·exact h1 z e
theorem nQ:∀ l:List Str,(cD l).Pairwise (fun a b=>leS a b=true)
 | []=>.nil
 | x::r=>nY x _ (nQ r)
theorem nU:∀ {a b:List Str},a.Perm b→a.Pairwise (fun a b=>leS a b=true)→b.Pairwise (fun a b=>leS a b=true)→a=b
 | [],b,p,_,_=>(List.nil_perm.mp p).symm
 | x::r,[],p,_,_=>absurd (List.perm_nil.mp p) (by simp)
 | x::r,y::t,p,h,g=>by
  obtain ⟨h1,h2⟩:=List.pairwise_cons.mp h
  obtain ⟨g1,g2⟩:=List.pairwise_cons.mp g
  have e:x=y:=by
   rcases List.mem_cons.mp (p.mem_iff.mp List.mem_cons_self) with e | e
   ·exact e
   ·rcases List.mem_cons.mp (p.mem_iff.mpr List.mem_cons_self) with e' | e'
    ·exact e'.symm
    ·exact zj (h1 y e') (g1 x e)
  subst e
  rw [nU (List.perm_cons _ |>.mp p) h2 g2]
theorem oU:∀ (x:Str) (l:List Str),risingS x l=true→(x::l).Pairwise (fun a b=>leS a b=true)
 | x,[],_=>by simp
 | x,y::r,h=>by
  have h':leS x y=true∧risingS y r=true:=by
   unfold leS
   simpa [risingS] using h
  have ih:=oU y r h'.2
  refine List.pairwise_cons.mpr ⟨fun z hz=>?_,ih⟩
  rcases List.mem_cons.mp hz with e | e
  ·rw [e]; exact h'.1
  ·exact pb h'.1 ((List.pairwise_cons.mp ih).1 z e)
theorem wR {l:List Str} (h:sortedS l=true):l.Pairwise (fun a b=>leS a b=true):=by
 cases l with
 | nil=>exact .nil
 | cons x r=>exact oU x r h
theorem pN:∀ {ss:List Str} {us:List Value},Vals (ss.map V.str) us→StrsAre us ss
 | [],_,h=>by cases h; exact .nil
 | x::r,_,h=>by
  cases h with
  | cons h1 h2=>
   obtain ⟨t,rfl⟩:=h1
   exact .cons x t (pN h2)
theorem oh:∀ {us:List Value} {ss:List Str},StrsAre us ss→Vals (ss.map V.str) us
 | _,_,.nil=>.nil
 | _,_,.cons y t r=>.cons ⟨t,rfl⟩ (oh r)
section
variable {X:Cx} {pos:Pos}
def kA (o:Option (List Str)):Option PyData:=match o with
 | some ss=>if ss.length < 64 then some (.list ((cD ss).map .str)) else none
 | none=>none
end
theorem yq {prog:Program} {w:World} {A:Around} {E:Value→Shared→Prop} {s:Shared} {Q:Int→Shared→Prop} (h:Q (PySem.reduceHash 4238894112) { s with toks:=s.toks + 1 }):wpAny (model prog w) A (pyHash .none) Q E s:=by
 show wpAny (model prog w) A (pyHashByItsType .none) Q E s
 refine PySem.W.pyHash_slot (T:="NoneType") (by first | rfl | trivial | exact ⟨_,rfl⟩ | simp [Shared.TypeIs]) PySem.F.slot_NoneType_hash PySem.F.entry_NoneType_hash (PySem.F.args_NoneType_hash_1 _) rfl (.inl rfl) ?_
 unfold PySem.Builtin.«NoneType.__hash__»
 refine wpAny_bind ?_
 unfold slotArgs
 simp only []
 rw [if_neg (by decide),if_neg (by decide)]
 refine wpAny_pure ?_
 unfold retInt
 refine wpAny_bind ?_
 first
  | exact wpAny_mkInt (wpAny_pure ⟨_,_,rfl,h⟩)
  | exact wpAny_mkInt (wpAny_ret ⟨_,_,rfl,h⟩)
def uE:Option Key→Value→Bool
 | none,.none=>true
 | none,_=>false
 | some k,v=>dW k v
def okH (w:World):Option Key→Int
 | none=>PySem.reduceHash 4238894112
 | some k=>uH w k
theorem dP {k:Option Key} {v:Value} (h:uE k v=true):(k=none∧v=.none)∨(∃ i t,k=some (.inl i)∧v=.int i t)∨∃ x t,k=some (.inr x)∧v=.str x t:=by
 cases k with
 | none=>cases v <;> first | exact .inl ⟨rfl,rfl⟩ | cases h
 | some k=>
  rcases dB (show dW k v=true from h) with ⟨i,t,rfl,rfl⟩ | ⟨x,t,rfl,rfl⟩
  ·exact .inr (.inl ⟨i,t,rfl,rfl⟩)
  ·exact .inr (.inr ⟨x,t,rfl,rfl⟩)
theorem qc (k:Key):decide ((none:Option Key)=some k)=false:=decide_eq_false (fun q=>nomatch q)
theorem pk (k:Key):decide (some k=(none:Option Key))=false:=decide_eq_false (fun q=>nomatch q)
theorem jQ (a b:Key):decide (some a=some b)=decide (a=b):=by
 by_cases h:a=b
 ·subst h; simp
 ·rw [decide_eq_false h,decide_eq_false (fun q=>h (Option.some.inj q))]
def mh (prog:Program) (w:World):PySem.KeyKind prog w (Option Key) where
 is:=uE
 hash:=okH w
 inj:=fun v a b ha hb=>by
  rcases dP ha with ⟨rfl,rfl⟩ | ⟨i,t,rfl,rfl⟩ | ⟨x,t,rfl,rfl⟩
  ·rcases dP hb with ⟨rfl,_⟩ | ⟨j,u,rfl,e⟩ | ⟨y,u,rfl,e⟩
   ·rfl
   ·exact nomatch e
   ·exact nomatch e
  ·rcases dP hb with ⟨rfl,e⟩ | ⟨j,u,rfl,e⟩ | ⟨y,u,rfl,e⟩
   ·exact nomatch e
   ·injection e with e1 _; rw [e1]
   ·exact nomatch e
  ·rcases dP hb with ⟨rfl,e⟩ | ⟨j,u,rfl,e⟩ | ⟨y,u,rfl,e⟩
   ·exact nomatch e
   ·exact nomatch e
   ·injection e with e1 _; rw [e1]
 byValue:=fun k v h=>by
  rcases dP h with ⟨rfl,rfl⟩ | ⟨i,t,rfl,rfl⟩ | ⟨x,t,rfl,rfl⟩ <;> rfl
 pyHash:=fun hv h=>by
  rcases dP hv with ⟨rfl,rfl⟩ | ⟨i,t,rfl,rfl⟩ | ⟨x,t,rfl,rfl⟩
  ·exact yq h
  ·exact wpAny_pyHash_int h
  ·exact wpAny_pyHash_str h
 eqBool:=fun hu hv h=>by
  rcases dP hu with ⟨rfl,rfl⟩ | ⟨i,t,rfl,rfl⟩ | ⟨x,t,rfl,rfl⟩
  ·rcases dP hv with ⟨rfl,rfl⟩ | ⟨j,u,rfl,rfl⟩ | ⟨y,u,rfl,rfl⟩
   ·rw [show decide ((none:Option Key)=none)=true by simp] at h; exact SeqAt.EqAt.same .none _ _ _ _ h
   ·rw [qc] at h; exact SeqAt.EqAt.none_int j u _ _ _ _ h
   ·rw [qc] at h; exact SeqAt.EqAt.none_str y u _ _ _ _ h
  ·rcases dP hv with ⟨rfl,rfl⟩ | ⟨j,u,rfl,rfl⟩ | ⟨y,u,rfl,rfl⟩
   ·rw [pk] at h; exact SeqAt.EqAt.int_none i t _ _ _ _ h
   ·rw [jQ,sy] at h; exact wpAny_eqBool_int h
   ·rw [jQ,su] at h; exact SeqAt.EqAt.int_str i t y u _ _ _ _ h
  ·rcases dP hv with ⟨rfl,rfl⟩ | ⟨j,u,rfl,rfl⟩ | ⟨y,u,rfl,rfl⟩
   ·rw [pk] at h; exact SeqAt.EqAt.str_none x t _ _ _ _ h
   ·rw [jQ,sr] at h; exact SeqAt.EqAt.str_int x t j u _ _ _ _ h
   ·rw [jQ,so] at h; exact wpAny_eqBool_str h
 «strs»:=fun k x t v h=>by
  rcases dP h with ⟨rfl,e⟩ | ⟨i,u,rfl,e⟩ | ⟨y,u,rfl,e⟩
  ·exact nomatch e
  ·exact nomatch e
  ·injection e with e1 _
   subst e1
   cases v <;> rfl
theorem oX {P:Program} {w:World}:∀ {es:List DictEntry} {vs:List (Key×Value)},Pairs (bB P w) es vs→Pairs (mh P w) es (vs.map fun p=>(some p.1,p.2))
 | _,_,.nil=>.nil
 | _,_,.cons h1 h2 t=>.cons h1 h2 (oX t)
theorem zD {P:Program} {w:World} {h:Heap} {a:Addr} {vs:List (Key×Value)} (d:h.DictOf (bB P w) a vs):h.DictOf (mh P w) a (vs.map fun p=>(some p.1,p.2)):=by
 obtain ⟨o,es,ep,e1,e2,e3,e4,e5,e6⟩:=d
 refine ⟨o,es,ep,e1,e2,e3,fun e he=>?_,oX e5,?_⟩
 ·obtain ⟨k,k1,k2⟩:=e4 e he
  exact ⟨some k,k1,k2⟩
 ·rw [List.map_map]
  show (vs.map fun p=>some p.1).Nodup
  have:(vs.map fun p=>some p.1)=(vs.map (·.1)).map some:=by rw [List.map_map]; rfl
  rw [this]
  exact List.pairwise_map.mpr (List.Pairwise.imp (fun h q=>h (Option.some.inj q)) e6)
theorem pI:∀ (vs:List (Key×Value)),valueAt (vs.map fun p=>((some p.1:Option Key),p.2)) none=none
 | []=>rfl
 | p::r=>by
  have:=pI r
  unfold valueAt at this ⊢
  rw [List.map_cons,List.find?_cons]
  simpa using this
section
variable {X:Cx}
theorem w6:OpR X (compareOp .In) (fun x y H Q=>∃ a kvs,x=.non∧y=.ref a∧Rd H a (.dK kvs)∧Q (.bl false) H):=by
 intro pins s σ H x y v u Q I rx ry h
 obtain ⟨a,kvs,rfl,rfl,e,q⟩:=h
 cases (show v=Value.none from rx)
 cases (show u=Value.ref a from ry)
 obtain ⟨z,hd,vs,rel,dd⟩:=dX I.hok e
 refine wpAny_in_of (knd:=mh X.prog X.w) (k:=none) rfl hd (zD dd).mapOf ?_
 rw [pI]
 exact ⟨.bl false,H,I.tok _,rfl,q⟩
theorem BN {k:Nat} (hr:Room k X.A):OpR X (compareOp .In) (fun x y H Q=>∃ a kvs s,x=.str s∧y=.ref a∧Rd H a (.dK kvs)∧Q (.bl (bz kvs (Sum.inr s:Key)).isSome) H):=by
 intro pins s σ H x y v u Q I rx ry h
 obtain ⟨a,kvs,z,rfl,rfl,e,q⟩:=h
 cases (show u=Value.ref a from ry)
 exact Ee (kK hr) I (DGet.rd (k:=Sum.inr z) e) (show RelV (kV (Sum.inr z)) v from rx) fun s' I'=>⟨.bl _,H,I',rfl,q⟩
theorem x9 {k:Nat} (hr:Room k X.A):OpR X (compareOp .NotIn) (fun x y H Q=>∃ a kvs s,x=.str s∧y=.ref a∧Rd H a (.dK kvs)∧Q (.bl (!(bz kvs (Sum.inr s:Key)).isSome)) H):=by
 intro pins s σ H x y v u Q I rx ry h
 obtain ⟨a,kvs,z,rfl,rfl,e,q⟩:=h
 cases (show u=Value.ref a from ry)
 exact AM (kK hr) I (DGet.rd (k:=Sum.inr z) e) (show RelV (kV (Sum.inr z)) v from rx) fun s' I'=>⟨.bl _,H,I',rfl,q⟩
theorem B1 {k:Nat} (hr:Room k X.A):IxR X (fun x y H Q=>∃ a kvs s v,x=.ref a∧y=.str s∧Rd H a (.dK kvs)∧bz kvs (Sum.inr s:Key)=some v∧Q v H):=by
 intro value slice pins s σ H x y v u Q I rx ry h hs
 obtain ⟨a,kvs,z,v0,rfl,rfl,e,l,q⟩:=h
 cases (show v=Value.ref a from rx)
 have g:DGet H a (kV (Sum.inr z)) (some v0):=by rw [← l]; exact DGet.rd e
 unfold subscriptTail
 refine wpAny_bind ?_
 rw [getitemInPython_of_ne (n6 I g).not_modules]
 refine wpAny_bind (wpAny_specialOf (n6 I g) PySem.F.slot_dict_getitem.lookup ?_)
 have fin:wpAny (model X.prog X.w) X.A (subscripted slice false (Value.ref a) u) (fun r s₃=>wpAny (model X.prog X.w) X.A (letTemporaryGo value (Value.ref a) r >>= fun _=>pure r) (EP X pins σ Q) X.xe s₃) X.xe s:=by
  rw [hs]
  exact wpAny_operating (yE (kK hr) I g (show RelV (kV (Sum.inr z)) u from ry) fun w' s' I' rw'=>wpAny_bind (wpAny_letTemporaryGo (wpAny_pure ⟨v0,H,I',rw',q⟩)))
 first
  | exact wpAny_pure (wpAny_bind fin)
  | exact wpAny_bind (wpAny_pure (wpAny_bind fin))
  | exact wpAny_bind fin
def inK (s:PyData) (ds:List (PyData×PyData)):Option Bool:=match s with
 | .str s=>some (aB ds s).isSome
 | .none=>some false
 | _=>none
def inB (x y:PyData):Option Bool:=match y with
 | .dict ds=>inK x ds
 | y=>inS x y
def inA (x y:PyData):Option PyData:=(inB x y).map .bool
def dS (x y:PyData):Option PyData:=match x,y with
 | .str s,.dict ds=>some (.bool (!(aB ds s).isSome))
 | _,.dict _=>none
 | x,y=>(inS x y).map fun b=>.bool (!b)
theorem tH {k:Nat} (hr:Room k X.A):OpD X (compareOp .In) inA:=⟨_,(op_in_str.or oY).or ((BN hr).or w6),fun O ts H T v1 v2 x y d Q hc h1 h2 e q=>by
 unfold inA at e
 by_cases hd:∃ ds,y=.dict ds
 ·obtain ⟨ds,rfl⟩:=hd
  obtain ⟨a,kvs,rfl,t,r⟩:=h2.dct
  obtain ⟨b,hb,rfl⟩:=Option.map_eq_some_iff.mp e
  have hb':inK x ds=some b:=hb
  unfold inK at hb'
  split at hb'
  ·rename_i s
   cases hb'
   cases h1.str
   refine .inr (.inl ⟨a,kvs,s,rfl,rfl,t,?_⟩)
   have e:(bz kvs (Sum.inr s:Key)).isSome=(aB ds s).isSome:=by
    rcases hW (s:=s) r with ⟨z1,z2⟩ | ⟨v,d,z1,z2,_⟩ <;> rw [z1,z2] <;> rfl
   rw [e]
   exact q _ H (.refl _ _) hc (.bl _)
  ·cases hb'
   cases h1.non
   exact .inr (.inr ⟨a,kvs,rfl,rfl,t,q _ H (.refl _ _) hc (.bl _)⟩)
  ·cases hb'
 ·have e':(inS x y).map .bool=some d:=by
   cases y with
   | dict ds=>exact absurd ⟨ds,rfl⟩ hd
   | _=>exact e
  exact .inl (kc false O ts H T v1 v2 x y d Q hc h1 h2 e' q)⟩
theorem jN {k:Nat} (hr:Room k X.A):OpD X (compareOp .NotIn) dS:=⟨_,(op_notin_str.or nT).or (x9 hr),fun O ts H T v1 v2 x y d Q hc h1 h2 e q=>by
 by_cases hd:∃ ds,y=.dict ds
 ·obtain ⟨ds,rfl⟩:=hd
  obtain ⟨a,kvs,rfl,t,r⟩:=h2.dct
  cases x with
  | str s=>
   cases e
   cases h1.str
   refine .inr ⟨a,kvs,s,rfl,rfl,t,?_⟩
   have e:(bz kvs (Sum.inr s:Key)).isSome=(aB ds s).isSome:=by
    rcases hW (s:=s) r with ⟨z1,z2⟩ | ⟨v,d,z1,z2,_⟩ <;> rw [z1,z2] <;> rfl
   rw [e]
   exact q _ H (.refl _ _) hc (.bl _)
  | _=>cases e
 ·have e':((inS x y).map fun b=>.bool (!b))=some d:=by
   cases y with
   | dict ds=>exact absurd ⟨ds,rfl⟩ hd
   | _=>cases x <;> exact e
  exact .inl (kc true O ts H T v1 v2 x y d Q hc h1 h2 e' q)⟩
def ixA (x y:PyData):Option PyData:=match x,y with
 | .dict ds,.str s=>aB ds s
 | .dict _,_=>none
 | x,y=>ixD x y
theorem dm {k:Nat} (hr:Room k X.A):IxD X ixA:=by
 obtain ⟨r0,h0,s0⟩:=aA (X:=X)
 refine ⟨_,h0.or (B1 hr),fun O ts H T v1 v2 x y d Q hc h1 h2 e q=>?_⟩
 by_cases hd:∃ ds,x=.dict ds
 ·obtain ⟨ds,rfl⟩:=hd
  obtain ⟨a,kvs,rfl,t,r⟩:=h1.dct
  cases y with
  | str s=>
   have e':aB ds s=some d:=e
   cases h2.str
   rcases hW (s:=s) r with ⟨z1,z2⟩ | ⟨v,d',z1,z2,rv⟩
   ·rw [z1] at e'; cases e'
   ·rw [z1] at e'
    cases e'
    exact .inr ⟨a,kvs,s,v,rfl,rfl,t,z2,q _ H (.refl _ _) hc rv⟩
  | _=>cases e
 ·refine .inl (s0 O ts H T v1 v2 x y d Q hc h1 h2 ?_ q)
  cases x with
  | dict ds=>exact absurd ⟨ds,rfl⟩ hd
  | _=>exact e
end
section
variable {X:Cx} {pins:List (Addr×Obj)} {σ:L2.St} {H H2:Hp} {s s2:Shared}
theorem zr (I:Inv X pins σ H s) {a:Addr} {kvs:List (Key×V)} {o:Obj} (e:H a=some (.dK kvs)) (I2:Inv X pins σ H2 s2) (e2:H2 a=some (.frz o (.dK kvs))):Inv X pins σ (upd H2 a (.dK kvs)) s2:=by
 have U:∀ {b:Addr} {u:HO},H2 b=some u→(∀ o ks,u≠.frz o ks)→upd H2 a (.dK kvs) b=some u:=fun {b u} q n=>by
  rw [aR (fun z=>by subst z; rw [e2] at q; cases q; exact n _ _ rfl)]
  exact q
 have N:∀ {b:Addr},H2 b=none→upd H2 a (.dK kvs) b=none:=fun {b} q=>by
  rw [aR (fun z=>by subst z; rw [e2] at q; cases q)]
  exact q
 have hok:HOk X.prog X.w (upd H2 a (.dK kvs)) s2.heap:=fun b u q=>by
  by_cases hb:b=a
  ·subst hb
   rw [bh] at q
   cases q
   exact ObjOk.stay (I2.hok b _ e2).2 (fun _ _ _ q=>q) (fun c q=>U q (fun _ _ z=>nomatch z)) fun c xs q=>U q (fun _ _ z=>nomatch z)
  ·rw [aR hb] at q
   exact (I2.hok b u q).stay (fun _ _ _ q=>q) (fun c q=>U q (fun _ _ z=>nomatch z)) fun c xs q=>U q (fun _ _ z=>nomatch z)
 refine ⟨I2.ok,I2.os,I2.bare,⟨I2.base.keep,I2.base.slot,fun b ob q n hx=>N (I2.base.free b ob q n hx),I2.base.there,fun b xs q=>U (I2.base.tups b xs q) (fun _ _ z=>nomatch z),fun b ob u q=>?_,fun b ps q=>?_⟩,I2.loc,I2.cell,N I2.free,fun x c q=>N (I2.freeC x c q),fun p hp=>?_,hok,I2.len⟩
 ·have h1:=I.base.frzs b ob u q
  rw [aR (fun z=>by subst z; rw [e] at h1; cases h1)]
  exact I2.base.frzs b ob u q
 ·obtain ⟨more,h1⟩:=I2.base.tbls b ps q
  exact ⟨more,U h1 (fun _ _ z=>nomatch z)⟩
 ·obtain ⟨k1,k2,k3⟩:=I2.pin p hp
  exact ⟨k1,N k2,k3⟩
end
inductive Ln (P:Hp→VK→Prop):Hp→VK→Prop where
 | done {H:Hp} {Q:VK}:P H Q→Ln P H Q
 | frz {H:Hp} {Q:VK} {a:Addr} {kvs:List (Key×V)}:H a=some (.dK kvs)→(∀ o,Ln P (upd H a (.frz o (.dK kvs))) (fun v H2=>H2 a=some (.frz o (.dK kvs))∧Q v (upd H2 a (.dK kvs))))→Ln P H Q
theorem CY {X:Cx} {e:Expr} {t:TE} (h:PE X e t):PE X e (fun σ H Q=>Ln (t σ) H Q):=fun pins s σ H Q I q=>by
 have key:∀ {H:Hp} {Q:VK},Ln (t σ) H Q→Inv X pins σ H s→wpAny (model X.prog X.w) X.A (eval e X.env) (EP X pins σ Q) X.xe s:=by
  intro H Q q
  induction q with
  | done q=>exact fun I=>h pins s σ _ _ I q
  | frz ea _ ih=>
   intro I
   obtain ⟨o,I'⟩:=qL I ea
   refine thn (ih o I') fun u s' ⟨v,H2,I2,r,e2,q2⟩=>?_
   exact ⟨v,_,zr I ea I2 e2,r,q2⟩
 exact key q I
section
variable {K:Frag}
theorem TupAt.keep {H H':Hp} (h:∀ b o,H b=some o→(∀ ks,o≠.dK ks)→(∀ ob ks,o≠.frz ob (.dK ks))→H' b=some o) {a:Addr} {vs:List V} (t:TupAt K (fun _=>False) H a vs):TupAt K (fun _=>False) H' a vs:=by
 rcases t with ⟨n,t | ⟨o,t⟩⟩ | t
 ·exact .inl ⟨n,.inl (h _ _ t (fun _ z=>nomatch z) (fun _ _ z=>nomatch z))⟩
 ·exact .inl ⟨n,.inr ⟨o,h _ _ t (fun _ z=>nomatch z) (fun _ _ z=>nomatch z)⟩⟩
 ·exact .inr t
mutual
theorem Rep.keep {H H':Hp} (h:∀ b o,H b=some o→(∀ ks,o≠.dK ks)→(∀ ob ks,o≠.frz ob (.dK ks))→H' b=some o):∀ {v:V} {d:PyData},Rep K (fun _=>False) H v d→aZ d=true→Rep K (fun _=>False) H' v d
 | _,_,.non,_=>.non
 | _,_,.bl b,_=>.bl b
 | _,_,.int i,_=>.int i
 | _,_,.str x,_=>.str x
 | _,_,.tup t r,e=>.tup (t.keep h) (Reps.keep h r (by simpa [aZ] using e))
 | _,_,.lst t r,e=>by simp [aZ] at e
 | _,_,.dct n t r,e=>by simp [aZ] at e
theorem Reps.keep {H H':Hp} (h:∀ b o,H b=some o→(∀ ks,o≠.dK ks)→(∀ ob ks,o≠.frz ob (.dK ks))→H' b=some o):∀ {vs:List V} {ds:List PyData},Reps K (fun _=>False) H vs ds→br ds=true→Reps K (fun _=>False) H' vs ds
 | _,_,.nil,_=>.nil
 | _,_,.cons (d:=d) (ds:=ds) r t,e=>by
  have e':(aZ d && br ds)=true:=by simpa [br] using e
  rw [Bool.and_eq_true] at e'
  exact .cons (Rep.keep h r e'.1) (Reps.keep h t e'.2)
end
end
def tO:W→Option W
 | .d x=>some (.d x)
 | .loc x=>some (.d x)
 | .tp _=>none
def cK (ρ:Rho):Rho:=ρ.map fun o=>o.bind tO
def Fz (O:Addr→Prop) (H0 H:Hp):Prop:=∀ b,H b=H0 b∨∃ kvs o,O b∧H0 b=some (.dK kvs)∧H b=some (.frz o (.dK kvs))
section
variable {K:Frag} {O:Addr→Prop} {ts:List Addr} {H0 H:Hp} {T:Tp} {σ:L2.St} {ρ:Rho}
theorem zi (re:RelE K O ts H0 σ ρ) (fz:Fz O H0 H) (all:∀ (j:Nat) (a:Addr) (ds:List (PyData×PyData)),ρ[j]? = some (some (.loc (.dict ds)))→σ[j]? = some (some (.ref a))→∃ o kvs,H a=some (.frz o (.dK kvs))):RelE K (fun _=>False) [] H σ (cK ρ):=by
 have le:Le O H0 (fun _=>False) H:=fun b o n e=>⟨fun z=>z,by
  rcases fz b with q | ⟨_,_,q,_,_⟩
  ·rw [q]; exact e
  ·exact absurd q n⟩
 intro i w e
 unfold cK at e
 rw [List.getElem?_map] at e
 cases hu:ρ[i]? with
 | none=>rw [hu] at e; cases e
 | some u=>
  cases u with
  | none=>rw [hu] at e; cases e
  | some u=>
   rw [hu] at e
   have e':tO u=some w:=Option.some.inj e
   obtain ⟨v,h1,h2⟩:=re i u hu
   cases u with
   | d x=>cases e'; exact ⟨v,h1,Rep.mono le h2⟩
   | tp k=>cases e'
   | loc x=>
    cases e'
    obtain ⟨a,rfl,k1,k2,k3⟩:=h2
    refine ⟨_,h1,?_⟩
    cases x with
    | list xs=>
     obtain ⟨vs,k3,k4⟩:=k3
     refine .lst (.inl ⟨fun z=>z,.inl ?_⟩) (k4.mono le)
     rcases fz a with q | ⟨_,_,_,q,_⟩
     ·rw [q]; exact k3
     ·rw [k3] at q; cases q
    | dict ds=>
     obtain ⟨kvs,k3,k4⟩:=k3
     obtain ⟨o,kvs',h3⟩:=all i a ds hu h1
     rcases fz a with q | ⟨kvs2,o2,_,q,q2⟩
     ·rw [q,k3] at h3; cases h3
     ·rw [k3] at q
      cases q
      exact .dct (fun z=>z) q2 (k4.mono le)
    | _=>cases k3
theorem jZ {P:Hp→VK→Prop} {x:PyData} (hx:aZ x=true) (re:RelE K O ts H0 σ ρ) (fin:∀ H Q,RelE K (fun _=>False) [] H σ (cK ρ)→(∀ v H2,SameX [] H H2→Rep K (fun _=>False) H2 v x→Q v H2)→P H Q):∀ (k:Nat) {H:Hp} {Q:VK},Fz O H0 H →
  (∀ (j:Nat) (a:Addr) (ds:List (PyData×PyData)),k≤j→ρ[j]? = some (some (.loc (.dict ds)))→σ[j]? = some (some (.ref a))→∃ o kvs,H a=some (.frz o (.dK kvs)))→(∀ v H2,SameX [] H H2→Rep K (fun _=>False) H2 v x→Q v H2)→Ln P H Q
 | 0,H,Q,fz,all,q=>.done (fin H Q (zi re fz fun j a ds=>all j a ds (Nat.zero_le _)) q)
 | k + 1,H,Q,fz,all,q=>by
  by_cases h:∃ ds,ρ[k]? = some (some (.loc (.dict ds)))
  ·obtain ⟨ds,h⟩:=h
   obtain ⟨v,h1,a,rfl,k1,k2,kvs,k3,k4⟩:=re k _ h
   rcases fz a with z | ⟨kvs2,o2,_,z,z2⟩
   ·rw [k3] at z
    refine .frz z fun o=>jZ hx re fin k (fun b=>?_) (fun j b es hj e1 e2=>?_) (fun v H2 s2 r=>?_)
    ·by_cases hb:b=a
     ·subst hb; exact .inr ⟨kvs,o,k1,k3,bh⟩
     ·rw [aR hb]; exact fz b
    ·by_cases hb:b=a
     ·subst hb; exact ⟨o,kvs,bh⟩
     ·rw [aR hb]
      by_cases hk:k=j
      ·subst hk; rw [h1] at e2; cases e2; exact absurd rfl hb
      ·exact all j b es (by omega) e1 e2
    ·have ha:H2 a=some (.frz o (.dK kvs)):=s2 a _ (by simp) bh
     refine ⟨ha,q v _ (fun b ob _ e=>?_) (Rep.keep (fun b ob e n1 n2=>?_) r hx)⟩
     ·by_cases hb:b=a
      ·subst hb; rw [z] at e; cases e; exact bh
      ·rw [aR hb]
       exact s2 b ob (by simp) (by rw [aR hb]; exact e)
     ·have hb:b≠a:=fun z=>by subst z; rw [ha] at e; cases e; exact n2 _ _ rfl
      rw [aR hb]
      exact e
   ·refine jZ hx re fin k fz (fun j b es hj e1 e2=>?_) q
    by_cases hk:k=j
    ·subst hk; rw [h1] at e2; cases e2; exact ⟨o2,kvs2,z2⟩
    ·exact all j b es (by omega) e1 e2
  ·refine jZ hx re fin k fz (fun j b es hj e1 e2=>?_) q
   by_cases hk:k=j
   ·subst hk; exact absurd ⟨es,e1⟩ h
   ·exact all j b es (by omega) e1 e2
end
def kJ (T:Tp) (o:Option (W×Tp)):Option (W×Tp):=match o with
 | some (.d x,_)=>if aZ x=true then some (.d x,T) else none
 | _=>none
def gP (f:FE):FE:=fun ρ T=>kJ T (f (cK ρ) [])
theorem rc {X:Cx} {e:Expr} {f:FE} (he:DE X e f):DE X e (gP f):=by
 refine ⟨pe_imp (CY he.pe) fun σ H Q=>?_⟩
 rintro ⟨O,ts,ρ,T,w,T',hc,re,e,q⟩
 unfold gP kJ at e
 split at e
 ·rename_i x T1 h1
  split at e
  ·rename_i hx
   cases e
   refine jZ hx re (fun H1 Q1 re1 q1=>⟨fun _=>False,[],cK ρ,[],.d x,T1,⟨fun b hb=>(by cases hb),fun b hb=>hb.elim,List.nodup_nil,rfl,fun i a xs e1 _=>by simp at e1⟩,re1,h1,fun v H2 s2 _ r2=>q1 v H2 s2 r2⟩) ρ.length (fun b=>.inl rfl) (fun j a ds hj e1 _=>?_) (fun v H2 s2 r2=>?_)
   ·rw [List.getElem?_eq_none hj] at e1; cases e1
   ·have s2':SameX ts H H2:=fun b o _ q=>s2 b o (by simp) q
    have hm:∀ b,O b→Mut (H2 b):=fun b hb=>(hc.trk b hb).to fun u z=>s2 b _ (by simp) z
    have hc2:=hc.step s2' fun b hb=>by
     obtain ⟨u,z⟩:=(hc.trk b (hc.own b hb)).ex
     rw [z]; exact s2 b _ (by simp) z
    exact q v H2 s2' hc2 (Rep.own hm r2 hx)
  ·cases e
 ·cases e
section
variable {X:Cx} {pos:Pos} {e:Expr} {fe:FE}
def f7 (i:Nat):FS:=fun ρ T=>some ((.nx,ρ.set i (some (.loc (.dict [])))),T)
theorem mz {i:Nat} {x:Str} {pos' dpos:Pos} (hN:X.N.Nodup) (hi:X.N[i]? = some x:=by rfl) (hx:Loc X.env.scope x:=by first | exact Or.inl rfl | exact Or.inr rfl)
  (hs:swapsWith (.Dict [] [] dpos) (some (.Name x pos')) pos.line X.env=pure false:=by rfl) (hf:X.fn x=true∨X.env.scope.names.lookup x=some .local:=by first | exact .inl rfl | exact .inr rfl | assumption):DS X (.Assign [.Name x pos'] (.Dict [] [] dpos) pos) (f7 i):=by
 refine ⟨?_⟩
 refine df (iz hN hi hx za hs hf) fun D σ H=>?_
 rintro ⟨O₀,H₀,F,ts,O,ρ,T,fl,ρ',T',rs,e,q⟩
 cases e
 intro p hp
 exact q _ _ _ (rs.ownO hp (.inr (.inl ⟨_,rfl⟩)) fun le=>⟨[],bh,.nil⟩)
theorem oE:CallR X (.type "dict") (fun xs H Q=>∃ a kvs,xs=[V.ref a]∧Rd H a (.dK kvs)∧∀ p,H p=none→Q (.ref p) (upd H p (.dK kvs))):=by
 intro pins s σ H xs us Q I r h
 obtain ⟨a,kvs,rfl,ha,q⟩:=h
 obtain ⟨u,rfl,ru⟩:=vals1 r
 cases ru
 exact zJ I ha fun p s' hp I'=>⟨.ref p,_,I',rfl,q p hp⟩
def gY (o:Option PyData):Option (List (PyData×PyData)):=match o with
 | some (.dict ds)=>some ds
 | _=>none
def ke (i:Nat) (ρ:Rho) (o:Option (List (PyData×PyData))) (T:Tp):Option ((Fl×Rho)×Tp):=match o with
 | some ds=>some ((.nx,ρ.set i (some (.loc (.dict ds)))),T)
 | none=>none
def iE (i:Nat) (f:FE):FS:=fun ρ T=>bnd (f ρ T) fun w T1=>ke i ρ (gY (view T1 w)) T1
theorem rj {o:Option PyData} {ds:List (PyData×PyData)} (h:gY o=some ds):o=some (.dict ds):=by
 unfold gY at h
 split at h
 ·cases h; rfl
 ·cases h
theorem qb {i:Nat} {x:Str} {p pos' cpos:Pos} (hm:X.mg "dict" = none) (hN:X.N.Nodup) (he:DE X e fe) (hi:X.N[i]? = some x:=by rfl) (hx:Loc X.env.scope x:=by first | exact Or.inl rfl | exact Or.inr rfl) (hg:Gl X "dict":=by rfl)
  (hse:starEach [e] X.env=(false,eval e X.env)::starEach [] X.env:=by exact b5 rfl) (hpl:(backTo cpos (starEach [] X.env)).any (·.1)=false:=by exact c8 rfl)
  (hs:swapsWith (.Call (.Name "dict" p) [e] [] cpos) (some (.Name x pos')) pos.line X.env=pure false:=by rfl) (hf:X.fn x=true∨X.env.scope.names.lookup x=some .local:=by first | exact .inl rfl | exact .inr rfl | assumption) :
  DS X (.Assign [.Name x pos'] (.Call (.Name "dict" p) [e] [] cpos) pos) (iE i fe):=by
 refine ⟨?_⟩
 refine df (iz hN hi hx (lM oE hg hm boot_dict (bu he.pe bX hse) (by decide) (by decide) hse hpl) hs hf) fun D σ H=>?_
 rintro ⟨O₀,H₀,F,ts,O,ρ,T,fl,ρ',T',rs,e,q⟩
 obtain ⟨w,T1,e1,e⟩:=aT e
 unfold ke at e
 split at e
 ·rename_i ds hd
  cases e
  have hv:=rj hd
  refine ⟨O,ts,ρ,T,w,_,rs.hc,rs.re,e1,fun v H1 s1 hc1 r1=>?_⟩
  obtain ⟨a,kvs,rfl,t,r⟩:=(hc1.view r1 hv).dct
  exact ⟨a,kvs,rfl,t,fun p hp=>q _ _ _ ((rs.step s1 hc1).ownO (xs:=.dict ds) hp (.inr (.inl ⟨_,rfl⟩)) fun le=>⟨kvs,bh,r.mono le⟩)⟩
 ·cases e
def kQ (o:Option (List (PyData×PyData))) (T:Tp):Option (W×Tp):=match o with
 | some ds=>some (.d (.dict ds),T)
 | none=>none
def iM (f:FE):FE:=fun ρ T=>bnd (f ρ T) fun w T1=>kQ (gY (view T1 w)) T1
theorem rh {p cpos:Pos} (hm:X.mg "dict" = none) (he:DE X e fe) (hg:Gl X "dict":=by rfl)
  (hse:starEach [e] X.env=(false,eval e X.env)::starEach [] X.env:=by exact b5 rfl) (hpl:(backTo cpos (starEach [] X.env)).any (·.1)=false:=by exact c8 rfl):DE X (.Call (.Name "dict" p) [e] [] cpos) (iM fe):=by
 refine ⟨?_⟩
 refine pe_imp (C0 (lM oE hg hm boot_dict (bu he.pe bX hse) (by decide) (by decide) hse hpl)) fun σ H Q=>?_
 rintro ⟨O,ts,ρ,T,w,T',hc,re,e,q⟩
 obtain ⟨w1,T1,e1,e⟩:=aT e
 unfold kQ at e
 split at e
 ·rename_i ds hd
  cases e
  have hv:=rj hd
  refine ⟨O,ts,ρ,T,w1,T',hc,re,e1,fun v H1 s1 hc1 r1=>?_⟩
  obtain ⟨a,kvs,rfl,t,r⟩:=(hc1.view r1 hv).dct
  refine ⟨a,kvs,rfl,t,fun p hp=>.frz bh fun o=>.done ?_⟩
  rw [zX]
  exact q _ _ (s1.trans (.new hp _)) (hc1.new hp _) (.dct (hc1.fresh hp) bh (r.mono (hc1.leNew hp _)))
 ·cases e
def putN (ds:List (PyData×PyData)) (s:Str) (x:PyData):List (PyData×PyData):=if (aB ds s).isSome=true then bK ds s x else ds++[(.str s,x)]
theorem RepK.app {K:Frag} {O:Addr→Prop} {H:Hp} {s:Str} {v:V} {x:PyData} (rx:Rep K O H v x):∀ {kvs:List (Key×V)} {ds:List (PyData×PyData)},RepK K O H kvs ds→RepK K O H (kvs++[(Sum.inr s,v)]) (ds++[(.str s,x)])
 | _,_,.nil=>.cons (k:=Sum.inr s) rx .nil
 | _,_,.cons r t=>.cons r (RepK.app rx t)
theorem Ad {K:Frag} {O:Addr→Prop} {H:Hp} {s:Str} {v:V} {x:PyData} (rx:Rep K O H v x) {kvs:List (Key×V)} {ds:List (PyData×PyData)} (r:RepK K O H kvs ds):RepK K O H (putK kvs (Sum.inr s) v) (putN ds s x):=by
 unfold putN
 rcases hW (s:=s) r with ⟨z1,z2⟩ | ⟨v',d',z1,z2,_⟩
 ·rw [z1,if_neg (by simp),yW v z2]
  exact r.app rx
 ·rw [z1,if_pos (show (some d').isSome=true by rfl)]
  have hany:(kvs.any fun kv=>decide (kv.1=(Sum.inr s:Key)))=true:=xH (by rw [z2]; rfl)
  unfold putK
  rw [if_pos hany]
  exact lL rx r
def kF (i:Nat) (ρ:Rho) (ds:List (PyData×PyData)) (w k:W) (T:Tp):Option ((Fl×Rho)×Tp):=match w,k with
 | .d x,.d (.str s)=>if ds.length≤1000 then some ((.nx,ρ.set i (some (.loc (.dict (putN ds s x))))),T) else none
 | _,_=>none
def kE (i:Nat) (fk:FE) (ρ:Rho) (w:W) (T:Tp) (o:Option (Option W)):Option ((Fl×Rho)×Tp):=match o with
 | some (some (.loc (.dict ds)))=>bnd (fk ρ T) (kF i ρ ds w)
 | _=>none
def cT (i:Nat) (fk fv:FE):FS:=fun ρ T=>bnd (fv ρ T) fun w T1=>kE i fk ρ w T1 ρ[i]?
theorem ik {i:Nat} {x:Str} {kx:Expr} {fk fv:FE} {p pos':Pos} {k:Nat} (hr:Room k X.A) (hk:DE X kx fk) (he:DE X e fv) (hN:X.N[i]? = some x:=by rfl) (hv:Vis X.env.scope x:=by first | exact Or.inl rfl | exact Or.inr (Or.inl rfl) | exact Or.inr (Or.inr rfl)) (hd:(x == ("__debug__" : Str))=false:=by decide)
  (hcd:(x == ("__classdict__" : Str))=false:=by decide) (hs:swapsWith e (some (.Subscript (.Name x p) kx pos')) pos.line X.env=pure false:=by rfl):DS X (.Assign [.Subscript (.Name x p) kx pos'] e pos) (cT i fk fv):=by
 refine ⟨?_⟩
 refine df (Ah (kK hr) (pv i hN hv hd hcd) hk.pe he.pe hs) fun D σ H=>?_
 rintro ⟨O₀,H₀,F,ts,O,ρ,T,fl,ρ',T',rs,e,q⟩
 obtain ⟨w,T1,e1,e⟩:=aT e
 refine ⟨O,ts,ρ,T,w,T1,rs.hc,rs.re,e1,fun v H1 s1 hc1 r1=>?_⟩
 have rs1:=rs.step s1 hc1
 unfold kE at e
 split at e
 ·rename_i ds c3
  obtain ⟨wk,T3,e3,e⟩:=aT e
  unfold kF at e
  split at e
  ·rename_i xv s _
   split at e
   ·rename_i c2
    cases e
    obtain ⟨u,k1,a,rfl,k2,k3,kvs,k4,k5⟩:=rs1.re i _ c3
    refine ⟨_,k1,O,ts,ρ,T1,_,_,rs1.hc,rs1.re,e3,fun y H3 s3 hc3 r3=>?_⟩
    have rs3:=rs1.step s3 hc3
    cases (show Rep X.K O H3 y (.str s) from r3)
    have k4':H3 a=some (.dK kvs):=s3 _ _ k3 k4
    have k5':RepK X.K O H3 kvs ds:=k5.mono (hc1.le s3)
    have hlen:kvs.length < sizeLine:=by
     rw [pW k5']
     exact Nat.lt_of_le_of_lt c2 (by decide)
    have rx:Rep X.K O H3 v xv:=RepW.mono (w:=.d xv) r1 hc1 s3
    refine ⟨a,_,rfl,DPut.k (k:=(Sum.inr s:Key)) k4' hlen,?_⟩
    exact q O σ _ (rs3.putO c3 k1 (.inr (.inl ⟨_,rfl⟩)) fun le=>⟨_,bh,Ad (Rep.mono le rx) (k5'.mono le)⟩)
   ·cases e
  ·cases e
 ·cases e
end
def t7 (n:Nat):W→Option W
 | .tp k=>if k < n then some (.tp k) else none
 | w=>some w
def gQ (n:Nat) (ρ:Rho):Rho:=ρ.map fun o=>o.bind (t7 n)
def ie (n:Nat) (o:Option ((Fl×Rho)×Tp)):Option ((Fl×Rho)×Tp):=match o with
 | some ((fl,ρ'),T3)=>(match jg T3 with
  | some (T4,_)=>if T4.length=n then some ((fl,gQ n ρ'),T4) else none
  | none=>none)
 | none=>none
def openK (i:Nat) (fr:FS) (ρ:Rho) (o:Option (List PyData)) (T1:Tp):Option ((Fl×Rho)×Tp):=match o with
 | some xs=>if xs.length≤1000 then ie T1.length (fr (ρ.set i (some (.tp T1.length))) (T1++[xs])) else none
 | none=>none
def iF (i:Nat) (g:FA) (fr:FS):FS:=fun ρ T=>bnd (g ρ T) fun ws T1=>openK i fr ρ (dw ws) T1
section
variable {K:Frag} {O₀:Addr→Prop} {H₀:Hp} {F:List ((Addr→Prop)×Hp)} {ts:List Addr} {O:Addr→Prop} {H:Hp} {σ:L2.St} {ρ:Rho} {T:Tp}
theorem RS.openR {i:Nat} {p:Addr} {vs:List V} {xs:List PyData} (r:RS K O₀ H₀ F ts O H σ ρ T) (hp:H p=none) (rv:Reps K O H vs xs) :
  RS K (fun b=>O₀ b∨b=p) H₀ F (ts++[p]) (fun b=>O b∨b=p) (upd H p (.lst vs)) (σ.set i (some (.ref p))) (ρ.set i (some (.tp T.length))) (T++[xs]):=by
 have nO:=r.hc.fresh hp
 have nt:p∉ts:=fun z=>nO (r.hc.own _ z)
 have le:Le O H (fun b=>O b∨b=p) (upd H p (.lst vs)):=fun a o n e=>by
  have z1:a≠p:=cu e hp
  exact ⟨fun q=>q.elim n z1,by rw [aR z1]; exact e⟩
 have hw:∀ ys,W.tp T.length≠.loc ys:=fun _ z=>nomatch z
 refine ⟨⟨fun b hb=>?_,fun b hb=>?_,?_,by simp [r.hc.len],fun j b zs q1 q2=>?_⟩,fun j w e=>?_,fun b hb=>hb.elim (fun z=>.inl (r.sub b z)) .inr,fun b hb=>?_,fun b o n e=>?_,fun j xs a e1 e2=>?_,fun j k xs ys v e1 e2 e3 e4=>?_,fun f hf=>(r.frs f hf).trans le,by simp [r.len]⟩
 ·rcases List.mem_append.mp hb with z | z
  ·exact .inl (r.hc.own b z)
  ·exact .inr (List.mem_singleton.mp z)
 ·by_cases z:b=p
  ·rw [z,bh]; exact .inl ⟨_,rfl⟩
  ·rw [aR z]; exact r.hc.trk b (hb.resolve_right z)
 ·rw [List.nodup_append]
  exact ⟨r.hc.nd,by simp,fun b hb c hc z=>nt (by rw [← List.mem_singleton.mp hc,← z]; exact hb)⟩
 ·by_cases hj:j < ts.length
  ·rw [List.getElem?_append_left hj] at q1
   rw [List.getElem?_append_left (by rw [← r.hc.len]; exact hj)] at q2
   exact (r.hc.tape j b zs q1 q2).mono (fun o h1=>by rw [aR (cu h1 hp)]; exact h1) le
  ·have hj2:j=ts.length:=by
    have:=(List.getElem?_eq_some_iff.mp q1).1
    simp at this
    omega
   subst hj2
   have e1:b=p:=by simpa using q1.symm
   have e2:zs=xs:=by rw [r.hc.len] at q2; simpa using q2.symm
   subst e1 e2
   exact .inl ⟨rv.notO,vs,bh,rv.mono le⟩
 ·by_cases z:i=j
  ·subst z
   have hl:i < ρ.length:=by
    have:=(List.getElem?_eq_some_iff.mp e).1
    simpa using this
   rw [List.getElem?_set_self hl] at e
   cases e
   exact ⟨.ref p,by rw [List.getElem?_set_self (by rw [r.len]; exact hl)],p,by rw [← r.hc.len]; simp,rfl⟩
  ·rw [List.getElem?_set_ne z] at e
   obtain ⟨x,h1,h2⟩:=r.re j w e
   refine ⟨x,by rw [List.getElem?_set_ne z]; exact h1,?_⟩
   cases w with
   | d y=>exact Rep.mono le h2
   | tp k=>
    obtain ⟨a,k1,k2⟩:=h2
    exact ⟨a,by rw [List.getElem?_append_left (List.getElem?_eq_some_iff.mp k1).1]; exact k1,k2⟩
   | loc ys=>
    obtain ⟨a,e1,m1,m2,m3⟩:=h2
    have na:a≠p:=fun z=>nO (z ▸ m1)
    refine ⟨a,e1,.inl m1,fun z=>?_,m3.mono (fun o' q=>by rw [aR na]; exact q) le⟩
    rcases List.mem_append.mp z with z | z
    ·exact m2 z
    ·exact na (List.mem_singleton.mp z)
 ·rcases List.mem_append.mp hb with z | z
  ·exact .inl (r.ots b z)
  ·exact .inr (List.mem_singleton.mp z)
 ·have nb:b∉ts:=fun z=>n (List.mem_append_left _ z)
  have e1:=r.same b o nb e
  rw [aR (cu e1 hp)]
  exact e1
 ·obtain ⟨n,e⟩:=ft hw e1
  rw [List.getElem?_set_ne (Ne.symm n)] at e2
  obtain ⟨f1,f2⟩:=r.fresh j xs a e e2
  refine ⟨f1,fun z=>z.elim f2 fun z=>?_⟩
  obtain ⟨v,h1,a',ea,m1,_⟩:=r.re j _ e
  rw [e2] at h1
  cases h1
  cases ea
  exact nO (z ▸ m1)
 ·obtain ⟨n1,e1⟩:=ft hw e1
  obtain ⟨n2,e2⟩:=ft hw e2
  rw [List.getElem?_set_ne (Ne.symm n1)] at e3
  rw [List.getElem?_set_ne (Ne.symm n2)] at e4
  exact r.dist j k xs ys v e1 e2 e3 e4
theorem RS.closeR {p:Addr} {row:List PyData} (ots:∀ b∈ts,O₀ b) (nt:p∉ts) (h0:H₀ p=none) (n0:¬ O₀ p) (r:RS K (fun b=>O₀ b∨b=p) H₀ F (ts++[p]) O H σ ρ (T++[row])):RS K O₀ H₀ F ts O H σ (gQ T.length ρ) T:=by
 have lenT:ts.length=T.length:=by have:=r.hc.len; simp at this; exact this
 have at_:∀ {j:Nat} {w:W},(gQ T.length ρ)[j]? = some (some w)→ρ[j]? = some (some w)∧∀ k,w=.tp k→k < T.length:=fun {j w} e=>by
  unfold gQ at e
  rw [List.getElem?_map] at e
  cases hu:ρ[j]? with
  | none=>rw [hu] at e; cases e
  | some u=>
   cases u with
   | none=>rw [hu] at e; cases e
   | some u=>
    rw [hu] at e
    have e':t7 T.length u=some w:=Option.some.inj e
    cases u with
    | d x=>cases e'; exact ⟨rfl,fun k z=>nomatch z⟩
    | loc x=>cases e'; exact ⟨rfl,fun k z=>nomatch z⟩
    | tp k=>
     have e2:(if k < T.length then some (W.tp k) else none)=some w:=e'
     split at e2
     ·rename_i hk
      cases e2
      exact ⟨rfl,fun k' z=>by cases z; exact hk⟩
     ·cases e2
 refine ⟨⟨fun b hb=>r.hc.own b (List.mem_append_left _ hb),r.hc.trk,(List.nodup_append.mp r.hc.nd).1,lenT,fun j b zs q1 q2=>?_⟩,fun j w e=>?_,fun b hb=>r.sub b (.inl hb),ots,fun b o n e=>?_,fun j xs a e1 e2=>?_,fun j k xs ys v e1 e2 e3 e4=>?_,r.frs,by simp [gQ,r.len]⟩
 ·have hj:j < ts.length:=(List.getElem?_eq_some_iff.mp q1).1
  exact r.hc.tape j b zs (by rw [List.getElem?_append_left hj]; exact q1) (by rw [List.getElem?_append_left (by rw [← lenT]; exact hj)]; exact q2)
 ·obtain ⟨e1,hk⟩:=at_ e
  obtain ⟨v,h1,h2⟩:=r.re j w e1
  refine ⟨v,h1,?_⟩
  cases w with
  | d x=>exact h2
  | tp k=>
   obtain ⟨a,k1,k2⟩:=h2
   have:=hk k rfl
   exact ⟨a,by rw [List.getElem?_append_left (by rw [lenT]; exact this)] at k1; exact k1,k2⟩
  | loc x=>
   obtain ⟨a,k1,k2,k3,k4⟩:=h2
   exact ⟨a,k1,k2,fun z=>k3 (List.mem_append_left _ z),k4⟩
 ·refine r.same b o (fun z=>?_) e
  rcases List.mem_append.mp z with z | z
  ·exact n z
  ·rw [List.mem_singleton.mp z,h0] at e; cases e
 ·obtain ⟨f1,f2⟩:=r.fresh j xs a (at_ e1).1 e2
  exact ⟨f1,fun z=>f2 (.inl z)⟩
 ·exact r.dist j k xs ys v (at_ e1).1 (at_ e2).1 e3 e4
end
section
variable {X:Cx} {pos:Pos} {rest:List Stmt} {fr:FS}
theorem Ap {i:Nat} {p:Addr} {vs:List V} {xs:List PyData} {D:Ends} {O₀:Addr→Prop} {H₀:Hp} {F:List ((Addr→Prop)×Hp)} {ts:List Addr} {O:Addr→Prop} {H:Hp} {σ:L2.St} {ρ:Rho} {T:Tp} {fl:Fl} {ρ':Rho} {T':Tp}
  (rs:RS X.K O₀ H₀ F ts O H σ ρ T) (hp:H p=none) (rv:Reps X.K O H vs xs) (e:ie T.length (fr (ρ.set i (some (.tp T.length))) (T++[xs]))=some ((fl,ρ'),T')) (q:uj X.K O₀ H₀ F ts D ρ' T' fl):nj X.K fr D (σ.set i (some (.ref p))) (upd H p (.lst vs)):=by
 have nO:=rs.hc.fresh hp
 have nt:p∉ts:=fun z=>nO (rs.hc.own _ z)
 have h0:H₀ p=none:=by
  cases e:H₀ p with
  | none=>rfl
  | some o=>rw [rs.same p o nt e] at hp; cases hp
 have n0:¬ O₀ p:=fun z=>nO (rs.sub p z)
 have rs1:=rs.openR (i:=i) hp rv
 generalize hE:fr (ρ.set i (some (.tp T.length))) (T++[xs])=E at e
 unfold ie at e
 split at e
 ·rename_i fl1 ρ1 T3
  split at e
  ·rename_i T4 row hT
   split at e
   ·rename_i hlen
    have eT:=zp hT
    subst eT
    cases e
    have lb:∀ {G:Hp},Le (fun b=>O₀ b∨b=p) G O₀ G:=fun a o n e=>⟨fun z=>n (.inl z),e⟩
    have lenB:∀ {G:Hp} {B:Addr→Prop},HC X.K B (ts++[p]) G (T'++[row])→ts.length=T'.length:=fun h=>by have:=h.len; simp at this; exact this
    have sameB:∀ {G:Hp},SameX (ts++[p]) H₀ G→SameX ts H₀ G:=fun s b o n e=>s b o (fun z=>by
     rcases List.mem_append.mp z with z | z
     ·exact n z
     ·rw [List.mem_singleton.mp z,h0] at e; cases e) e
    refine ⟨_,H₀,F,ts++[p],_,_,_,fl,ρ1,T'++[row],rs1,hE,?_⟩
    have lenE:T.length=T'.length:=hlen.symm
    cases fl with
    | nx=>exact fun O' σ' H' r=>q O' σ' H' (by rw [lenE]; exact RS.closeR rs.ots nt h0 n0 r)
    | bk=>exact fun O' σ' H' r=>q O' σ' H' (by rw [lenE]; exact RS.closeR rs.ots nt h0 n0 r)
    | ct=>exact fun O' σ' H' r=>q O' σ' H' (by rw [lenE]; exact RS.closeR rs.ots nt h0 n0 r)
    | rt y=>
     intro v H' s1 c1 r1
     refine q v H' (sameB s1) ⟨rs.ots,fun b hb=>c1.trk b (.inl hb),rs.hc.nd,lenB c1,fun j b zs q1 q2=>?_⟩ (Rep.mono lb r1)
     have hj:j < ts.length:=(List.getElem?_eq_some_iff.mp q1).1
     exact (c1.tape j b zs (by rw [List.getElem?_append_left hj]; exact q1) (by rw [List.getElem?_append_left (by rw [← lenB c1]; exact hj)]; exact q2)).mono (fun _ h=>h) lb
    | ro y=>
     intro A v H' s1 hA c1 o1
     have lb2:Le (fun b=>(O₀ b∨b=p)∨A b) H' (fun b=>O₀ b∨A b) H':=fun b o n e=>⟨fun z=>n (z.elim (fun z=>.inl (.inl z)) .inr),e⟩
     refine q A v H' (sameB s1) (fun b hb=>⟨(hA b hb).1,fun z=>(hA b hb).2 (.inl z)⟩) ⟨fun b hb=>.inl (rs.ots b hb),fun b hb=>c1.trk b (hb.elim (fun z=>.inl (.inl z)) .inr),rs.hc.nd,lenB c1,fun j b zs q1 q2=>?_⟩ (OwnV.mono lb2 o1)
     have hj:j < ts.length:=(List.getElem?_eq_some_iff.mp q1).1
     exact (c1.tape j b zs (by rw [List.getElem?_append_left hj]; exact q1) (by rw [List.getElem?_append_left (by rw [← lenB c1]; exact hj)]; exact q2)).mono (fun _ h=>h) lb2
   ·cases e
  ·cases e
 ·cases e
theorem ph {i:Nat} {x:Str} {pos' lpos:Pos} {es:List Expr} {g:FA} (hN:X.N.Nodup) (he:DA X es g) (hrest:DSs X rest fr) (hi:X.N[i]? = some x:=by rfl) (hx:Loc X.env.scope x:=by first | exact Or.inl rfl | exact Or.inr rfl)
  (hs:swapsWith (.List es lpos) (some (.Name x pos')) pos.line X.env=pure false:=by rfl) (hf:X.fn x=true∨X.env.scope.names.lookup x=some .local:=by first | exact .inl rfl | exact .inr rfl | assumption):DSs X (.Assign [.Name x pos'] (.List es lpos) pos::rest) (iF i g fr):=by
 refine ⟨?_⟩
 refine me (gy (iz hN hi hx (i6 he.pe) hs hf) hrest.pe) fun D σ H=>?_
 rintro ⟨O₀,H₀,F,ts,O,ρ,T,fl,ρ',T',rs,e,q⟩
 obtain ⟨ws,T1,e1,e⟩:=aT e
 refine ⟨O,ts,ρ,T,ws,T1,rs.hc,rs.re,e1,fun vs H1 s1 hc1 r1=>?_⟩
 unfold openK at e
 split at e
 ·rename_i xs h1
  split at e
  ·rename_i h2
   have rv:=iX r1 h1
   exact ⟨j4 (by rw [rv.length]; exact h2),fun p hp=>Ap (rs.step s1 hc1) hp rv e q⟩
  ·cases e
 ·cases e
end
theorem yC:entryFor table "dict_itemiterator.__iter__" = some PySem.Builtin.«dict_keyiterator.__iter__»:=by kernel_rfl
theorem xp (v:Value):Meets (PySem.Builtin.«dict_keyiterator.__iter__» { pos:=[v] }) (fun _ R s=>R (.ok (.ret v)) s):=by
 intro prog w A R s h
 unfold PySem.Builtin.«dict_keyiterator.__iter__»
 refine wpAny_bind ?_
 unfold slotArgs
 simp only []
 rw [if_neg (by simp),if_neg (by simp)]
 exact wpAny_pure (wpAny_pure h)
def Iti (a:Addr) (o:Obj) (kvs:List (Key×V)):It:=⟨fun i H=>H a=some (.frz o (.dK kvs))∧i < kvs.length,fun i H x H'=>∃ p k v,H p=none∧kvs[i]? = some (k,v)∧x=.ref p∧H'=upd H p (.tup [kV k,v]),fun i H=>H a=some (.frz o (.dK kvs))∧i=kvs.length⟩
theorem BX {kvs:List (Key×V)} {vs:List (Key×Value)}:∀ {i:Nat},KV kvs vs→i < kvs.length→∃ k v u,kvs[i]? = some (k,v)∧vs[i]? = some (k,u)∧RelV v u:=by
 intro i r h
 induction r generalizing i with
 | nil=>simp at h
 | cons r1 r2 ih=>
  cases i with
  | zero=>
   rename_i p q _ _
   refine ⟨p.1,p.2,q.2,rfl,?_,r1.2⟩
   rw [r1.1]
   rfl
  | succ i=>
   obtain ⟨k,v,u,h1,h2,h3⟩:=ih (i:=i) (by simpa using h)
   exact ⟨k,v,u,by simpa using h1,by simpa using h2,h3⟩
theorem wM {P:Program} {w:World} {K:Frag} {elts:List Expr} {x1:Nat} {tpos:Pos} (a it:Addr) (o:Obj) (kvs:List (Key×V)) :
  Turn P w K (.Tuple elts x1 tpos) (Iti a o kvs) [it] it (fun i h=>∃ ok ov,IsItemIter h it a i kvs.length (gf o) ok ov) where
 mem:=by simp
 obj:=fun i h st b hb=>by
  have e:b=it:=by simpa using hb
  subst e
  obtain ⟨ok,ov,st⟩:=st
  exact ⟨_,st,fun v z=>by
   have z':Data.fields _=Data.cell v:=z
   cases z'⟩
 keep:=fun i h h' ⟨ok,ov,st⟩ k=>⟨ok,ov,k it (by simp) _ st⟩
 item:=by
  intro X hP hw hK hc i pins s σ H E I hf st hg
  subst hP hw hK
  obtain ⟨ok,ov,st⟩:=st
  obtain ⟨hg1,hg2⟩:=hg
  obtain ⟨z,y,vs,kv,dd⟩:=gx I.hok hg1
  obtain ⟨f0,f1,f2,f3,f4,f5⟩:=hf it (by simp)
  have hl:=kv.length
  obtain ⟨k,v0,u0,q1,q2,q3⟩:=BX kv hg2
  rw [hl] at st
  refine wpAny_pyNext_items_item (knd:=bB X.prog X.w) st dd q2 fun key h' hk st' hT hsz hkeep=>?_
  refine ⟨.ref s.heap.objs.size,rfl,wpAny_letOwnedTupleGo_items st' fun h'' st'' hsb=>?_⟩
  have hit:it < s.heap.objs.size:=Heap.lt_size st
  have hne:s.heap.objs.size≠it:=Nat.ne_of_gt hit
  have hn:H s.heap.objs.size=none:=I.hok.fresh (Nat.le_refl _)
  have T1:IsTup (s.heap.push { cls:=.type "tuple",data:=.seq #[key,u0] }) s.heap.objs.size #[key,u0]:=IsTup.new ..
  have I1:Inv X pins σ (upd H s.heap.objs.size (.tup [kV k,v0])) { s with heap:=s.heap.push { cls:=.type "tuple",data:=.seq #[key,u0] } }:=
   I.laid (t':=s.toks) (o:=.tup [kV k,v0]) (fun b ob e=>Heap.get?_push_of_some _ e) (Nat.le_refl _) ⟨by show 2≤sizeLine; decide,[key,u0],.cons (nI hk) (.cons q3 .nil),T1⟩
  have K:∀ b ob,b≠it→(s.heap.push { cls:=.type "tuple",data:=.seq #[key,u0] }).get? b=some ob→h''.get? b=some ob:=fun b ob hb e=>by
   by_cases hbs:b=s.heap.objs.size
   ·subst hbs
    rw [Heap.get?_push_size _ (by rfl)] at e
    cases e
    exact (hsb.2 _ hb).trans hT
   ·have e0:s.heap.get? b=some ob:=by
     rw [← Heap.get?_push_ne _ _ _ hbs]
     exact e
    exact (hsb.2 b hb).trans (hkeep b ob hb e0)
  have I2:Inv X pins σ (upd H s.heap.objs.size (.tup [kV k,v0])) { s with heap:=h'' }:=Inv.turned (s:={ s with heap:=s.heap.push { cls:=.type "tuple",data:=.seq #[key,u0] } }) (t':=s.toks) (h':=h'') (it:=it) I1 K (by rw [aR (Ne.symm hne)]; exact f0) f1 f3 f4 f5
  refine ⟨.ref s.heap.objs.size,_,I2,rfl,⟨s.heap.objs.size,k,v0,hn,q1,rfl,rfl⟩,⟨_,_,by rw [hl]; exact st''⟩,fun b hb=>?_⟩
  have e:b=it:=by simpa using hb
  subst e
  rw [aR (Ne.symm hne)]
  exact f0
 done:=by
  intro X hP hw hK hc i pins s σ H E I hf st hg
  subst hP hw hK
  obtain ⟨ok,ov,st⟩:=st
  obtain ⟨hg1,hg2⟩:=hg
  obtain ⟨z,y,vs,kv,dd⟩:=gx I.hok hg1
  obtain ⟨f0,f1,f2,f3,f4,f5⟩:=hf it (by simp)
  have hl:=kv.length
  rw [hl] at st
  exact wpAny_pyNext_items_end (knd:=bB X.prog X.w) (I.ok.hd hc) st dd (by rw [List.getElem?_eq_none_iff]; omega) fun h' eb=>⟨rfl,I.turned (t':=s.toks) (fun b ob hb e=>eb b ob hb e) f0 f1 f3 f4 f5⟩
 self:=fun A i s Q E ⟨ok,ov,st⟩ h=>by
  have ty:s.TypeIs (.ref it) "dict_itemiterator":=⟨_,st,rfl⟩
  refine wpAny_pyIter_slot ty PySem.F.slot_dict_itemiterator_iter ?_
  exact call_meets PySem.F.slot_dict_itemiterator_iter ty yC (PySem.F.args_dict_itemiterator_iter_1 _) (xp _) ⟨"dict_itemiterator",_,ty,PySem.F.slot_dict_itemiterator_next.lookup,h⟩
section
variable {X:Cx} {pos:Pos}
def B7 (tl:TE):TI:=fun σ H R=>tl σ H fun x H1=>∃ a o kvs,x=.ref a∧H1 a=some (.frz o (.dK kvs))∧(kvs.length≤sizeLine→R (Iti a o kvs) H1)
theorem y6 {ob:Expr} {tl:TE} {elts:List Expr} {x1:Nat} {tpos apos cpos:Pos} (ho:PE X ob tl) (hbase:attributeBase ob "items" X.env (eval ob X.env)=eval ob X.env:=by rfl) (hline:(apos.endLine == cpos.line)=true:=by rfl) :
  PI X (.Tuple elts x1 tpos) (.Call (.Attribute ob "items" apos) [] [] cpos) (B7 tl):=by
 intro pins s σ H R I h
 refine wpAny_Call_method0_late hbase hline (thn (ho pins s σ H _ I h) fun v s1 ⟨x,H1,I1,r1,a,o,kvs,ex,ha,q⟩=>?_)
 subst ex
 cases (show v=Value.ref a from r1)
 obtain ⟨z,y,vs,kv,dd⟩:=gx I1.hok ha
 have dOf:=dd.dictOf
 obtain ⟨od,_,_,eo,ex,_⟩:=id dOf
 refine ⟨"dict","dict.items",PySem.F.plainAttrs_dict,PySem.F.slot_dict_items,PySem.F.type_dict_items,⟨od,eo,ex.1⟩,fun b e2=>by cases e2; exact ⟨od,eo,ex.2.1⟩,Calls.callWith_builtin rfl (PySem.evalArgs_none ?_)⟩
 refine call_meetsIn PySem.F.slot_dict_items ⟨od,eo,ex.1⟩ PySem.F.entry_dict_items (PySem.F.args_dict_items_1 _) (meets_dict_items (bB X.prog X.w) a y) ⟨⟨vs,dOf⟩,?_⟩
 have I2:Inv X pins σ H1 { s1 with heap:=s1.heap.push { cls:=.type "dict_items",data:=.fields #[.ref a] } }:=I1.kept (t':=s1.toks) fun b ob e=>Heap.get?_push_of_some _ e
 obtain ⟨z2,y2,vs2,kv2,dd2⟩:=gx I2.hok ha
 refine wpAny_pyIter_items (knd:=bB X.prog X.w) (kvs:=vs2) (ep:=gf o) ⟨_,Heap.get?_push_size _ (by rfl),rfl,rfl⟩ dd2 ?_
 have fk:∀ b∈[(s1.heap.push { cls:=.type "dict_items",data:=.fields #[.ref a] }).objs.size],cq X pins H1 b:=fun b hb=>by
  have e:b=(s1.heap.push { cls:=.type "dict_items",data:=.fields #[.ref a] }).objs.size:=List.mem_singleton.mp hb
  subst e
  exact I2.fpOk (Nat.le_refl _) (I2.hok.fresh (Nat.le_refl _))
 exact ⟨_,[_],_,_,H1,rfl,I2.kept (t':=s1.toks) fun b ob e=>Heap.get?_push_of_some _ e,wM a _ o kvs,⟨.none,.none,by rw [kv2.length]; exact Heap.get?_push_size _ (by rfl)⟩,fk,q z⟩
def eW (i j:Nat) (body:FS):List (PyData×PyData)→FS
 | []=>aK
 | d::r=>fun ρ T=>bnd (body ((ρ.set i (some (.d d.1))).set j (some (.d d.2))) T) fun p T1=>match p with
  | (.nx,ρ1)=>eW i j body r ρ1 T1
  | (.ct,ρ1)=>eW i j body r ρ1 T1
  | (.bk,ρ1)=>some ((.nx,ρ1),T1)
  | (.rt x,ρ1)=>some ((.rt x,ρ1),T1)
  | (.ro x,ρ1)=>some ((.ro x,ρ1),T1)
def kM (i j:Nat) (body:FS) (ρ:Rho) (w:W) (T:Tp):Option ((Fl×Rho)×Tp):=match w with
 | .d (.dict ds)=>eW i j body ds ρ T
 | _=>none
def kO (i j:Nat) (f:FE) (body:FS):FS:=fun ρ T=>bnd (f ρ T) (kM i j body ρ)
theorem qw {K:Frag} {O:Addr→Prop} {H:Hp}:∀ {kvs:List (Key×V)} {ds:List (PyData×PyData)} {i:Nat} {k:Key} {v:V},RepK K O H kvs ds→kvs[i]? = some (k,v)→∃ d,ds[i]? = some (gc k,d)∧Rep K O H v d
 | _,_,_,_,_,.nil,e=>by simp at e
 | _,_,0,_,_,.cons r _,e=>by simp at e; obtain ⟨rfl,rfl⟩:=e; exact ⟨_,rfl,r⟩
 | _,_,i + 1,k,v,.cons _ t,e=>by
  obtain ⟨d,h1,h2⟩:=qw (i:=i) t (by simpa using e)
  exact ⟨d,by simpa using h1,h2⟩
theorem AL {i j:Nat} {x y:Str} {ob:Expr} {f:FE} {g:FS} {body:List Stmt} {k:Nat} {px py tpos apos cpos:Pos} (hN:X.N.Nodup) (ho:DE X ob f) (hb:DSs X body g) (hi:X.N[i]? = some x:=by rfl) (hj:X.N[j]? = some y:=by rfl) (hx:Loc X.env.scope x:=by first | exact Or.inl rfl | exact Or.inr rfl) (hy:Loc X.env.scope y:=by first | exact Or.inl rfl | exact Or.inr rfl)
  (hf:X.fn x=true∨X.env.scope.names.lookup x=some .local:=by first | exact .inl rfl | exact .inr rfl | assumption) (hf':X.fn y=true∨X.env.scope.names.lookup y=some .local:=by first | exact .inl rfl | exact .inr rfl | assumption) (hp:PassesOwn (model X.prog X.w) X.A X.env X.xe:=by exact PassesOwn.never) (hc:X.calm=true:=by rfl)
  (hbase:attributeBase ob "items" X.env (eval ob X.env)=eval ob X.env:=by rfl) (hline:(apos.endLine == cpos.line)=true:=by rfl) (hs:∀ v,foldedSetIterable (.Call (.Attribute ob "items" apos) [] [] cpos) X.env v=pure v:=by intro _; rfl) :
  DS X (.For (.Tuple [.Name x px,.Name y py] k tpos) (.Call (.Attribute ob "items" apos) [] [] cpos) body [] pos) (kO i j f g):=by
 refine ⟨?_⟩
 refine df (rT hp hc (y6 ho.pe hbase hline) (mQ hc (hU (gB hN hi hx hf) (hU (gB hN hj hy hf') mf))) hb.pe hs) fun D σ H=>?_
 rintro ⟨O₀,H₀,F,ts,O,ρ,T,fl,ρ',T',rs,e,q⟩
 obtain ⟨w,T1,e1,e⟩:=aT e
 unfold kM at e
 split at e
 ·rename_i ds
  refine ⟨O,ts,ρ,T,_,T1,rs.hc,rs.re,e1,fun v H1 s1 hc1 r1=>?_⟩
  have r1':Rep X.K O H1 v (.dict ds):=r1
  cases r1' with
  | @dct a o kvs _ nO ha rk=>
   refine ⟨a,o,kvs,rfl,ha,fun hz=>?_⟩
   have hlen:=jF rk
   refine ⟨fun n m σ H=>m=ds.length - n∧n≤ds.length∧∃ O' ρk Tk,RS X.K O₀ H₀ ((O,H1)::F) ts O' H σ ρk Tk∧eW i j g (ds.drop n) ρk Tk=some ((fl,ρ'),T'),⟨_,rfl,Nat.zero_le _,O,ρ,T1,(rs.step s1 hc1).more,e⟩,?_⟩
   rintro n m σ2 H2 ⟨rfl,hk,O',ρk,Tk,rs2,ek⟩
   have le:=rs2.frs _ List.mem_cons_self
   have ha2:=le a _ nO ha
   by_cases hlt:n < ds.length
   ·refine .inr ⟨⟨ha2.2,by omega⟩,fun σ3 H3=>∃ O' ρk Tk,RS X.K O₀ H₀ ((O,H1)::F) ts O' H3 σ3 ρk Tk∧eW i j g (ds.drop (n + 1)) ρk Tk=some ((fl,ρ'),T'),fun σ3 H3 nn=>⟨ds.length - (n + 1),by omega,rfl,hlt,nn⟩,fun v H3 yy=>?_⟩
    obtain ⟨p,k',v',hpn,hkv,rfl,rfl⟩:=yy
    obtain ⟨d,hd,rd⟩:=qw rk hkv
    have hdr:ds.drop n=(gc k',d)::ds.drop (n + 1):=by
     rw [List.drop_eq_getElem_cons hlt]
     have:=(List.getElem?_eq_some_iff.mp hd).2
     rw [this]
    rw [hdr] at ek
    obtain ⟨⟨fl1,ρ1⟩,T3,e3,ek⟩:=aT ek
    have rs3:=rs2.step (.new hpn (.tup [kV k',v'])) (rs2.hc.new hpn _)
    have rd3:Rep X.K O' (upd H2 p (.tup [kV k',v'])) v' d:=Rep.mono (le.trans (rs2.hc.leNew hpn _)) rd
    refine ⟨p,_,rfl,SqT.of bh,rfl,_,_,rfl,_,_,rfl,rfl,O₀,H₀,(O,H1)::F,ts,O',_,Tk,fl1,ρ1,T3,(rs3.set (i:=i) (w:=.d (gc k')) (l9 k') (fun _ z=>nomatch z)).set (i:=j) (w:=.d d) rd3 (fun _ z=>nomatch z),e3,?_⟩
    cases fl1 with
    | nx=>exact fun O3 σ3 H3 rs3=>⟨O3,ρ1,T3,rs3,ek⟩
    | ct=>exact fun O3 σ3 H3 rs3=>⟨O3,ρ1,T3,rs3,ek⟩
    | bk=>
     cases ek
     exact fun O3 σ3 H3 rs3=>q O3 σ3 H3 rs3.less
    | rt x=>
     cases ek
     exact q
    | ro x=>
     cases ek
     exact q
   ·have e:n=ds.length:=by omega
    subst e
    rw [List.drop_eq_nil_of_le (Nat.le_refl _)] at ek
    cases ek
    exact .inl ⟨⟨ha2.2,hlen.symm⟩,q O' σ2 H2 rs2.less⟩
 ·cases e
end
section
variable {X:Cx}
def eV (k:Kd):Bool:=decide (k=.tup) || decide (k=.lst)
theorem gN (K:Frag) (a:Kd):PySem.W.kitAny K (.type a.name) [.type "tuple",.type "list"]=some (eV a):=by
 have h1:=fw a .tup (by decide)
 have h2:=fw a .lst (by decide)
 have e1:PySem.W.kitOne K (.type a.name) (.type "tuple")=some (a6 a .tup):=h1
 have e2:PySem.W.kitOne K (.type a.name) (.type "list")=some (a6 a .lst):=h2
 cases a <;> (simp only [PySem.W.kitAny,e1,e2]; rfl)
theorem xG:CallR X (.builtin "isinstance") (fun xs H Q=>∃ (x:V) (tp:Addr) (O:Addr→Prop) (d:PyData),xs=[x,.ref tp]∧Vw X.K O H x d∧H tp=some (.tup [.ty "tuple",.ty "list"])∧Q (.bl (eV (kd d))) H):=by
 intro pins s σ H xs us Q I r h
 obtain ⟨x,tp,O,d,rfl,vw,ht,q⟩:=h
 obtain ⟨u,w',rfl,ru,rw'⟩:=vals2 r
 cases (show w'=Value.ref tp from rw')
 have fin:∀ tk,EP X pins σ Q (.bool (eV (kd d))) { s with toks:=tk }:=fun tk=>⟨.bl _,H,I.tok _,rfl,q⟩
 obtain ⟨_,its,rv,⟨dd,c,n,sl⟩,e0,e1,m,e2⟩:=(show ObjOk X.prog X.w H s.heap tp (.tup [.ty "tuple",.ty "list"]) from I.hok tp _ ht)
 obtain ⟨u1,u2,rfl,r1,r2⟩:=vals2 rv
 cases (show u1=Value.type "tuple" from r1)
 cases (show u2=Value.type "list" from r2)
 dsimp only at e1 e2
 subst e1 e2
 cases d with
 | none=>cases vw.non; cases (show u=Value.none from ru); exact PySem.W.kia_tup PySem.W.kitx_none I.kIn True.intro e0 (gN X.K .non) (fun z=>nomatch z) fin
 | bool b=>cases vw.bl; cases (show u=Value.bool b from ru); exact PySem.W.kia_tup PySem.W.kitx_bool I.kIn True.intro e0 (gN X.K .bl) (fun z=>nomatch z) fin
 | int i=>cases vw.int; obtain ⟨t,e⟩:=(show ∃ t,u=Value.int i t from ru); cases e; exact PySem.W.kia_tup PySem.W.kitx_int I.kIn True.intro e0 (gN X.K .int) (fun z=>nomatch z) fin
 | str z=>cases vw.str; obtain ⟨t,e⟩:=(show ∃ t,u=Value.str z t from ru); cases e; exact PySem.W.kia_tup PySem.W.kitx_str I.kIn True.intro e0 (gN X.K .str) (fun z=>nomatch z) fin
 | list ds=>
  obtain ⟨a,vs,rfl,t,r⟩:=vw.lst
  cases (show u=Value.ref a from ru)
  obtain ⟨its,_,pl,_⟩:=I.list t
  obtain ⟨o,n,e,c1,_⟩:=pl
  exact PySem.W.kia_tup PySem.W.kitx_list I.kIn ⟨o,e,c1⟩ e0 (gN X.K .lst) (fun z=>nomatch z) fin
 | tuple ds=>
  obtain ⟨a,vs,rfl,t,r⟩:=vw.tup
  cases (show u=Value.ref a from ru)
  obtain ⟨its,_,pl,_⟩:=I.tuple t.sq
  obtain ⟨o,e,c1,_⟩:=pl
  exact PySem.W.kia_tup PySem.W.kitx_tuple I.kIn ⟨o,e,c1⟩ e0 (gN X.K .tup) (fun z=>nomatch z) fin
 | dict ds=>
  obtain ⟨a,vs,rfl,t,r⟩:=vw.dct
  cases (show u=Value.ref a from ru)
  obtain ⟨_,_,_,_,o,_,_,e,c1,_⟩:=dX I.hok t
  exact PySem.W.kia_tup PySem.W.kitx_dict I.kIn ⟨o,e,c1.1⟩ e0 (gN X.K .dct) (fun z=>nomatch z) fin
def f6 (x:PyData):Option PyData:=some (.bool (eV (kd x)))
theorem zF {e:Expr} {f:FE} {p1 p2 p' pos tpos:Pos} {k:Nat} (hi:X.mg "isinstance" = none) (he:DE X e f) (hm1:X.mg "tuple" = none) (hm2:X.mg "list" = none) (hg:Gl X "isinstance":=by rfl) (hT1:Gl X "tuple":=by rfl) (hT2:Gl X "list":=by rfl)
  (hs:starEach [e,.Tuple [.Name "tuple" p1,.Name "list" p2] k tpos] X.env=(false,eval e X.env)::starEach [.Tuple [.Name "tuple" p1,.Name "list" p2] k tpos] X.env:=by exact b5 rfl)
  (hs2:starEach [.Tuple [.Name "tuple" p1,.Name "list" p2] k tpos] X.env=(false,eval (.Tuple [.Name "tuple" p1,.Name "list" p2] k tpos) X.env)::starEach [] X.env:=by exact b5 rfl)
  (hs3:starEach [.Name "tuple" p1,.Name "list" p2] X.env=(false,eval (.Name "tuple" p1) X.env)::starEach [.Name "list" p2] X.env:=by exact b5 rfl) (hs4:starEach [.Name "list" p2] X.env=(false,eval (.Name "list" p2) X.env)::starEach [] X.env:=by exact b5 rfl)
  (hpl:(backTo pos (starEach [.Tuple [.Name "tuple" p1,.Name "list" p2] k tpos] X.env)).any (·.1)=false:=by exact c8 rfl) :
  DE X (.Call (.Name "isinstance" p') [e,.Tuple [.Name "tuple" p1,.Name "list" p2] k tpos] [] pos) (fUn f6 f):=by
 refine ⟨?_⟩
 refine pe_imp (fS xG hg hi PyProof.Rows.boot_isinstance (bu he.pe (bu (mS (bu (jY (v:=.ty "tuple") hT1 hm1 boot_tuple rfl) (bu (jY (v:=.ty "list") hT2 hm2 boot_list rfl) bX hs4) hs3)) bX hs2) hs) (by decide) (by decide) hs hpl) fun σ H Q=>?_
 rintro ⟨O,ts,ρ,T,w,T',hc,re,e,q⟩
 obtain ⟨w1,T1,e1,e⟩:=aT e
 obtain ⟨x,d,h1,h3,rfl,rfl⟩:=i7 e
 cases h3
 refine ⟨O,ts,ρ,T,w1,T',hc,re,e1,fun v1 H1 s1 hc1 r1=>?_⟩
 refine ⟨by decide,fun tp htp=>?_⟩
 have hc2:=hc1.new htp (.tup [.ty "tuple",.ty "list"])
 have s2:SameX ts H1 (upd H1 tp (.tup [.ty "tuple",.ty "list"])):=.new htp _
 exact ⟨v1,tp,O,x,rfl,hc2.view (r1.mono hc1 s2) h1,bh,q _ _ (s1.trans s2) hc2 (.bl _)⟩
end
theorem zA {P:Program} {w:World} {K:Frag} {mg:Str→Option Value} {base:Heap} {CX:CXT} {k:Nat} {f:Addr} {fd:FuncData} {ps:List Str} {sp sp':Sp} (F:FnOk P w K mg base CX k f fd ps sp) (i:∀ vs H Q E,sp' vs H Q E→sp vs H Q E):FnOk P w K mg base CX k f fd ps sp':=⟨fun vs H Q E h=>F.1 vs H Q E (i _ _ _ _ h),fun A outer s H args us vs Q E a b c d h=>F.2 A outer s H args us vs Q E a b c d (i _ _ _ _ h)⟩
theorem yf {K:Frag} {m:FnM} (hm:∀ ns:List Int,ns.length≤63→∃ T',m [.d (de ns)] []=some (.bool true,T')):∀ vs H Q E,kz K vs H Q E→spM K 1 m vs H Q E:=by
 intro vs H Q E h
 obtain ⟨a,ns,rfl,hS,hl,q⟩:=h
 obtain ⟨T',e⟩:=hm ns hl
 have ra:LstAt K (fun _=>False) H a (ns.map V.int):=by
  rcases hS with h | h
  ·exact .inl ⟨fun z=>z,h⟩
  ·exact .inr (.inr h)
 refine ⟨fun _=>False,[],[],[.d (de ns)],.bool true,T',⟨fun b hb=>(by cases hb),fun b hb=>hb.elim,List.nodup_nil,rfl,fun i a xs e1 _=>by simp at e1⟩,.cons (show Rep K (fun _=>False) H (.ref a) (de ns) from .lst ra (oW ns)) .nil,rfl,e,fun v H' _ _ r=>?_⟩
 cases r
 exact q H'
def DV:PyData→PyData→Option PyData:=iop fun i j=>if 0≤j then some (.int (i / 2 ^ j.toNat)) else none
@[simp] theorem Fq {i j:Int}:DV (.int i) (.int j)=if 0≤j then some (.int (i / 2 ^ j.toNat)) else none:=rfl
section
variable {X:Cx}
end
end D
namespace L2
open PySem PySem.Spec PyProof.Rows
structure CSn (osc:Scope) (N:List Str) (xs:List Str) (scope:Scope) (N':List Str):Prop where
 kind:scope.kind=.function
 nocell:∀ y∈scope.names,y.2≠.cell
 names:∀ y∈scope.names,y.2=.local→scope.names.lookup y.1=some .local
 hx:∀ x∈xs,scope.names.lookup x=some .local
 only:∀ y∈scope.names,y.2=.local→y.1∈xs∨y.1 = ".0"
 free:∀ y∈scope.names,y.2=.free→osc.names.lookup y.1=some .cell∨osc.names.lookup y.1=some .free
 nd:(xs++N').Nodup
 n0:(".0" : Str)∉N'
 len:N'.length=N.length
 rel:∀ p∈N'.zip N,p.1=p.2∨∀ q∈scope.names,q.1≠p.1
theorem CSn.at {osc:Scope} {N N':List Str} {xs:List Str} {scope:Scope} (S:CSn osc N xs scope N') {j:Nat} {y:Str} (h:N'[j]? = some y):N[j]? = some y∨∀ q∈scope.names,q.1≠y:=by
 have hl:j < N'.length:=(List.getElem?_eq_some_iff.mp h).1
 have hl2:j < N.length:=by rw [← S.len]; exact hl
 have m:(N'.zip N)[j]? = some (y,N[j]):=by
  rw [List.getElem?_zip_eq_some]
  exact ⟨h,List.getElem?_eq_getElem hl2⟩
 rcases S.rel _ (List.mem_of_getElem? m) with z | z
 ·left
  rw [List.getElem?_eq_getElem hl2]
  exact congrArg some z.symm
 ·exact .inr z
abbrev cJ (X:Cx) (xs:List Str) (scope:Scope) (C:Addr) (s0:Shared) (H0:Hp) (ex:List Addr) (N':List Str):Cx where
 prog:=X.prog
 w:=X.w
 K:=X.K
 mg:=X.mg
 base:=X.base
 A:=X.A
 N:=xs++N'
 s₀:=s0
 H₀:=H0
 env:=compEnvC scope (bv X.env scope.names []) C X.env
 outer:=X.stack
 stack:=X.stack
 ex:=ex
 fn:=fun _=>false
 calm:=X.calm
 pn:=[]
 xe:=fun _ _=>False
section
variable {X:Cx} {pins:List (Addr×Obj)} {σ:St} {H:Hp} {s:Shared} {xs:List Str} {scope:Scope} {N':List Str}
theorem pf (I:Inv X pins σ H s) (S:CSn X.env.scope X.N xs scope N'):∀ y∈scope.names,y.2=.free→∃ c,X.env.cells.lookup y.1=some c:=fun y hy e=>
 I.ok.has y.1 (S.free y hy e)
theorem oz (I:Inv X pins σ H s) (S:CSn X.env.scope X.N xs scope N') {y:Str} {c:Addr} (e:(bv X.env scope.names []).lookup y=some c):X.env.cells.lookup y=some c:=li scope.names [] y c (fun _ _ z=>by simp at z) (pf I S) e
theorem pA (I:Inv X pins σ H s) (S:CSn X.env.scope X.N xs scope N') {y:Str} (e:(y,NameKind.free)∈scope.names):∃ c,(bv X.env scope.names []).lookup y=some c∧X.env.cells.lookup y=some c:=by
 obtain ⟨c,hc⟩:=Option.isSome_iff_exists.mp (lB (env:=X.env) scope.names [] y e)
 exact ⟨c,hc,oz I S hc⟩
theorem wF {fp:List Addr} {h':Heap} {m:Str→Option Value} {tk:Nat} {oD oC:Obj} (I:Inv X pins σ H s) (S:CSn X.env.scope X.N xs scope N') (hf:∀ b∈fp,cq X pins H b) (ho:∀ b∈fp,∃ o,s.heap.get? b=some o)
  (hns:h'.Ns (s.heap.push oD).objs.size m) (hsb:Heap.SameBut (s.heap.push oD).objs.size ((s.heap.push oD).push oC) h') :
  Inv (cJ X xs scope (s.heap.push oD).objs.size { s with heap:=s.heap.push oD } H (s.heap.objs.size::fp) N') [] (List.replicate xs.length none++σ) H { s with heap:=h',toks:=tk }:=by
 have I3:Inv X pins σ H { s with heap:=s.heap.push oD,toks:=s.toks }:=I.kept fun b o e=>Heap.get?_push_of_some _ e
 have hC:(s.heap.push oD).objs.size=s.heap.objs.size + 1:=Heap.size_push ..
 have up3:∀ b o,(s.heap.push oD).get? b=some o→h'.get? b=some o:=fun b o e=>
  (hsb.2 b (Nat.ne_of_lt (Heap.lt_size e))).trans (Heap.get?_push_of_some _ e)
 have up:∀ b o,s.heap.get? b=some o→h'.get? b=some o:=fun b o e=>up3 b o (Heap.get?_push_of_some _ e)
 have cl:=fun {y c} e=>oz (y:=y) (c:=c) I S e
 have clt:∀ y c,X.env.cells.lookup y=some c→c < s.heap.objs.size:=fun y c e=>let ⟨v,q⟩:=I.cell y c e; q.lt
 have inner:∀ {y:Str} {k':NameKind},(relabel scope X.env).names.lookup y=some k'→(k'=.cell∨k'=.free)→(y,NameKind.free)∈scope.names:=fun {y k'} e hk=>by
  obtain ⟨k,mem,r⟩:=gZ e
  rcases r with r | ⟨r,_⟩
  ·rcases hk with z | z
   ·exact absurd (r.symm.trans z) (S.nocell _ mem)
   ·rw [← r.symm.trans z]; exact mem
  ·rw [← r]; exact mem
 have ok:(cJ X xs scope (s.heap.push oD).objs.size { s with heap:=s.heap.push oD } H (s.heap.objs.size::fp) N').Ok:=by
  refine ⟨I.ok.mod,S.kind,I.ok.glob,I.ok.blt,Nat.le_refl _,fun y z c e1 e2=>I.ok.inj y z c (cl e1) (cl e2),fun y hk=>?_,fun y c e=>(nomatch e),I.ok.hd,I.ok.frames,.inl rfl,fun b hb=>?_,fun b o e=>?_,
   Nat.le_trans (Nat.le_trans I.ok.bsz I.sz) (by show s.heap.objs.size≤(s.heap.push oD).objs.size; omega),fun b o e hb=>?_,fun b hb z=>?_,I3.stack,I.stkFree⟩
  ·have mem:(y,NameKind.free)∈scope.names:=by
    rcases hk with z | z
    ·exact inner z (.inl rfl)
    ·exact inner z (.inr rfl)
   obtain ⟨c,hc,_⟩:=pA I S mem
   exact ⟨c,hc⟩
  ·rcases List.mem_cons.mp hb with e | e
   ·subst e
    exact ⟨by show s.heap.objs.size≠(s.heap.push oD).objs.size; omega,fun y c e=>Nat.ne_of_lt (clt y c (cl e))⟩
   ·obtain ⟨o,q⟩:=ho b e
    have q2:=Heap.lt_size q
    exact ⟨by show b≠(s.heap.push oD).objs.size; rw [hC]; exact Nat.ne_of_lt (Nat.lt_succ_of_lt q2),fun y c e'=>(hf b e).2.2.2.2.1 y c (cl e')⟩
  ·exact ⟨Heap.get?_push_of_some _ (I.bs b o e).1,(I.bs b o e).2⟩
  ·rcases List.mem_cons.mp hb with z | z
   ·have q2:=Heap.lt_size (I.bs b o e).1
    rw [z] at q2
    exact Nat.lt_irrefl _ q2
   ·rcases (hf b z).2.2.2.1 with q | q
    ·exact I.ok.noex b o e q
    ·have q2:=Heap.lt_size (I.ok.bs b o e).1
     exact Nat.lt_irrefl _ (Nat.lt_of_lt_of_le q2 q)
  ·have z':=I.stkSub b z
   rcases List.mem_cons.mp hb with e | e
   ·subst e
    rcases List.mem_cons.mp z' with q | q
    ·have q2:=I.lt
     rw [← q] at q2
     exact Nat.lt_irrefl _ q2
    ·exact I.nofs (Nat.le_refl _) q
   ·rcases List.mem_cons.mp z' with q | q
    ·exact (hf b e).2.1 q
    ·exact (hf b e).2.2.1 q
 obtain ⟨mo,hno,hlo⟩:=I.loc
 refine ⟨ok,rfl,I.bare,Un.kept up3,⟨m,hns,fun i y v e1 e2 e3=>?_⟩,fun y c e=>?_,I.hok.fresh (by show s.heap.objs.size≤(s.heap.push oD).objs.size; omega),fun y c e=>I.freeC y c (cl e),fun p hp=>absurd hp (by simp),I.hok.kept up,?_⟩
 ·by_cases hi:i < xs.length
  ·rw [List.getElem?_append_left (by simpa using hi)] at e2
   have:=List.mem_of_getElem? e2
   rw [List.mem_replicate] at this
   cases this.2
  ·obtain ⟨j,rfl⟩:∃ j,i=xs.length + j:=⟨i - xs.length,by omega⟩
   have e1n:N'[j]? = some y:=by
    have e1':(xs++N')[xs.length + j]? = some y:=e1
    rw [List.getElem?_append_right (by omega)] at e1'
    simpa using e1'
   have vis:∃ k,(y,k)∈scope.names:=by
    rcases (show Vis (relabel scope X.env) y from e3) with z | z | z <;> exact let ⟨k,mem,_⟩:=gZ z; ⟨k,mem⟩
   have e1':X.N[j]? = some y:=by
    rcases S.at e1n with z | z
    ·exact z
    ·obtain ⟨k,mem⟩:=vis
     exact absurd rfl (z _ mem)
   have e2':σ[j]? = some (some v):=by
    rw [List.getElem?_append_right (by simp)] at e2
    simpa using e2
   have yx:y∉xs:=fun z=>(List.nodup_append.mp S.nd).2.2 y z y (List.mem_of_getElem? e1n) rfl
   have kin:((relabel scope X.env).names.lookup y=some .cell∨(relabel scope X.env).names.lookup y=some .free):=by
    rcases (show Vis (relabel scope X.env) y from e3) with z | z | z
    ·obtain ⟨k,mem,r⟩:=gZ z
     rcases r with r | ⟨_,r⟩
     ·rcases S.only _ mem r.symm with z2 | z2
      ·exact absurd z2 yx
      ·exact absurd (List.mem_of_getElem? e1n) (by rw [show y=(".0" : Str) from z2]; exact S.n0)
     ·cases r
    ·exact .inl z
    ·exact .inr z
   have mem:(y,NameKind.free)∈scope.names:=by
    rcases kin with z | z
    ·exact inner z (.inl rfl)
    ·exact inner z (.inr rfl)
   have vo:Vis X.env.scope y:=by
    rcases S.free _ mem rfl with z | z
    ·exact .inr (.inl z)
    ·exact .inr (.inr z)
   obtain ⟨u,ru,lk⟩:=hlo j y v e1' e2' vo
   refine ⟨u,ru,.inr ⟨kin,?_⟩⟩
   obtain ⟨c,hc,hc'⟩:=pA I S mem
   refine ⟨c,hc,?_⟩
   rcases lk with ⟨z,_⟩ | ⟨_,c2,z2,q⟩
   ·exfalso
    have z':X.env.scope.names.lookup y=some .local:=z
    rcases S.free _ mem rfl with r | r <;> (rw [z'] at r; cases r)
   ·rw [hc'] at z2
    cases z2
    obtain ⟨o,q1,q2⟩:=q
    exact ⟨o,up _ _ q1,q2⟩
 ·obtain ⟨v,o,q1,q2⟩:=I.cell y c (cl e)
  exact ⟨v,o,up _ _ q1,q2⟩
 ·have:=I.len
  show (List.replicate xs.length none++σ).length=(xs++N').length
  simp [this,S.len]
theorem wD {fp:List Addr} {σ':St} {pins':List (Addr×Obj)} {H1:Hp} {s1:Shared} {h':Heap} {C:Addr} {oD:Obj} {ys:List V} (I:Inv X pins σ H s) (hf:∀ b∈fp,cq X pins H b)
  (hCd:C=(s.heap.push oD).objs.size) (J:Inv (cJ X xs scope C { s with heap:=s.heap.push oD } H (s.heap.objs.size::fp) N') pins' σ' H1 s1) (hsb:Heap.SameBut C s1.heap h') (hD0:H1 s.heap.objs.size=none)
  (new:∃ its n,Vals ys its∧s1.heap.get? s.heap.objs.size=some { cls:=.type "list",data:=.seq its.toArray n }) (hz:ys.length≤sizeLine) :
  Inv X pins σ (upd H1 s.heap.objs.size (.lst ys)) { s1 with heap:=h' }:=by
 have hC:C=s.heap.objs.size + 1:=by rw [hCd]; exact Heap.size_push ..
 have nD:∀ b o,s.heap.get? b=some o→b≠s.heap.objs.size:=fun b o e=>Nat.ne_of_lt (Heap.lt_size e)
 have nC:∀ b o,s.heap.get? b=some o→b≠C:=fun b o e=>by rw [hC]; exact Nat.ne_of_lt (Nat.lt_succ_of_lt (Heap.lt_size e))
 have up:∀ b o,s.heap.get? b=some o→(s.heap.push oD).get? b=some o:=fun b o e=>Heap.get?_push_of_some _ e
 have nx:∀ b,b∉fp→b≠s.heap.objs.size→b∉s.heap.objs.size::fp:=fun b h1 h2 z=>(List.mem_cons.mp z).elim h2 h1
 have hDC:s.heap.objs.size≠C:=by rw [hC]; exact Nat.ne_of_lt (Nat.lt_succ_self _)
 have tr:∀ b u,H1 b=some u→b≠s.heap.objs.size:=fun b u e z=>by rw [z,hD0] at e; cases e
 have trC:∀ b u,H1 b=some u→b≠C:=fun b u e z=>by
  have:=J.free
  rw [z] at e
  have q:H1 C=none:=J.free
  rw [q] at e; cases e
 obtain ⟨its,n,rv,eD⟩:=new
 have B:Un (frs X.stack) (s.heap.objs.size::fp) H H1 (s.heap.push oD) s1.heap:=J.base
 refine I.call' (s':={ s1 with heap:=h' }) (ch:=fp) J.os ⟨fun b o e q h1 h2=>?_,fun b o e q h1 h2=>?_,fun b o e q h2=>?_,fun b o e h2=>?_,fun b xs e=>?_,fun b o u e=>?_,fun b ps e=>?_⟩ (fun b u e=>?_) J.bare fun b hb=>?_
 ·exact (hsb.2 b (nC b o e)).trans (B.keep b o (up b o e) q h1 (nx b h2 (nD b o e)))
 ·obtain ⟨sl,z⟩:=B.slot b o (up b o e) q h1 (nx b h2 (nD b o e))
  exact ⟨sl,(hsb.2 b (nC b o e)).trans z⟩
 ·rw [aR (nD b o e)]
  exact B.free b o (up b o e) q (nx b h2 (nD b o e))
 ·obtain ⟨o',z⟩:=B.there b o (up b o e) (nx b h2 (nD b o e))
  exact ⟨o',(hsb.2 b (nC b o e)).trans z⟩
 ·have z:=B.tups b xs e
  rw [aR (tr b _ z)]; exact z
 ·have z:=B.frzs b o u e
  rw [aR (tr b _ z)]; exact z
 ·obtain ⟨more,z⟩:=B.tbls b ps e
  exact ⟨more,by rw [aR (tr b _ z)]; exact z⟩
 ·by_cases hb:b=s.heap.objs.size
  ·subst hb
   rw [bh] at e
   cases e
   exact ⟨hz,its,n,rv,(hsb.2 _ hDC).trans eD⟩
  ·rw [aR hb] at e
   refine (J.hok b u e).stay (fun c v hc q=>(hsb.2 c ?_).trans q) (fun c q=>by rw [aR (tr c _ q)]; exact q) fun c xs q=>by rw [aR (tr c _ q)]; exact q
   rcases hc with z | z
   ·rw [z]; exact trC b u e
   ·exact trC c _ z
 ·obtain ⟨_,f1,_,f3,f4,f5⟩:=hf b hb
  exact ⟨f3,f1,f4,f5⟩
end
theorem wG {prog:Program} {w:World} {A:Around} {R:Result→Shared→Prop} {s:Shared} {elt tg iter:Expr} {ifs:List Expr} {scope:Scope} {pos:Pos} {it acc:Value} {env:Env} (I:Nat→Shared→Prop)
  (turn:∀ n s,I n s→wpAny (model prog w) A (pyNext it) (fun r s1=>match r with
   | none=>R (.ok .next) s1
   | some v=>wpAny (model prog w) A (letOwnedTupleGo tg it v) (fun _ s2=>wpAny (model prog w) A (assign tg env v) (fun _ s2=>
     wpAny (model prog w) A (forIn ifs true fun c r=>if r=true then do
      let ok ← isTrue c env (eval c env)
      pure (ForInStep.yield ok) else pure (ForInStep.yield r)) (fun ok s3=>
      if ok=true then wpAny (model prog w) A (eval elt env) (fun x s4=>wpAny (model prog w) A (call (.builtin "list.append") [acc,x]) (fun _ s5=>∃ m,m < n∧I m s5)
       (notedBy (model prog w) A env fun e s'=>R (.error e) s') s4) (notedBy (model prog w) A env fun e s'=>R (.error e) s') s3
      else ∃ m,m < n∧I m s3) (notedBy (model prog w) A env fun e s'=>R (.error e) s') s2) (notedBy (model prog w) A env fun e s'=>R (.error e) s') s2) (notedBy (model prog w) A env fun e s'=>R (.error e) s') s1) (notedBy (model prog w) A env fun e s'=>R (.error e) s') s)
  (n:Nat) (h:I n s):codeAny (model prog w) A (.compLoop (.ListComp elt [⟨tg,iter,ifs,0⟩] scope pos) 0 it acc env) R s:=by
 refine codeAny_loop rfl I (fun n s hI=>wpAny_noted ?_) n h
 rw [compTurn_list]
 refine wpAny_bind (wpAny_standAt (wpAny_bind (thn (turn n s hI) fun r s1 h1=>?_)))
 cases r with
 | none=>exact wpAny_pure h1
 | some v=>
  refine wpAny_bind (thn h1 fun _ s2 h2=>wpAny_bind (thn h2 fun _ s3 h3=>wpAny_bind (thn h3 fun ok s4 h4=>?_)))
  cases ok with
  | false=>exact wpAny_pure ⟨rfl,h4⟩
  | true=>exact wpAny_bind (wpAny_bind (thn h4 fun x s5 h5=>wpAny_bind (thn h5 fun _ s6 h6=>wpAny_pure (wpAny_pure ⟨rfl,h6⟩))))
def m4 (n:Nat) (g:TG) (σ:St) (J:It) (tt:TT) (te:TE) (W:Nat→Nat→List V→Hp→Prop) (D:List V→Hp→Prop):Prop:=∀ i m ys H,W i m ys H →
 (J.stop i H∧ys.length≤sizeLine∧D ys H)∨(J.go i H∧ys.length < sizeLine∧∃ N:List V→Hp→Prop,(∀ ys' H',N ys' H'→∃ m',m' < m∧W (i + 1) m' ys' H')∧∀ v H',J.yld i H v H'→∀ σx:St,σx.length=n→g v (σx++σ) H' fun σ1 H1=>(∃ σy:St,σy.length=n∧σ1=σy++σ)∧tt σ1 H1 fun b H2=>
  if b=true then te σ1 H2 fun y H3=>N (ys++[y]) H3 else N ys H2)
section
variable {X:Cx} {pins:List (Addr×Obj)} {σ:St} {H:Hp} {s:Shared} {xs:List Str} {scope:Scope} {N':List Str}
theorem xy {fp:List Addr} {it C:Addr} {tn:Nat→Heap→Prop} {J:It} {oD:Obj} {elt iter:Expr} {ifs:List Expr} {pos:Pos} {tg:Expr} {g:TG} {te:TE} {tt:TT} {W:Nat→Nat→List V→Hp→Prop} {Dn:List V→Hp→Prop}
  {R:Result→Shared→Prop} {σ':St} {s4:Shared} {m0:Nat} (hcalm:X.calm=true) (S:CSn X.env.scope X.N xs scope N') (hf:∀ b∈fp,cq X pins H b) (ho:∀ b∈fp,∃ o,s.heap.get? b=some o) (hCd:C=(s.heap.push oD).objs.size)
  (T:Turn X.prog X.w X.K tg J fp it tn) (I4:Inv (cJ X xs scope C { s with heap:=s.heap.push oD } H (s.heap.objs.size::fp) N') [] (List.replicate xs.length none++σ) H s4) (st4:tn 0 s4.heap) (hD4:s4.heap.get? s.heap.objs.size=some { cls:=.type "list",data:=.seq #[] 0 })
  (hDn:H s.heap.objs.size=none) (hgg:PG (cJ X xs scope C { s with heap:=s.heap.push oD } H (s.heap.objs.size::fp) N') tg g) (hte:PE (cJ X xs scope C { s with heap:=s.heap.push oD } H (s.heap.objs.size::fp) N') elt te) (htt:PTs (cJ X xs scope C { s with heap:=s.heap.push oD } H (s.heap.objs.size::fp) N') ifs tt)
  (w0:W 0 m0 [] H) (turn:m4 xs.length g σ J tt te W Dn)
  (hR:∀ s1 H1 σ1 ys its n,Inv (cJ X xs scope C { s with heap:=s.heap.push oD } H (s.heap.objs.size::fp) N') [] σ1 H1 s1→H1 s.heap.objs.size=none→Vals ys its→s1.heap.get? s.heap.objs.size=some { cls:=.type "list",data:=.seq its.toArray n }→ys.length≤sizeLine→Dn ys H1→R (.ok .next) s1) :
  codeAny (model X.prog X.w) X.A (.compLoop (.ListComp elt [⟨tg,iter,ifs,0⟩] scope pos) 0 (.ref it) (.ref s.heap.objs.size) (compEnvC scope (bv X.env scope.names []) C X.env)) R s4:=by
 have hC:C=s.heap.objs.size + 1:=by rw [hCd]; exact Heap.size_push ..
 generalize hX:cJ X xs scope C { s with heap:=s.heap.push oD } H (s.heap.objs.size::fp) N'=X' at *
 have xP:X'.prog=X.prog:=by rw [← hX]
 have xW:X'.w=X.w:=by rw [← hX]
 have xK:X'.K=X.K:=by rw [← hX]
 have xA:X'.A=X.A:=by rw [← hX]
 have xE:X'.env=compEnvC scope (bv X.env scope.names []) C X.env:=by rw [← hX]
 have xC:X'.calm=true:=by rw [← hX]; exact hcalm
 have xex:X'.ex=s.heap.objs.size::fp:=by rw [← hX]
 have xpn:X'.pn=[]:=by rw [← hX]
 have xxe:X'.xe=fun _ _=>False:=by rw [← hX]
 have xL:X'.env.locals=C:=by rw [xE]; rfl
 have lt:∀ b∈fp,b < s.heap.objs.size:=fun b hb=>let ⟨_,e⟩:=ho b hb; Heap.lt_size e
 have fpk:∀ {pl:List (Addr×Obj)} {H':Hp},(∀ p∈pl,p.1=s.heap.objs.size)→(∀ b∈fp,H' b=none)→∀ b∈fp,cq X' pl H' b:=fun {pl H'} hp hn b hb=>by
  have okk:=I4.ok
  have hm:b∈X'.ex:=by rw [xex]; exact List.mem_cons_of_mem _ hb
  refine ⟨hn b hb,(okk.exf b hm).1,okk.exfs b hm,.inl hm,(okk.exf b hm).2,fun p hpl z=>?_⟩
  rw [xpn] at hpl
  have q1:=hp p (by simpa using hpl)
  have q2:=lt b hb
  rw [← z,q1] at q2
  exact Nat.lt_irrefl _ q2
 have dok:∀ {pl:List (Addr×Obj)} {H':Hp},(∀ p∈pl,p.1∈fp)→H' s.heap.objs.size=none→cq X' pl H' s.heap.objs.size:=fun {pl H'} hp hn=>by
  have okk:=I4.ok
  have hm:s.heap.objs.size∈X'.ex:=by rw [xex]; exact List.mem_cons_self
  refine ⟨hn,(okk.exf _ hm).1,okk.exfs _ hm,.inl hm,(okk.exf _ hm).2,fun p hpl z=>?_⟩
  rw [xpn] at hpl
  have q2:=lt p.1 (hp p (by simpa using hpl))
  rw [z] at q2
  exact Nat.lt_irrefl _ q2
 refine wG (I:=fun m s'=>∃ i σx H' ys its n,σx.length=xs.length∧Inv X' [] (σx++σ) H' s'∧tn i s'.heap∧(∀ b∈fp,H' b=none)∧H' s.heap.objs.size=none∧Vals ys its∧s'.heap.get? s.heap.objs.size=some { cls:=.type "list",data:=.seq its.toArray n }∧W i m ys H') ?_ m0
  ⟨0,List.replicate xs.length none,H,[],[],0,by simp,I4,st4,fun b hb=>(hf b hb).1,hDn,.nil,hD4,w0⟩
 rintro m s5 ⟨i,σx,H5,ys,its,n,hσx,I5,st5,fr5,d5,rv,e5,w5⟩
 have I5d:Inv X' ([]++dG [s.heap.objs.size] s5.heap) (σx++σ) H5 s5:=I5.pinned (fun b hb=>by
   have e:b=s.heap.objs.size:=by simpa using hb
   rw [e]; exact dok (fun p hp=>absurd hp (by simp)) d5) fun b hb=>by
   have e:b=s.heap.objs.size:=by simpa using hb
   rw [e]; exact ⟨_,e5,fun v z=>by cases z⟩
 have pD:([]++dG [s.heap.objs.size] s5.heap:List (Addr×Obj))=[(s.heap.objs.size,{ cls:=.type "list",data:=.seq its.toArray n })]:=by
  simp [dG,e5]
 rw [pD] at I5d
 have p1:∀ p∈[(s.heap.objs.size,({ cls:=.type "list",data:=.seq its.toArray n }:Obj))],p.1=s.heap.objs.size:=fun p hp=>by
  have e:p=(s.heap.objs.size,{ cls:=.type "list",data:=.seq its.toArray n }):=by simpa using hp
  rw [e]
 have hsz:its.length=ys.length:=rv.length.symm
 rcases turn i m ys H5 w5 with ⟨stop,hz,dn⟩ | ⟨go,hz,N,hN,step⟩
 ·have q:=T.done X' xP xW xK xC i _ s5 (σx++σ) H5 (notedBy (model X.prog X.w) X.A (compEnvC scope (bv X.env scope.names []) C X.env) fun e s'=>R (.error e) s') I5d (fpk p1 fr5) st5 stop
  rw [xA] at q
  refine wpAny_mono q (fun r s6 z=>?_) fun _ _ z=>z
  obtain ⟨rfl,I6⟩:=z
  refine hR s6 H5 (σx++σ) ys its n ?_ d5 rv (I6.pin _ (List.mem_append_right _ (List.mem_singleton.mpr rfl))).1 hz dn
  exact I6.pins_of fun p hp=>absurd hp (by simp)
 ·have q:=T.item X' xP xW xK xC i _ s5 (σx++σ) H5 (notedBy (model X.prog X.w) X.A (compEnvC scope (bv X.env scope.names []) C X.env) fun e s'=>R (.error e) s') I5d (fpk p1 fr5) st5 go
  rw [xA] at q
  refine wpAny_mono q (fun r s6 z=>?_) fun _ _ z=>z
  obtain ⟨u,rfl,z⟩:=z
  dsimp only
  refine wpAny_mono z (fun _ s7 z=>?_) fun _ _ z=>z
  obtain ⟨v,H7,I7,rv7,y7,st7,fr7⟩:=z
  have I7p:=I7.pinned (fpk p1 fr7) (T.obj _ _ st7)
  rw [← xE]
  have a7:=hgg _ s7 _ H7 v u _ I7p rv7 (step v H7 y7 σx hσx)
  rw [xP,xW,xA] at a7
  refine wpAny_mono a7 (fun _ s8 z=>?_) fun _ _ z=>by rw [xxe] at z; exact z.elim
  obtain ⟨σ1,H8,I8,⟨σy,hσy,rfl⟩,q8⟩:=z
  have t8:=htt _ s8 (σy++σ) H8 _ (notedBy (model X.prog X.w) X.A X'.env fun e s'=>R (.error e) s') I8 q8
  rw [xP,xW,xA] at t8
  refine wpAny_mono t8 (fun ok s9 z=>?_) fun _ _ z=>z
  obtain ⟨H9,I9,q9⟩:=z
  have back:∀ {s':Shared} {H':Hp} {σ2:St},Inv X' ([(s.heap.objs.size,({ cls:=.type "list",data:=.seq its.toArray n }:Obj))]++dG fp s7.heap) σ2 H' s' →
    tn (i + 1) s'.heap∧(∀ b∈fp,H' b=none)∧H' s.heap.objs.size=none∧s'.heap.get? s.heap.objs.size=some { cls:=.type "list",data:=.seq its.toArray n }∧Inv X' [] σ2 H' s':=fun {s' H' σ2} I'=>by
   refine ⟨T.keep _ _ _ st7 fun b hb o e=>(I'.pin (b,o) (List.mem_append_right _ (List.mem_append_right _ (g9 hb e)))).1,fun b hb=>?_,?_,?_,I'.pins_of fun p hp=>absurd hp (by simp)⟩
   ·obtain ⟨o,e,_⟩:=T.obj _ _ st7 b hb
    exact (I'.pin (b,o) (List.mem_append_right _ (List.mem_append_right _ (g9 hb e)))).2.1
   ·exact (I'.pin (s.heap.objs.size,_) (List.mem_append_right _ (List.mem_append_left _ (List.mem_singleton.mpr rfl)))).2.1
   ·exact (I'.pin (s.heap.objs.size,_) (List.mem_append_right _ (List.mem_append_left _ (List.mem_singleton.mpr rfl)))).1
  cases ok with
  | false=>
   simp only [Bool.false_eq_true,if_false] at q9 ⊢
   obtain ⟨m',hm,w9⟩:=hN _ _ q9
   obtain ⟨a1,a2,a3,a4,a5⟩:=back I9
   exact ⟨m',hm,i + 1,σy,H9,ys,its,n,hσy,a5,a1,a2,a3,rv,a4,w9⟩
  | true=>
   simp only [if_true] at q9 ⊢
   have t9:=hte _ s9 (σy++σ) H9 _ I9 q9
   rw [xP,xW,xA,xxe] at t9
   refine wpAny_mono t9 (fun u2 s10 z=>?_) fun _ _ z=>z.elim
   obtain ⟨y,H10,I10,r10,q10⟩:=z
   obtain ⟨m',hm,w10⟩:=hN _ _ q10
   obtain ⟨a1,a2,a3,a4,a5⟩:=back I10
   refine wpAny_list_append_plain ⟨n,a4⟩ (fun h' pl sb=>?_) (by rw [List.size_toArray]; omega)
   obtain ⟨n',e'⟩:=pl
   have D0:=dok (pl:=[]) (fun p hp=>absurd hp (by simp)) a3
   refine ⟨m',hm,i + 1,σy,H10,ys++[y],its++[u2],n',hσy,a5.turned (t':=s10.toks) (fun b o hb e=>(sb.2 b hb).trans e) D0.1 D0.2.1 D0.2.2.2.1 D0.2.2.2.2.1 D0.2.2.2.2.2,?_,a2,a3,rv.append (.cons r10 .nil),by simpa using e',w10⟩
   exact T.keep _ _ _ a1 fun b hb o e=>(sb.2 b (Nat.ne_of_lt (lt b hb))).trans e
end
section
variable {X:Cx} {xs:List Str} {scope:Scope} {N':List Str} {tg elt iter:Expr} {ifs:List Expr} {pos:Pos} {wi:TI} {g:TG} {te:TE} {tt:TT}
def Bj (n:Nat) (g:TG) (wi:TI) (tt:TT) (te:TE):TE:=fun σ H Q=>wi σ H fun J H1=>∃ W:Nat→Nat→List V→Hp→Prop,(∃ m,W 0 m [] H1)∧m4 n g σ J tt te W fun ys H=>∀ p,H p=none→Q (.ref p) (upd H p (.lst ys))
theorem zb (hc:X.calm=true) (S:CSn X.env.scope X.N xs scope N') (hi:PI X tg iter wi) (hg:∀ C s0 H0 ex,PG (cJ X xs scope C s0 H0 ex N') tg g) (he:∀ C s0 H0 ex,PE (cJ X xs scope C s0 H0 ex N') elt te)
  (ht:∀ C s0 H0 ex,PTs (cJ X xs scope C s0 H0 ex N') ifs tt) (hs:∀ v,foldedSetIterable iter X.env v=pure v:=by intro _; rfl):PE X (.ListComp elt [⟨tg,iter,ifs,0⟩] scope pos) (Bj xs.length g wi tt te):=by
 intro pins s σ H Q I h
 rw [eval_ListComp]
 refine wpAny_comprehension_free (use:=none) rfl hs (oy (pf I S)) S.kind S.names (thn (hi pins s σ H _ I h) fun v s1 h1=>thn h1 fun itv s2 h2=>?_)
 obtain ⟨it,fp,tn,J,H2,rfl,I2,T,st2,f2,W,⟨m0,w0⟩,turn⟩:=h2
 have ho:∀ b∈fp,∃ o,s2.heap.get? b=some o:=fun b hb=>let ⟨o,e,_⟩:=T.obj _ _ st2 b hb; ⟨o,e⟩
 refine wpAny_newObj_type (wpAny_newFunctionEnv S.nocell (by intro y hy; simp at hy) (fun h' hns hsb=>?_) S.kind)
 have I4:=wF (xs:=xs) (scope:=scope) (tk:=s2.toks + ([]:List (Str×Value)).length) I2 S f2 ho hns hsb
 have up3:∀ b o,(s2.heap.push { cls:=.type "list",dict:=none,data:=.seq ([]:List Value).toArray }).get? b=some o→h'.get? b=some o:=fun b o e=>
  (hsb.2 b (Nat.ne_of_lt (Heap.lt_size e))).trans (Heap.get?_push_of_some _ e)
 have st4:tn 0 h':=T.keep _ _ _ st2 fun b _ o e=>up3 b o (Heap.get?_push_of_some _ e)
 have loop:=xy (elt:=elt) (iter:=iter) (ifs:=ifs) (pos:=pos) (R:=compPost (model X.prog X.w) X.A X.xe none (EP X pins σ Q) (.ref s2.heap.objs.size) (s2.heap.push { cls:=.type "list",dict:=none,data:=.seq ([]:List Value).toArray }).objs.size) (σ':=σ)
  hc S f2 ho rfl T I4 st4 (up3 _ _ (Heap.get?_push_size _ rfl)) (I2.hok.fresh (Nat.le_refl _)) (hg _ _ _ _) (he _ _ _ _) (ht _ _ _ _) w0 turn fun s5 H5 σ5 ys its n J5 d5 rv e5 hz dn=>by
   obtain ⟨m,hn,_⟩:=J5.loc
   exact ⟨m,hn,fun h'' sb=>⟨.ref s2.heap.objs.size,_,wD I2 f2 rfl J5 sb d5 ⟨its,n,rv,e5⟩ hz,rfl,dn _ d5⟩⟩
 exact codeAny_compStart_list loop (T.self X.A 0 _ _ _ st4 loop)
end
end L2
namespace D
open PySem PySem.Spec PyProof.Rows L2
def eC (c:FT) (e:FE) (ρ:Rho):List PyData→Tp→Option (List PyData×Tp)
 | [],T=>some ([],T)
 | .tuple [a,b]::r,T=>bnd (c (some (.d a)::some (.d b)::ρ) T) fun k T1=>if k=true then bnd (e (some (.d a)::some (.d b)::ρ) T1) fun w T2=>match w with
   | .d y=>bnd (eC c e ρ r T2) fun ys T3=>some (y::ys,T3)
   | _=>none
  else eC c e ρ r T1
 | _,_=>none
def mZ (it:FI) (c:FT) (e:FE):FE:=fun ρ T=>bnd (it ρ T) fun ds T1=>bnd (eC c e ρ ds T1) fun ys T2=>some (.d (.list ys),T2)
theorem zL {K:Frag} {O:Addr→Prop} {ts:List Addr} {H1:Hp} {σ:L2.St} {ρ:Rho} {J:It} {c:FT} {e:FE} {g:TG} {ds ys:List PyData} {T1 T2:Tp} {Dn:List V→Hp→Prop} (hc:HC K O ts H1 T1) (re:RelE K O ts H1 σ ρ) (ok:ItOk K O H1 J ds) (hz:ds.length≤sizeLine)
  (hg:∀ (a:Addr) (v u o1 o2:V) (p q:Option V) (H:Hp) (Q:L2.St→Hp→Prop),SqT K H a [v,u]→Q (some v::some u::σ) H→g (.ref a) (p::q::σ) H Q)
  (ee:eC c e ρ ds T1=some (ys,T2)) (q:∀ vs H',SameX ts H1 H'→HC K O ts H' T2→Reps K O H' vs ys→Dn vs H') :
  ∃ W:Nat→Nat→List V→Hp→Prop,(∃ m,W 0 m [] H1)∧m4 2 g σ J (liftT K c) (lift K e) W Dn:=by
 refine ⟨fun i m vs H'=>m=ds.length - i∧i≤ds.length∧vs.length≤i∧∃ T dn rs,SameX ts H1 H'∧HC K O ts H' T∧Reps K O H' vs dn∧eC c e ρ (ds.drop i) T=some (rs,T2)∧ys=dn++rs,⟨_,rfl,Nat.zero_le _,Nat.le_refl _,T1,[],ys,.refl _ _,hc,.nil,ee,rfl⟩,?_⟩
 rintro i m vs H' ⟨rfl,hi,hv,T,dn,rs,s1,hc1,rv,ec,ey⟩
 obtain ⟨k1,k2,k3⟩:=ok O H' (hc.le s1)
 by_cases hlt:i < ds.length
 ·refine .inr ⟨k1 i hlt,by omega,fun vs' H2=>i + 1≤ds.length∧vs'.length≤i + 1∧∃ T dn rs,SameX ts H1 H2∧HC K O ts H2 T∧Reps K O H2 vs' dn∧eC c e ρ (ds.drop (i + 1)) T=some (rs,T2)∧ys=dn++rs,fun vs' H2 n=>⟨ds.length - (i + 1),by omega,rfl,n⟩,fun v H2 y σx hσ=>?_⟩
  obtain ⟨e2,d,hd,rd⟩:=k3 i v H2 y hlt
  subst e2
  have hdr:ds.drop i=d::ds.drop (i + 1):=by
   rw [List.drop_eq_getElem_cons hlt,(List.getElem?_eq_some_iff.mp hd).2]
  rw [hdr] at ec
  generalize ds.drop (i + 1)=rest at ec
  have hab:∃ a b,d=.tuple [a,b]:=by
   unfold eC at ec
   split at ec
   ·rename_i h; cases h
   ·rename_i h; injection h with h1 h2; exact ⟨_,_,h1⟩
   ·cases ec
  obtain ⟨a,b,rfl⟩:=hab
  ·cases rd with
   | @tup ad us _ tu ru=>
   cases ru with
   | cons ra ru=>
   cases ru with
   | cons rb ru=>
   cases ru
   obtain ⟨p1,p2,rfl⟩:∃ p1 p2,σx=[p1,p2]:=by
    match σx,hσ with
    | [p1,p2],_=>exact ⟨p1,p2,rfl⟩
   refine hg ad _ _ .non .non p1 p2 H2 _ tu.sq ⟨⟨[_,_],rfl,rfl⟩,?_⟩
   obtain ⟨k,T3,e3,ec⟩:=aT ec
   have re2:RelE K O ts H2 (_::_::σ) (some (.d a)::some (.d b)::ρ):=((re.mono hc s1).cons rb).cons ra
   refine ⟨O,ts,some (.d a)::some (.d b)::ρ,T,k,T3,hc1,re2,e3,fun H3 s3 hc3=>?_⟩
   cases k with
   | false=>
    rw [if_neg Bool.false_ne_true] at ec
    exact eU ⟨hlt,by omega,T3,dn,rs,s1.trans s3,hc3,rv.mono (hc1.le s3),ec,ey⟩
   | true=>
    rw [if_pos rfl] at ec
    obtain ⟨w,T4,e4,ec⟩:=aT ec
    refine d6 ⟨O,ts,some (.d a)::some (.d b)::ρ,T3,w,T4,hc3,re2.mono hc1 s3,e4,fun u H4 s4 hc4 r4=>?_⟩
    split at ec
    ·rename_i y
     obtain ⟨zs,T5,e5,ec⟩:=aT ec
     cases ec
     exact ⟨hlt,by simp; omega,T4,dn++[y],zs,s1.trans (s3.trans s4),hc4,(rv.mono (hc1.le (s3.trans s4))).append (.cons r4 .nil),e5,by rw [ey]; simp⟩
    ·cases ec
 ·have e:i=ds.length:=by omega
  subst e
  rw [List.drop_eq_nil_of_le (Nat.le_refl _)] at ec
  cases ec
  rw [List.append_nil] at ey
  subst ey
  exact .inl ⟨k2,by omega,q vs H' s1 hc1 rv⟩
theorem zH {X:Cx} {x y:Str} {scope osc:Scope} {N N':List Str} {elt iter:Expr} {ifs:List Expr} {k:Nat} {px py tp pos:Pos} {it:FI} {c:FT} {f:FE} (S:CSn osc N [x,y] scope N') (hi:DI X (.Tuple [.Name x px,.Name y py] k tp) iter it)
  (he:∀ C s0 H0 ex,DE (cJ X [x,y] scope C s0 H0 ex N') elt f) (ht:∀ C s0 H0 ex,DTs (cJ X [x,y] scope C s0 H0 ex N') ifs c) (hc:X.calm=true:=by rfl) (hs:X.env.scope=osc:=by rfl) (hN:X.N=N:=by rfl)
  (hf:∀ v,foldedSetIterable iter X.env v=pure v:=by intro _; rfl):DE X (.ListComp elt [⟨.Tuple [.Name x px,.Name y py] k tp,iter,ifs,0⟩] scope pos) (mZ it c f):=by
 refine ⟨?_⟩
 subst hs hN
 have lx:∀ C,(compEnvC scope (bv X.env scope.names []) C X.env).scope.names.lookup x=some .local:=fun C=>lookup_relabel_local (S.hx x (by simp))
 have ly:∀ C,(compEnvC scope (bv X.env scope.names []) C X.env).scope.names.lookup y=some .local:=fun C=>lookup_relabel_local (S.hx y (by simp))
 refine pe_imp (zb (xs:=[x,y]) (g:=uJ X.K 2 (nr (kL 0) (nr (kL 1) uK))) (wi:=nq X.K it) (tt:=liftT X.K c) (te:=lift X.K f) hc S hi.pe (fun C s0 H0 ex=>mQ (X:=cJ X [x,y] scope C s0 H0 ex N') (n:=2) hc (hU (gB S.nd (i:=0) rfl (.inl (lx C)) (.inr (lx C))) (hU (gB S.nd (i:=1) rfl (.inl (ly C)) (.inr (ly C))) mf))) (fun C s0 H0 ex=>(he C s0 H0 ex).pe) (fun C s0 H0 ex=>(ht C s0 H0 ex).pe) hf) fun σ H Q=>?_
 rintro ⟨O,ts,ρ,T,w,T',hc,re,e,q⟩
 obtain ⟨ds,T1,e1,e⟩:=aT e
 obtain ⟨ys,T2,e2,e⟩:=aT e
 cases e
 refine ⟨O,ts,ρ,T,ds,T1,hc,re,e1,fun J H1 s1 hc1 ok hz=>?_⟩
 exact zL hc1 (re.mono hc s1) ok hz (fun a v u _ _ p q H Q t z=>⟨a,_,rfl,t,rfl,_,_,rfl,_,_,rfl,rfl,z⟩) e2 fun vs H' s2 hc2 r2 p hp=>q _ _ (s1.trans (s2.trans (.new hp _))) (hc2.new hp _) (hc2.newL hp r2)
section
variable {X:Cx} {pos:Pos}
end
section
variable {X:Cx}
variable {pos:Pos} {e e':Expr} {fe fk:FE}
end
section
variable {K:Frag} {O₀:Addr→Prop} {H₀:Hp} {F:List ((Addr→Prop)×Hp)} {ts:List Addr} {O A:Addr→Prop} {H H1:Hp} {σ:L2.St} {ρ:Rho} {T T1:Tp}
end
section
variable {X:Cx} {pos:Pos}
end
inductive SpOP (K:Frag) (n:Nat) (m:FnM) (vs:List V) (H:Hp) (Q:VK):Prop where
 | mk (O:Addr→Prop) (ts:List Addr) (T:Tp) (ws:List W) (x:PyData) (T':Tp) (hc:HC K O ts H T) (r:eP K O ts H vs ws) (hl:ws.length=n) (e:m ws T=some (x,T'))
  (q:∀ (A:Addr→Prop) v H',SameX ts H H'→(∀ b,A b→H b=none∧¬ O b)→HC K (fun b=>O b∨A b) ts H' T'→OwnV K (fun b=>O b∨A b) A H' v x→Q v H'):SpOP K n m vs H Q
section
variable {X:Cx} {pos:Pos}
end
section
variable {X:Cx}
abbrev FP:=Rho→Tp→Option (List (Str×PyData)×Tp)
def Dx (l:List (Str×PyData)):List (PyData×PyData):=l.map fun p=>(.str p.1,p.2)
def D8 (p:Str×V):Key×V:=(Sum.inr p.1,p.2)
structure DP (X:Cx) (pos:Pos) (keys:List (Option Expr)) (values:List Expr) (g:FP):Prop where
 ex:∃ trs,PPs X pos keys values trs∧∀ (σ:L2.St) (H:Hp) (Q:List (V×V)→Hp→Prop) (O:Addr→Prop) (ts:List Addr) (ρ:Rho) (T:Tp) (l:List (Str×PyData)) (T':Tp),HC X.K O ts H T→RelE X.K O ts H σ ρ→g ρ T=some (l,T') →
  (∀ (kvs:List (Str×V)) (H':Hp),SameX ts H H'→HC X.K O ts H' T'→kvs.map (·.1)=l.map (·.1)→RepK X.K O H' (kvs.map D8) (Dx l)→Q (kvs.map fun p=>(V.str p.1,p.2)) H')→mK trs σ H Q
end
section
set_option maxRecDepth 100000
variable {prog:Program} {w:World} {K:Type} [DecidableEq K] {knd:KeyKind prog w K} {A:Around} {E:Value→Shared→Prop} {s:Shared}
end
section
variable {X:Cx}
end
section
set_option maxRecDepth 100000
variable {prog:Program} {w:World} {A:Around} {E:Value→Shared→Prop} {s:Shared}
theorem wI {T:String} {r d:Addr} {n:Nat} {P:Nat→Value→Prop} {OK:Heap→Prop} {Q:List Value→Shared→Prop} (K:PySem.W.KdlSrc prog w T r d n P OK) (hh:A.handled=none) (hok:OK s.heap) (hn:n≤sizeLine)
  (hQ:∀ h' tk acc,(∀ b o,s.heap.get? b=some o→h'.get? b=some o)→s.heap.objs.size < h'.objs.size→ItemsOf P acc n→Q acc.toList { s with heap:=h',toks:=tk }):wpAny (model prog w) A (collect (.ref r)) Q E s:=by
 have lt:=K.there _ hok
 have hS:(s.heap.push { cls:=.type "list",data:=.seq #[] }).get? s.heap.objs.size=some { cls:=.type "list",data:=.seq #[] }:=Heap.get?_push_size _ rfl
 unfold collect
 refine wpAny_bind (wpAny_runValue (codeAny_builtin PySem.F.entry_proto_collect ?_))
 rw [Around.under_plainId PySem.F.plain_proto_collect _]
 show wpAny _ A.in1 (newList [] >>= fun l=>again (.builtin "list.__iadd__" ⟨[l,.ref r],[]⟩)) _ _ s
 refine wpAny_bind (wpAny_newObj_type (wpAny_pure ⟨plainId_quiet PySem.F.plain_list_iadd _,codeAny_builtin PySem.F.entry_list_iadd ?_⟩))
 rw [Around.under_plainId PySem.F.plain_list_iadd _]
 show wpAny _ A.in1 (Builtin.List.listExtendWith (.ref s.heap.objs.size) (.ref r) (.ref s.heap.objs.size)) _ _ _
 refine PySem.W.kdl_extend (R:=fun r s'=>match r with
  | .ok (.ret v)=>wpAny (model prog w) A (match v with
   | .ref a=>(do match (← load a).data with
    | .seq xs _=>pure xs.toList
    | _=>unsupported "internal:collect")
   | _=>unsupported "internal:collect") Q E s'
  | .ok _=>False
  | .error e=>E e s') (A:=A) (s:={ s with heap:=s.heap.push { cls:=.type "list",data:=.seq #[] } }) K hh (K.keep _ _ hok fun b _ o e=>Heap.get?_push_of_some _ e) s.heap.objs.size (Nat.ne_of_gt lt.1) (Nat.ne_of_gt lt.2) (.ref s.heap.objs.size) 0 hS (fun h' tk acc c k1 k2 k3=>?_) hn
 refine wpAny_bind (wpAny_load k2 (wpAny_pure ?_))
 exact hQ h' tk acc (fun b o e=>k1 b o (Nat.ne_of_lt (Heap.lt_size e)) (Heap.get?_push_of_some _ e)) (Heap.lt_size k2) k3
end
section
set_option maxRecDepth 100000
variable {X:Cx}
end
section
set_option maxRecDepth 100000
variable {X:Cx}
theorem xF (hcm:X.calm=true):CallR X (.builtin "sorted") (fun xs H Q=>∃ a kvs ss,xs=[V.ref a]∧Rd H a (.dK kvs)∧kvs.map (fun p=>kV p.1)=ss.map V.str∧ss.length < 64∧∀ l,H l=none→Q (.ref l) (upd H l (.lst ((cD ss).map V.str)))):=by
 intro pins s σ H xs us Q I r h
 obtain ⟨a,kvs,ss,rfl,ha,hk,h64,q⟩:=h
 obtain ⟨u,rfl,ru⟩:=vals1 r
 cases ru
 obtain ⟨z,y,vs,kv,dd⟩:=dX I.hok ha
 obtain ⟨ep,dd⟩:=dd.dictAt
 have hl:=kv.length
 have hlen:kvs.length=ss.length:=by have:=congrArg List.length hk; simpa using this
 refine Calls.call_function_entry kind_sorted plain_sorted entry_sorted (args_sorted1 _) ?_
 unfold Builtin.«sorted»
 refine wpAny_bind (m:=checkCount "sorted" 1 1 _) (wpAny_pure ?_)
 refine wpAny_bind (wI (PySem.W.kdl_dict (prog:=X.prog) (w:=X.w) (knd:=bB X.prog X.w) (kvs:=vs) (ep:=ep) y) (I.ok.hd hcm) dd (by omega) fun h' tk acc k1 k2 k3=>?_)
 have hv:Vals (kvs.map fun p=>kV p.1) acc.toList:=oH (P:=X.prog) (w:=X.w) kv (by rw [Array.length_toList]; exact k3.1) fun j v e=>k3.2 j v (by simpa using e)
 rw [hk] at hv
 have hS:=pN hv
 have hal:acc.toList.length=ss.length:=by have:=hv.length; simpa using this.symm
 refine wpAny_bind (wpAny_newList ?_)
 have hoL:(h'.push (seqObj "list" acc.toList.toArray 0)).get? h'.objs.size=some (seqObj "list" acc.toList.toArray 0):=Heap.get?_push_size _ rfl
 refine wpAny_bind (wpAny_holding (wpAny_call_entry slot_list_sort ⟨_,hoL,rfl⟩ entry_list_sort (list_sort_treeK strKind_oneLt hoL hS.keysOf (fun v1 v2 rest e=>keyKind_strs (by rw [← e]; exact hS)) (by omega) fun st' a1 a2=>⟨_,rfl,?_⟩) (args_list_sort _)))
 refine wpAny_pure ⟨_,rfl,?_⟩
 obtain ⟨ss',b1,b2,b3⟩:=sorted_out_str hS a1 a2
 have e:ss'=cD ss:=nU (b2.trans (g6 ss).symm) (wR b3) (nQ ss)
 subst e
 obtain ⟨e2,he⟩:=sortedHeap_at (out:=(arrOf st').map (·.2)) hoL
 have keep:∀ b o,s.heap.get? b=some o→(sortedHeap (h'.push (seqObj "list" acc.toList.toArray 0)) h'.objs.size acc.toList ((arrOf st').map (·.2))).get? b=some o:=fun b o q=>by
  have q':=k1 b o q
  have lt:=Heap.lt_size q'
  rw [sortedHeap_old (Nat.ne_of_lt lt) (by rw [size_push']; exact Nat.lt_succ_of_lt lt)]
  exact Heap.get?_push_of_some _ q'
 have hn:H h'.objs.size=none:=I.hok.fresh (Nat.le_of_lt k2)
 have hlen2:(cD ss).length=ss.length:=(g6 ss).length_eq
 exact ⟨.ref h'.objs.size,_,I.laid (t':=tk) (o:=.lst ((cD ss).map V.str)) keep (Nat.le_of_lt k2) ⟨by simp; exact Nat.le_of_lt (Nat.lt_of_lt_of_le (by omega:(cD ss).length < 64) (by decide)),((arrOf st').map (·.2)).toList,e2,oh b1,by simpa [seqObj,-Array.toList_map] using he⟩,rfl,q _ hn⟩
def gD:PyData→Option PyData
 | .dict ds=>kA (dq (eJ ds))
 | _=>none
theorem xT {x y:PyData} (h:gD x=some y):∃ ds ss,x=.dict ds∧dq (eJ ds)=some ss∧ss.length < 64∧y=.list ((cD ss).map .str):=by
 cases x with
 | dict ds=>
  have h':kA (dq (eJ ds))=some y:=h
  unfold kA at h'
  split at h'
  ·rename_i ss hs
   split at h'
   ·rename_i hl
    cases h'
    exact ⟨ds,ss,rfl,hs,hl,rfl⟩
   ·cases h'
  ·cases h'
 | _=>cases h
theorem qd {e:Expr} {fe:FE} {p pos:Pos} (hm:X.mg "sorted" = none) (ha:DE X e fe) (hc:X.calm=true:=by rfl) (hg:Gl X "sorted":=by rfl) (hs:starEach [e] X.env=(false,eval e X.env)::starEach [] X.env:=by exact b5 rfl)
  (hpl:(backTo pos (starEach [] X.env)).any (·.1)=false:=by exact c8 rfl):DE X (.Call (.Name "sorted" p) [e] [] pos) (fUn gD fe):=by
 refine ⟨?_⟩
 refine pe_imp (fS (xF hc) hg hm boot_sorted (bu ha.pe bX hs) (by decide) (by decide) hs hpl) fun σ H Q=>?_
 rintro ⟨O,ts,ρ,T,w,T',hc,re,e,q⟩
 obtain ⟨w1,T1,e1,e⟩:=aT e
 obtain ⟨x,d,hv,hd,rfl,rfl⟩:=i7 e
 obtain ⟨ds,ss,rfl,hs',hl,rfl⟩:=xT hd
 refine ⟨O,ts,ρ,T,w1,T',hc,re,e1,fun v1 H1 s1 hc1 r1=>?_⟩
 obtain ⟨a,kvs,rfl,t,r⟩:=(hc1.view r1 hv).dct
 have rk:=oV (O':=O) (H':=H1) r
 refine ⟨a,kvs,ss,rfl,t,l8 rk hs',hl,fun l hl'=>?_⟩
 exact q _ _ (s1.trans (.new hl' _)) (hc1.new hl' _) (hc1.newL hl' (lK _))
end
end D
namespace XE
open PySem PySem.Spec PyProof.Rows L2
abbrev vE:List Value:=[.type "ValueError",.type "Exception",.type "BaseException",.type "object"]
def XCl (K:Frag) (C:Addr) (tl:List Value):Prop:=∃ nm q N bs sn sub ab col dd k0 k1 k2 k3 k5,K.lookup C=some (excClassObj nm q C N bs tl true sn sub ab col dd k0 k1 k2 k3 k5 "ValueError.__new__")∧PySem.W.nsOkIn K N=true
theorem qp {K:Frag} {h:Heap} {R:Addr} (X:K.In h) (r:XCl K R vE) (ri:PySem.W.ownIn K "__init__" (.ref R)=some none):OwnTail h vE (.ref R::vE):=by
 obtain ⟨nm,q,N,bs,sn,sub,ab,col,dd,k0,k1,k2,k3,k5,l,n⟩:=r
 refine .own (X _ _ l) (.of_isNs (PySem.W.isNs_of_in X n)) (PySem.W.nsMap_none_of_in X n ?_) .base
 simp only [PySem.W.ownIn] at ri
 rw [l] at ri
 exact ri
section
variable {prog:Program} {w:World} {A:Around} {E:Value→Shared→Prop} {h:Heap} {g:Array GenState} {d:Drawn} {t:Nat} {os:OsState} {K:Frag} {C R fI:Addr}
theorem Cu {us:List Value} {Q:Value→Shared→Prop} (X:K.In h) (c:XCl K C (.ref R::vE)) (r:XCl K R vE) (ri:PySem.W.ownIn K "__init__" (.ref R)=some none)
  (hi:PySem.W.findIn K (.ref C) "__init__" = some (some (.ref fI))) (hf:PySem.W.isFn K (.ref fI)=true) (hz:us.length≤sizeLine)
  (k:∀ h' e,Heap.MadeExcOf h h' e (.ref C) us→h.objs.size≤e→wpAny (model prog w) (A.under (.builtin "type.__call__" ⟨.ref C::us,[]⟩)) (call (.ref fI) (.ref e::us)) (fun v s'=>v=.none∧Q (.ref e) s') E ⟨h',g,d,t,os⟩) :
  wpAny (model prog w) A (call (.ref C) us) Q E ⟨h,g,d,t,os⟩:=by
 have T:=qp X r ri
 obtain ⟨nm,q,N,bs,sn,sub,ab,col,dd,k0,k1,k2,k3,k5,l,_⟩:=c
 have hC:=X _ _ l
 have FB:=PySem.F.excBase_ValueError
 have f1:=tc_lookup
 have f2:=tc_bind (.ref C)
 have hT:(⟨h,g,d,t,os⟩:Shared).TypeIs (.ref C) "type":=⟨_,hC,rfl⟩
 refine wpAny_call (codeAny_of_tree ?_)
 show wpAny _ _ (callAny (.ref C) _) _ _ _
 repeat (any_goals (first | assumption | with_reducible refine wpAny_loadPart_at hC ?_ | wp_step))
 refine ⟨rfl,codeAny_call_builtin_at (Code.quiet_builtin _ (by decide +kernel)) entry_typeCall (wpAny_check_type_call_sub hC ?_)⟩
 repeat (first | with_reducible refine wpAny_loadPart_at hC ?_ | with_reducible refine wpAny_madeBy_exc hC ?_ | wp_step)
 refine codeAny_call_builtin_code (Code.quiet_builtin _ FB.quiet) (wpAny_check_new_subU FB (by decide +kernel) T hC (codeAny_exc_new_subU FB (by decide +kernel) FB T hC ?_ hz))
 show wpAny _ _ _ _ _ _
 have up:∀ b o,h.get? b=some o→((h.push { cls:=.type "tuple",data:=.seq us.toArray }).push { cls:=.ref C,data:=.fields #[.ref h.objs.size,.none,.none,.none,.bool false,.none] }).get? b=some o:=
  fun b o e=>Heap.get?_push_of_some _ (Heap.get?_push_of_some _ e)
 have at1:((h.push { cls:=.type "tuple",data:=.seq us.toArray }).push { cls:=.ref C,data:=.fields #[.ref h.objs.size,.none,.none,.none,.bool false,.none] }).get? (h.objs.size + 1)
   = some { cls:=.ref C,data:=.fields #[.ref h.objs.size,.none,.none,.none,.bool false,.none] }:=by heap_get
 have hC1:=up _ _ hC
 have cc:(Value.ref C::Value.ref R::vE).contains (.ref C)=true:=by simp
 have mk:=k _ (h.objs.size + 1) ⟨up,Heap.get?_none_of_le (Nat.le_succ _),h.objs.size,at1,Heap.get?_none_of_le (Nat.le_refl _),Heap.get?_push_of_some _ (Heap.get?_push_at rfl rfl)⟩ (Nat.le_succ _)
 unfold isInstance
 repeat (first | with_reducible refine wpAny_loadPart_at at1 ?_ | wp_step)
 refine wpAny_isSubtype_exc hC1 ?_
 rw [cc]
 repeat (first | with_reducible refine wpAny_loadPart_at at1 ?_ | wp_step)
 show wpAny _ _ (typeLookup (.ref C) _) _ _ _
 refine PySem.W.looks_findIn (X.keeps up) hi _ _ _ _ (fun _ _ e=>e) ?_
 refine wpAny_holding (wpAny_bind ?_)
 refine PySem.W.bind_fn (X.keeps up) _ (by simpa [PySem.W.isFn] using hf) _ _ _ _ (fun _ _ e=>e) ?_
 refine wpAny_bind (wpAny_mono mk (fun v s' hv=>?_) fun _ _ z=>z)
 obtain ⟨rfl,q'⟩:=hv
 wp_walk
 exact q'
end
end XE
namespace XE
open PySem PySem.Spec PyProof.Rows L2
def XAt (e C:Addr) (od:Option Addr):Heap→Prop:=fun h=>∃ t,h.get? e=some { cls:=.ref C,dict:=od,data:=.fields #[.ref t,.none,.none,.none,.bool false,.none] }
theorem XAt.stay {e C:Addr} {od:Option Addr} {h1 h2:Heap} (x:XAt e C od h1) (k:∀ o,h1.get? e=some o→h2.get? e=some o):XAt e C od h2:=let ⟨t,y⟩:=x; ⟨t,k _ y⟩
theorem XAt.ok {P:Program} {w:World} {H:Hp} {e C:Addr} {od:Option Addr} {h:Heap} (x:XAt e C od h):ObjOk P w H h e (.ext (XAt e C od)):=⟨x,let ⟨_,y⟩:=x; ⟨_,y⟩,fun _ _ a k=>a.stay k⟩
theorem XAt.of {P:Program} {w:World} {H:Hp} {e C:Addr} {od:Option Addr} {h:Heap} (ok:HOk P w H h) (x:H e=some (.ext (XAt e C od))):XAt e C od h:=(ok _ _ x).1
section
variable {X:Cx} {C R:Addr}
theorem yv {K:Frag} {prog:Program} {w:World} {A:Around} {E:Value→Shared→Prop} {s:Shared} {pl:Sem Bool} {Q:Value×List Value→Shared→Prop} (x:K.In s.heap) (hr:PySem.W.readsIn K R (.type "type")=true)
  (hf:PySem.W.findCls K (.ref R) (.type "type") "__init__" = some (.val (.builtin "ValueError.__init__"))) (q:Q (.builtin "ValueError.__init__",[]) { s with toks:=s.toks + 1 }) :
  wpAny (model prog w) A (getMethod (.ref R) "__init__" pl) Q E s:=by
 have hr':=hr
 simp only [PySem.W.readsIn,Bool.and_eq_true,beq_iff_eq] at hr'
 obtain ⟨⟨⟨⟨_,b⟩,c⟩,_⟩,_⟩:=hr'
 have hc:(Manifest.canonical "type.__getattribute__" != "object.__getattribute__")=true:=by decide +kernel
 unfold getMethod specialOf
 refine wpAny_bind (wpAny_bind (PySem.W.looks_typeIn x b _ _ _ _ (fun _ _ e=>e) (PySem.W.looks_findIn x c _ _ _ _ (fun _ _ e=>e) ?_)))
 simp only [hc,if_true]
 exact wpAny_bind (PySem.W.cls_value x hr hf rfl (wpAny_pure q))
def ut (C:Addr) (tt:TE):TE:=fun σ H Q=>∃ e,σ[0]? = some (some (.ref e))∧tt σ H fun _ H1=>H1 e=some (.ext (XAt e C none))∧Q .non H1
theorem BF {p p2 ap pos:Pos} {tx:Expr} {tt:TE} {rn sn:Str} (c:XCl X.K C (.ref R::vE)) (r:XCl X.K R vE) (ri:PySem.W.ownIn X.K "__init__" (.ref R)=some none) (hg:Gl X rn) (hm:X.mg rn=some (.ref R))
  (hr:PySem.W.readsIn X.K R (.type "type")=true) (hf:PySem.W.findCls X.K (.ref R) (.type "type") "__init__" = some (.val (.builtin "ValueError.__init__"))) (hs:PE X (.Name sn p2) (dJ 0)) (ht:PE X tx tt)
  (hd:(rn == ("__debug__" : Str))=false:=by decide) (hst:starEach [.Name sn p2,tx] X.env=[(false,eval (.Name sn p2) X.env),(false,eval tx X.env)]:=by rfl) (hs2:starEach [tx] X.env=[(false,eval tx X.env)]:=by rfl)
  {pl:Sem Bool} (he:eval (.Call (.Attribute (.Name rn p) "__init__" ap) [.Name sn p2,tx] [] pos) X.env=(do
   let ov ← eval (.Name rn p) X.env
   standAt ap.atName
   let (f,first) ← holding [ov] (getMethod ov "__init__" pl)
   callWith pos f first (backTo pos (starEach [.Name sn p2,tx] X.env)) (backToKw pos (keywordEach [] X.env))):=by rfl) :
  PE X (.Call (.Attribute (.Name rn p) "__init__" ap) [.Name sn p2,tx] [] pos) (ut C tt):=by
 intro pins s σ H Q I h
 obtain ⟨e,h0,h⟩:=h
 refine PySem.W.methodCall_KW (pl:=pl) (ig I hg hm ?_ hd) he
 refine yv I.kIn hr hf ?_
 have I0:=I.tok (s.toks + 1)
 have pa:PA X [.Name sn p2,tx] (jd (dJ 0) (jd tt kX)):=bu hs (bu ht bX (by rw [hs2]; rfl)) (by rw [hst,hs2])
 have hA:=pa pos pins _ σ H (fun vs H1=>match vs with
  | [.ref a,_]=>H1 a=some (.ext (XAt a C none))∧Q .non H1
  | _=>False) I0 ⟨_,h0,h⟩
 rw [hst] at hA ⊢
 refine Calls.callWith_builtin rfl (Calls.evalArgs_plain (thn hA fun us s2 ⟨vs,H2,I2,r2,q2⟩=>?_))
 dsimp only at q2
 split at q2
 ·rename_i a v
  obtain ⟨hx,q⟩:=q2
  obtain ⟨u0,us1,rfl,r0,r3⟩:∃ x b,us=x::b∧RelV (.ref a) x∧Vals [v] b:=by cases r2 with | cons a b=>exact ⟨_,_,rfl,a,b⟩
  obtain ⟨u1,us2,rfl,r1,r4⟩:∃ a b,us1=a::b∧RelV v a∧Vals [] b:=by cases r3 with | cons a b=>exact ⟨_,_,rfl,a,b⟩
  cases r4
  obtain rfl:u0=Value.ref a:=r0
  obtain ⟨t,hat⟩:=XAt.of I2.hok hx
  have T:=qp I2.kIn r ri
  obtain ⟨nm,qn,N,bs,sn,sub,ab,col,dd,k0,k1,k2,k3,k5,l,_⟩:=c
  have hC:=I2.kIn _ _ l
  have FB:=PySem.F.excBase_ValueError
  have up:∀ b o,s2.heap.get? b=some o→(s2.heap.push { cls:=.type "tuple",data:=.seq [u1].toArray }).get? b=some o:=fun b o e=>Heap.get?_push_of_some _ e
  have fin:∀ (h':Heap) (tk:Nat),(∀ b o,b≠a→s2.heap.get? b=some o→h'.get? b=some o)→XAt a C none h'→EP X pins σ Q .none { s2 with heap:=h',toks:=tk }:=fun h' tk k1 k2=>by
   have e1:upd H2 a (.ext (XAt a C none))=H2:=by
    funext b
    by_cases e:b=a
    ·rw [e,bh,hx]
    ·rw [aR e]
   have I3:=I2.write (x:=a) (e:=a) (o:=.ext (XAt a C none)) (h':=h') (t':=tk) (by rw [hx]; trivial) (.inl rfl) k1 (let ⟨_,y⟩:=k2; ⟨_,y⟩) (XAt.ok k2)
   rw [e1] at I3
   exact ⟨.non,H2,I3,rfl,q⟩
  obtain ⟨hp,g,d,tk,os⟩:=s2
  show wpAny _ _ (call (.builtin "ValueError.__init__") [.ref a,u1]) _ _ _
  refine wpAny_call (codeAny_call_builtin FB.init.plain FB.initEntry (wpAny_check_init_subU FB T hC hat rfl ?_))
  wp_walk
  refine fin _ _ (fun b o hb e=>?_) ⟨hp.objs.size,?_⟩
  ·rw [Heap.get?_update_other _ _ (Ne.symm hb)]
   exact up b o e
  ·rw [Heap.get?_update_self _ (up _ _ hat) rfl]
   rfl
 ·exact False.elim q2
def tFs (i:Nat) (z:Str):TE:=fun σ H Q=>∃ x,σ[i]? = some (some (.str x))∧(reprText x).length≤sizeLine∧(reprText x).length + z.length≤sizeLine∧∀ y,Q (.str y) H
theorem C1 {i:Nat} {n z:Str} {p p2 p3 pos:Pos} {j:Int} (hn:PE X (.Name n p) (dJ i)):PE X (.JoinedStr [.FormattedValue (.Name n p) 114 none p2,.Constant (.str z) 0 p3] pos) (tFs i z):=by
 intro pins s σ H Q I h
 obtain ⟨x,h0,h1,h2,q⟩:=h
 refine wpAny_JoinedStr ?_
 refine wpAny_FormattedValue_repr (thn (hn pins s σ H (fun v H'=>v=.str x∧H'=H) I ⟨_,h0,rfl,rfl⟩) fun u s1 ⟨v,H1,I1,r1,e1,e2⟩=>?_)
 subst e1 e2
 obtain ⟨t,rfl⟩:=r1
 have e0:Str.empty.length=0:=rfl
 have go:∀ (t2:Tok) (tk:Nat),∃ y t,Value.str (reprText x) t2=.str y t∧(Str.empty++y).length≤sizeLine∧Joins (model X.prog X.w) X.A X.xe (evalEach [.Constant (.str z) 0 p3] X.env) (Str.empty++y) (fun out s₁=>out.length≤sizeLine∧EP X pins σ Q (.str out s₁.toks) { s₁ with toks:=s₁.toks + 1 }) { s1 with toks:=tk }:=by
  intro t2 tk
  refine ⟨_,_,rfl,by rw [strLen_append,e0,Nat.zero_add]; exact h1,?_⟩
  refine Calls.Constant_str ⟨_,_,rfl,?_,?_⟩
  ·rw [strLen_append,strLen_append,e0,Nat.zero_add]; exact h2
  ·exact ⟨by rw [strLen_append,strLen_append,e0,Nat.zero_add]; exact h2,.str _,H1,(I1.tok _).tok _,⟨_,rfl⟩,q _⟩
 refine pyReprObj_str ?_ h1
 exact wpAny_formatField_str (go _ _) (go _ _) h1
end
section
open Builtin Builtin.ObjectAttr
variable {prog:Program} {w:World} {A:Around} {E:Value→Shared→Prop} {h:Heap} {g:Array GenState} {d:Drawn} {t:Nat} {os:OsState} {K:Frag} {C R e:Addr} {name:Str} {v:Value} {vs:Array Value}
theorem DC {Q:Unit→Shared→Prop} (X:K.In h) (c:XCl K C (.ref R::vE)) (hs:PySem.W.findIn K (.ref C) "__setattr__" = some (some (.builtin "object.__setattr__"))) (hn:PySem.W.findIn K (.ref C) name=some none)
  (he:h.get? e=some { cls:=.ref C,data:=.fields vs })
  (k:∀ h' tk,h'.get? e=some { cls:=.ref C,dict:=some h.objs.size,data:=.fields vs }→h'.Ns1 h.objs.size (fun y=>if y=name then some v else none)→(∀ b o,b≠e→h.get? b=some o→h'.get? b=some o)→Q () ⟨h',g,d,tk,os⟩) :
  wpAny (model prog w) A (setAttr (.ref e) name v) Q E ⟨h,g,d,t,os⟩:=by
 obtain ⟨nm,q,N,bs,sn,sub,ab,col,dd,k0,k1,k2,k3,k5,l,_⟩:=c
 have hC:=X _ _ l
 have SF:=PySem.F.store_ValueError
 have hpass:=SF.passes (.ref e)
 have f3:=SF.slot.bind (.ref e)
 have hO:(Value.ref C::Value.ref R::vE).contains (.type "object")=true:=by simp
 unfold setAttr callSpecial? specialOf
 repeat (any_goals (first | assumption | with_reducible refine wpAny_loadPart_at he ?_ | wp_step))
 refine PySem.W.looks_findIn X hs _ _ _ _ (fun _ _ e=>e) ?_
 repeat (any_goals (first | assumption | wp_step))
 refine codeAny_call_builtin SF.slot.plain SF.entry ?_
 have chk:∀ {M:Model} {A:Around} {Q:Unit→Shared→Prop} {E:Value→Shared→Prop} {tk t:Nat},Q () ⟨h,g,d,t,os⟩→wpAny M A (checkBuiltinCall "object.__setattr__" ⟨[.ref e,.str name tk,v],[]⟩) Q E ⟨h,g,d,t,os⟩:=by
  intro M A Q E tk t hq
  have ha:=SF.args (.ref e) (.str name tk) v
  simp only [checkBuiltinCall,SF.kind,SF.split]
  refine wpAny_bind ?_
  unfold isInstance
  repeat (first | with_reducible refine wpAny_loadPart_at he ?_ | wp_step)
  refine wpAny_isSubtype_exc hC ?_
  rw [hO]
  repeat wp_step
  exact hq
 refine chk ?_
 unfold Builtin.«object.__setattr__»
 repeat (first | rw [refuse_eq] | (rw [refuseLoop_ref,refuseLoop_ref,hpass]) | with_reducible refine wpAny_loadPart_at he ?_ | refine wpAny_mroOf_exc hC ?_ | wp_step)
 refine PySem.W.looks_findIn X hn _ _ _ _ (fun _ _ e=>e) ?_
 have up:(h.push { cls:=.type "dict",data:=.dict #[] }).get? e=some { cls:=.ref C,data:=.fields vs }:=Heap.get?_push_of_some _ he
 have ne:e≠h.objs.size:=Nat.ne_of_lt (Heap.lt_size he)
 have gd:((h.push { cls:=.type "dict",data:=.dict #[] }).update e fun o=>{ cls:=o.cls,dict:=some h.objs.size,data:=o.data,slots:=o.slots }).get? h.objs.size=some { cls:=.type "dict",data:=.dict #[] }:=
  (Heap.get?_update_ne _ _ _ _ ne.symm).trans (Heap.get?_push_at rfl rfl)
 have nd:((h.push { cls:=.type "dict",data:=.dict #[] }).update e fun o=>{ cls:=o.cls,dict:=some h.objs.size,data:=o.data,slots:=o.slots }).Ns h.objs.size (fun _=>none):=
  ⟨_,#[],_,gd,rfl,fun _ z=>absurd z (by simp),fun _=>rfl⟩
 repeat (first | with_reducible refine wpAny_loadPart_at he ?_ | with_reducible refine wpAny_nsSet1 (Heap.Ns1.of_empty nd) fun h' hn' hs'=>?_ | wp_step)
 obtain ⟨oD,es,ep,hoD,hdD,hcD⟩:=hn'.count (Within.cons name v Within.nil)
 refine wpAny_loadPart hoD ?_
 rw [hdD,pastItsLine_dict (Nat.le_trans hcD (by rw [List.length_cons,List.length_nil,sizeLine_eq]; omega))]
 repeat wp_step
 refine k h' _ ((hs'.2 e ne).trans (Heap.get?_update_self _ up rfl)) hn' fun b o hb z=>?_
 exact (hs'.2 b (Nat.ne_of_lt (Heap.lt_size z))).trans ((Heap.get?_update_ne _ _ _ _ hb).trans (Heap.get?_push_of_some _ z))
end
end XE
namespace XE
open PySem PySem.Spec PyProof.Rows L2
theorem yX {h:Heap} {o u:Obj} {b:Addr} (ne:b≠h.objs.size) (z:(h.push o).get? b=some u):h.get? b=some u:=by
 obtain ⟨z1,z2⟩:=Heap.get?_some_iff.mp z
 refine Heap.get?_some_iff.mpr ⟨?_,z2⟩
 have z3:(h.objs.push o)[b]? = some u:=z1
 rw [Array.getElem?_push,if_neg ne] at z3
 exact z3
section
variable {X:Cx} {C R:Addr}
def sXf (C:Addr) (i:Nat) (tv:TE) (f:Str):TS:=fun D σ H=>tv σ H fun y H1=>∃ a,σ[i]? = some (some (.ref a))∧H1 a=some (.ext (XAt a C none)) ∧
 ∀ dx,H1 dx=none→dx≠a→D.nx σ (upd (upd H1 dx (.xd [(f,y)])) a (.ext (XAt a C (some dx))))
theorem CP {i:Nat} {o value:Expr} {tv:TE} {f:Str} {pos pos':Pos} (c:XCl X.K C (.ref R::vE)) (hs:PySem.W.findIn X.K (.ref C) "__setattr__" = some (some (.builtin "object.__setattr__"))) (hn:PySem.W.findIn X.K (.ref C) f=some none)
  (ho:PE X o (dJ i)) (hv:PE X value tv) (hw:swapsWith value (some (.Attribute o f pos')) pos.line X.env=pure false:=by rfl):PS X (.Assign [.Attribute o f pos'] value pos) (sXf C i tv f):=by
 intro pins s σ H D I h
 refine plainObj_wpAny_Assign_Attribute (thn (hv pins s σ H _ I h) fun u s1 ⟨y,H1,I1,ry,a,h0,ha,q⟩=>thn (ho pins s1 σ H1 (fun v H'=>v=.ref a∧H'=H1) I1 ⟨_,h0,rfl,rfl⟩) fun ov s2 ⟨x,H2,I2,rx,ex,eh⟩=>?_) hw
 subst ex eh
 obtain rfl:ov=Value.ref a:=rx
 obtain ⟨t,hat⟩:=XAt.of I2.hok ha
 obtain ⟨hp,g,d,tk,os⟩:=s2
 refine DC (v:=u) I2.kIn c hs hn hat fun h' tk' k1 k2 k3=>?_
 have fr:H2 hp.objs.size=none:=I2.hok.fresh (Nat.le_refl _)
 have ne:hp.objs.size≠a:=Nat.ne_of_gt (Heap.lt_size hat)
 obtain ⟨od,es,ep,e1,e2⟩:=k2
 have nf:=(Heap.get?_some_iff.mp e1).2
 have up:∀ b o,hp.get? b=some o→(hp.push od).get? b=some o:=fun b o z=>Heap.get?_push_of_some _ z
 have I3:=I2.laid (h':=hp.push od) (a:=hp.objs.size) (o:=.xd [(f,y)]) (t':=tk') up (Nat.le_refl _) ⟨_,⟨od,es,ep,Heap.get?_push_at rfl nf,e2⟩,fun z=>by
  show RelO (List.lookup z [(f,y)]) (if z=f then some u else none)
  simp only [List.lookup]
  by_cases q:z=f
  ·subst q; simp; exact ry
  ·rw [if_neg q]
   have:(z == f)=false:=by simpa using q
   rw [this]
   trivial⟩
 have I4:=I3.write (x:=a) (e:=a) (o:=.ext (XAt a C (some hp.objs.size))) (h':=h') (t':=tk') (by rw [aR ne.symm,ha]; trivial) (.inl rfl) (fun b u hb z=>?_) ⟨_,k1⟩ (XAt.ok ⟨t,k1⟩)
 ·exact ⟨σ,_,I4,q _ fr ne⟩
 ·by_cases e:b=hp.objs.size
  ·subst e
   have z':(hp.push od).get? hp.objs.size=some u:=z
   rw [Heap.get?_push_at rfl nf] at z'
   cases z'
   exact e1
  ·refine k3 b u hb ?_
   exact yX e z
end
end XE
namespace XE
open PySem PySem.Spec PyProof.Rows L2
def spI (C:Addr) (f:Str):Sp:=fun vs H Q _=>∃ a x,vs=[.ref a,.str x]∧H a=some (.ext (XAt a C none))∧(reprText x).length + 1000≤sizeLine ∧
 ∀ dx,H dx=none→dx≠a→Q .non (upd (upd H dx (.xd [(f,.str x)])) a (.ext (XAt a C (some dx))))
theorem zu {C:Addr} {f z:Str} {N:List Str} {vs:List V} {H:Hp} {Q:VK} {E:XK} (hz:z.length≤1000) (h:spI C f vs H Q E) :
  ur (tj (ut C (tFs 1 z))) (sXf C 0 (dJ 1) f) { nx:=fun _ H'=>Q .non H',rt:=Q } (start N vs) H:=by
 obtain ⟨a,x,rfl,ha,hr,q⟩:=h
 refine ⟨a,rfl,x,rfl,by omega,by omega,fun y=>⟨ha,?_⟩⟩
 exact ⟨.str x,rfl,a,rfl,ha,fun dx h1 h2=>q dx h1 h2⟩
structure XIni (P:Program) (w:World) (K:Frag) (mg:Str→Option Value) (base:Heap) (C R:Addr) (f:Str) (k:Nat):Prop where
 ex:∃ fI fd ps,FnOk P w K mg base CX0 k fI fd ps (spI C f)∧Binds K fd ps []∧PySem.W.findIn K (.ref C) "__init__" = some (some (.ref fI))∧PySem.W.isFn K (.ref fI)=true
 c:XCl K C (.ref R::vE)
 r:XCl K R vE
 ri:PySem.W.ownIn K "__init__" (.ref R)=some none
 kp:PySem.W.keepIn K (.ref C)=true
def tXm (n0:Nat) (C:Addr) (f:Str) (te:TE):TE:=fun σ H Q=>te σ H fun v H1=>∃ x,v=.str x∧(reprText x).length + 1000≤sizeLine ∧
 ∀ a dx,n0≤a→H1 a=none→H1 dx=none→dx≠a→Q (.ref a) (upd (upd H1 dx (.xd [(f,.str x)])) a (.ext (XAt a C (some dx))))
section
variable {X:Cx} {C R:Addr} {f:Str} {k:Nat}
theorem vh {H:Hp} {a dx:Addr} {o u v:HO} (h:dx≠a):upd (upd (upd H a o) dx u) a v=upd (upd H dx u) a v:=by
 funext b
 unfold upd
 by_cases e:b=a
 ·rw [if_pos e,if_pos e]
 ·rw [if_neg e,if_neg e,if_neg e]
theorem BA {cn:Str} {e:Expr} {te:TE} {p pos:Pos} (G:XIni X.prog X.w X.K X.mg X.base C R f k) (hr:Room (k + 1) X.A) (hg:Gl X cn) (hm:X.mg cn=some (.ref C)) (he:PE X e te)
  (hdb:(cn == ("__debug__" : Str))=false:=by decide) (hs:starEach [e] X.env=[(false,eval e X.env)]:=by rfl) :
  PE X (.Call (.Name cn p) [e] [] pos) (tXm X.s₀.heap.objs.size C f te):=by
 intro pins s σ H Q I h
 obtain ⟨fI,fd,ps,F,hb,hi,hf⟩:=G.ex
 refine wpAny_Call_Name_kw (ig I hg hm ?_ hdb)
 have pa:PA X [e] (jd te kX):=bu he bX (by rw [hs]; rfl)
 have hA:=pa pos pins s σ H (fun vs H1=>match vs with
  | [v]=>∃ x,v=.str x∧(reprText x).length + 1000≤sizeLine∧∀ a dx,X.s₀.heap.objs.size≤a→H1 a=none→H1 dx=none→dx≠a→Q (.ref a) (upd (upd H1 dx (.xd [(f,.str x)])) a (.ext (XAt a C (some dx))))
  | _=>False) I h
 refine PySem.W.callWith_K (h₀:=X.base) I.ok.mod.kin G.kp (thn hA fun us s1 ⟨vs,H1,I1,r1,q⟩=>⟨I1.kIn,?_⟩) (by rw [hs]; rfl) rfl
 dsimp only at q
 split at q
 ·obtain ⟨x,rfl,hx,q⟩:=q
  obtain ⟨u,us1,rfl,r2,r3⟩:∃ a b,us=a::b∧RelV (.str x) a∧Vals [] b:=by cases r1 with | cons a b=>exact ⟨_,_,rfl,a,b⟩
  cases r3
  have I1':=I1
  obtain ⟨hp,g,d,tk,os⟩:=s1
  refine Cu I1.kIn G.c G.r G.ri hi hf (show 1≤sizeLine by decide) fun h' a hm' hge=>?_
  obtain ⟨t,m1,m2,m3⟩:=hm'.there
  have fr:H1 a=none:=I1.hok.fresh hge
  have I2:=I1'.laid (h':=h') (a:=a) (o:=.ext (XAt a C none)) (t':=tk) hm'.keeps hge (XAt.ok ⟨t,m1⟩)
  have hl:(Value.ref a::[u]).length=ps.length:=by
   have:=F.len [.ref a,.str x] (upd H1 a (.ext (XAt a C none))) (fun v H2=>True) E0 ⟨a,x,rfl,bh,hx,fun _ _ _=>trivial⟩
   simpa using this
  have hb':=hb ⟨h',g,d,tk,os⟩ [.ref a,u] I2.kIn (by simpa using hl)
  refine wpAny_call (codeAny_mono (F.run _ X.stack ⟨h',g,d,tk,os⟩ (upd H1 a (.ext (XAt a C none))) ⟨[.ref a,u],[]⟩ [.ref a,u] [.ref a,.str x] (fun v H2=>v=.non∧Q (.ref a) H2) E0 ?_ (I2.env0.make C [u] []) (by simpa using hb') (.cons rfl (.cons r2 .nil)) ⟨a,x,rfl,bh,hx,fun dx h1 h2=>⟨rfl,?_⟩⟩) fun r s' hq=>?_)
  ·exact hr.make C [u] []
  ·rw [vh h2]
   have h1':H1 dx=none:=by rw [aR h2] at h1; exact h1
   exact q a dx (Nat.le_trans I1.sz hge) fr h1' h2
  ·cases r with
   | error e=>exact False.elim hq
   | ok fl=>
    cases fl with
    | ret u'=>
     obtain ⟨v,H3,I3,rv,ev,q'⟩:=I2.after hq
     subst ev
     exact ⟨rv,.ref a,H3,I3,rfl,q'⟩
    | next=>exact False.elim hq
    | brk=>exact False.elim hq
    | cont=>exact False.elim hq
 ·exact False.elim q
end
end XE
namespace XE
open PySem PySem.Spec PyProof.Rows L2
structure Kp (xs fs:List Addr) (h h':Heap):Prop where
 keep:∀ b o,h.get? b=some o→b∉xs→b∉fs→h'.get? b=some o
 slot:∀ b o,h.get? b=some o→b∉xs→b∈fs→∃ sl,h'.get? b=some { o with slots:=sl }
 there:∀ b o,h.get? b=some o→∃ o',h'.get? b=some o'
theorem Kp.trans {xs fs:List Addr} {h h1 h2:Heap} (a:Kp xs fs h h1) (b:Kp xs fs h1 h2):Kp xs fs h h2 where
 keep:=fun c o q n m=>b.keep c o (a.keep c o q n m) n m
 slot:=fun c o q n m=>let ⟨_,e⟩:=a.slot c o q n m; let ⟨sl,e2⟩:=b.slot c _ e n m; ⟨sl,e2⟩
 there:=fun c o q=>let ⟨_,e⟩:=a.there c o q; b.there c _ e
theorem Kp.more {xs ys fs:List Addr} {h h':Heap} (a:Kp xs fs h h') (k:∀ x∈xs,x∈ys):Kp ys fs h h':=⟨fun b o q n m=>a.keep b o q (fun z=>n (k b z)) m,fun b o q n m=>a.slot b o q (fun z=>n (k b z)) m,a.there⟩
theorem Kp.fun_ {xs fs:List Addr} {h h' base:Heap} {l:List Env} (a:Kp xs fs h h') (n:∀ x∈xs,∃ o vs,h.get? x=some o∧o.data=.fields vs) (f:h.FunFrames base l):h'.FunFrames base l:=by
 refine f.of_keeps fun b o q nf=>?_
 have hx:b∉xs:=fun z=>by
  obtain ⟨o',vs,e1,e2⟩:=n b z
  rw [q] at e1
  cases e1
  exact nf vs e2
 by_cases hb:b∈fs
 ·obtain ⟨sl,e⟩:=a.slot b o q hx hb
  exact ⟨_,e,rfl⟩
 ·exact ⟨o,a.keep b o q hx hb,rfl⟩
def XR (e C dx:Addr) (tb:Value) (h:Heap):Prop:=∃ t,h.get? e=some { cls:=.ref C,dict:=some dx,data:=.fields #[.ref t,tb,.none,.none,.bool false,.none] }
def TB (T:Addr) (fl:Value) (h:Heap):Prop:=∃ oT ts,h.get? T=some oT∧oT.data=.fields ts∧ts[3]? = some fl
section
variable {M:Model} {A:Around} {E:Value→Shared→Prop} {s:Shared} {base:Heap} {env:Env} {outer:List Env} {L e C dx T:Addr}
theorem qQ {head tb:Value} {hn:Bool} {Q:Unit→Shared→Prop} (hfr:A.frames=some (env::outer)) (hl:s.heap.FunFrames base (env::outer)) (hf:env.frame=some L) (hx:XR e C dx tb s.heap)
  (k:∀ h' T,s.heap.objs.size≤T→XR e C dx (.ref T) h'→TB T (rawInt L) h'→T≠e→Kp [e] (frs (env::outer)) s.heap h'→Q () { s with heap:=h' }) :
  wpAny M A (do let a ← frameOf env; let pl ← entryPlaceOf L hn; let b ← EntryCells.newEntry head a .none (rawInt L) .none pl; setField (.ref e) 1 b) Q E s:=by
 obtain ⟨t,he⟩:=hx
 have hen:e∉(env::outer).filterMap (·.frame):=fun hm=>by
  obtain ⟨_,o,ho,hnf⟩:=hl.mem hm
  rw [he] at ho
  cases ho
  exact hnf _ rfl
 refine wpAny_bind (wpAny_frameOf_fun hfr hl hf fun h1 hs=>?_)
 refine wpAny_bind (wpAny_entryPlaceOf fun pl hpl=>?_)
 unfold EntryCells.newEntry newFields
 refine wpAny_bind (wpAny_newObj_type ?_ (hpl.sizeOk5 _ _ _ _ _))
 have he1:=(hs.2.1 e hen).trans he
 generalize eo:(Obj.mk (.type "traceback") none (.fields ([head,.ref L,.none,rawInt L,.none]++(if pl.isEmpty then List.replicate 6 Value.none else pl)).toArray) #[])=oT
 have eT:oT.data=.fields ([head,.ref L,.none,rawInt L,.none]++(if pl.isEmpty then List.replicate 6 Value.none else pl)).toArray:=by rw [← eo]
 have he2:=Heap.get?_push_of_some (h:=h1) oT he1
 refine wpAny_setField he2 rfl (by simp) ?_
 have ne:h1.objs.size≠e:=Nat.ne_of_gt (Heap.lt_size he1)
 have sz:h1.objs.size=s.heap.objs.size:=hs.1
 refine k _ h1.objs.size (by rw [sz]; exact Nat.le_refl _) ⟨t,?_⟩ ⟨oT,_,?_,eT,by simp⟩ ne ⟨fun b o q n m=>?_,fun b o q n m=>?_,fun b o q=>?_⟩
 ·rw [Heap.get?_update_self _ he2 rfl]
  rfl
 ·rw [Heap.get?_update_other _ _ ne.symm]
  exact Heap.get?_push_at rfl (Obj.isFreed_of_fields eT)
 ·rw [Heap.get?_update_other _ _ (fun z=>n (by simp [z]))]
  exact Heap.get?_push_of_some _ ((hs.2.1 b m).trans q)
 ·obtain ⟨sl,q'⟩:=hs.2.2 b o q
  refine ⟨sl,?_⟩
  rw [Heap.get?_update_other _ _ (fun z=>n (by simp [z]))]
  exact Heap.get?_push_of_some _ q'
 ·by_cases hb:b=e
  ·subst hb
   exact ⟨_,Heap.get?_update_self _ he2 rfl⟩
  ·obtain ⟨sl,q'⟩:=hs.2.2 b o q
   exact ⟨_,(Heap.get?_update_other _ _ (Ne.symm hb)).trans (Heap.get?_push_of_some _ q')⟩
theorem xn {Q:Unit→Shared→Prop} (hfr:A.frames=some (env::outer)) (hl:s.heap.FunFrames base (env::outer)) (hf:env.frame=some L) (hx:XR e C dx .none s.heap)
  (k:∀ h' T,s.heap.objs.size≤T→XR e C dx (.ref T) h'→TB T (rawInt L) h'→T≠e→Kp [e] (frs (env::outer)) s.heap h'→Q () { s with heap:=h' }):wpAny M A (noteFrame (.ref e) env) Q E s:=by
 obtain ⟨t,he⟩:=id hx
 unfold noteFrame
 simp only [hf]
 refine wpAny_bind (wpAny_field he rfl (x:=.none) rfl ?_)
 rw [if_neg (by decide)]
 exact qQ hfr hl hf hx k
theorem mV {fl:Value} {Q:Unit→Shared→Prop} (hx:XR e C dx (.ref T) s.heap) (ht:TB T fl s.heap) (ne:T≠e) (k:∀ h',XR e C dx (.ref T) h'→TB T .none h'→Kp [T] [] s.heap h'→Q () { s with heap:=h' }) :
  wpAny M A (setFlight (.ref e) none) Q E s:=by
 obtain ⟨t,he⟩:=hx
 obtain ⟨oT,ts,hT,hd,h3⟩:=ht
 have sz:=(Array.getElem?_eq_some_iff.mp h3).1
 unfold setFlight
 refine wpAny_bind (wpAny_field he rfl (x:=.ref T) rfl ?_)
 rw [if_pos (show (Value.ref T != Value.none)=true from by simp)]
 have dt:=Obj.data_mapFields hd (·.setIfInBounds 3 Value.none)
 have self:=Heap.get?_update_self (Obj.mapFields (·.setIfInBounds 3 Value.none)) hT (Obj.isFreed_of_fields dt)
 refine wpAny_setField hT hd sz (k _ ⟨t,?_⟩ ⟨_,_,self,dt,by simp [sz]⟩ ⟨fun b o q n _=>?_,fun b o q n m=>absurd m (by simp),fun b o q=>?_⟩)
 ·rw [Heap.get?_update_other _ _ ne]
  exact he
 ·rw [Heap.get?_update_other _ _ (fun z=>n (by simp [z]))]
  exact q
 ·by_cases hb:T=b
  ·subst hb; exact ⟨_,self⟩
  ·exact ⟨o,by rw [Heap.get?_update_other _ _ hb]; exact q⟩
theorem Aw {Q:Unit→Shared→Prop} (hfr:A.frames=some (env::outer)) (hl:s.heap.FunFrames base (env::outer)) (hf:env.frame=some L) (hx:XR e C dx (.ref T) s.heap) (ht:TB T .none s.heap) (ne:T≠e)
  (k:∀ h' T',s.heap.objs.size≤T'→XR e C dx (.ref T') h'→TB T' (rawInt L) h'→T'≠e→Kp [e,T] (frs (env::outer)) s.heap h'→Q () { s with heap:=h' }):wpAny M A (noteFrame (.ref e) env) Q E s:=by
 obtain ⟨t,he⟩:=id hx
 obtain ⟨oT,ts,hT,hd,h3⟩:=id ht
 have sz:=(Array.getElem?_eq_some_iff.mp h3).1
 unfold noteFrame
 simp only [hf]
 refine wpAny_bind (wpAny_field he rfl (x:=.ref T) rfl ?_)
 rw [if_pos (show (Value.ref T != Value.none)=true from by simp)]
 refine wpAny_bind (wpAny_field hT hd h3 ?_)
 rw [if_neg (show ¬ ((Value.none == rawInt L)=true) from by simp [rawInt])]
 have dt:=Obj.data_mapFields hd (·.setIfInBounds 3 Value.none)
 have self:=Heap.get?_update_self (Obj.mapFields (·.setIfInBounds 3 Value.none)) hT (Obj.isFreed_of_fields dt)
 have kp:Kp [e,T] (frs (env::outer)) s.heap (s.heap.update T (Obj.mapFields (·.setIfInBounds 3 Value.none))):=by
  refine ⟨fun b o q n _=>?_,fun b o q n m=>⟨o.slots,?_⟩,fun b o q=>?_⟩
  ·rw [Heap.get?_update_other _ _ (fun z=>n (by simp [z]))]
   exact q
  ·rw [Heap.get?_update_other _ _ (fun z=>n (by simp [z]))]
   exact q
  ·by_cases hb:T=b
   ·subst hb; exact ⟨_,self⟩
   ·exact ⟨o,by rw [Heap.get?_update_other _ _ hb]; exact q⟩
 have fn:=kp.fun_ (fun x hx=>by
  rcases List.mem_cons.mp hx with z | z
  ·exact ⟨_,_,z ▸ he,rfl⟩
  ·exact ⟨_,_,(List.mem_singleton.mp z) ▸ hT,hd⟩) hl
 refine wpAny_bind (wpAny_setField hT hd sz ?_)
 refine qQ (base:=base) hfr fn hf ⟨t,by rw [Heap.get?_update_other _ _ ne]; exact he⟩ fun h' T' g1 g2 g3 g4 g5=>?_
 refine k h' T' ?_ g2 g3 g4 (kp.trans (g5.more fun x hx=>by simp at hx; simp [hx]))
 have:(s.heap.update T (Obj.mapFields (·.setIfInBounds 3 Value.none))).objs.size=s.heap.objs.size:=by first | exact Heap.size_update _ _ _ | simp
 rw [← this]
 exact g1
end
end XE
namespace XE
open PySem PySem.Spec PyProof.Rows L2
def forget (a:Addr) (H:Hp):Hp:=fun b=>if b=a then none else H b
theorem fR {a b:Addr} {H:Hp} (h:b≠a):forget a H b=H b:=by unfold forget; rw [if_neg h]
theorem nZ {a:Addr} {H:Hp}:forget a H a=none:=by unfold forget; rw [if_pos rfl]
theorem xx {a:Addr} {H:Hp} {o:HO} (h:H a=none):forget a (upd H a o)=H:=by
 funext b
 unfold forget upd
 by_cases e:b=a
 ·rw [if_pos e,e,h]
 ·rw [if_neg e,if_neg e]
theorem CB {fs fs' xs:List Addr} {H0 H2:Hp} {h0 h2 h3:Heap} {a:Addr} {φ:Heap→Prop} (u:Un fs [] H0 H2 h0 h2) (k:Kp xs fs' h2 h3) (nx:∀ x∈xs,h0.objs.size≤x) (nf:∀ x∈fs',x∈fs∨h0.objs.size≤x) (ha:H2 a=some (.ext φ)) :
  Un fs [] H0 (forget a H2) h0 h3:=by
 have lt:∀ {b:Addr} {o:Obj},h0.get? b=some o→b < h0.objs.size:=fun e=>Heap.lt_size e
 have nx':∀ {b:Addr} {o:Obj},h0.get? b=some o→b∉xs:=fun e z=>Nat.lt_irrefl _ (Nat.lt_of_lt_of_le (lt e) (nx _ z))
 refine ⟨fun b o q n m x=>?_,fun b o q n m x=>?_,fun b o q n x=>?_,fun b o q x=>?_,fun b xs e=>?_,fun b o u' e=>?_,fun b ps e=>?_⟩
 ·refine k.keep b o (u.keep b o q n m x) (nx' q) fun z=>?_
  rcases nf b z with z | z
  ·exact m z
  ·exact Nat.lt_irrefl _ (Nat.lt_of_lt_of_le (lt q) z)
 ·obtain ⟨sl,e⟩:=u.slot b o q n m x
  by_cases z:b∈fs'
  ·obtain ⟨sl',e'⟩:=k.slot b _ e (nx' q) z
   exact ⟨sl',e'⟩
  ·exact ⟨sl,k.keep b _ e (nx' q) z⟩
 ·have e:=u.free b o q n x
  rw [fR (fun z=>by rw [z,ha] at e; cases e)]
  exact e
 ·obtain ⟨o',e⟩:=u.there b o q x
  exact k.there b o' e
 ·have e':=u.tups b xs e
  rw [fR (fun z=>by rw [z,ha] at e'; cases e')]
  exact e'
 ·have e':=u.frzs b o u' e
  rw [fR (fun z=>by rw [z,ha] at e'; cases e')]
  exact e'
 ·obtain ⟨more,e'⟩:=u.tbls b ps e
  refine ⟨more,?_⟩
  rw [fR (fun z=>by rw [z,ha] at e'; cases e')]
  exact e'
theorem B8 {P:Program} {w:World} {xs fs:List Addr} {H:Hp} {h h':Heap} {a:Addr} {φ:Heap→Prop} (x:HOk P w H h) (k:Kp xs fs h h') (nx:∀ y∈xs,y=a∨H y=none) (nf:∀ y∈fs,H y=none) (ha:H a=some (.ext φ)):HOk P w (forget a H) h':=by
 intro b o e
 have nb:b≠a:=fun z=>by rw [z,nZ] at e; cases e
 rw [fR nb] at e
 refine (x b o e).stay (fun c u hc q=>?_) (fun c q=>?_) fun c ys q=>?_
 ·have tr:∃ v,H c=some v∧c≠a:=by
   rcases hc with rfl | hc
   ·exact ⟨_,e,nb⟩
   ·exact ⟨_,hc,fun z=>by rw [z,ha] at hc; cases hc⟩
  obtain ⟨v,t1,t2⟩:=tr
  refine k.keep c u q (fun z=>?_) fun z=>?_
  ·rcases nx c z with z | z
   ·exact t2 z
   ·rw [t1] at z; cases z
  ·have:=nf c z
   rw [t1] at this; cases this
 ·rw [fR (fun z=>by rw [z,ha] at q; cases q)]; exact q
 ·rw [fR (fun z=>by rw [z,ha] at q; cases q)]; exact q
def CXx (P:Program) (w:World):CXT:=fun outer H s E v s'=>∃ e C dx T H',v=.ref e∧s'.os=s.os∧AllBare s'.gens∧Un (frs outer) [] H H' s.heap s'.heap∧HOk P w H' s'.heap∧s.heap.objs.size≤e∧s.heap.objs.size≤T∧T≠e ∧
 XR e C dx (.ref T) s'.heap∧TB T .none s'.heap∧H' e=none∧H' T=none∧E (.ref C) (some dx) H'
section
variable {P:Program} {w:World} {K:Frag} {mg:Str→Option Value} {base:Heap} {N:List Str} {qual:Str} {scope:Scope} {f C R:Addr} {cdv:Value} {A:Around} {outer:List Env} {s0:Shared} {H0:Hp} {E:XK}
def rR (n0:Nat) (C:Addr) (E:XK) (te:TE):TS:=fun _ σ H=>te σ H fun v H2=>∃ a dx,v=.ref a∧n0≤a∧H2 a=some (.ext (XAt a C (some dx)))∧E (.ref C) (some dx) (forget a H2)
theorem y3 {e:Expr} {te:TE} {pos:Pos} (c:XCl K C (.ref R::vE)) (he:PE (d8 (CXx P w) P w K mg base N qual scope f cdv A outer s0 H0 E) e te) :
  PS (d8 (CXx P w) P w K mg base N qual scope f cdv A outer s0 H0 E) (.Raise (some e) none pos) (rR s0.heap.objs.size C E te):=by
 intro pins s σ H D I h
 rw [arm_exec_Raise]
 refine wpAny_bind (wpAny_standAt ?_)
 simp only [evalOpt,Option.map]
 unfold raiseStmt
 refine wpAny_bind (wpAny_bind (thn (he pins s σ H _ I h) fun v s2 ⟨x,H2,I2,r2,a,dx,ex,ge,ha,q⟩=>wpAny_bind (wpAny_standAt (wpAny_pure ?_))))
 subst ex
 obtain rfl:v=.ref a:=r2
 obtain ⟨t,hat⟩:=XAt.of I2.hok ha
 obtain ⟨nm,qn,Nn,bs,sn,sub,ab,col,dd,k0,k1,k2,k3,k5,l,_⟩:=c
 have hC:=I2.kIn _ _ l
 have hcB:(Value.ref C::Value.ref R::vE).contains (.type "BaseException")=true:=by simp
 have hh:=I2.ok.hd rfl
 have st:=I2.env0
 have un:Un (frs outer) [] H0 H2 s0.heap s2.heap:=I2.base
 have osq:s2.os=s0.os:=I2.os
 have bare:=I2.bare
 have ab':s0.heap.objs.size≤s0.heap.objs.size:=Nat.le_refl _
 have sz:s0.heap.objs.size≤s2.heap.objs.size:=I2.sz
 have hok:HOk P w H2 s2.heap:=I2.hok
 have fin:(d8 (CXx P w) P w K mg base N qual scope f cdv A outer s0 H0 E).xe (.ref a) s2:=by
  show wpAny (model P w) (A.deeper (envOfC qual scope s0.heap.objs.size f cdv)) (leaving (envOfC qual scope s0.heap.objs.size f cdv) (.ref a)) (fun _ s''=>CXx P w outer H0 s0 E (.ref a) s'') (fun e' s''=>CXx P w outer H0 s0 E e' s'') s2
  unfold leaving
  refine wpAny_bind (xn (base:=base) (outer:=outer) (C:=C) (dx:=dx) st.frames st.funs rfl ⟨t,hat⟩ fun h3 T g1 g2 g3 g4 g5=>?_)
  refine mV g2 g3 g4 fun h4 j1 j2 j3=>?_
  have kp:Kp [a,T] (frs (envOfC qual scope s0.heap.objs.size f cdv::outer)) s2.heap h4:=by
   refine (g5.more fun x hx=>by simp at hx; simp [hx]).trans ?_
   refine ⟨fun b o q n _=>j3.keep b o q (fun z=>n (by simp at z; simp [z])) (by simp),fun b o q n m=>⟨o.slots,?_⟩,j3.there⟩
   exact j3.keep b o q (fun z=>n (by simp at z; simp [z])) (by simp)
  have hT:H2 T=none:=hok.fresh g1
  refine ⟨a,C,dx,T,forget a H2,rfl,osq,bare,CB un kp (fun x hx=>?_) (fun x hx=>?_) ha,B8 hok kp (fun y hy=>?_) st.frf ha,ge,Nat.le_trans sz g1,g4,j1,j2,nZ,?_,q⟩
  ·simp at hx
   rcases hx with rfl | rfl
   ·exact ge
   ·exact Nat.le_trans sz g1
  ·have hx':x∈frs (envOfC qual scope s0.heap.objs.size f cdv::outer):=hx
   unfold frs at hx'
   rw [List.filterMap_cons] at hx'
   have hfr:(envOfC qual scope s0.heap.objs.size f cdv).frame=some s0.heap.objs.size:=rfl
   rw [hfr] at hx'
   rcases List.mem_cons.mp hx' with z | z
   ·exact .inr (Nat.le_of_eq z.symm)
   ·exact .inl z
  ·simp at hy
   rcases hy with rfl | rfl
   ·exact .inl rfl
   ·exact .inr hT
  ·rw [fR g4]; exact hT
 obtain ⟨hp,g,d,tk,os⟩:=s2
 repeat (first | with_reducible refine wpAny_loadPart_at hat ?_ | with_reducible refine wpAny_loadPart_at hC ?_ | wp_step)
 refine wpAny_isSubtype_exc hC ?_
 rw [hcB]
 repeat (first | with_reducible refine wpAny_loadPart_at hat ?_ | with_reducible refine wpAny_loadPart_at hC ?_ | wp_step)
 exact wpAny_raiseNew_none hh fin
end
end XE
namespace XE
open PySem PySem.Spec PyProof.Rows L2
section
variable {X:Cx} {pins:List (Addr×Obj)} {σ:L2.St} {H:Hp} {s:Shared}
theorem name_goes {A:Around} {E:Value→Shared→Prop} {i:Nat} {n:Str} {pos:Pos} {Q:Unit→Shared→Prop} (I:L2.Inv X pins σ H s) (hN:X.N.Nodup) (hi:X.N[i]? = some n) (hl:X.env.scope.names.lookup n=some .local)
  (k:∀ s',L2.Inv X pins (σ.set i none) H s'→Q () s'):wpAny (model X.prog X.w) A (do bindName X.env n .none; unbindBehindTheSuite X.env n pos) Q E s:=by
 obtain ⟨m,hn,hm⟩:=id I.loc
 have hp:(X.env.scope.kind == .class || (X.env.scope.kind == .module && X.env.locals != X.env.globals))=false:=by rw [I.ok.kind]; rfl
 have hk:X.env.kindOf n=some .local:=hl
 refine wpAny_bind (wpAny_bindName (wpAny_storeName_local hk hn (fun h1 hn1 hs1=>?_) hp))
 unfold unbindBehindTheSuite
 refine wpAny_onRaise ?_
 unfold unbindName
 refine wpAny_bind (wpAny_point (wpAny_bind ?_))
 unfold deleteName
 simp only [hk,hp]
 rw [if_neg (by decide)]
 refine wpAny_bind (wpAny_nsDel_keeps hn1 fun h2 v hn2 hs2=>?_)
 simp only [if_true,Option.isSome_some,Bool.not_true,Bool.false_eq_true,if_false]
 refine wpAny_pure (wpAny_point (k _ ?_))
 have hs:=hs1.trans hs2
 have cne:=I.cne
 obtain ⟨oL,_,_,hoL,_⟩:=id hn
 have hiσ:i < σ.length:=by rw [I.len]; exact (List.getElem?_eq_some_iff.mp hi).1
 refine ⟨I.ok,I.os,I.bare,⟨fun b o e n hb hx=>?_,fun b o e n hb hx=>?_,I.base.free,fun b o e hx=>?_,I.base.tups,I.base.frzs,I.base.tbls⟩,⟨_,hn2,fun j y v' e1 e2 e3=>?_⟩,fun y c e=>?_,I.free,I.freeC,fun p hp=>?_,fun b ob e=>?_,by simpa using I.len⟩
 ·exact (hs.2 b (Nat.ne_of_lt (Nat.lt_of_lt_of_le (Heap.lt_size e) I.ok.above))).trans (I.base.keep b o e n hb hx)
 ·obtain ⟨sl,e1⟩:=I.base.slot b o e n hb hx
  exact ⟨sl,(hs.2 b (Nat.ne_of_lt (Nat.lt_of_lt_of_le (Heap.lt_size e) I.ok.above))).trans e1⟩
 ·obtain ⟨o',e1⟩:=I.base.there b o e hx
  exact ⟨o',(hs.2 b (Nat.ne_of_lt (Nat.lt_of_lt_of_le (Heap.lt_size e) I.ok.above))).trans e1⟩
 ·by_cases hj:j=i
  ·subst hj
   rw [List.getElem?_set_self hiσ] at e2
   cases e2
  ·rw [List.getElem?_set_ne (Ne.symm hj)] at e2
   obtain ⟨u',r',q⟩:=hm j y v' e1 e2 e3
   refine ⟨u',r',?_⟩
   rcases q with ⟨k,e⟩ | ⟨k,c,e,z⟩
   ·refine .inl ⟨k,?_⟩
    have:y≠n:=fun e=>hj (lY hN e1 (e ▸ hi))
    simp [this,e]
   ·exact .inr ⟨k,c,e,z.sameBut hs (cne y c e)⟩
 ·obtain ⟨w',z⟩:=I.cell y c e
  exact ⟨w',z.sameBut hs (cne y c e)⟩
 ·obtain ⟨e,n,ne,nf,d⟩:=I.pin p hp
  exact ⟨(hs.2 p.1 ne).trans e,n,ne,nf,d⟩
 ·refine (I.hok b ob e).stay (fun c w' hc q=>(hs.2 c ?_).trans q) (fun _ q=>q) fun _ _ q=>q
  rintro rfl
  rcases hc with rfl | hc
  ·rw [I.free] at e; cases e
  ·rw [I.free] at hc; cases hc
def fY (X:Cx) (e:Addr) (oe:Obj):Cx:={ X with A:=X.A.mark (some (.ref e)),calm:=false,pn:=(e,oe)::X.pn,xe:=fun _ _=>False }
theorem yH {e:Addr} {oe:Obj} (ok:X.Ok):(fY X e oe).Ok:=⟨ok.mod,ok.kind,ok.glob,ok.blt,ok.above,ok.inj,ok.has,ok.cab,fun z=>(nomatch z),ok.frames,ok.stk,ok.exf,ok.bs,ok.bsz,ok.noex,ok.exfs,ok.funs,ok.frf⟩
theorem oB {e:Addr} {oe:Obj} (I:L2.Inv X pins σ H s) (h:s.heap.get? e=some oe∧H e=none∧e≠X.env.locals∧e∉X.fs∧∀ v,oe.data≠.cell v):L2.Inv (fY X e oe) pins σ H s:=
 ⟨yH I.ok,I.os,I.bare,I.base,I.loc,I.cell,I.free,I.freeC,fun p hp=>by
  have hp:p∈(e,oe)::(X.pn++pins):=hp
  rcases List.mem_cons.mp hp with z | z
  ·rw [z]; exact h
  ·exact I.pin p z,I.hok,I.len⟩
theorem jy {e:Addr} {oe:Obj} (ok:X.Ok) (I:L2.Inv (fY X e oe) pins σ H s):L2.Inv X pins σ H s:=⟨ok,I.os,I.bare,I.base,I.loc,I.cell,I.free,I.freeC,fun p hp=>I.pin p (List.mem_cons_of_mem _ hp),I.hok,I.len⟩
theorem ye {M:Model} {A:Around} {E:Value→Shared→Prop} {K:Frag} {C R e:Addr} {oe:Obj} {Q:Bool→Shared→Prop} (x:K.In s.heap) (c:XCl K C (.ref R::vE)) (r:XCl K R vE) (he:s.heap.get? e=some oe) (hc:oe.cls=.ref C) (q:Q true s) :
  wpAny M A (excMatches (.ref e) (.ref R)) Q E s:=by
 obtain ⟨nm,qn,N,bs,sn,sub,ab,col,dd,k0,k1,k2,k3,k5,l,_⟩:=c
 obtain ⟨nm',qn',N',bs',sn',sub',ab',col',dd',k0',k1',k2',k3',k5',l',_⟩:=r
 have hC:=x _ _ l
 have hR:=x _ _ l'
 have c1:(Value.ref R::vE).contains (.type "BaseException")=true:=by simp
 have c2:(Value.ref C::Value.ref R::vE).contains (.ref R)=true:=by simp
 have f:=tc_notTuple
 obtain ⟨hp,g,d,tk,os⟩:=s
 unfold excMatches
 repeat (first | (with_reducible refine wpAny_loadPart_at he ?_; rw [hc]) | with_reducible refine wpAny_loadPart_at hR ?_ | wp_step)
 refine wpAny_isSubtype_exc hR ?_
 rw [c1]
 repeat (first | (with_reducible refine wpAny_loadPart_at he ?_; rw [hc]) | with_reducible refine wpAny_loadPart_at hR ?_ | wp_step)
 refine wpAny_isSubtype_exc hC ?_
 rw [c2]
 repeat wp_step
 exact q
end
end XE
namespace XE
open PySem PySem.Spec PyProof.Rows L2
section
variable {X:Cx} {C R fa:Addr} {k:Nat} {fd:FuncData} {ps:List Str} {sp:Sp}
def DX (C:Addr) (i:Nat) (sp:Sp) (t:TA) (ts:Addr→Addr→TS):TS:=fun D σ H=>t σ H fun vs H1=>sp vs H1 (fun _ H2=>D.nx σ H2) fun cv od H2=>cv=.ref C∧∃ dx,od=some dx ∧
 ∀ e,ts e dx { nx:=fun σ'=>D.nx (σ'.set i none),rt:=D.rt,bk:=fun σ'=>D.bk (σ'.set i none),ct:=fun σ'=>D.ct (σ'.set i none) } (σ.set i (some (.ref e))) H2
theorem Bx {fn rn n:Str} {e:Expr} {es:List Expr} {t:TA} {i:Nat} {b0:Stmt} {suite:List Stmt} {ts:Addr→Addr→TS} {p cp ep p2 hpos pos:Pos} (F:FnOk X.prog X.w X.K X.mg X.base (CXx X.prog X.w) k fa fd ps sp) (hr:Room k X.A) (hg:Gl X fn) (hm:X.mg fn=some (.ref fa))
  (hk:PySem.W.keepIn X.K (.ref fa)=true) (hb:Binds X.K fd ps []) (ha:PA X.nox (e::es) t) (c:XCl X.K C (.ref R::vE)) (r:XCl X.K R vE) (hgR:Gl X rn) (hmR:X.mg rn=some (.ref R)) (hN:X.N.Nodup) (hs:∀ e oe dx,oe.cls=.ref C→oe.dict=some dx→(∃ vs,oe.data=.fields vs)→PSs (fY X e oe) (b0::suite) (ts e dx))
  (hi:X.N[i]? = some n:=by rfl) (hl:X.env.scope.names.lookup n=some .local:=by rfl) (hfr:X.env.frame=some X.env.locals:=by rfl) (hst:X.stack=X.env::X.outer:=by rfl) (hex:X.ex=[]:=by rfl)
  (hdb:(fn == ("__debug__" : Str))=false:=by decide) (hdR:(rn == ("__debug__" : Str))=false:=by decide) (he:starEach (e::es) X.env=(false,eval e X.env)::starEach es X.env:=by rfl) (hpl:(backTo cp (starEach es X.env)).any (·.1)=false:=by rfl)
  (hsw:swapsWith (.Call (.Name fn p) (e::es) [] cp) none ep.line X.env=pure false:=by rfl) :
  PS X (.Try [.Expr (.Call (.Name fn p) (e::es) [] cp) ep] [.ExceptHandler (some (.Name rn p2)) (some n) (b0::suite) hpos] [] [] pos) (DX C i sp t ts):=by
 intro pins s σ H D I h
 refine wpAny_Try_except (wpAny_execs_cons (wpAny_Expr_any ?_ I.quiet hsw))
 refine wpAny_Call_Name_kw (ig I hg hm ?_ hdb)
 refine PySem.W.callWith_K (h₀:=X.base) I.ok.mod.kin hk ?_ he hpl
 refine wpAny_mono (ha cp pins s σ H _ (I.wish _) h) (fun us s1 ⟨vs,H1,I1',rv,q⟩=>?_) fun _ _ z=>False.elim z
 have I1:L2.Inv X pins σ H1 s1:=I1'.unwish
 refine ⟨I1.kIn,?_⟩
 have hlen:us.length=ps.length:=by rw [← rv.length]; exact F.len _ _ _ _ q
 refine wpAny_call (codeAny_mono (F.run X.A X.stack s1 H1 ⟨us,[]⟩ us vs _ _ hr I1.env0 (by simpa using hb s1 us I1.kIn (by simpa using hlen)) rv q) fun res s2 hq=>?_)
 cases res with
 | ok fl=>
  cases fl with
  | ret u=>
   obtain ⟨v,H2,I2,r2,q2⟩:=I1.after hq
   exact wpAny_execs_nil (wpAny_execs_nil ⟨σ,H2,I2,q2⟩)
  | next=>exact False.elim hq
  | brk=>exact False.elim hq
  | cont=>exact False.elim hq
 | error x=>
  obtain ⟨a,C',dx,T,H2,rfl,os2,bare2,un2,hok2,ge,geT,neT,xr,tb,fe,fT,ec,dx',ed,qx⟩:=hq
  cases ec
  cases ed
  have I2:L2.Inv X pins σ H2 s2:=I1.call' (ch:=[]) os2 un2 hok2 bare2 (fun b z=>absurd z (by simp))
  have st:=I2.env0
  have neL:∀ y,s1.heap.objs.size≤y→y≠X.env.locals:=fun y hy z=>Nat.lt_irrefl _ (Nat.lt_of_lt_of_le (z ▸ I1.lt) hy)
  have nef:∀ y,s1.heap.objs.size≤y→y∉frs X.stack:=fun y hy z=>by
   obtain ⟨_,o,ho,_⟩:=I1.stack.mem z
   exact Nat.lt_irrefl _ (Nat.lt_of_lt_of_le (Heap.lt_size ho) hy)
  have go:∀ (xs:List Addr) (h':Heap),(∀ y∈xs,s1.heap.get? y=none∧H2 y=none)→Kp xs (frs X.stack) s2.heap h'→L2.Inv X pins σ H2 { s2 with heap:=h' }:=fun xs h' nx kp=>by
   have lt:∀ {b:Addr} {o:Obj},s1.heap.get? b=some o→b∉xs:=fun q z=>by rw [(nx _ z).1] at q; cases q
   refine I1.call' (ch:=[]) (s':={ s2 with heap:=h' }) os2 ⟨fun b o q n m _=>?_,fun b o q n m _=>?_,un2.free,fun b o q _=>?_,un2.tups,un2.frzs,un2.tbls⟩ (fun b o e=>?_) bare2 (fun b z=>absurd z (by simp))
   ·exact kp.keep b o (un2.keep b o q n m (by simp)) (lt q) m
   ·obtain ⟨sl,e1⟩:=un2.slot b o q n m (by simp)
    obtain ⟨sl',e2⟩:=kp.slot b _ e1 (lt q) m
    exact ⟨sl',e2⟩
   ·obtain ⟨o',e1⟩:=un2.there b o q (by simp)
    exact kp.there b o' e1
   ·refine (hok2 b o e).stay (fun c' u hc q=>?_) (fun _ q=>q) fun _ _ q=>q
    have tr:∃ v,H2 c'=some v:=by
     rcases hc with rfl | hc
     ·exact ⟨_,e⟩
     ·exact ⟨_,hc⟩
    obtain ⟨v,tr⟩:=tr
    refine kp.keep c' u q (fun z=>?_) fun z=>?_
    ·rw [(nx c' z).2] at tr; cases tr
    ·rw [I2.stkFree c' z] at tr; cases tr
  have frs':X.A.frames=some (X.env::X.outer):=by rw [← hst]; exact st.frames
  have funs':s2.heap.FunFrames X.base (X.env::X.outer):=by rw [← hst]; exact st.funs
  refine Aw (base:=X.base) (outer:=X.outer) (L:=X.env.locals) frs' funs' hfr xr tb neT fun h3 T3 g1 g2 g3 g4 g5=>?_
  rw [← hst] at g5
  have fT3:H2 T3=none:=hok2.fresh g1
  refine mV g2 g3 g4 fun h4 j1 j2 j3=>?_
  have wid:∀ {x:Addr} {u v:Heap},Kp [x] [] u v→Kp [x] (frs X.stack) u v:=fun k=>⟨fun b o q n _=>k.keep b o q n (by simp),fun b o q n _=>⟨o.slots,k.keep b o q n (by simp)⟩,k.there⟩
  have kp4:Kp [a,T,T3] (frs X.stack) s2.heap h4:=(g5.more fun x hx=>by simp at hx; rcases hx with z | z <;> simp [z]).trans ((wid j3).more fun x hx=>by simp at hx; simp [hx])
  have nx:∀ y∈[a,T,T3],s1.heap.get? y=none∧H2 y=none:=fun y hy=>by
   simp at hy
   rcases hy with rfl | rfl | rfl
   ·exact ⟨Heap.get?_none_of_le ge,fe⟩
   ·exact ⟨Heap.get?_none_of_le geT,fT⟩
   ·refine ⟨?_,fT3⟩
    cases z:s1.heap.get? y with
    | none=>rfl
    | some o=>
     obtain ⟨o',e1⟩:=un2.there y o z (by simp)
     exact absurd (Heap.lt_size e1) (Nat.not_lt.mpr g1)
  have I4:=go _ h4 nx kp4
  obtain ⟨t4,he4⟩:=id j1
  have pin:∀ {h':Heap},h'.get? a=some { cls:=.ref C,dict:=some dx,data:=.fields #[.ref t4,.ref T3,.none,.none,.bool false,.none] }→h'.get? a=some { cls:=.ref C,dict:=some dx,data:=.fields #[.ref t4,.ref T3,.none,.none,.bool false,.none] }∧H2 a=none∧a≠X.env.locals∧a∉X.fs∧∀ v,(Data.fields #[.ref t4,.ref T3,.none,.none,.bool false,.none])≠.cell v:=fun e=>
   ⟨e,fe,neL a ge,fun z=>nef a ge (by rw [hst]; unfold frs; rw [List.filterMap_cons,hfr]; exact List.mem_cons_of_mem _ z),fun _ z=>nomatch z⟩
  let oe:Obj:={ cls:=.ref C,dict:=some dx,data:=.fields #[.ref t4,.ref T3,.none,.none,.bool false,.none] }
  have I5:L2.Inv (fY X a oe) pins σ H2 { s2 with heap:=h4 }:=oB I4 (pin he4)
  refine wpAny_handleBy_cons (codeAny_handlers_test ?_) (by intro z; cases z)
  refine ig (X:=fY X a oe) I5 hgR hmR ?_ hdR
  refine ye I5.kIn c r he4 rfl ?_
  refine codeAny_handlers_suite_as ?_
  refine mV j1 j2 g4 fun h6 l1 l2 l3=>?_
  have I6:=go _ h6 nx (kp4.trans ((wid l3).more fun x hx=>by simp at hx; simp [hx]))
  have he6:h6.get? a=some oe:=l3.keep a _ he4 (by simp; exact g4.symm) (by simp)
  have I7:L2.Inv (fY X a oe) pins σ H2 { s2 with heap:=h6 }:=oB I6 (pin he6)
  refine jL (X:=fY X a oe) (i:=i) (v:=.ref a) I7 hN hi (.inl hl) rfl (fun s8 I8=>?_) (.inr hl)
  refine wpAny_mono (hs a oe dx rfl rfl ⟨_,rfl⟩ pins s8 _ H2 _ I8 (qx a)) (fun f s9 sp9=>?_) fun _ _ z=>False.elim z
  show wpAny _ _ (do bindName X.env n .none; unbindBehindTheSuite X.env n hpos) _ _ _
  cases f with
  | next=>
   obtain ⟨σ9,H9,I9,q9⟩:=sp9
   exact name_goes (jy I.ok I9) hN hi hl fun s' I'=>⟨_,_,I',q9⟩
  | brk=>
   obtain ⟨σ9,H9,I9,q9⟩:=sp9
   exact name_goes (jy I.ok I9) hN hi hl fun s' I'=>⟨_,_,I',q9⟩
  | cont=>
   obtain ⟨σ9,H9,I9,q9⟩:=sp9
   exact name_goes (jy I.ok I9) hN hi hl fun s' I'=>⟨_,_,I',q9⟩
  | ret u=>
   obtain ⟨v9,σ9,H9,I9,r9,q9⟩:=sp9
   exact name_goes (jy I.ok I9) hN hi hl fun s' I'=>⟨_,_,_,I',r9,q9⟩
end
end XE
namespace XE
open PySem PySem.Spec PyProof.Rows L2
section
variable {prog:Program} {w:World} {A:Around} {E:Value→Shared→Prop} {h:Heap} {g:Array GenState} {d:Drawn} {t:Nat} {os:OsState} {K:Frag} {C R x:Addr} {ox:Obj} {od:Option Obj} {name:Str}
theorem AB:builtinKind "BaseException.__getattribute__" = some .slot:=by decide +kernel
theorem yO:splitId "BaseException.__getattribute__" = some ("BaseException","__getattribute__"):=by decide +kernel
theorem pH {tk:Nat} {Rr:Result→Shared→Prop} (hbm:PySem.W.mroIn K C (.type "BaseException")=some true) (X:K.In h) (I:PySem.W.InstAt h x ox C od)
  (k:wpAny (model prog w) A.in1 (Builtin.«object.__getattribute__» ⟨[.ref x,.str name tk],[]⟩) (fun fin s'=>match fin with | .done f=>Rr (.ok f) s' | .again c'=>c'.quiet=true∧codeAny (model prog w) A c' Rr s') (fun e s'=>Rr (.error e) s') ⟨h,g,d,t,os⟩) :
  codeAny (model prog w) A (.call (.builtin "BaseException.__getattribute__") ⟨[.ref x,.str name tk],[]⟩) Rr ⟨h,g,d,t,os⟩:=by
 have sub:PySem.W.Looks (model prog w) h (isInstance (.ref x) (.type "BaseException")) true:=I.type.andThen (PySem.W.looks_mroIn X hbm)
 have ha:=F.args_bexc_ga (.ref x) (.str name tk)
 exact codeAny_call_builtin PySem.F.excAttr_ValueError.ga.plain F.entry_bexc_ga (@PySem.W.check_slot (model prog w) _ _ ⟨h,g,d,t,os⟩ "BaseException.__getattribute__" "BaseException" "__getattribute__" (.ref x) [.str name tk] [] _ AB yO sub ha k)
theorem yM {tk:Nat} {v:Value} {Q:Fin→Shared→Prop} {s:Shared} (X:K.In s.heap) (I:PySem.W.InstAt s.heap x ox C od) (hf:PySem.W.findObj K C od name=some (.value v)) (k:Q (.done (.ret v)) s) :
  wpAny (model prog w) A (Builtin.«object.__getattribute__» ⟨[.ref x,.str name tk],[]⟩) Q E s:=by
 have L0:=I.type (M:=model prog w)
 have L1:=PySem.W.looks_find (M:=model prog w) X I hf
 unfold Builtin.«object.__getattribute__»
 refine wpAny_bind (wpAny_pure (wpAny_bind (wpAny_pure (wpAny_bind (L0.here (wpAny_bind (L1.here ?_)))))))
 exact wpAny_pure k
theorem DF {v:Value} {ex:Bool} {Q:Value→Shared→Prop} (hbm:PySem.W.mroIn K C (.type "BaseException")=some true) (hgt:PySem.W.findIn K (.ref C) "__getattr__" = some none) (hga:PySem.W.findIn K (.ref C) "__getattribute__" = some (some (.builtin "BaseException.__getattribute__"))) (X:K.In h) (I:PySem.W.InstAt h x ox C od)
  (hf:PySem.W.findObj K C od name=some (.value v)) (hv:PySem.W.handedIn v=true) (k:Q v ⟨h,g,d,t + 1,os⟩):wpAny (model prog w) A (getAttr (.ref x) name ex) Q E ⟨h,g,d,t,os⟩:=by
 have L0:=I.type (M:=model prog w)
 have L1:=PySem.W.looks_findIn (M:=model prog w) X hga
 have f3:=PySem.F.excAttr_ValueError.ga.bind (.ref x)
 have hx0:(ex && onTheHeap (Value.builtin "BaseException.__getattribute__"))=false:=by cases ex <;> rfl
 unfold getAttr getAttrBy
 refine wpAny_bind (wpAny_mkText (wpAny_holding (wpAny_bind (L0.at (wpAny_bind (L1.at ?_))))))
 repeat (any_goals (first | assumption | wp_step))
 refine PySem.W.looks_findIn X hgt _ _ _ _ (fun _ _ e=>e) ?_
 repeat (any_goals (first | assumption | wp_step))
 refine pH hbm X I (yM (s:=⟨h,g,d,t + 1,os⟩) X I hf ?_)
 show wpAny _ _ (handedOut v) _ _ _
 rw [PySem.W.handedOut_of hv]
 exact wpAny_pure k
theorem DG {od:Obj} {Q:Option Value→Shared→Prop} (hbm:PySem.W.mroIn K C (.type "BaseException")=some true) (hgt:PySem.W.findIn K (.ref C) "__getattr__" = some none) (hga:PySem.W.findIn K (.ref C) "__getattribute__" = some (some (.builtin "BaseException.__getattribute__")))
  (hc:(PySem.W.clsIn K C).isSome=true) (ha:PySem.W.findIn K (.ref C) "__class__" = some (some (.builtin "object.__class__"))) (hn:PySem.W.specialIn K (.builtin "object.__class__") "__get__" = some (some (.builtin "getset_descriptor.__get__")))
  (htk:PySem.W.takesIn K (.builtin "object.__class__")=some true) (hm:PySem.W.mroIn K C (.type "object")=some true) (X:K.In h) (I:PySem.W.InstAt h x ox C (some od)) (k:Q (some (.ref C)) ⟨h,g,d,t + 1,os⟩) :
  wpAny (model prog w) A (getAttr? (.ref x) "__class__") Q E ⟨h,g,d,t,os⟩:=by
 have hf:PySem.W.findObj K C (some od) "__class__" = some (.bind (.builtin "getset_descriptor.__get__") (.builtin "object.__class__")):=PySem.W.findObj_data hc ha hn htk
 have L0:=I.type (M:=model prog w)
 have L1:=PySem.W.looks_findIn (M:=model prog w) X hga
 have L2:=PySem.W.looks_find (M:=model prog w) X I hf
 have f3:=PySem.F.excAttr_ValueError.ga.bind (.ref x)
 unfold getAttr? getAttrBy? getAttrBy
 refine wpAny_bind (wpAny_mkText (wpAny_bind (wpAny_attempt (wpAny_holding (wpAny_bind (L0.at (wpAny_bind (L1.at ?_))))))))
 repeat (any_goals (first | assumption | wp_step))
 refine PySem.W.looks_findIn X hgt _ _ _ _ (fun _ _ e=>e) ?_
 repeat (any_goals (first | assumption | wp_step))
 refine pH hbm X I ?_
 unfold Builtin.«object.__getattribute__»
 refine wpAny_bind (wpAny_pure (wpAny_bind (wpAny_pure (wpAny_bind (L0.here (wpAny_bind (L2.here ?_)))))))
 show wpAny _ _ (Builtin.ObjectAttr.bindTo _ _ _ _) _ _ _
 unfold Builtin.ObjectAttr.bindTo
 repeat wp_step
 refine PySem.W.class_get X I hm ?_
 refine wpAny_pure ?_
 show wpAny _ _ (handedOut (.ref C)) _ _ _
 rw [PySem.W.handedOut_of (v:=.ref C) rfl]
 exact wpAny_pure (wpAny_pure k)
structure XIs (K:Frag) (C:Addr):Prop where
 bm:PySem.W.mroIn K C (.type "BaseException")=some true
 gt:PySem.W.findIn K (.ref C) "__getattr__" = some none
 ga:PySem.W.findIn K (.ref C) "__getattribute__" = some (some (.builtin "BaseException.__getattribute__"))
 hc:(PySem.W.clsIn K C).isSome=true
 ca:PySem.W.findIn K (.ref C) "__class__" = some (some (.builtin "object.__class__"))
 hn:PySem.W.specialIn K (.builtin "object.__class__") "__get__" = some (some (.builtin "getset_descriptor.__get__"))
 tk:PySem.W.takesIn K (.builtin "object.__class__")=some true
 hm:PySem.W.mroIn K C (.type "object")=some true
theorem XIs.kit {od:Obj} (q:XIs K C):PySem.W.KitX K (.ref x) (.ref C) (fun h=>PySem.W.InstAt h x ox C (some od)) where
 ty:=fun _ _ _ I=>I.type
 it:=fun _ _ X _=>by
  obtain ⟨cd,hcd⟩:=Option.isSome_iff_exists.mp q.hc
  unfold PySem.W.clsIn at hcd
  split at hcd
  ·rename_i c' d' cd' sl' ho
   intro A' Q' E' s' k q
   unfold isType loadHead
   exact wpAny_bind (wpAny_loadPart (k _ _ (X _ _ ho)) (wpAny_pure q))
  ·cases hcd
 ne:=fun h tp dd its n sl X htp=>by
  obtain ⟨cd,hcd⟩:=Option.isSome_iff_exists.mp q.hc
  refine Bool.eq_false_iff.mpr fun z=>?_
  have e:C=tp:=Value.ref.inj (beq_iff_eq.mp z)
  subst e
  unfold PySem.W.clsIn at hcd
  split at hcd
  ·rename_i c' d' cd' sl' ho
   cases (X _ _ ho).symm.trans htp
  ·cases hcd
 ca:=fun {_ _ _ _ _ s} X I k=>by
  obtain ⟨h,g,d,t,os⟩:=s
  exact DG q.bm q.gt q.ga q.hc q.ca q.hn q.tk q.hm X I k
end
end XE
namespace XE
open PySem PySem.Spec PyProof.Rows L2
theorem oG:∀ {Ds:List Addr} {us:List Value},Vals (Ds.map V.ref) us→us=Ds.map Value.ref
 | [],_,.nil=>rfl
 | a::r,_,.cons h1 h2=>by rw [List.map_cons,← oG h2]; cases (show _=Value.ref a from h1); rfl
section
variable {X:Cx} {C e dx:Addr} {oe:Obj}
structure Cau (X:Cx) (C e dx:Addr) (oe:Obj):Prop where
 pin:(e,oe)∈X.pn
 cls:oe.cls=.ref C
 dict:oe.dict=some dx
 data:∃ vs,oe.data=.fields vs
 is:XIs X.K C
 hd:PySem.W.hasDictIn X.K C=true
theorem Cau.inst {pins:List (Addr×Obj)} {σ:L2.St} {H:Hp} {s:Shared} {fs:List (Str×V)} (c:Cau X C e dx oe) (I:L2.Inv X pins σ H s) (h:H dx=some (.xd fs)) :
  ∃ (od:Obj) (mA:Str→Option Value),PySem.W.InstAt s.heap e oe C (some od)∧(∀ f,RelO (fs.lookup f) (mA f))∧∀ name,PySem.W.lookIn name od=some (mA name):=by
 obtain ⟨mA,ns,r⟩:=(show ObjOk X.prog X.w H s.heap dx (.xd fs) from I.hok dx _ h)
 obtain ⟨od,ho,hl⟩:=o7 ns
 obtain ⟨e1,_⟩:=I.pin (e,oe) (List.mem_append_left _ c.pin)
 obtain ⟨vs,hd⟩:=c.data
 refine ⟨od,mA,⟨e1,c.cls,?_,?_⟩,r,hl⟩
 ·unfold PySem.W.notCls
  rw [hd]
 ·rw [c.dict]
  exact ho
def uu (i:Nat) (e dx:Addr) (v:V):TE:=fun σ H Q=>σ[i]? = some (some (.ref e))∧(∃ fs,H dx=some (.xd fs))∧Q v H
theorem l4 (c:Cau X C e dx oe):CallR X (.builtin "isinstance") fun xs H Q=>∃ v b,xs=[.ref e,v]∧(∃ fs,H dx=some (.xd fs))∧((∀ u,RelV v u→PySem.W.kitOne X.K (.ref C) u=some b)∨∃ tp ws,v=.ref tp∧H tp=some (.tup ws)∧∀ us,Vals ws us→PySem.W.kitAny X.K (.ref C) us=some b)∧Q (.bl b) H:=by
 intro pins s σ H xs us Q I r h
 obtain ⟨v,b,rfl,⟨fs,hx⟩,hk,q⟩:=h
 obtain ⟨u,w',rfl,ru,rw'⟩:=vals2 r
 cases (show u=Value.ref e from ru)
 obtain ⟨od,mA,inst,_,_⟩:=c.inst I hx
 have fin:∀ tk,EP X pins σ Q (.bool b) { s with toks:=tk }:=fun tk=>⟨.bl _,H,I.tok _,rfl,q⟩
 rcases hk with hk | ⟨tp,ws,rfl,ht,hk⟩
 ·exact PySem.W.kia_one c.is.kit I.kIn inst (hk _ rw') (fun z=>nomatch z) fin
 ·cases (show w'=Value.ref tp from rw')
  obtain ⟨_,its,rv,⟨dd,c',n,sl⟩,e0,e1,m,e2⟩:=(show ObjOk X.prog X.w H s.heap tp (.tup ws) from I.hok tp _ ht)
  dsimp only at e1 e2
  subst e1 e2
  exact PySem.W.kia_tup c.is.kit I.kIn inst e0 (hk _ rv) (fun z=>nomatch z) fin
theorem rZ {i:Nat} {n cn:Str} {b:Bool} {D:Addr} {p p1 p2 pos:Pos} (c:Cau X C e dx oe) (hv:PE X (.Name n p1) (dJ i)) (hg:Gl X "isinstance") (hi:X.mg "isinstance" = none) (hgD:Gl X cn) (hm:X.mg cn=some (.ref D)) (hk:PySem.W.kitOne X.K (.ref C) (.ref D)=some b)
  (hd:(cn == ("__debug__" : Str))=false:=by decide) (hs:starEach [.Name n p1,.Name cn p2] X.env=[(false,eval (.Name n p1) X.env),(false,eval (.Name cn p2) X.env)]:=by rfl) (hs2:starEach [.Name cn p2] X.env=[(false,eval (.Name cn p2) X.env)]:=by rfl) :
  PE X (.Call (.Name "isinstance" p) [.Name n p1,.Name cn p2] [] pos) (uu i e dx (.bl b)):=by
 refine _root_.D.pe_imp (fS (l4 c) hg hi PyProof.Rows.boot_isinstance (bu hv (bu (gC (v:=.ref D) hgD hm rfl hd) bX (by rw [hs2]; rfl)) (by rw [hs,hs2])) (by decide) (by decide) (by rw [hs,hs2]) (by rw [hs2]; rfl)) fun σ H Q ⟨h0,hx,q⟩=>?_
 exact ⟨_,h0,.ref D,b,rfl,hx,.inl fun u hu=>by cases (show u=Value.ref D from hu); exact hk,q⟩
theorem Al {i:Nat} {n:Str} {T:String} {b:Bool} {p p1 p2 pos:Pos} (c:Cau X C e dx oe) (hv:PE X (.Name n p1) (dJ i)) (hg:Gl X "isinstance") (hi:X.mg "isinstance" = none) (hgT:Gl X "ValueError") (hm:X.mg "ValueError" = none) (hk:PySem.W.kitOne X.K (.ref C) (.type "ValueError")=some b)
  (hs:starEach [.Name n p1,.Name "ValueError" p2] X.env=[(false,eval (.Name n p1) X.env),(false,eval (.Name "ValueError" p2) X.env)]:=by rfl) (hs2:starEach [.Name "ValueError" p2] X.env=[(false,eval (.Name "ValueError" p2) X.env)]:=by rfl) :
  PE X (.Call (.Name "isinstance" p) [.Name n p1,.Name "ValueError" p2] [] pos) (uu i e dx (.bl b)):=by
 refine _root_.D.pe_imp (fS (l4 c) hg hi PyProof.Rows.boot_isinstance (bu hv (bu (jY (v:=.ty "ValueError") hgT hm (by first | rfl | decide +kernel) rfl) bX (by rw [hs2]; rfl)) (by rw [hs,hs2])) (by decide) (by decide) (by rw [hs,hs2]) (by rw [hs2]; rfl)) fun σ H Q ⟨h0,hx,q⟩=>?_
 exact ⟨_,h0,.ty "ValueError",b,rfl,hx,.inl fun u hu=>by cases (show u=Value.type "ValueError" from hu); exact hk,q⟩
def CG (i:Nat) (e dx:Addr) (v:V) (ws:List V):TE:=fun σ H Q=>σ[i]? = some (some (.ref e))∧(∃ fs,H dx=some (.xd fs))∧∀ p,H p=none→Q v (upd H p (.tup ws))
theorem Ak {i:Nat} {n:Str} {b:Bool} {Ds:List Addr} {es:List Expr} {ta:TA} {p p1 tpos pos:Pos} {k:Nat} (c:Cau X C e dx oe) (hv:PE X (.Name n p1) (dJ i)) (hg:Gl X "isinstance") (hi:X.mg "isinstance" = none) (ht:PA X es ta) (hta:∀ σ H Q,Q (Ds.map V.ref) H→ta σ H Q)
  (hz:Ds.length≤100) (hk:PySem.W.kitAny X.K (.ref C) (Ds.map Value.ref)=some b) (hs:starEach [.Name n p1,.Tuple es k tpos] X.env=[(false,eval (.Name n p1) X.env),(false,eval (.Tuple es k tpos) X.env)]:=by rfl) (hs2:starEach [.Tuple es k tpos] X.env=[(false,eval (.Tuple es k tpos) X.env)]:=by rfl) :
  PE X (.Call (.Name "isinstance" p) [.Name n p1,.Tuple es k tpos] [] pos) (CG i e dx (.bl b) (Ds.map V.ref)):=by
 refine _root_.D.pe_imp (fS (l4 c) hg hi PyProof.Rows.boot_isinstance (bu hv (bu (mS ht) bX (by rw [hs2]; rfl)) (by rw [hs,hs2])) (by decide) (by decide) (by rw [hs,hs2]) (by rw [hs2]; rfl)) fun σ H Q ⟨h0,⟨fs,hx⟩,q⟩=>?_
 refine ⟨_,h0,hta σ H _ ⟨by rw [List.length_map]; exact Nat.le_trans hz (by decide),fun tp htp=>?_⟩⟩
 refine ⟨.ref tp,b,rfl,⟨fs,by rw [aR (cu hx htp)]; exact hx⟩,.inr ⟨tp,_,rfl,bh,fun us hu=>?_⟩,q tp htp⟩
 rw [oG hu]
 exact hk
def tXn (i:Nat) (e dx:Addr) (f:Str):TE:=fun σ H Q=>σ[i]? = some (some (.ref e))∧∃ fs v,H dx=some (.xd fs)∧fs.lookup f=some v∧Q v H
theorem CT {i:Nat} {n f:Str} {p1 pos:Pos} (c:Cau X C e dx oe) (hv:PE X (.Name n p1) (dJ i)) (ha:PySem.W.findIn X.K (.ref C) f=some none) (hb:attributeBase (.Name n p1) f X.env (eval (.Name n p1) X.env)=eval (.Name n p1) X.env:=by rfl) :
  PE X (.Attribute (.Name n p1) f pos) (tXn i e dx f):=by
 intro pins s σ H Q I h
 obtain ⟨h0,fs,v,hx,hf,q⟩:=h
 refine AU hb (thn (hv pins s σ H (fun w H'=>w=.ref e∧H'=H) I ⟨_,h0,rfl,rfl⟩) fun u s1 ⟨x,H1,I1,rx,ex,eh⟩=>?_)
 subst ex eh
 cases (show u=Value.ref e from rx)
 obtain ⟨od,mA,inst,r,hl⟩:=c.inst I1 hx
 obtain ⟨u,hu,ru⟩:=RelO.some_of (v:=v) (o:=mA f) (by rw [← hf]; exact r f)
 obtain ⟨hp,g,d,tk,os⟩:=s1
 exact DF c.is.bm c.is.gt c.is.ga I1.kIn inst (PySem.W.findObj_own c.hd ha rfl (by rw [hl,hu])) (yr ru) ⟨v,H1,I1.tok _,ru,q⟩
end
end XE
namespace XE
open PySem PySem.Spec PyProof.Rows L2 D
theorem okX {P:Program} {w:World} {K:Frag} {mg:Str→Option Value} {base:Heap} {x qual:Str} {st:Stmt} {f:Addr} {fd:FuncData} {N ps:List Str} {k:Nat} {sp:Sp} (F:Fun K x qual st f fd) (S:FnScope N ps (aL st)) (len:∀ vs H Q E,sp vs H Q E→vs.length=ps.length)
  (hbody:∀ (cdv:Value) (A:Around) (outer:List Env) (s:Shared) (H:Hp) (vs:List V) (Q:VK) (E:XK),Room k (A.deeper (envOfC qual (aL st) s.heap.objs.size f cdv))→sp vs H Q E →
   ∃ t,PSs (d8 (CXx P w) P w K mg base N qual (aL st) f cdv A outer s H E) (da st) t∧t { nx:=fun _ H'=>Q .non H',rt:=Q } (start N vs) H):FnOk P w K mg base (CXx P w) (k + 1) f fd ps sp:=by
 obtain ⟨oc,od,kV,doc,pm,an,cdv,ct,osl,rfl,lk,hcd⟩:=F.ex
 exact tX lk hcd S len fun A outer s H vs Q E hr hsp=>hbody cdv A outer s H vs Q E hr hsp
def spX (K:Frag) (n:Nat) (C:Addr) (f:Str) (m:List W→Tp→Option (Str×Tp)):Sp:=fun vs H _ E=>∃ (O:Addr→Prop) (ts:List Addr) (T:Tp) (ws:List W) (x:Str) (T':Tp),HC K O ts H T∧eP K O ts H vs ws∧ws.length=n∧du ws=true∧m ws T=some (x,T') ∧
 ∀ dx H',SameX ts H H'→HC K O ts H' T'→H' dx=some (.xd [(f,.str x)])→E (.ref C) (some dx) H'
theorem yS {K:Frag} {O:Addr→Prop} {ts:List Addr} {H:Hp} {T:Tp} {vs:List V} {ws:List W} {N:List Str} (hc:HC K O ts H T) (rw':eP K O ts H vs ws) (hn:du ws=true) :
  RS K O H [] ts O H (start N vs) (ws.map some++List.replicate (N.length - ws.length) none) T:=by
 have hlen:vs.length=ws.length:=Paired.length rw'
 have noL:∀ {i:Nat} {xs:PyData},(ws.map some++List.replicate (N.length - ws.length) none)[i]? = some (some (W.loc xs))→False:=fun {i xs} e=>jG hn (List.mem_of_getElem? (jC e))
 refine ⟨hc,fun i u e=>?_,fun _ h=>h,hc.own,.refl _ _,fun i xs a e1 _=>(noL e1).elim,fun i j xs ys v e1 _ _ _=>(noL e1).elim,fun f hf=>absurd hf (by simp),by simp [L2.start,hlen]⟩
 obtain ⟨v,h1,h2⟩:=lH rw' (jC e)
 refine ⟨v,?_,h2⟩
 unfold L2.start
 have hi:i < vs.length:=(List.getElem?_eq_some_iff.mp h1).1
 rw [List.getElem?_append_left (by simpa using hi),List.getElem?_map,h1]
 rfl
theorem wY {K:Frag} {O₀ O:Addr→Prop} {H₀ H:Hp} {F:List ((Addr→Prop)×Hp)} {ts:List Addr} {σ:L2.St} {ρ:Rho} {T:Tp} {n0 i:Nat} {C:Addr} {f x:Str} {E:XK} {D':Ends} (rs:RS K O₀ H₀ F ts O H σ ρ T) (hi:ρ[i]? = some (some (.d (.str x)))) (hz:(reprText x).length + 1000≤sizeLine)
  (q:∀ dx H',SameX ts H₀ H'→HC K O₀ ts H' T→H' dx=some (.xd [(f,.str x)])→E (.ref C) (some dx) H'):rR n0 C E (tXm n0 C f (dJ i)) D' σ H:=by
 obtain ⟨v,h1,h2⟩:=rs.re i _ hi
 cases (show Rep K O H v (.str x) from h2)
 refine ⟨.str x,h1,x,rfl,hz,fun a dx ge ha hd ne=>⟨a,dx,rfl,ge,bh,?_⟩⟩
 rw [xx (by rw [aR ne.symm]; exact ha)]
 exact q dx _ (rs.same.trans (.new hd _)) (rs.frzH.new hd _) bh
structure XB (K:Frag) (C R:Addr) (f:Str) (Ds:List Addr):Prop where
 c:XCl K C (.ref R::vE)
 r:XCl K R vE
 ri:PySem.W.ownIn K "__init__" (.ref R)=some none
 kp:PySem.W.keepIn K (.ref C)=true
 is:XIs K C
 hd:PySem.W.hasDictIn K C=true
 nn:PySem.W.findIn K (.ref C) f=some none
 sa:PySem.W.findIn K (.ref C) "__setattr__" = some (some (.builtin "object.__setattr__"))
 rd:PySem.W.readsIn K R (.type "type")=true
 fc:PySem.W.findCls K (.ref R) (.type "type") "__init__" = some (.val (.builtin "ValueError.__init__"))
 kC:PySem.W.kitOne K (.ref C) (.ref C)=some true
 kV:PySem.W.kitOne K (.ref C) (.type "ValueError")=some true
 kD:PySem.W.kitAny K (.ref C) (Ds.map Value.ref)=some false
def nh:Obj→Bool
 | ⟨_,_,.dict es _,_⟩=>es.toList.all fun e=>match e.key with
  | .str _ _=>true
  | _=>false
 | _=>false
theorem mX {K:Frag} {C A:Addr} (h1:PySem.W.isClsIn K A=true) (h2:PySem.W.typeIn K (.ref A)=some (.type "type")) (h3:PySem.W.subIn K (.ref C) (.ref A)=some false) (h4:(Value.ref C == Value.ref A)=false):PySem.W.kitOne K (.ref C) (.ref A)=some false:=by
 unfold PySem.W.kitOne PySem.W.kitCls
 unfold PySem.W.isClsIn at h1
 rw [h4,if_neg Bool.false_ne_true]
 simp only [h1,h2,h3,beq_self_eq_true,Bool.and_true,if_true]
theorem BY {K:Frag} {C:Addr} (h3:PySem.W.subIn K (.ref C) (.type "ValueError")=some true):PySem.W.kitOne K (.ref C) (.type "ValueError")=some true:=by
 have h4:(Value.ref C == Value.type "ValueError")=false:=by simp
 have h5:PySem.W.kitMeta "ValueError" = true:=by decide +kernel
 unfold PySem.W.kitOne PySem.W.kitCls
 rw [h4,if_neg Bool.false_ne_true]
 simp only [h5,h3,if_true]
theorem Cv {K:Frag} {C R A1 A2 A3:Addr} {f:Str} {nm q nm' q':Str} {N N':Addr} {bs bs' sub sub':List Value} {sn sn':List Str} {ab ab':Bool} {col col':Option Bool} {dd dd':Option Addr} {k0 k1 k2 k3 k5 j0 j1 j2 j3 j5:Option Value} {oN oN':Obj}
  (lC:K.lookup C=some (excClassObj nm q C N bs (.ref R::vE) true sn sub ab col dd k0 k1 k2 k3 k5 "ValueError.__new__")) (nC:K.lookup N=some oN)
  (lR:K.lookup R=some (excClassObj nm' q' R N' bs' vE true sn' sub' ab' col' dd' j0 j1 j2 j3 j5 "ValueError.__new__")) (nR:K.lookup N'=some oN') (ri:PySem.W.nsIn K N' "__init__" = some none) (kp:PySem.W.keepIn K (.ref C)=true)
  (bm:PySem.W.mroIn K C (.type "BaseException")=some true) (gt:PySem.W.findIn K (.ref C) "__getattr__" = some none) (ga:PySem.W.findIn K (.ref C) "__getattribute__" = some (some (.builtin "BaseException.__getattribute__")))
  (ca:PySem.W.findIn K (.ref C) "__class__" = some (some (.builtin "object.__class__"))) (hn:PySem.W.specialIn K (.builtin "object.__class__") "__get__" = some (some (.builtin "getset_descriptor.__get__")))
  (tk:PySem.W.takesIn K (.builtin "object.__class__")=some true) (hm:PySem.W.mroIn K C (.type "object")=some true) (nn:PySem.W.findIn K (.ref C) f=some none) (sa:PySem.W.findIn K (.ref C) "__setattr__" = some (some (.builtin "object.__setattr__")))
  (rd:PySem.W.readsIn K R (.type "type")=true) (fc:PySem.W.findCls K (.ref R) (.type "type") "__init__" = some (.val (.builtin "ValueError.__init__"))) (kV:PySem.W.subIn K (.ref C) (.type "ValueError")=some true)
  (a1:PySem.W.isClsIn K A1=true) (b1:PySem.W.typeIn K (.ref A1)=some (.type "type")) (c1:PySem.W.subIn K (.ref C) (.ref A1)=some false) (a2:PySem.W.isClsIn K A2=true) (b2:PySem.W.typeIn K (.ref A2)=some (.type "type")) (c2:PySem.W.subIn K (.ref C) (.ref A2)=some false)
  (a3:PySem.W.isClsIn K A3=true) (b3:PySem.W.typeIn K (.ref A3)=some (.type "type")) (c3:PySem.W.subIn K (.ref C) (.ref A3)=some false)
  (d1:(Value.ref C == Value.ref A1)=false) (d2:(Value.ref C == Value.ref A2)=false) (d3:(Value.ref C == Value.ref A3)=false) (oC:nh oN=true) (oR:nh oN'=true):XB K C R f [A1,A2,A3]:=by
 have cl:PySem.W.clsIn K C=some { name:=nm,bases:=bs,mro:=.ref C::.ref R::vE,ns:=N,qualname:=q,hasDict:=true,slotNames:=sn,subclasses:=sub,abstract:=ab,collection:=col,hasDel:=false }:=by
  unfold PySem.W.clsIn
  rw [lC]
 have no:∀ {N:Addr} {o:Obj},K.lookup N=some o→nh o=true→PySem.W.nsOkIn K N=true:=fun {N o} h1 h2=>by
  obtain ⟨oc,od,dt,sl⟩:=o
  unfold PySem.W.nsOkIn
  rw [h1]
  cases dt with
  | dict es ep=>
   have h3:(es.toList.all fun e=>match e.key with
    | .str _ _=>true
    | _=>false)=true:=h2
   rw [Array.all_toList] at h3
   exact h3
  | _=>cases h2
 refine ⟨⟨_,_,_,_,_,_,_,_,_,_,_,_,_,_,lC,no nC oC⟩,⟨_,_,_,_,_,_,_,_,_,_,_,_,_,_,lR,no nR oR⟩,?_,kp,⟨bm,gt,ga,by rw [cl]; rfl,ca,hn,tk,hm⟩,?_,nn,sa,rd,fc,?_,BY kV,?_⟩
 ·simp only [PySem.W.ownIn]
  rw [lR]
  exact ri
 ·unfold PySem.W.hasDictIn
  rw [cl]
  rfl
 ·unfold PySem.W.kitOne
  rw [if_pos (by simp)]
 ·simp only [List.map,PySem.W.kitAny,mX a1 b1 c1 d1,mX a2 b2 c2 d2,mX a3 b3 c3 d3]
end XE
namespace G
open PySem PySem.Spec PyProof.Rows L2 D

theorem bb (k:Nat) (h:0 < k):∃ j,k=j + 1:=⟨k - 1,by omega⟩
def b8:FnM:=aW 1 (ax (bY (fUn (a9 .int) (aa 0)) (kN (fUn (a9 .bl) (aa 0)))))
def et:FnM:=aW 2 (ax (fCB gh (ae (cB (bD (aa 0)) bG (ag inD (aa 0) (aa 2))) ai)))
def fQ:FnM:=aW 1 (ax (bY (fUn (a9 .str) (aa 0)) (bY (gI leD leD (fC (.int 1)) (fCB bq (ae (aa 0) ai)) (fC (.int 8))) (ar et (ae (aa 0) (ae (fC (.str "abcdefghijklmnopqrstuvwxyz")) ai))))))
def gk:FnM:=aW 1 (aq (fIf (aV (ar b8 (ae (aa 0) ai))) (ax (ag leD (fCB jw (ae (aa 0) ai)) (ag gb (fC (.int 10)) (fC (.int 18))))) aK) (ax (bY (fUn (a9 .str) (aa 0)) (bY (ag leD (fCB bq (ae (aa 0) ai)) (fC (.int 20))) (ar et (ae (aa 0) (ae (fC (.str "abcdefghijklmnopqrstuvwxyz0123456789-")) ai)))))))
def c7:Nat→FnM
 | 0=>fun _ _=>none
 | n + 1=>aW 2 (aq (fIf (bH (aV (fUn (a9 .tup) (aa 0)))) (ax (ar gk (ae (aa 0) ai))) aK) (aq (fIf (cF (aH (ag eqD (aa 1) (fC (.int 0)))) (aH (ag gtD (fCB bq (ae (aa 0) ai)) (fC (.int 8))))) (ax (fC (.bool false))) aK) (ax (fCB gh (ae (cB (bD (aa 0)) bG (ar (c7 n) (ae (aa 0) (ae (ag dZ (aa 2) (fC (.int 1))) ai)))) ai)))))
def eA:Nat→FnM
 | 0=>fun _ _=>none
 | n + 1=>aW 1 (aq (fIf (bH (aV (fUn (a9 .tup) (aa 0)))) (ax (fC (.int 1))) aK) (ax (ag aU (fC (.int 1)) (fCB jo (ae (cB (bD (aa 0)) bG (ar (eA n) (ae (aa 0) ai))) ai)))))
def gr:FnM:=aW 1 (ax (bY (ar (c7 25) (ae (aa 0) (ae (fC (.int 4)) ai))) (ag leD (ar (eA 25) (ae (aa 0) ai)) (fC (.int 40)))))
def dA:FnM:=aW 1 (aq (fIf (cF (aH (ag eqD (ag ixD (aa 0) (fC (.int 0))) (fC (.str "put")))) (aH (ag eqD (ag ixD (aa 0) (fC (.int 0))) (fC (.str "got"))))) (ax (aD .list ai)) aK) (aq (fIf (aH (ag eqD (ag ixD (aa 0) (fC (.int 0))) (fC (.str "row")))) (ax (fCB dv (ae (ag ixD (aa 0) (fC (.int 1))) ai))) aK) (ax (fCB dv (ae (fSl (aa 0) (fP (fC (.int 1))) fK) ai)))))
def ei:FnM:=aW 2 (aq (fIf (cF (bH (aV (ar b8 (ae (aa 0) ai)))) (bH (aV (ar b8 (ae (aa 1) ai))))) (ax (aD .tuple (ae (fC (.str "fails")) (ae (fC (.str "kind")) ai)))) aK) (ax (aD .tuple (ae (fC (.str "value")) (ae (cW (aH (ag ltD (aa 0) (aa 1))) (fC (.int 1)) (fC (.int 0))) ai)))))
def dD:FnM:=aW 1 (ax (cW (aV (ar gr (ae (aa 0) ai))) (aD .tuple (ae (fC (.str "value")) (ae (aa 0) ai))) (aD .tuple (ae (fC (.str "fails")) (ae (fC (.str "great")) ai)))))
def gj:FnM:=aW 1 (aq (fIf (aV (ar b8 (ae (aa 0) ai))) (ax (aD .tuple (ae (fC (.str "fails")) (ae (fC (.str "kind")) ai)))) aK) (ax (aD .tuple (ae (fC (.str "value")) (ae (fCB bq (ae (aa 0) ai)) ai)))))
def dN:FnM:=aW 2 (aq (fIf (cF (bH (aV (fUn (a9 .tup) (aa 0)))) (bH (aV (ar b8 (ae (aa 1) ai))))) (ax (aD .tuple (ae (fC (.str "fails")) (ae (fC (.str "kind")) ai)))) aK) (aq (fIf (bH (aH (gI leD ltD (fC (.int 0)) (aa 1) (fCB bq (ae (aa 0) ai))))) (ax (aD .tuple (ae (fC (.str "fails")) (ae (fC (.str "part")) ai)))) aK) (ax (aD .tuple (ae (fC (.str "value")) (ae (ag ixD (aa 0) (aa 1)) ai))))))
def fj:FnM:=aW 2 (aq (fIf (cF (bH (aV (ar b8 (ae (aa 0) ai)))) (bH (aV (ar b8 (ae (aa 1) ai))))) (ax (aD .tuple (ae (fC (.str "fails")) (ae (fC (.str "kind")) ai)))) aK) (ax (ar dD (ae (ag aU (aa 0) (aa 1)) ai))))
def dO:FnM:=aW 2 (aq (fIf (cM (aV (fUn (a9 .str) (aa 0))) (aV (fUn (a9 .str) (aa 1)))) (ax (ar dD (ae (ag aU (aa 0) (aa 1)) ai))) aK) (aq (fIf (cM (aV (fUn (a9 .tup) (aa 0))) (aV (fUn (a9 .tup) (aa 1)))) (ax (ar dD (ae (ag aU (aa 0) (aa 1)) ai))) aK) (ax (aD .tuple (ae (fC (.str "fails")) (ae (fC (.str "kind")) ai))))))
def bc:FnM:=aW 2 (aq (fIf (aH (ag eqD (aa 0) (fC (.str "row")))) (ax (ar dD (ae (fCB cy (ae (aa 1) ai)) ai))) aK) (aq (fIf (aH (ag eqD (aa 0) (fC (.str "many")))) (ax (ar gj (ae (ag ixD (aa 1) (fC (.int 0))) ai))) aK) (aq (fIf (aH (ag eqD (aa 0) (fC (.str "part")))) (ax (ar dN (ae (ag ixD (aa 1) (fC (.int 0))) (ae (ag ixD (aa 1) (fC (.int 1))) ai)))) aK) (aq (fIf (aH (ag eqD (aa 0) (fC (.str "sum")))) (ax (ar fj (ae (ag ixD (aa 1) (fC (.int 0))) (ae (ag ixD (aa 1) (fC (.int 1))) ai)))) aK) (aq (fIf (aH (ag eqD (aa 0) (fC (.str "join")))) (ax (ar dO (ae (ag ixD (aa 1) (fC (.int 0))) (ae (ag ixD (aa 1) (fC (.int 1))) ai)))) aK) (aq (fIf (aH (ag eqD (aa 0) (fC (.str "same")))) (ax (aD .tuple (ae (fC (.str "value")) (ae (cW (aH (ag eqG (ag ixD (aa 1) (fC (.int 0))) (ag ixD (aa 1) (fC (.int 1))))) (fC (.int 1)) (fC (.int 0))) ai)))) aK) (ax (ar ei (ae (ag ixD (aa 1) (fC (.int 0))) (ae (ag ixD (aa 1) (fC (.int 1))) ai))))))))))
def cw:Nat→FnM
 | 0=>fun _ _=>none
 | n + 1=>aW 5 (aq (fIf (aH (ag eqD (ag ixD (aa 0) (fC (.int 0))) (fC (.str "put")))) (ax (aD .tuple (ae (fC (.str "value")) (ae (ag ixD (aa 0) (fC (.int 1))) ai)))) aK) (aq (fIf (aH (ag eqD (ag ixD (aa 0) (fC (.int 0))) (fC (.str "got")))) (ax (aD .tuple (ae (fC (.str "value")) (ae (ag ixD (aa 1) (ag ixD (aa 0) (fC (.int 1)))) ai)))) aK) (aq (dI 2 ai) (aq (ck 3 (bD (ar dA (ae (aa 0) ai))) (aq (aQ 4 (ar (cw n) (ae (aa 3) (ae (aa 1) ai)))) (aq (fIf (aH (ag eqD (ag ixD (aa 4) (fC (.int 0))) (fC (.str "fails")))) (ax (aa 4)) aK) (cX 2 (ag ixD (aa 4) (fC (.int 1))))))) (ax (iG bc (ae (ag ixD (aa 0) (fC (.int 0))) (ae (aa 2) ai))))))))
def bR:Nat→FnM
 | 0=>fun _ _=>none
 | n + 1=>aW 3 (aq (fIf (aH (ag eqD (ag ixD (aa 0) (fC (.int 0))) (fC (.str "fail")))) (ax (aD .tuple (ae (fC (.str "fails")) (ae (ag ixD (aa 0) (fC (.int 1))) ai)))) aK) (aq (aQ 2 (ar (cw 25) (ae (ag ixD (aa 0) (fC (.int 1))) (ae (aa 1) ai)))) (aq (fIf (aH (ag eqD (ag ixD (aa 2) (fC (.int 0))) (fC (.str "fails")))) (ax (aa 2)) aK) (aq (fIf (aH (ag eqD (ag ixD (aa 0) (fC (.int 0))) (fC (.str "when")))) (ax (ar (bR n) (ae (cW (aH (ag inG (ag ixD (aa 2) (fC (.int 1))) (aD .tuple (ae (fC (.int 0)) (ae (fC (.str "")) (ae (aD .tuple ai) ai)))))) (ag ixD (aa 0) (fC (.int 3))) (ag ixD (aa 0) (fC (.int 2)))) (ae (aa 1) ai)))) aK) (aq (fIf (aH (ag eqD (ag ixD (aa 0) (fC (.int 0))) (fC (.str "say")))) (ax (aD .tuple (ae (fC (.str "made")) (ae (ag ixD (aa 2) (fC (.int 1))) ai)))) aK) (aq (fIf (bH (aV (ar fQ (ae (ag ixD (aa 2) (fC (.int 1))) ai)))) (ax (aD .tuple (ae (fC (.str "fails")) (ae (fC (.str "name")) ai)))) aK) (ax (aD .tuple (ae (ag ixD (aa 0) (fC (.int 0))) (ae (ag ixD (aa 2) (fC (.int 1))) (ae (ag ixD (aa 0) (fC (.int 2))) ai)))))))))))
def cH:Nat→FnM
 | 0=>fun _ _=>none
 | n + 1=>aW 1 (aq (fIf (aV (ar b8 (ae (aa 0) ai))) (ax (fCB jp (ae (aa 0) ai))) aK) (aq (fIf (aV (fUn (a9 .str) (aa 0))) (ax (ag aU (fC (.str "'")) (aa 0))) aK) (ax (ag aU (ag aU (fC (.str "(")) (ag ji (fC (.str ",")) (cB (bD (aa 0)) bG (ar (cH n) (ae (aa 0) ai))))) (fC (.str ")"))))))
def fU:FnM:=aW 1 (aq (fIf (aH (ag eqD (ag ixD (aa 0) (fC (.int 0))) (fC (.str "made")))) (ax (aD .tuple (ae (fC (.str "made")) (ae (ar (cH 25) (ae (ag ixD (aa 0) (fC (.int 1))) ai)) ai)))) aK) (aq (fIf (aH (ag eqD (ag ixD (aa 0) (fC (.int 0))) (fC (.str "fails")))) (ax (aa 0)) aK) (ax (aD .tuple (ae (fC (.str "wants")) (ae (ag ixD (aa 0) (fC (.int 1))) ai))))))
def g0:FnM:=aW 3 (aq (aQ 2 (fCB cy (ae (cB (bD (ag ixD (aa 1) (fC (.int 1)))) bG (aD .tuple (ae (ag ixD (aa 0) (fC (.int 0))) (ae (ar (cH 25) (ae (ag ixD (aa 0) (fC (.int 1))) ai)) ai)))) ai))) (ax (aD .tuple (ae (aa 0) (ae (aa 2) (ae (ar fU (ae (ag ixD (aa 1) (fC (.int 2))) ai)) ai))))))
def gq:FnM:=aW 1 (ax (aD .tuple (ae (aD .tuple ai) (ae (aD .tuple ai) (ae (ar (bR 25) (ae (aa 0) (ae (aD .tuple ai) ai))) ai)))))
def cO:FnM:=aW 1 (ax (cW (aH (ag inD (ag ixD (ag ixD (aa 0) (fC (.int 2))) (fC (.int 0))) (fC (.tuple [.str "want",.str "peek"])))) (ag ixD (ag ixD (aa 0) (fC (.int 2))) (fC (.int 1))) (fC .none)))
def fW:FnM:=aW 5 (aq (aQ 2 (ag ixD (aa 0) (fC (.int 2)))) (aq (aQ 3 (ag aU (ag ixD (aa 0) (fC (.int 0))) (aD .tuple (ae (aa 1) ai)))) (aq (aQ 4 (cW (aH (ag eqD (ag ixD (aa 2) (fC (.int 0))) (fC (.str "want")))) (ag aU (ag ixD (aa 0) (fC (.int 1))) (aD .tuple (ae (aD .tuple (ae (ag ixD (aa 2) (fC (.int 1))) (ae (aa 1) ai))) ai))) (ag ixD (aa 0) (fC (.int 1))))) (ax (aD .tuple (ae (aa 3) (ae (aa 4) (ae (ar (bR 25) (ae (ag ixD (aa 2) (fC (.int 2))) (ae (aa 3) ai))) ai))))))))
def gu:FnM:=aW 2 (aq (bC (aH (ag inA (ar cO (ae (aa 0) ai)) (aa 1))) (aQ 0 (ar fW (ae (aa 0) (ae (ag ixA (aa 1) (ar cO (ae (aa 0) ai))) ai)))) 100000) (ax (aa 0)))
def eY:FnM:=aW 7 (aq (iE 1 (ag ixD (aa 0) (fC (.int 0)))) (aq (f7 2) (aq (kO 3 4 (ag ixD (aa 0) (fC (.int 1))) (cT 2 (aa 3) (ar gq (ae (aa 4) ai)))) (aq (aQ 5 (fC (.bool true))) (aq (bC (aV (aa 5)) (aq (aQ 6 (fCB bq (ae (aa 1) ai))) (aq (ck 3 (bD (ag ixD (aa 0) (fC (.int 1)))) (aq (cT 2 (aa 3) (gP (ar gu (ae (ag ixA (aa 2) (aa 3)) (ae (aa 1) ai))))) (fIf (aH (ag eqD (ag ixD (ag ixD (ag ixA (aa 2) (aa 3)) (fC (.int 2))) (fC (.int 0))) (fC (.str "made")))) (cT 1 (aa 3) (ag ixD (ag ixD (ag ixA (aa 2) (aa 3)) (fC (.int 2))) (fC (.int 1)))) aK))) (aQ 5 (ag gtD (fCB bq (ae (aa 1) ai)) (aa 6))))) 100000) (ax (aD .tuple (ae (aa 1) (ae (aa 2) ai)))))))))
def fO:FnM:=aW 3 (aq (aQ 2 (ag ixD (ar eY (ae (aa 0) ai)) (fC (.int 1)))) (aq (fIf (aH (ag dS (aa 1) (aa 2))) tY aK) (ax (ar g0 (ae (aa 1) (ae (ag ixA (aa 2) (aa 1)) ai))))))
def cZ:FnM:=aW 2 (aq (fIf (aH (ag ltD (aa 1) (fCB bq (ae (aa 0) ai)))) (ax (ag ixD (aa 0) (aa 1))) aK) (ax (fC (.int 0))))
def ff:FnM:=aW 6 (aq (dI 2 ai) (aq (aQ 3 (fC (.int 0))) (aq (fIf (aH (ag geD (aa 0) (ag gb (fC (.int 10)) (fC (.int 18))))) (aQ 3 (aa 0)) aK) (aq (aQ 4 (ag aU (ag bT (aa 0) (fC (.int 2147483629))) (fC (.int 48271)))) (aq (ck 5 (eM (aa 1)) (aq (aQ 4 (ag bT (ag aU (ag aU (ag bO (aa 4) (aa 4)) (ag bO (fC (.int 48271)) (aa 4))) (ag bO (fC (.int 7)) (aa 5))) (fC (.int 2147483647)))) (fIf (aH (ag gtD (aa 3) (fC (.int 0)))) (aq (cX 2 (ag bT (aa 3) (fC (.int 720720)))) (aQ 3 (ag fF (aa 3) (fC (.int 720720))))) (cX 2 (ag fF (ag bT (ag aU (ag bO (aa 4) (fC (.int 69621))) (ag bO (fC (.int 13)) (aa 5))) (fC (.int 2147483629))) (fC (.int 3))))))) (ax (aa 2)))))))
def bf:FnM:=aW 2 (aq (nJ (aa 0) (fC (.int 1)) (ag aU (ag ixD (aa 0) (fC (.int 1))) (fC (.int 1)))) (ax (ag bT (ag ixD (ag ixD (aa 0) (fC (.int 0))) (ag bT (ag dZ (ag ixD (aa 0) (fC (.int 1))) (fC (.int 1))) (fCB bq (ae (ag ixD (aa 0) (fC (.int 0))) ai)))) (aa 1))))
def ej:Nat→FnM
 | 0=>fun _ _=>none
 | n + 1=>aW 1 (aq (fIf (bH (aV (fUn (a9 .tup) (aa 0)))) (ax (fC (.int 1))) aK) (ax (ag aU (fC (.int 1)) (fCB jo (ae (cB (bD (aa 0)) bG (ar (ej n) (ae (aa 0) ai))) ai)))))
def eX:FnM:=aW 1 (aq (fIf (cF (bH (aV (fUn (a9 .str) (aa 0)))) (cF (aH (ag ltD (fCB bq (ae (aa 0) ai)) (fC (.int 1)))) (aH (ag gtD (fCB bq (ae (aa 0) ai)) (fC (.int 8)))))) (ax (fC (.bool false))) aK) (ax (ag eqG (cB (bD (aa 0)) (aH (ag i8 (aa 0) (fC (.str "abcdefghijklmnopqrstuvwxyz")))) (aa 0)) (aD .list ai))))
def cG:Nat→FnM
 | 0=>fun _ _=>none
 | n + 1=>aW 3 (aq (fIf (aV (fUn (a9 .bl) (aa 0))) (ax (fC (.bool false))) aK) (aq (fIf (aV (fUn (a9 .int) (aa 0))) (ax (ag leD (fCB jw (ae (aa 0) ai)) (ag gb (fC (.int 10)) (fC (.int 18))))) aK) (aq (fIf (aV (fUn (a9 .str) (aa 0))) (aq (aQ 2 (fC (.str "abcdefghijklmnopqrstuvwxyz0123456789-"))) (ax (bY (ag leD (fCB bq (ae (aa 0) ai)) (fC (.int 20))) (ag eqG (cB (bD (aa 0)) (aH (ag i8 (aa 0) (aa 3))) (aa 0)) (aD .list ai))))) aK) (aq (fIf (cF (bH (aV (fUn (a9 .tup) (aa 0)))) (cF (aH (ag gtD (fCB bq (ae (aa 0) ai)) (fC (.int 8)))) (aH (ag gtD (aa 1) (fC (.int 3)))))) (ax (fC (.bool false))) aK) (ax (ag eqG (cB (bD (aa 0)) (bH (aV (ar (cG n) (ae (aa 0) (ae (ag aU (aa 2) (fC (.int 1))) ai))))) (aa 0)) (aD .list ai)))))))
def d9:FnM:=aW 1 (ax (bY (ar (cG 25) (ae (aa 0) (ae (fC (.int 0)) ai))) (ag leD (ar (ej 25) (ae (aa 0) ai)) (fC (.int 40)))))
def cP:Nat→FnM
 | 0=>fun _ _=>none
 | n + 1=>aW 1 (aq (fIf (aV (fUn (a9 .tup) (aa 0))) (ax (ag aU (ag aU (fC (.str "(")) (ag ji (fC (.str ",")) (cB (bD (aa 0)) bG (ar (cP n) (ae (aa 0) ai))))) (fC (.str ")")))) aK) (aq (fIf (aV (fUn (a9 .str) (aa 0))) (ax (ag aU (fC (.str "'")) (aa 0))) aK) (ax (fCB jp (ae (aa 0) ai)))))
def bj:FnM:=aW 5 (aq (aQ 3 (bY (fUn (a9 .int) (aa 1)) (fUn (a9 .int) (aa 2)))) (aq (aQ 4 (bY (ag eqD (fUn (a9 .str) (aa 1)) (fUn (a9 .str) (aa 2))) (ag eqD (fUn (a9 .tup) (aa 1)) (fUn (a9 .tup) (aa 2))))) (aq (fIf (aH (ag eqD (aa 0) (fC (.str "same")))) (ax (aD .tuple (ae (fC (.str "value")) (ae (fCB intD (ae (ag eqD (iL (aa 1)) (iL (aa 2))) ai)) ai)))) aK) (aq (fIf (cM (aH (ag eqD (aa 0) (fC (.str "less")))) (aV (aa 3))) (ax (aD .tuple (ae (fC (.str "value")) (ae (fCB intD (ae (ag ltD (aa 1) (aa 2)) ai)) ai)))) aK) (aq (fIf (cM (aH (ag eqD (aa 0) (fC (.str "part")))) (cM (aV (fUn (a9 .tup) (aa 1))) (aV (fUn (a9 .int) (aa 2))))) (ax (cW (aH (gI leD ltD (fC (.int 0)) (aa 2) (fCB bq (ae (aa 1) ai)))) (aD .tuple (ae (fC (.str "value")) (ae (ag ixD (aa 1) (aa 2)) ai))) (aD .tuple (ae (fC (.str "fails")) (ae (fC (.str "part")) ai))))) aK) (aq (fIf (cF (cM (aH (ag eqD (aa 0) (fC (.str "join")))) (cM (aV (aa 4)) (bH (aV (aa 3))))) (cM (aH (ag eqD (aa 0) (fC (.str "sum")))) (aV (aa 3)))) (ax (cW (aV (ar d9 (ae (ag aU (aa 1) (aa 2)) ai))) (aD .tuple (ae (fC (.str "value")) (ae (ag aU (aa 1) (aa 2)) ai))) (aD .tuple (ae (fC (.str "fails")) (ae (fC (.str "great")) ai))))) aK) (ax (aD .tuple (ae (fC (.str "fails")) (ae (fC (.str "kind")) ai))))))))))
def b4:Nat→FnM
 | 0=>fun _ _=>none
 | n + 1=>aW 5 (aq (fIf (aH (ag eqD (ag ixD (aa 0) (fC (.int 0))) (fC (.str "put")))) (ax (aD .tuple (ae (fC (.str "value")) (ae (ag ixD (aa 0) (fC (.int 1))) ai)))) aK) (aq (fIf (aH (ag eqD (ag ixD (aa 0) (fC (.int 0))) (fC (.str "got")))) (ax (aD .tuple (ae (fC (.str "value")) (ae (ag ixD (aa 1) (ag ixD (aa 0) (fC (.int 1)))) ai)))) aK) (aq (dI 2 ai) (aq (ck 3 (bD (ag ixD (aD .list (ae (fCB dv (ae (fSl (aa 0) (fP (fC (.int 1))) fK) ai)) (ae (fCB dv (ae (ag ixD (aa 0) (fC (.int 1))) ai)) ai))) (fCB intD (ae (ag eqD (ag ixD (aa 0) (fC (.int 0))) (fC (.str "row"))) ai)))) (aq (aQ 4 (ar (b4 n) (ae (aa 3) (ae (aa 1) ai)))) (aq (fIf (aH (ag eqD (ag ixD (aa 4) (fC (.int 0))) (fC (.str "fails")))) (ax (aa 4)) aK) (cX 2 (ag ixD (aa 4) (fC (.int 1))))))) (aq (fIf (aH (ag eqD (ag ixD (aa 0) (fC (.int 0))) (fC (.str "row")))) (ax (cW (aV (ar d9 (ae (fCB cy (ae (aa 2) ai)) ai))) (aD .tuple (ae (fC (.str "value")) (ae (fCB cy (ae (aa 2) ai)) ai))) (aD .tuple (ae (fC (.str "fails")) (ae (fC (.str "great")) ai))))) aK) (aq (fIf (aH (ag eqD (ag ixD (aa 0) (fC (.int 0))) (fC (.str "many")))) (ax (cW (aV (fUn (a9 .int) (ag ixD (aa 2) (fC (.int 0))))) (aD .tuple (ae (fC (.str "fails")) (ae (fC (.str "kind")) ai))) (aD .tuple (ae (fC (.str "value")) (ae (fCB bq (ae (ag ixD (aa 2) (fC (.int 0))) ai)) ai))))) aK) (ax (ar bj (ae (ag ixD (aa 0) (fC (.int 0))) (ae (ag ixD (aa 2) (fC (.int 0))) (ae (ag ixD (aa 2) (fC (.int 1))) ai)))))))))))
def fm:FnM:=aW 5 (aq (dI 2 ai) (aq (dI 3 ai) (aq (bC (aH (ag neD (ag ixD (aa 0) (fC (.int 0))) (fC (.str "fail")))) (aq (aQ 4 (iG (b4 25) (ae (ag ixD (aa 0) (fC (.int 1))) (ae (aa 2) ai)))) (aq (fIf (aH (ag eqD (ag ixD (aa 4) (fC (.int 0))) (fC (.str "fails")))) (ax (aD .tuple (ae (aa 3) (ae (aa 4) ai)))) aK) (aq (fIf (aH (ag eqD (ag ixD (aa 0) (fC (.int 0))) (fC (.str "say")))) (ax (aD .tuple (ae (aa 3) (ae (aD .tuple (ae (fC (.str "made")) (ae (ag ixD (aa 4) (fC (.int 1))) ai))) ai)))) aK) (fIf (aH (ag eqD (ag ixD (aa 0) (fC (.int 0))) (fC (.str "when")))) (aQ 0 (ag ixD (aa 0) (ag aU (fC (.int 2)) (fCB intD (ae (ag inD (iL (ag ixD (aa 4) (fC (.int 1)))) (aD .list (ae (fC (.str "0")) (ae (fC (.str "''")) (ae (fC (.str "()")) ai))))) ai))))) (fIf (bH (aV (ar eX (ae (ag ixD (aa 4) (fC (.int 1))) ai)))) (ax (aD .tuple (ae (aa 3) (ae (aD .tuple (ae (fC (.str "fails")) (ae (fC (.str "name")) ai))) ai)))) (fIf (aH (ag dS (ag ixD (aa 4) (fC (.int 1))) (aa 1))) (ax (aD .tuple (ae (aa 3) (ae (aD .tuple (ae (fC (.str "wants")) (ae (ag ixD (aa 4) (fC (.int 1))) ai))) ai)))) (aq (cX 2 (ag ixA (aa 1) (ag ixD (aa 4) (fC (.int 1))))) (aq (fIf (aH (ag eqD (ag ixD (aa 0) (fC (.int 0))) (fC (.str "want")))) (cX 3 (aD .tuple (ae (ag ixD (aa 4) (fC (.int 1))) (ae (ag ixA (aa 1) (ag ixD (aa 4) (fC (.int 1)))) ai)))) aK) (aQ 0 (ag ixD (aa 0) (fC (.int 2)))))))))))) 100000) (ax (aD .tuple (ae (aa 3) (ae (aD .tuple (ae (fC (.str "fails")) (ae (ag ixD (aa 0) (fC (.int 1))) ai))) ai)))))))
def gm:FnM:=aW 5 (aq (iE 1 (ag ixD (aa 0) (fC (.int 0)))) (aq (aQ 2 (fC (.bool true))) (aq (bC (aV (aa 2)) (aq (aQ 2 (fC (.bool false))) (ck 3 (bD (ag ixD (aa 0) (fC (.int 1)))) (fIf (aH (ag dS (aa 3) (aa 1))) (aq (aQ 4 (gP (ag ixD (ar fm (ae (ag ixA (ag ixD (aa 0) (fC (.int 1))) (aa 3)) (ae (aa 1) ai))) (fC (.int 1))))) (fIf (aH (ag eqD (ag ixD (aa 4) (fC (.int 0))) (fC (.str "made")))) (aq (cT 1 (aa 3) (ag ixD (aa 4) (fC (.int 1)))) (aQ 2 (fC (.bool true)))) aK)) aK))) 100000) (ax (aa 1)))))
def fg:FnM:=aW 5 (aq (jt 3 4 (ar fm (ae (ag ixA (ag ixD (aa 0) (fC (.int 1))) (aa 2)) (ae (aa 1) ai)))) (aq (fIf (aH (ag eqD (ag ixD (aa 4) (fC (.int 0))) (fC (.str "made")))) (aQ 4 (aD .tuple (ae (fC (.str "made")) (ae (ar (cP 25) (ae (ag ixD (aa 4) (fC (.int 1))) ai)) ai)))) aK) (ax (aD .tuple (ae (aa 2) (ae (fCB cy (ae (mZ (bD (aa 3)) bG (aD .tuple (ae (aa 0) (ae (ar (cP 25) (ae (aa 1) ai)) ai)))) ai)) (ae (aa 4) ai)))))))
def bw:Nat→FnM
 | 0=>fun _ _=>none
 | n + 1=>aW 2 (aq (fIf (aV (fUn f6 (aa 1))) (aq (fIf (cF (aH (ag neD (fUn (a9 .tup) (aa 0)) (fUn (a9 .tup) (aa 1)))) (aH (ag neD (fUn (a9 .lst) (aa 0)) (fUn (a9 .lst) (aa 1))))) (ax (fC (.bool false))) aK) (ax (bY (ag eqD (fCB bq (ae (aa 0) ai)) (fCB bq (ae (aa 1) ai))) (fCB gh (ae (cB (eM (fCB bq (ae (aa 1) ai))) bG (ar (bw n) (ae (ag ixA (aa 1) (aa 0)) (ae (ag ixA (aa 2) (aa 0)) ai)))) ai))))) aK) (aq (fIf (aV (fUn (a9 .dct) (aa 1))) (aq (fIf (cF (bH (aV (fUn (a9 .dct) (aa 0)))) (aH (ag neD (fCB bq (ae (aa 0) ai)) (fCB bq (ae (aa 1) ai))))) (ax (fC (.bool false))) aK) (ax (fCB gh (ae (cB (bD (aa 1)) bG (bY (ag inA (aa 0) (aa 1)) (ar (bw n) (ae (ag ixA (aa 1) (aa 0)) (ae (ag ixA (aa 2) (aa 0)) ai))))) ai)))) aK) (aq (fIf (cF (aV (fUn (a9 .bl) (aa 1))) (aH (ag isD (aa 1) (fC .none)))) (ax (bY (ag eqD (fUn (a9 .bl) (aa 0)) (fUn (a9 .bl) (aa 1))) (ag eqD (aa 0) (aa 1)))) aK) (aq (fIf (aV (fUn (a9 .int) (aa 1))) (ax (bY (fUn (a9 .int) (aa 0)) (bY (kN (fUn (a9 .bl) (aa 0))) (ag eqD (aa 0) (aa 1))))) aK) (ax (bY (fUn (a9 .str) (aa 0)) (ag eqD (aa 0) (aa 1))))))))
def ef:FnM:=aW 7 (aq (aQ 2 (fC (.str "abcdefghijklmnopqrstuvwxyz"))) (aq (aQ 3 (ar bf (ae (aa 0) (ae (fC (.int 4)) ai)))) (aq (aQ 4 (ar bf (ae (aa 0) (ae (fC (.int 12)) ai)))) (aq (fIf (aH (ag eqD (aa 3) (fC (.int 0)))) (aq (aQ 5 (aD .list (ae (fC (.str "told")) (ae (fC (.str "made")) (ae (fC (.str "say")) (ae (fC (.str "want")) (ae (fC (.str "wants")) (ae (fC (.str "fails")) (ae (fC (.str "put")) (ae (fC (.str "got")) (ae (fC (.str "row")) (ae (fC (.str "peek")) (ae (fC (.str "when")) (ae (fC (.str "kind")) ai)))))))))))))) (ax (fSl (ag aU (fSl (aa 5) (fP (aa 4)) fK) (fSl (aa 5) fK (fP (aa 4)))) fK (fP (aa 1))))) aK) (aq (fIf (aH (ag eqD (aa 3) (fC (.int 1)))) (ax (cB (eM (aa 1)) bG (ag bO (ag ixD (aa 3) (ag aU (aa 5) (ag fF (aa 0) (fC (.int 8))))) (ag aU (fC (.int 1)) (ag bT (aa 0) (fC (.int 8))))))) aK) (aq (aQ 6 (ag bO (ag ixD (aa 2) (aa 4)) (ar bf (ae (aa 0) (ae (ag dZ (fC (.int 8)) (ag bT (aa 4) (fC (.int 7)))) ai))))) (ax (cB (eM (aa 1)) bG (ag aU (ag aU (ag bO (ag ixD (aa 3) (aa 5)) (ag bT (aa 5) (fC (.int 7)))) (ag ixD (aa 3) (ag bT (ag aU (aa 5) (aa 0)) (fC (.int 26))))) (aa 7))))))))))
def bW:Nat→FnM
 | 0=>fun _ _=>none
 | n + 1=>aW 5 (aq (aQ 3 (ar bf (ae (aa 0) (ae (fC (.int 10)) ai)))) (aq (aQ 4 (aD .list (ae (fC (.int 0)) (ae (fC (.int 1)) (ae (fUn js (fC (.int 1))) (ae (fC (.int 2)) (ae (ag gb (fC (.int 10)) (fC (.int 18))) (ae (fUn js (ag gb (fC (.int 10)) (fC (.int 18)))) (ae (fC (.str "")) (ae (fC (.str "a")) (ae (fC (.str "0")) (ae (fC (.str "-")) (ae (ag bO (fC (.str "a")) (fC (.int 20))) (ae (aD .tuple ai) ai)))))))))))))) (aq (fIf (cF (aH (ag ltD (aa 3) (fC (.int 6)))) (cM (aH (ag eqD (aa 2) (fC (.int 0)))) (aH (ag gtD (aa 3) (fC (.int 7)))))) (ax (ag ixD (aa 4) (ar bf (ae (aa 0) (ae (fC (.int 12)) ai))))) aK) (aq (fIf (aH (ag ltD (aa 3) (fC (.int 8)))) (ax (ag ixD (aa 1) (ar bf (ae (aa 0) (ae (fCB bq (ae (aa 1) ai)) ai))))) aK) (ax (fCB cy (ae (cB (eM (ar bf (ae (aa 0) (ae (fC (.int 4)) ai)))) bG (ar (bW n) (ae (aa 1) (ae (aa 2) (ae (ag dZ (aa 3) (fC (.int 1))) ai))))) ai)))))))
def eZ:FnM:=aW 3 (aq (fIf (cM (aH (ag gtD (aa 2) (fC (.int 0)))) (aH (ag gtD (ar bf (ae (aa 0) (ae (fC (.int 3)) ai))) (fC (.int 0))))) (ax (aD .tuple (ae (fC (.str "got")) (ae (ar bf (ae (aa 0) (ae (aa 2) ai))) ai)))) aK) (ax (aD .tuple (ae (fC (.str "put")) (ae (ar (bW 25) (ae (aa 0) (ae (aa 1) (ae (fC (.int 1)) ai)))) ai)))))
def fh:FnM:=aW 6 (aq (aQ 3 (ar bf (ae (aa 0) (ae (fC (.int 10)) ai)))) (aq (aQ 4 (ar eZ (ae (aa 0) (ae (aa 1) (ae (aa 2) ai))))) (aq (fIf (aH (ag ltD (aa 3) (fC (.int 5)))) (ax (ag ixD (aD .list (ae (aa 4) (ae (aD .tuple (ae (fC (.str "many")) (ae (aa 4) ai))) ai))) (ag fF (aa 3) (fC (.int 4))))) aK) (aq (aQ 5 (ar eZ (ae (aa 0) (ae (aa 1) (ae (aa 2) ai))))) (aq (fIf (aH (ag eqD (aa 3) (fC (.int 5)))) (ax (aD .tuple (ae (fC (.str "row")) (ae (fSl (aD .tuple (ae (aa 4) (ae (aa 5) ai))) fK (fP (ar bf (ae (aa 0) (ae (fC (.int 3)) ai))))) ai)))) aK) (ax (aD .tuple (ae (ag ixD (aD .list (ae (fC (.str "sum")) (ae (fC (.str "join")) (ae (fC (.str "same")) (ae (fC (.str "less")) (ae (fC (.str "part")) ai)))))) (ar bf (ae (aa 0) (ae (fC (.int 5)) ai)))) (ae (aa 4) (ae (aa 5) ai))))))))))
def bI:Nat→FnM
 | 0=>fun _ _=>none
 | n + 1=>aW 9 (aq (aQ 5 (ar bf (ae (aa 0) (ae (fC (.int 8)) ai)))) (aq (aQ 6 (ar fh (ae (aa 0) (ae (aa 1) (ae (aa 3) ai))))) (aq (fIf (cM (aH (ag gtD (aa 2) (fC (.int 0)))) (aH (ag ltD (aa 5) (fC (.int 4))))) (aq (aQ 7 (ag ixD (aD .list (ae (fC (.str "want")) (ae (fC (.str "peek")) ai))) (fCB intD (ae (bY (aa 4) (ag eqD (ar bf (ae (aa 0) (ae (fC (.int 4)) ai))) (fC (.int 0)))) ai)))) (aq (fIf (aH (ag gtD (ar bf (ae (aa 0) (ae (fC (.int 5)) ai))) (fC (.int 0)))) (aQ 6 (aD .tuple (ae (fC (.str "put")) (ae (ag ixD (aa 1) (ar bf (ae (aa 0) (ae (fCB bq (ae (aa 1) ai)) ai)))) ai)))) aK) (ax (aD .tuple (ae (aa 7) (ae (aa 6) (ae (ar (bI n) (ae (aa 0) (ae (aa 1) (ae (ag dZ (aa 2) (fC (.int 1))) (ae (ag aU (aa 3) (fC (.int 1))) (ae (aa 4) ai)))))) ai))))))) aK) (aq (fIf (cM (aH (ag gtD (aa 2) (fC (.int 1)))) (aH (ag ltD (aa 5) (fC (.int 6))))) (aq (aQ 8 (ar (bI n) (ae (aa 0) (ae (aa 1) (ae (ag dZ (aa 2) (fC (.int 2))) (ae (aa 3) (ae (aa 4) ai))))))) (ax (aD .tuple (ae (fC (.str "when")) (ae (aa 6) (ae (aa 8) (ae (ar (bI n) (ae (aa 0) (ae (aa 1) (ae (ag dZ (aa 2) (fC (.int 2))) (ae (aa 3) (ae (aa 4) ai)))))) ai))))))) aK) (aq (fIf (cM (aH (ag eqD (aa 5) (fC (.int 6)))) (aH (ag eqD (ar bf (ae (aa 0) (ae (fC (.int 2)) ai))) (fC (.int 0))))) (ax (aD .tuple (ae (fC (.str "fail")) (ae (ag ixD (ag aU (aa 1) (aD .list (ae (fC (.str "kind")) (ae (fC (.str "name")) ai)))) (ar bf (ae (aa 0) (ae (ag aU (fCB bq (ae (aa 1) ai)) (fC (.int 2))) ai)))) ai)))) aK) (ax (aD .tuple (ae (fC (.str "say")) (ae (aa 6) ai)))))))))
def gn:FnM:=aW 10 (iF 3 (ae (ar ff (ae (ar cZ (ae (aa 0) (ae (aa 1) ai))) (ae (fC (.int 24)) ai))) (ae (fC (.int 0)) ai)) (aq (aQ 4 (ag aU (fC (.int 3)) (ar bf (ae (aa 3) (ae (fC (.int 8)) ai))))) (aq (aQ 5 (ar ef (ae (aa 3) (ae (ag aU (aa 4) (fC (.int 2))) ai)))) (aq (f7 6) (aq (f7 7) (aq (ck 8 (eM (aa 4)) (iF 9 (ae (ar ff (ae (ag aU (ar cZ (ae (aa 0) (ae (ag aU (ag aU (aa 1) (fC (.int 1))) (aa 8)) ai))) (ag bO (fC (.int 977)) (aa 8))) (ae (fC (.int 60)) ai))) (ae (fC (.int 0)) ai)) (fIf (aH (ag eqD (ar bf (ae (aa 9) (ae (fC (.int 4)) ai))) (fC (.int 0)))) (cT 6 (ag ixD (aa 5) (aa 8)) (ar (bW 25) (ae (aa 9) (ae (aa 5) (ae (fC (.int 2)) ai))))) (cT 7 (ag ixD (aa 5) (aa 8)) (ar (bI 25) (ae (aa 9) (ae (aa 5) (ae (ag aU (fC (.int 1)) (ar bf (ae (aa 9) (ae (fC (.int 4)) ai)))) (ae (fC (.int 0)) (ae (aa 2) ai)))))))))) (ax (aD .tuple (ae (aa 6) (ae (aa 7) ai))))))))))
def oS:FS:=aQ 2 (ag ixD (ar eY (ae (aa 0) ai)) (fC (.int 1)))
def oM:FT:=aH (ag dS (aa 1) (aa 2))
def jA (ws:List W) (T:Tp):Option (Str×Tp):=bnd (oS (ws.map some++List.replicate (3 - ws.length) none) T) fun p T1=>match (p:Fl×Rho) with
 | (.nx,ρ1)=>bnd (oM ρ1 T1) fun b T2=>if b=true then (match (ρ1[1]?:Option (Option W)) with
  | some (some (.d (.str x)))=>if (reprText x).length + 1000≤sizeLine then some (x,T2) else none
  | _=>none) else none
 | _=>none
def fN:FnM:=fun ws T=>if ws.length=2∧du ws=true then bnd (jA ws T) fun x T1=>some (.list [.bool true,.bool false,.str x],T1) else none
def kI:FnM:=aW 5 (aq (aQ 1 (ar gn (ae (aa 0) (ae (fC (.int 1)) (ae (ag eqD (ag bT (ar cZ (ae (aa 0) (ae (fC (.int 0)) ai))) (fC (.int 3))) (fC (.int 0))) ai))))) (aq (aQ 2 (aD .tuple (ae (iM (ag ixD (aa 1) (fC (.int 0)))) (ae (iM (ag ixD (aa 1) (fC (.int 1)))) ai)))) (aq (aQ 3 (ar gm (ae (aa 2) ai))) (aq (ck 4 (bD (fUn gD (ag ixD (aa 1) (fC (.int 1))))) (fIf (bH (aV (ar (bw 25) (ae (ar fO (ae (aa 1) (ae (aa 4) ai))) (ae (ar fg (ae (aa 2) (ae (aa 3) (ae (aa 4) ai)))) ai))))) (ax (fC (.bool false))) aK)) (aq (ck 4 (bD (ag aU (fUn gD (ag ixD (aa 1) (fC (.int 0)))) (aD .list (ae (fC (.str "zzzzzzzz")) (ae (fC (.str "A")) (ae (fC (.str "")) ai)))))) (fIf (bH (aV (ar (bw 25) (ae (ar fN (ae (aa 1) (ae (aa 4) ai))) (ae (aD .list (ae (fC (.bool true)) (ae (fC (.bool false)) (ae (aa 4) ai)))) ai))))) (ax (fC (.bool false))) aK)) (ax (ar (bw 25) (ae (aa 1) (ae (aa 2) ai)))))))))
end G
namespace K1
open PySem
structure Sh (d:PyData) (k n:Nat):Prop where
 sh:d.showable=true
 lv:d.leavesShort 200=true
 dp:d.depth≤k
 wt:d.weight≤n
theorem Sh.mono {d:PyData} {k n k' n':Nat} (h:Sh d k n) (hk:k≤k') (hn:n≤n'):Sh d k' n':=⟨h.sh,h.lv,Nat.le_trans h.dp hk,Nat.le_trans h.wt hn⟩
theorem Sh.int {i:Int} (h:i.natAbs < 10 ^ 40):Sh (.int i) 0 200:=by
 have l:i.natAbs.log2 < 150:=by
  by_cases h0:i.natAbs=0
  ·rw [h0]; decide
  ·exact (Nat.log2_lt h0).mpr (Nat.lt_trans h (by decide))
 refine ⟨?_,?_,Nat.le_refl _,?_⟩
 ·show decide (i.natAbs.log2 < 1920)=true
  exact decide_eq_true (by omega)
 ·show decide ((PyData.shown (.int i)).length≤200)=true
  refine decide_eq_true ?_
  have e:=int_text_length_le10 (k:=40) (by decide) h
  show (Str.ofString (toString i)).length≤200
  rw [ofString_length]
  omega
 ·show (if i == 0 then 0 else i.natAbs.log2 + 1)≤200
  split <;> omega
theorem Sh.str {x:Str} {n:Nat} (h:∀ c∈x.cps.toList,c < 128) (hn:x.length≤n):Sh (.str x) 0 n:=by
 refine ⟨rfl,?_,Nat.le_refl _,hn⟩
 show (x.cps.toList.all fun c=>decide (c < 16 ^ 8))=true
 exact List.all_eq_true.mpr fun c hc=>decide_eq_true (Nat.lt_trans (h c hc) (by decide))
structure Shs (ds:List PyData) (k n:Nat):Prop where
 sh:PyData.showableAll ds=true
 lv:PyData.leavesShortAll 200 ds=true
 dp:PyData.depthAll ds≤k
 wt:PyData.weightAll ds≤n
theorem Shs.nil (k n:Nat):Shs [] k n:=⟨rfl,rfl,Nat.zero_le _,Nat.zero_le _⟩
theorem Shs.cons {d:PyData} {ds:List PyData} {k n m:Nat} (h:Sh d k n) (t:Shs ds k m):Shs (d::ds) k (n + 1 + m):=by
 refine ⟨?_,?_,?_,?_⟩
 ·show (d.showable && PyData.showableAll ds)=true
  rw [h.sh,t.sh]; rfl
 ·show (d.leavesShort 200 && PyData.leavesShortAll 200 ds)=true
  rw [h.lv,t.lv]; rfl
 ·show max d.depth (PyData.depthAll ds)≤k
  exact Nat.max_le.mpr ⟨h.dp,t.dp⟩
 ·show d.weight + 1 + PyData.weightAll ds≤n + 1 + m
  have:=h.wt
  have:=t.wt
  omega
theorem Shs.of:∀ {ds:List PyData} {k:Nat} {f:PyData→Nat},(∀ d∈ds,Sh d k (f d))→Shs ds k ((ds.map fun d=>f d + 1).sum)
 | [],k,f,_=>Shs.nil _ _
 | d::r,k,f,h=>by
  have q:=Shs.of (ds:=r) (f:=f) fun x hx=>h x (List.mem_cons_of_mem _ hx)
  have z:=Shs.cons (h d List.mem_cons_self) q
  simpa using z
theorem Sh.tuple {ds:List PyData} {k n:Nat} (h:Shs ds k n):Sh (.tuple ds) (k + 1) n:=⟨h.sh,h.lv,Nat.succ_le_succ h.dp,h.wt⟩
theorem iC {s x:Str} (hs:∀ c∈s.cps.toList,c < 128) (h:has s x=true):∀ c∈x.cps.toList,c < 128:=fun c hc=>
 hs c (of_decide_eq_true (List.all_eq_true.mp h c hc))
theorem jc:∀ c∈TXT.cps.toList,c < 128:=by decide +kernel
theorem Ct:∀ c∈LET.cps.toList,c < 128:=by decide +kernel
theorem mO:∀ (n:Nat) (d:PyData),aF n d=true→Sh d n (201 * (aE n d).toNat)∧1≤aE n d
 | 0,d,h=>by
  cases d with
  | int i=>
   have h':=of_decide_eq_true (p:=(if i < 0 then -i else i)≤10 ^ 18) h
   refine ⟨(Sh.int ?_).mono (Nat.le_refl _) (by show 200≤201 * (1:Int).toNat; decide),Int.le_refl 1⟩
   have:i.natAbs≤10 ^ 18:=by split at h' <;> omega
   exact Nat.lt_of_le_of_lt this (by decide)
  | str x=>
   have h':(decide (x.length≤20) && has TXT x)=true:=h
   rw [Bool.and_eq_true] at h'
   have:=of_decide_eq_true h'.1
   exact ⟨(Sh.str (n:=20) (iC jc h'.2) this).mono (Nat.le_refl _) (by show 20≤201 * (1:Int).toNat; decide),Int.le_refl 1⟩
  | _=>cases h
 | n + 1,d,h=>by
  cases d with
  | int i=>
   have h':=of_decide_eq_true (p:=(if i < 0 then -i else i)≤10 ^ 18) h
   refine ⟨(Sh.int ?_).mono (Nat.zero_le _) (by show 200≤201 * (1:Int).toNat; decide),Int.le_refl 1⟩
   have:i.natAbs≤10 ^ 18:=by split at h' <;> omega
   exact Nat.lt_of_le_of_lt this (by decide)
  | str x=>
   have h':(decide (x.length≤20) && has TXT x)=true:=h
   rw [Bool.and_eq_true] at h'
   have:=of_decide_eq_true h'.1
   exact ⟨(Sh.str (n:=20) (iC jc h'.2) this).mono (Nat.zero_le _) (by show 20≤201 * (1:Int).toNat; decide),Int.le_refl 1⟩
  | tuple ds=>
   have h':(decide (ds.length≤8) && ds.all (aF n))=true:=h
   rw [Bool.and_eq_true] at h'
   have ha:=List.all_eq_true.mp h'.2
   have q:=Shs.of (ds:=ds) (k:=n) (f:=fun x=>201 * (aE n x).toNat) fun x hx=>(mO n x (ha x hx)).1
   have key:∀ l:List PyData,(∀ x∈l,1≤aE n x)→0≤(l.map (aE n)).sum∧(l.map fun x=>201 * (aE n x).toNat + 1).sum≤201 * ((l.map (aE n)).sum).toNat + l.length:=by
    intro l
    induction l with
    | nil=>intro _; exact ⟨by simp,by simp⟩
    | cons x r ih=>
     intro hx
     have h1:=hx x List.mem_cons_self
     have h2:=ih fun y hy=>hx y (List.mem_cons_of_mem _ hy)
     simp only [List.map_cons,List.sum_cons,List.length_cons]
     omega
   have kk:=key ds fun x hx=>(mO n x (ha x hx)).2
   have hl:=of_decide_eq_true h'.1
   have e:aE (n + 1) (.tuple ds)=1 + (ds.map (aE n)).sum:=rfl
   refine ⟨(Sh.tuple q).mono (Nat.le_refl _) ?_,?_⟩
   ·rw [e]; omega
   ·rw [e]; omega
  | _=>cases h
end K1
namespace K1
open PySem
def Good (d:PyData):Prop:=Sh d 60 60000
theorem og:∀ {ds:List PyData} {d:PyData},d∈ds→d.weight + 1≤PyData.weightAll ds∧d.depth≤PyData.depthAll ds∧(PyData.showableAll ds=true→d.showable=true)∧(PyData.leavesShortAll 200 ds=true→d.leavesShort 200=true)
 | e::r,d,h=>by
  have e1:PyData.weightAll (e::r)=e.weight + 1 + PyData.weightAll r:=rfl
  have e2:PyData.depthAll (e::r)=max e.depth (PyData.depthAll r):=rfl
  have e3:PyData.showableAll (e::r)=(e.showable && PyData.showableAll r):=rfl
  have e4:PyData.leavesShortAll 200 (e::r)=(e.leavesShort 200 && PyData.leavesShortAll 200 r):=rfl
  rw [e1,e2,e3,e4,Bool.and_eq_true,Bool.and_eq_true]
  rcases List.mem_cons.mp h with z | z
  ·subst z
   exact ⟨by omega,Nat.le_max_left _ _,fun q=>q.1,fun q=>q.1⟩
  ·obtain ⟨q1,q2,q3,q4⟩:=og z
   exact ⟨by omega,Nat.le_trans q2 (Nat.le_max_right _ _),fun q=>q3 q.2,fun q=>q4 q.2⟩
theorem Good.part {ds:List PyData} {d:PyData} (h:Good (.tuple ds)) (hd:d∈ds):Good d:=by
 obtain ⟨q1,q2,q3,q4⟩:=og hd
 have w:=h.wt
 have p:=h.dp
 have e1:(PyData.tuple ds).weight=PyData.weightAll ds:=rfl
 have e2:(PyData.tuple ds).depth=PyData.depthAll ds + 1:=rfl
 rw [e1] at w
 rw [e2] at p
 exact ⟨q3 h.sh,q4 h.lv,by omega,by omega⟩
end K1
namespace G
open PySem PySem.Spec PyProof.Rows L2 D
open K1 (has LET TXT single aF aE lsz isName aG tdp bi ldp)
mutual
def smB:PyData→Bool
 | .str x=>decide (x.length≤60000) && x.cps.toList.all fun c=>decide (c < 128)
 | .tuple ds=>f9 ds
 | _=>true
def f9:List PyData→Bool
 | []=>true
 | d::r=>smB d && f9 r
end
def Sm (d:PyData):Prop:=smB d=true
theorem Sm.both {x:Str} (h:Sm (.str x)):x.length≤60000∧∀ c∈x.cps.toList,c < 128:=by
 have h':(decide (x.length≤60000) && x.cps.toList.all fun c=>decide (c < 128))=true:=by
  have:smB (.str x)=true:=h
  rw [smB] at this
  exact this
 rw [Bool.and_eq_true,List.all_eq_true] at h'
 exact ⟨of_decide_eq_true h'.1,fun c hc=>of_decide_eq_true (h'.2 c hc)⟩
theorem Sm.str {x:Str} (h:Sm (.str x)):x.cps.size≤60000:=h.both.1
theorem Sm.mkS {x:Str} (h:x.length≤60000) (h2:∀ c∈x.cps.toList,c < 128):Sm (.str x):=by
 show smB (.str x)=true
 rw [smB,Bool.and_eq_true,List.all_eq_true]
 exact ⟨decide_eq_true h,fun c hc=>decide_eq_true (h2 c hc)⟩
theorem pP:∀ {ds:List PyData} {d:PyData},f9 ds=true→d∈ds→smB d=true
 | e::r,d,h,hd=>by
  have h':(smB e && f9 r)=true:=by simpa [f9] using h
  rw [Bool.and_eq_true] at h'
  rcases List.mem_cons.mp hd with z | z
  ·rw [z]; exact h'.1
  ·exact pP h'.2 z
theorem Sm.part {ds:List PyData} {d:PyData} (h:Sm (.tuple ds)) (hd:d∈ds):Sm d:=pP (by simpa [Sm,smB] using h) hd
theorem qq:∀ {ds:List PyData},(∀ d∈ds,Sm d)→f9 ds=true
 | [],_=>by simp [f9]
 | d::r,h=>by
  have h1:smB d=true:=h d List.mem_cons_self
  simp [f9,h1,qq (ds:=r) fun x hx=>h x (List.mem_cons_of_mem _ hx)]
theorem Sm.tup {ds:List PyData} (h:∀ d∈ds,Sm d):Sm (.tuple ds):=by simp [Sm,smB,qq h]
def whole:PyData→Bool
 | .int _=>true
 | _=>false
theorem iu (x:PyData) (T:Tp):b8 [.d x] T=some (.bool (whole x),T):=by cases x <;> rfl
theorem oQ (y x:Str):(D.signs x).all (mM y)=has y x:=by
 unfold D.signs has
 rw [List.all_map]
 congr 1
 funext c
 exact zw y c
theorem uh {x y:Str} (T:Tp) (h:x.length≤sizeLine):et [.d (.str x),.d (.str y)] T=some (.bool (has y x),T):=by
 have hc:bN bG (ag inD (aa 0) (aa 2)) [some (.d (.str x)),some (.d (.str y))] (D.signs x) T=some ((D.signs x).map fun d=>.bool (mM y d),T):=dE fun d hd=>by
  obtain ⟨c,_,rfl⟩:=xU hd
  rfl
 simp [et,h,hc,oQ]
theorem zT {d:PyData} (T:Tp) (h:Sm d):gk [.d d] T=some (.bool (single d),T):=by
 cases d with
 | str x=>
  have hz:x.length≤sizeLine:=Nat.le_trans h.str (by decide)
  have hh:∀ T,et [.d (.str x),.d (.str "abcdefghijklmnopqrstuvwxyz0123456789-")] T=some (.bool (has TXT x),T):=fun T=>uh T hz
  have e:single (.str x)=(decide (x.length≤20) && has TXT x):=rfl
  have hi:a6 .str .str=true:=rfl
  by_cases hk:x.length≤20
  ·have hk':(x.length:Int)≤20:=by omega
   simp [gk,iu,whole,hh,hz,hi,e,hk,hk']
  ·have hk':¬ (x.length:Int)≤20:=by omega
   simp [gk,iu,whole,hh,hz,hi,e,hk,hk']
 | _=>rfl
theorem iB {d:PyData} (h:kd d=.tup):∃ ds,d=.tuple ds:=by cases d <;> first | exact ⟨_,rfl⟩ | cases h
theorem mj {d:PyData} (h:kd d≠.tup):a6 (kd d) .tup=false:=by
 revert h
 cases kd d <;> simp [a6]
theorem n9 {n:Nat} {d:PyData} (h:kd d≠.tup):aF n d=single d:=by cases d <;> first | (cases n <;> rfl) | exact absurd rfl h
theorem lu {n:Nat} {d:PyData} (h:kd d≠.tup):aE n d=1:=by cases d <;> first | (cases n <;> rfl) | exact absurd rfl h
theorem uq {d:PyData} (h:tdp 0 d=true):kd d≠.tup:=by
 intro z
 cases d <;> first | cases h; done | cases z
theorem ja:a6 .tup .tup=true:=rfl
theorem rG:∀ (n k:Nat) (d:PyData) (T:Tp),Sm d→n < k→c7 k [.d d,.d (.int n)] T=some (.bool (aF n d),T)
 | n,0,d,T,_,hk=>absurd hk (Nat.not_lt_zero _)
 | n,k + 1,d,T,hg,hk=>by
  by_cases ht:kd d=.tup
  ·obtain ⟨ds,rfl⟩:=iB ht
   cases n with
   | zero=>simp [c7,ja,aF]
   | succ n=>
    have e:aF (n + 1) (.tuple ds)=(decide (ds.length≤8) && ds.all (aF n)):=rfl
    have h0:¬ ((n + 1:Nat):Int)=0:=by omega
    have h0':¬ (n:Int) + 1=0:=by omega
    by_cases h8:ds.length≤8
    ·have h8':¬ (8:Int) < (ds.length:Int):=by omega
     have hs:((n + 1:Nat):Int) - 1=(n:Int):=by omega
     have hc:bN bG (ar (c7 k) (ae (aa 0) (ae (ag dZ (aa 2) (fC (.int 1))) ai))) [some (.d (.tuple ds)),some (.d (.int ((n + 1:Nat):Int)))] ds T=some (ds.map fun x=>.bool (aF n x),T):=dE fun x hx=>by
      have:=rG n k x T (hg.part hx) (by omega)
      simp [hs,this]
     simp [c7,ja,e,h0,h0',h8,h8'] at hc ⊢
     simp [hc]
    ·have h8':(8:Int) < (ds.length:Int):=by omega
     simp [c7,ja,e,h0,h0',h8,h8']
  ·simp [c7,mj ht,n9 ht,zT T hg]
theorem sX:∀ (n k:Nat) (d:PyData) (T:Tp),tdp n d=true→n < k→eA k [.d d] T=some (.int (aE n d),T)
 | n,0,d,T,_,hk=>absurd hk (Nat.not_lt_zero _)
 | n,k + 1,d,T,hg,hk=>by
  by_cases ht:kd d=.tup
  ·cases n with
   | zero=>exact absurd ht (uq hg)
   | succ n=>
    obtain ⟨ds,rfl⟩:=iB ht
    have hg':ds.all (tdp n)=true:=hg
    have e:aE (n + 1) (.tuple ds)=1 + (ds.map (aE n)).sum:=rfl
    have hc:bN bG (ar (eA k) (ae (aa 0) ai)) [some (.d (.tuple ds))] ds T=some (ds.map fun x=>.int (aE n x),T):=dE fun x hx=>by
     have:=sX n k x T (List.all_eq_true.mp hg' x hx) (by omega)
     simp [this]
    simp [eA,ja,e,hc]
  ·simp [eA,mj ht,lu ht]
theorem AW {d:PyData} (T:Tp) (h:Sm d):gr [.d d] T=some (.bool (aG d),T):=by
 have h1:=rG 4 25 d T h (by decide)
 have h1':c7 25 [.d d,.d (.int 4)] T=some (.bool (aF 4 d),T):=h1
 have e:aG d=(aF 4 d && decide (aE 4 d≤40)):=rfl
 cases hb:aF 4 d with
 | false=>simp [gr,h1',e,hb]
 | true=>
  have h2:=sX 4 25 d T (K1.lT 4 d hb) (by decide)
  simp [gr,h1',h2,e,hb]
end G
namespace D
open PySem PySem.Spec PyProof.Rows L2
def cd (x:Str):List Nat:=x.cps.toList
theorem iI {x y:Str} (h:cd x=cd y):x=y:=by
 obtain ⟨x⟩:=x
 obtain ⟨y⟩:=y
 have h':x.toList=y.toList:=h
 exact congrArg Str.mk (Array.toList_inj.mp h')
theorem kr (x:Str):(cd x).length=x.length:=Array.length_toList
theorem gJ (x y:Str):cd (x++y)=cd x++cd y:=cps_toList_append x y
def bx (c:List Nat):List (List Nat)→List Nat
 | []=>[]
 | [x]=>x
 | x::y::r=>x++c++bx c (y::r)
theorem ms (z:Str):∀ ys:List Str,cd (Str.join z ys)=bx (cd z) (ys.map cd)
 | []=>rfl
 | [x]=>by
  show cd (Str.join z [x])=cd x
  simp [Str.join]
 | x::y::r=>by
  have ih:=ms z (y::r)
  show cd ((x++z)++Str.join z (y::r))=_
  rw [gJ,gJ,ih]
  rfl
theorem wH (c x:List Nat) (r:List (List Nat)):bx c (x::r)=x++(r.map (c++·)).flatten:=by
 induction r generalizing x with
 | nil=>simp [bx]
 | cons y r ih=>
  show x++c++bx c (y::r)=_
  rw [ih y]
  simp
end D
namespace G
open PySem PySem.Spec PyProof.Rows L2 D
open K1 (has LET TXT single aF aE lsz isName aG tdp bi ldp)
def mk (l:List Nat):Str:=⟨l.toArray⟩
theorem dY (l:List Nat):cd (mk l)=l:=by simp [cd,mk]
theorem tL (x:Str):mk (cd x)=x:=iI (dY _)
theorem dh (l:List Nat):(mk l).length=l.length:=by simp [mk,Str.length]
def dg (m:Nat):List Nat:=(Nat.toDigits 10 m).map Char.toNat
theorem kP (m:Nat):NumText.AllDigits (dg m):=fun c hc=>by
 obtain ⟨ch,hch,e⟩:=List.mem_map.mp hc
 rw [← e]
 exact digit_range (Nat.isDigit_of_mem_toDigits (by decide) (by decide) hch)
theorem kq (m:Nat):NumText.digitsVal (dg m)=m:=W.KIN.val_back m
theorem Du (m:Nat):dg m≠[]:=fun e=>by
 have h:=toDigits_len_ge 10 m
 rw [List.map_eq_nil_iff.mp e] at h
 exact absurd h (by decide)
theorem sJ {m:Nat} (h:m≤10 ^ 18):(dg m).length≤19:=by
 unfold dg
 rw [List.length_map]
 exact toDigits_len_pow (by decide) (by decide) (Nat.lt_of_le_of_lt h (by decide))
def nc:Int→List Nat
 | .ofNat m=>dg m
 | .negSucc m=>45::dg (m + 1)
theorem tJ (i:Int):cd (Str.ofString (toString i))=nc i:=by
 cases i with
 | ofNat m=>exact W.KIN.signs_num m
 | negSucc m=>
  have e:toString (Int.negSucc m) = "-"++toString (m + 1):=rfl
  unfold cd
  rw [e,signs_ofString]
  show ("-"++Nat.repr (m + 1)).toList.map Char.toNat=_
  rw [String.toList_append,List.map_append,Nat.toList_repr]
  rfl
theorem qC (i:Int):∀ c∈nc i,c=45∨(48≤c∧c≤57):=by
 cases i with
 | ofNat m=>exact fun c hc=>.inr (kP m c hc)
 | negSucc m=>
  intro c hc
  rcases List.mem_cons.mp hc with h | h
  ·exact .inl h
  ·exact .inr (kP _ c h)
theorem De (i:Int):nc i≠[]:=by
 cases i with
 | ofNat m=>exact Du m
 | negSucc m=>exact fun h=>nomatch h
theorem lq {i:Int} (h:single (.int i)=true):i.natAbs≤10 ^ 18:=by
 have h':(if i < 0 then -i else i)≤10 ^ 18:=of_decide_eq_true h
 have e:((10:Int) ^ 18)=1000000000000000000:=by decide
 have e2:((10:Nat) ^ 18)=1000000000000000000:=by decide
 rw [e] at h'
 rw [e2]
 split at h' <;> omega
theorem BR {i:Int} (h:single (.int i)=true):(nc i).length≤20:=by
 have h:=lq h
 cases i with
 | ofNat m=>
  have:=sJ (m:=m) h
  show (dg m).length≤20
  omega
 | negSucc m=>
  have:=sJ (m:=m + 1) h
  show (dg (m + 1)).length + 1≤20
  omega
theorem bV {d:PyData} (h:single d=true):(∃ i,d=.int i)∨∃ x,d=.str x:=by cases d <;> first | exact .inl ⟨_,rfl⟩ | exact .inr ⟨_,rfl⟩ | cases h
theorem bQ {n:Nat} {d:PyData} (h:aF n d=true):single d=true∨∃ m ds,n=m + 1∧d=.tuple ds∧ds.length≤8∧∀ x∈ds,aF m x=true:=by
 by_cases k:kd d=.tup
 ·obtain ⟨ds,rfl⟩:=iB k
  cases n with
  | zero=>cases h
  | succ m=>
   right
   have h':(decide (ds.length≤8) && ds.all (aF m))=true:=h
   rw [Bool.and_eq_true] at h'
   exact ⟨m,ds,rfl,rfl,of_decide_eq_true h'.1,List.all_eq_true.mp h'.2⟩
 ·left
  rw [n9 k] at h
  exact h
theorem hZ {a b:List Nat} (h:a≠[]):(a++b).head? = a.head?:=by
 cases a with
 | nil=>exact absurd rfl h
 | cons=>rfl
theorem BS {i j:Int} (h:nc i=nc j):i=j:=by
 cases i with
 | ofNat m=>
  cases j with
  | ofNat k=>
   have h':dg m=dg k:=h
   have:=congrArg NumText.digitsVal h'
   rw [kq,kq] at this
   rw [this]
  | negSucc k=>
   have h':dg m=45::dg (k + 1):=h
   have:=kP m 45 (by rw [h']; exact List.mem_cons_self)
   omega
 | negSucc m=>
  cases j with
  | ofNat k=>
   have h':45::dg (m + 1)=dg k:=h
   have:=kP k 45 (by rw [← h']; exact List.mem_cons_self)
   omega
  | negSucc k=>
   have h':45::dg (m + 1)=45::dg (k + 1):=h
   have:=congrArg NumText.digitsVal (List.cons.inj h').2
   rw [kq,kq] at this
   have:m=k:=by omega
   rw [this]
theorem sS {p:Nat→Bool} {a b r s:List Nat} (ha:∀ c∈a,p c=false) (hb:∀ c∈b,p c=false) (hr:∀ c,r.head? = some c→p c=true) (hs:∀ c,s.head? = some c→p c=true) (h:a++r=b++s):a=b∧r=s:=by
 have key:∀ {a r:List Nat},(∀ c∈a,p c=false)→(∀ c,r.head? = some c→p c=true)→(a++r).takeWhile (fun c=>!p c)=a:=fun {a r} ha hr=>by
  rw [List.takeWhile_append_of_pos (fun c hc=>by rw [ha c hc]; rfl)]
  cases r with
  | nil=>simp
  | cons x r=>
   have:=hr x rfl
   rw [List.takeWhile_cons,this]
   simp
 have e:=congrArg (List.takeWhile fun c=>!p c) h
 rw [key ha hr,key hb hs] at e
 subst e
 exact ⟨rfl,List.append_cancel_left h⟩
theorem yT {x:Str} (h:has TXT x=true):cd (reprText x)=39::(cd x++[39]):=by
 have hq:∀ c∈cd x,c∈TXT.cps.toList:=fun c hc=>of_decide_eq_true (List.all_eq_true.mp h c hc)
 have h39:(39:Nat)∉TXT.cps.toList:=by decide +kernel
 have q:reprQuote x=39:=by
  unfold reprQuote
  have:(39:Nat)∉x.cps:=fun e=>h39 (hq 39 (by simpa [cd] using e))
  simp [this]
 have one:∀ c∈TXT.cps.toList,Builtin.Str.reprChar 39 c=[c]:=by decide +kernel
 have fold:∀ (l:List Nat) (acc:Array Nat),(∀ c∈l,c∈TXT.cps.toList)→(l.foldl (fun out c=>out++(Builtin.Str.reprChar 39 c).toArray) acc).toList=acc.toList++l:=fun l=>by
  induction l with
  | nil=>intro acc _; simp
  | cons a l ih=>
   intro acc hl
   rw [List.foldl_cons,ih _ (fun c hc=>hl c (List.mem_cons_of_mem _ hc)),one a (hl a List.mem_cons_self)]
   simp
 unfold reprText cd
 rw [q]
 show ((x.cps.foldl (fun out c=>out++(Builtin.Str.reprChar 39 c).toArray) #[39]).push 39).toList=_
 rw [Array.toList_push,← Array.foldl_toList,fold x.cps.toList #[39] hq]
 rfl
def tl (f:PyData→List Nat) (ds:List PyData) (r:List Nat):List Nat:=(ds.map fun d=>44::32::f d).flatten++41::r
def csh:Nat→PyData→List Nat
 | n + 1,.tuple []=>[40,41]
 | n + 1,.tuple [d]=>40::(csh n d++[44,41])
 | n + 1,.tuple (d::e::r)=>40::(csh n d++tl (csh n) (e::r) [])
 | 0,.tuple _=>[]
 | _,.int i=>nc i
 | _,.str x=>39::(cd x++[39])
 | _,_=>[]
theorem j8 (n:Nat) (i:Int):csh n (.int i)=nc i:=by cases n <;> rfl
theorem j7 (n:Nat) (x:Str):csh n (.str x)=39::(cd x++[39]):=by cases n <;> rfl
theorem nS:∀ ds:List PyData,PyData.shownAll ds=ds.map PyData.shown
 | []=>by simp [PyData.shownAll]
 | d::r=>by simp [PyData.shownAll,nS r]
theorem lm {x:Str} (h:single (.str x)=true):has TXT x=true:=by
 have h':(decide (x.length≤20) && has TXT x)=true:=h
 rw [Bool.and_eq_true] at h'
 exact h'.2
theorem xQ (f:PyData→List Nat) (d:PyData) (ds:List PyData):bx [44,32] ((d::ds).map f)++[41]=f d++tl f ds []:=by
 rw [List.map_cons,wH,List.map_map,List.append_assoc]
 rfl
theorem lG:∀ (n:Nat) (d:PyData),aF n d=true→cd d.shown=csh n d
 | n,d,h=>by
  rcases bQ h with h1 | ⟨m,ds,rfl,rfl,h8,hb⟩
  ·rcases bV h1 with ⟨i,rfl⟩ | ⟨x,rfl⟩
   ·rw [j8,← tJ]
    simp only [PyData.shown]
   ·rw [j7,← yT (lm h1)]
    simp only [PyData.shown]
  ·have ih:ds.map (fun d=>cd d.shown)=ds.map (csh m):=List.map_congr_left fun d hd=>lG m d (hb d hd)
   have q1:cd "(" = [40]:=by decide +kernel
   have q2:cd ", " = [44,32]:=by decide +kernel
   have q3:cd ",)" = [44,41]:=by decide +kernel
   have q4:cd ")" = [41]:=by decide +kernel
   have e:(PyData.tuple ds).shown=tupleText (ds.map PyData.shown):=by
    simp only [PyData.shown,nS]
   rw [e]
   unfold tupleText
   show cd ((Str.ofString "("++Str.join ", " (ds.map PyData.shown))++Str.ofString (if (ds.map PyData.shown).length == 1 then ",)" else ")"))=_
   rw [gJ,gJ,ms,q1,q2,List.map_map,List.length_map]
   have e2:ds.map (cd ∘ PyData.shown)=ds.map (csh m):=ih
   rw [e2]
   match ds with
   | []=>rfl
   | [d]=>
    show [40]++csh m d++cd ",)" = _
    rw [q3]
    simp [csh]
   | d::e::r=>
    show [40]++bx [44,32] ((d::e::r).map (csh m))++cd ")" = 40::(csh m d++tl (csh m) (e::r) [])
    rw [q4,← xQ]
    simp
termination_by n=>n
def Beh (r:List Nat):Prop:=∀ c,r.head? = some c→c=44∨c=41
def bnB (c:Nat):Bool:=decide (c=44) || decide (c=41)
theorem ue {r:List Nat} (h:Beh r):∀ c,r.head? = some c→bnB c=true:=fun c hc=>by
 rcases h c hc with z | z <;> simp [bnB,z]
theorem h9 (n:Nat) {d:PyData} (h:aF n d=true):csh n d≠[]∧(csh n d).head?≠some 41∧(csh n d).head?≠some 32∧((csh n d).head? = some 40↔kd d=.tup)∧((csh n d).head? = some 39↔kd d=.str):=by
 rcases bQ h with h1 | ⟨m,ds,rfl,rfl,h8,hb⟩
 ·rcases bV h1 with ⟨i,rfl⟩ | ⟨x,rfl⟩
  ·rw [j8]
   have hh:∀ c,(nc i).head? = some c→c=45∨(48≤c∧c≤57):=fun c hc=>qC i c (List.mem_of_head? hc)
   refine ⟨De i,fun z=>by have:=hh _ z; omega,fun z=>by have:=hh _ z; omega,⟨fun z=>by have:=hh _ z; omega,fun z=>by cases z⟩,⟨fun z=>by have:=hh _ z; omega,fun z=>by cases z⟩⟩
  ·rw [j7]
   refine ⟨by simp,by simp,by simp,?_,?_⟩ <;> simp
 ·match ds with
  | []=>simp [csh]
  | [d]=>simp [csh]
  | d::e::r=>simp [csh]
theorem rL {f:PyData→List Nat} {P:PyData→Prop} (hf:∀ a b r s,P a→P b→Beh r→Beh s→f a++r=f b++s→a=b∧r=s):∀ (ds es:List PyData) (r s:List Nat),(∀ d∈ds,P d)→(∀ d∈es,P d)→tl f ds r=tl f es s→ds=es∧r=s
 | [],[],r,s,_,_,h=>⟨rfl,(List.cons.inj h).2⟩
 | [],e::es,r,s,_,_,h=>by simp [tl] at h
 | d::ds,[],r,s,_,_,h=>by simp [tl] at h
 | d::ds,e::es,r,s,hd,he,h=>by
  have h':f d++tl f ds r=f e++tl f es s:=by simpa [tl] using h
  have beh:∀ ds r,Beh (tl f ds r):=fun ds r c hc=>by
   cases ds with
   | nil=>cases hc; exact .inr rfl
   | cons=>cases hc; exact .inl rfl
  obtain ⟨e1,e2⟩:=hf d e _ _ (hd d List.mem_cons_self) (he e List.mem_cons_self) (beh _ _) (beh _ _) h'
  obtain ⟨e3,e4⟩:=rL hf ds es r s (fun x hx=>hd x (List.mem_cons_of_mem _ hx)) (fun x hx=>he x (List.mem_cons_of_mem _ hx)) e2
  exact ⟨by rw [e1,e3],e4⟩
theorem sV (f:PyData→List Nat) (ds:List PyData) (r:List Nat):Beh (tl f ds r):=fun c hc=>by
 cases ds with
 | nil=>cases hc; exact .inr rfl
 | cons=>cases hc; exact .inl rfl
theorem rz:∀ (n:Nat) (a b:PyData) (r s:List Nat),aF n a=true→aF n b=true→Beh r→Beh s→csh n a++r=csh n b++s→a=b∧r=s
 | n,a,b,r,s,ha,hb,hr,hs,h=>by
  have h1:=h9 n ha
  have h2:=h9 n hb
  have hh:(csh n a).head? = (csh n b).head?:=by
   have:=congrArg List.head? h
   rw [hZ h1.1,hZ h2.1] at this
   exact this
  have k40:kd a=.tup↔kd b=.tup:=by rw [← h1.2.2.2.1,← h2.2.2.2.1,hh]
  have k39:kd a=.str↔kd b=.str:=by rw [← h1.2.2.2.2,← h2.2.2.2.2,hh]
  rcases bQ ha with g1 | ⟨m,ds,rfl,rfl,h8,hd⟩
  ·rcases bV g1 with ⟨i,rfl⟩ | ⟨x,rfl⟩
   ·rcases bQ hb with g2 | ⟨m,es,rfl,rfl,h8,he⟩
    ·rcases bV g2 with ⟨j,rfl⟩ | ⟨y,rfl⟩
     ·rw [j8,j8] at h
      have nn:∀ i,∀ c∈nc i,bnB c=false:=fun i c hc=>by
       have:=qC i c hc
       simp [bnB]
       omega
      obtain ⟨e1,e2⟩:=sS (nn i) (nn j) (ue hr) (ue hs) h
      exact ⟨by rw [BS e1],e2⟩
     ·cases k39.mpr rfl
    ·cases k40.mpr rfl
   ·rcases bQ hb with g2 | ⟨m,es,rfl,rfl,h8,he⟩
    ·rcases bV g2 with ⟨j,rfl⟩ | ⟨y,rfl⟩
     ·cases k39.mp rfl
     ·rw [j7,j7] at h
      have h':cd x++39::r=cd y++39::s:=by simpa using h
      have n39:∀ {x:Str},single (.str x)=true→∀ c∈cd x,decide (c=39)=false:=fun {x} hx c hc=>by
       have h39:(39:Nat)∉TXT.cps.toList:=by decide +kernel
       have:=of_decide_eq_true (List.all_eq_true.mp (lm hx) c hc)
       exact decide_eq_false fun z=>h39 (z ▸ this)
      obtain ⟨e1,e2⟩:=sS (p:=fun c=>decide (c=39)) (n39 g1) (n39 g2) (fun c hc=>by cases hc; rfl) (fun c hc=>by cases hc; rfl) h'
      exact ⟨by rw [iI e1],(List.cons.inj e2).2⟩
    ·cases k40.mpr rfl
  ·obtain ⟨es,rfl⟩:=iB (k40.mp rfl)
   have he:∀ x∈es,aF m x=true:=by
    rcases bQ hb with g2 | ⟨m',es',e,e',_,he⟩
    ·rcases bV g2 with ⟨j,z⟩ | ⟨y,z⟩ <;> cases z
    ·cases e; cases e'; exact he
   have ih:∀ a b r s,aF m a=true→aF m b=true→Beh r→Beh s→csh m a++r=csh m b++s→a=b∧r=s:=rz m
   have b1:∀ r:List Nat,Beh (44::r):=fun r c hc=>by cases hc; exact .inl rfl
   match ds,es,hd,he,h with
   | [],[],_,_,h=>exact ⟨rfl,by simpa [csh] using h⟩
   | [],[e],_,he,h=>
    have h':41::r=csh m e++44::41::s:=by simpa [csh] using h
    have hz:=h9 m (he e (by simp))
    have:=congrArg List.head? h'
    rw [hZ hz.1] at this
    exact absurd this.symm hz.2.1
   | [],e::e2::es,_,he,h=>
    have h':41::r=csh m e++(tl (csh m) (e2::es) []++s):=by simpa [csh] using h
    have hz:=h9 m (he e (by simp))
    have:=congrArg List.head? h'
    rw [hZ hz.1] at this
    exact absurd this.symm hz.2.1
   | [d],[],hd,_,h=>
    have h':csh m d++44::41::r=41::s:=by simpa [csh] using h
    have hz:=h9 m (hd d (by simp))
    have:=congrArg List.head? h'
    rw [hZ hz.1] at this
    exact absurd this hz.2.1
   | d::d2::ds,[],hd,_,h=>
    have h':csh m d++(tl (csh m) (d2::ds) []++r)=41::s:=by simpa [csh] using h
    have hz:=h9 m (hd d (by simp))
    have:=congrArg List.head? h'
    rw [hZ hz.1] at this
    exact absurd this hz.2.1
   | [d],[e],hd,he,h=>
    have h':csh m d++44::41::r=csh m e++44::41::s:=by simpa [csh] using h
    obtain ⟨e1,e2⟩:=ih d e _ _ (hd d (by simp)) (he e (by simp)) (b1 _) (b1 _) h'
    simp at e2
    exact ⟨by rw [e1],e2⟩
   | [d],e::e2::es,hd,he,h=>
    have h':csh m d++44::41::r=csh m e++(44::32::(csh m e2++((es.map fun d=>44::32::csh m d).flatten++41::s))):=by simpa [csh,tl] using h
    obtain ⟨_,e2⟩:=ih d e _ _ (hd d (by simp)) (he e (by simp)) (b1 _) (b1 _) h'
    simp at e2
   | d::d2::ds,[e],hd,he,h=>
    have h':csh m d++(44::32::(csh m d2++((ds.map fun d=>44::32::csh m d).flatten++41::r)))=csh m e++44::41::s:=by simpa [csh,tl] using h
    obtain ⟨_,e2⟩:=ih d e _ _ (hd d (by simp)) (he e (by simp)) (b1 _) (b1 _) h'
    simp at e2
   | d::d2::ds,e::e2::es,hd,he,h=>
    have h':csh m d++tl (csh m) (d2::ds) r=csh m e++tl (csh m) (e2::es) s:=by simpa [csh,tl] using h
    obtain ⟨e1,e3⟩:=ih d e _ _ (hd d (by simp)) (he e (by simp)) (sV _ _ _) (sV _ _ _) h'
    obtain ⟨e4,e5⟩:=rL (P:=fun d=>aF m d=true) ih (d2::ds) (e2::es) r s (fun x hx=>hd x (List.mem_cons_of_mem _ hx)) (fun x hx=>he x (List.mem_cons_of_mem _ hx)) e3
    exact ⟨by rw [e1,e4],e5⟩
termination_by n=>n
theorem xV {a b:PyData} (ha:aF 4 a=true) (hb:aF 4 b=true) (h:a.shown=b.shown):a=b:=by
 have h':=congrArg cd h
 rw [lG 4 a ha,lG 4 b hb] at h'
 exact (rz 4 a b [] [] ha hb (fun c hc=>by cases hc) (fun c hc=>by cases hc) (by rw [h'])).1
open K1 (has LET TXT single aF aE lsz isName aG tdp bi ldp Sh Shs)
theorem B3:a6 .str .str=true:=rfl
theorem B2:a6 .tup .str=false:=rfl
def sam (a b:PyData):Bool:=@decide (a=b) (Classical.propDecidable _)
theorem qu {a b:PyData}:sam a b=true↔a=b:=by
 unfold sam
 exact @decide_eq_true_iff _ (Classical.propDecidable _)
def gt (ds:List PyData) (i:Int):PyData:=(ds[i.toNat]?).getD .none
def both (ds es:List PyData):PyData→Bool
 | .int i=>sam (gt ds i) (gt es i)
 | _=>true
theorem l5:∀ (n:Nat) (v:PyData),aF n v=true→Sm v
 | n,v,h=>by
  rcases bQ h with h1 | ⟨m,ds,rfl,rfl,_,hd⟩
  ·rcases bV h1 with ⟨i,rfl⟩ | ⟨x,rfl⟩
   ·show smB (.int i)=true
    rw [smB]
    intro _ z; cases z
    intro _ z; cases z
   ·have h2:(decide (x.length≤20) && has TXT x)=true:=h1
    rw [Bool.and_eq_true] at h2
    exact Sm.mkS (Nat.le_trans (of_decide_eq_true h2.1) (by decide)) (K1.iC K1.jc h2.2)
  ·exact Sm.tup fun d hx=>l5 m d (hd d hx)
termination_by n=>n
theorem kb {v:PyData} (h:aG v=true):Sm v:=by
 have h':(aF 4 v && decide (aE 4 v≤40))=true:=h
 rw [Bool.and_eq_true] at h'
 exact l5 4 v h'.1
theorem b9 {v:PyData} (h:aG v=true):aF 4 v=true∧aE 4 v≤40:=by
 have h':(aF 4 v && decide (aE 4 v≤40))=true:=h
 rw [Bool.and_eq_true] at h'
 exact ⟨h'.1,of_decide_eq_true h'.2⟩
theorem lZ (n:Nat):∀ d,1≤aE n d:=by
 induction n with
 | zero=>intro d; cases d <;> exact Int.le_refl _
 | succ n ih=>
  intro d
  by_cases k:kd d=.tup
  ·obtain ⟨ds,rfl⟩:=iB k
   have:=K1.rO (aE n) ih ds
   show 1≤1 + (ds.map (aE n)).sum
   omega
  ·rw [lu k]
   exact Int.le_refl _
theorem pM {f:PyData→Int} (h:∀ d,0≤f d):∀ {ds:List PyData} {d:PyData},d∈ds→f d≤(ds.map f).sum
 | e::r,d,hd=>by
  have nn:∀ l:List PyData,0≤(l.map f).sum:=fun l=>by
   induction l with
   | nil=>exact Int.le_refl _
   | cons a l ih=>rw [List.map_cons,List.sum_cons]; have:=h a; omega
  rw [List.map_cons,List.sum_cons]
  rcases List.mem_cons.mp hd with z | z
  ·subst z
   have:=nn r
   omega
  ·have:=pM h (ds:=r) z
   have:=h e
   omega
theorem lN {n:Nat} {ds:List PyData} {d:PyData} (h:d∈ds):aE n d≤aE (n + 1) (.tuple ds):=by
 have:=pM (f:=aE n) (fun d=>by have:=lZ n d; omega) h
 show aE n d≤1 + (ds.map (aE n)).sum
 omega
theorem dQ {n:Nat} (h:n≤2000):n≤sizeLine:=Nat.le_trans h (by decide)
theorem ou {P:PyData→Prop} (h:∀ a b,P a→P b→(PyData.eqv a b=true↔a=b)):∀ (ds es:List PyData),(∀ d∈ds,P d)→(∀ d∈es,P d)→(PyData.eqvAll ds es=true↔ds=es)
 | [],[],_,_=>by simp [PyData.eqvAll]
 | [],e::es,_,_=>by simp [PyData.eqvAll]
 | d::ds,[],_,_=>by simp [PyData.eqvAll]
 | d::ds,e::es,hd,he=>by
  have ih:=ou h ds es (fun x hx=>hd x (List.mem_cons_of_mem _ hx)) (fun x hx=>he x (List.mem_cons_of_mem _ hx))
  have i0:=h d e (hd d List.mem_cons_self) (he e List.mem_cons_self)
  simp only [PyData.eqvAll]
  rw [Bool.and_eq_true,i0,ih]
  simp
theorem qO:∀ (n:Nat) (a b:PyData),aF n a=true→aF n b=true→(PyData.eqv a b=true↔a=b)
 | n,a,b,ha,hb=>by
  rcases bQ ha with h1 | ⟨m,ds,rfl,rfl,h8,hd⟩
  ·rcases bV h1 with ⟨i,rfl⟩ | ⟨x,rfl⟩
   ·rcases bQ hb with h2 | ⟨m,es,rfl,rfl,g8,he⟩
    ·rcases bV h2 with ⟨j,rfl⟩ | ⟨y,rfl⟩
     ·simp [PyData.eqv]
     ·simp [PyData.eqv]
    ·simp [PyData.eqv]
   ·rcases bQ hb with h2 | ⟨m,es,rfl,rfl,g8,he⟩
    ·rcases bV h2 with ⟨j,rfl⟩ | ⟨y,rfl⟩
     ·simp [PyData.eqv]
     ·simp [PyData.eqv]
    ·simp [PyData.eqv]
  ·rcases bQ hb with h2 | ⟨m',es,e,rfl,g8,he⟩
   ·rcases bV h2 with ⟨j,rfl⟩ | ⟨y,rfl⟩
    ·simp [PyData.eqv]
    ·simp [PyData.eqv]
   ·cases e
    have:=ou (P:=fun d=>aF m d=true) (qO m) ds es hd he
    simp only [PyData.eqv]
    rw [this]
    simp
termination_by n=>n
theorem j6 {a b:PyData} (ha:aG a=true) (hb:aG b=true):PyData.eqv a b=sam a b:=by rw [Bool.eq_iff_iff,qO 4 a b (b9 ha).1 (b9 hb).1,qu]
theorem jD {a b:PyData} (ha:aG a=true) (hb:aG b=true):decide (a.shown=b.shown)=sam a b:=by
 rw [Bool.eq_iff_iff,decide_eq_true_iff,qu]
 exact ⟨xV (b9 ha).1 (b9 hb).1,fun e=>by rw [e]⟩
theorem mF {ds:List PyData} (h:∀ d∈ds,d.canLay0=true):PyData.canLayAll0 ds=true:=by
 induction ds with
 | nil=>simp [PyData.canLayAll0]
 | cons d r ih=>
  simp only [PyData.canLayAll0]
  rw [h d List.mem_cons_self,ih fun x hx=>h x (List.mem_cons_of_mem _ hx)]
  rfl
theorem jz:∀ (n:Nat) (d:PyData),aF n d=true→d.canLay0=true
 | n,d,h=>by
  rcases bQ h with h1 | ⟨m,ds,rfl,rfl,h8,hd⟩
  ·rcases bV h1 with ⟨i,rfl⟩ | ⟨x,rfl⟩
   ·simp [PyData.canLay0]
   ·have hx:=lm h1
    simp only [PyData.canLay0]
    unfold PyData.strOk
    rw [← Array.all_toList,List.all_eq_true]
    intro c hc
    have:=K1.iC K1.jc hx c hc
    exact decide_eq_true (by omega)
  ·simp only [PyData.canLay0]
   exact mF fun d hd'=>jz m d (hd d hd')
termination_by n=>n
theorem rJ {f:PyData→Int}:∀ {ds:List PyData},(∀ d∈ds,(d.weight:Int) + 1≤61 * f d)→(PyData.weightAll ds:Int)≤61 * (ds.map f).sum
 | [],_=>by simp [PyData.weightAll]
 | d::r,h=>by
  have h1:=h d List.mem_cons_self
  have h2:=rJ (ds:=r) fun x hx=>h x (List.mem_cons_of_mem _ hx)
  simp only [PyData.weightAll,List.map_cons,List.sum_cons]
  omega
theorem rH:∀ (n:Nat) (d:PyData),aF n d=true→(d.weight:Int) + 1≤61 * aE n d
 | n,d,h=>by
  have hp:=lZ n d
  rcases bQ h with h1 | ⟨m,ds,rfl,rfl,h8,hd⟩
  ·rcases bV h1 with ⟨i,rfl⟩ | ⟨x,rfl⟩
   ·have ha:=lq h1
    have:(PyData.int i).weight≤60:=by
     simp only [PyData.weight]
     split
     ·omega
     ·rename_i hz
      have z:i.natAbs≠0:=by simp at hz; omega
      have:=(Nat.log2_lt (k:=60) z).mpr (Nat.lt_of_le_of_lt ha (by decide))
      omega
    omega
   ·have h':(decide (x.length≤20) && has TXT x)=true:=h1
    rw [Bool.and_eq_true] at h'
    have hx:x.cps.size≤20:=of_decide_eq_true h'.1
    have:(PyData.str x).weight=x.cps.size:=by simp only [PyData.weight]
    omega
  ·have:=rJ (f:=aE m) (ds:=ds) fun d hd'=>rH m d (hd d hd')
   have e:(PyData.tuple ds).weight=PyData.weightAll ds:=by simp only [PyData.weight]
   rw [e]
   show _≤61 * (1 + (ds.map (aE m)).sum)
   omega
termination_by n=>n
theorem pR {n:Nat} {d:PyData} (h:aF n d=true):Sh d n (61 * aE n d).toNat:=by
 obtain ⟨s,_⟩:=K1.mO n d h
 have:=rH n d h
 exact ⟨s.sh,s.lv,s.dp,by omega⟩
theorem pQ {v:PyData} (h:aG v=true):Sh v 4 2440:=by
 obtain ⟨hb,hm⟩:=b9 h
 exact (pR hb).mono (Nat.le_refl _) (by omega)
theorem g7 {v:PyData} (h:aG v=true):SeqAt.shaped v=true:=by
 have:=(pQ h).dp
 unfold SeqAt.shaped
 rw [jz 4 v (b9 h).1,decide_eq_true (by omega)]
 rfl
theorem AF {d:PyData} (h:Sh d 60 60000) (hd:d.hasDict=false):gO d=true:=by
 unfold gO
 rw [h.sh,h.lv,decide_eq_true h.dp,decide_eq_true h.wt,hd]
 rfl
theorem xo {v:PyData} {n:Nat} (h:aF n v=true):v.hasDict=false:=PyData.hasDict_of_canLay v (jz n v h)
theorem lw {v:PyData} (h:aG v=true):gO v=true:=AF ((pQ h).mono (by decide) (by decide)) (xo (b9 h).1)
theorem fB {α:Type} {xs:List α} {i:Int} (h0:0≤i) (h1:i < (xs.length:Int)):∃ a,atI xs i=some a∧a∈xs:=by
 have h:i.toNat < xs.length:=by omega
 refine ⟨xs[i.toNat],?_,List.getElem_mem h⟩
 unfold atI ixN
 rw [if_pos h0,if_pos h1]
 show xs[i.toNat]? = _
 rw [List.getElem?_eq_getElem h]
theorem Az:(LET.cps.toList.length:Int)=26:=by decide +kernel
theorem p8 {z:Str} {xs:List PyData} {ys:List Str} (h:dq xs=some ys):ji (.str z) (.list xs)=if (ys.map (·.length)).sum + ys.length * z.length≤16777216 then some (.str (Str.join z ys)) else none:=by
 show (match dq xs with | some (ys:List Str)=>if (ys.map fun x:Str=>x.length).sum + ys.length * z.length≤16777216 then some (PyData.str (Str.join z ys)) else none | none=>none)=_
 rw [h]
theorem zf (n:Nat):(bF 0 n).length=n:=by simp [bF]
theorem hJ {j:Int} (h0:0≤j) (h1:j≤1000):je j=true:=decide_eq_true (by omega)
theorem mr:LET.length≤sizeLine:=by decide +kernel
theorem nW {x:Str} (h:isName (.str x)=true):single (.str x)=true:=by
 have h':(decide (1≤x.length) && decide (x.length≤8) && has LET x)=true:=h
 rw [Bool.and_eq_true,Bool.and_eq_true] at h'
 have h8:=of_decide_eq_true h'.1.2
 show (decide (x.length≤20) && has TXT x)=true
 rw [decide_eq_true (by omega)]
 have sub:∀ c∈LET.cps.toList,c∈TXT.cps.toList:=by decide +kernel
 exact List.all_eq_true.mpr fun c hc=>decide_eq_true (sub c (of_decide_eq_true (List.all_eq_true.mp h'.2 c hc)))
theorem gp {i:Int} (h : -1000000000000000000≤i) (h':i≤1000000000000000000):single (.int i)=true:=by
 show decide ((if i < 0 then -i else i)≤10 ^ 18)=true
 refine decide_eq_true ?_
 split <;> omega
theorem cC {n:Nat} {d:PyData} (h:single d=true):aF n d=true∧aE n d=1:=by
 cases d with
 | int i=>exact ⟨by cases n <;> exact h,by cases n <;> rfl⟩
 | str x=>exact ⟨by cases n <;> exact h,by cases n <;> rfl⟩
 | _=>cases h
theorem rN {f:PyData→Int} {q:Int}:∀ {l:List PyData},(∀ d∈l,f d≤q)→(l.map f).sum≤l.length * q
 | [],_=>by simp
 | a::r,h=>by
  have h1:=h a List.mem_cons_self
  have h2:=rN (l:=r) fun d hd=>h d (List.mem_cons_of_mem _ hd)
  rw [List.map_cons,List.sum_cons,List.length_cons]
  have:((r.length + 1:Nat):Int) * q=r.length * q + q:=by rw [Int.natCast_add,Int.add_mul]; simp
  omega
open K1 (has LET TXT single aF aE lsz isName aG tdp bi ldp Good Sh Shs)
@[simp] theorem E6 {a b:String}:Str.ofString a=Str.ofString b↔a=b:=by
 constructor
 ·intro h
  have h2:(Str.ofString a).cps.toList=(Str.ofString b).cps.toList:=by rw [h]
  rw [signs_ofString,signs_ofString] at h2
  have inj:Function.Injective Char.toNat:=fun x y e=>Char.ext (UInt32.toNat_inj.mp e)
  exact String.toList_inj.mp ((List.map_inj_right (fun x y e=>inj e)).mp h2)
 ·rintro rfl; rfl
theorem gz:∀ (n:Nat) (d:PyData),aF n d=true→aF (n + 1) d=true∧aE (n + 1) d=aE n d
 | n,d,h=>by
  rcases bQ h with h1 | ⟨m,ds,rfl,rfl,h8,hd⟩
  ·exact ⟨(cC h1).1,by rw [(cC (n:=n + 1) h1).2,(cC (n:=n) h1).2]⟩
  ·have ih:=fun d hd'=>gz m d (hd d hd')
   refine ⟨?_,?_⟩
   ·show (decide (ds.length≤8) && ds.all (aF (m + 1)))=true
    rw [decide_eq_true h8,List.all_eq_true.mpr fun d hd'=>(ih d hd').1]
    rfl
   ·show 1 + (ds.map (aE (m + 1))).sum=1 + (ds.map (aE m)).sum
    rw [List.map_congr_left fun d hd'=>(ih d hd').2]
termination_by n=>n
@[simp] theorem FK {f:FE} {ρ:Rho} {T:Tp}:iL f ρ T=bnd (f ρ T) fun w T1=>kB T1 w:=rfl
def vl (v:PyData):PyData:=.tuple [.str "value",v]
def fl (w:String):PyData:=.tuple [.str "fails",.str (Str.ofString w)]
def FW:List String:=["kind","part","great"]
def cA (R:PyData):Prop:=(∃ v,R=vl v∧aG v=true)∨∃ w∈FW,R=fl w
theorem cb:cA (fl "kind"):=.inr ⟨_,by simp [FW],rfl⟩
theorem zZ:cA (fl "part"):=.inr ⟨_,by simp [FW],rfl⟩
theorem wO:cA (fl "great"):=.inr ⟨_,by simp [FW],rfl⟩
def bd (d:PyData):PyData:=if aG d=true then vl d else fl "great"
theorem jV (d:PyData):cA (bd d):=by
 unfold bd
 split
 ·rename_i h; exact .inl ⟨d,rfl,h⟩
 ·exact wO
theorem jJ {d:PyData} (T:Tp) (h:Sm d):dD [.d d] T=some (bd d,T):=by
 have:=AW T h
 unfold bd
 cases hv:aG d with
 | true=>rw [hv] at this; simp [dD,this,vl]
 | false=>rw [hv] at this; simp [dD,this,fl]
theorem iS {ds:List PyData} {d:PyData} (h:aG (.tuple ds)=true) (hd:d∈ds):aG d=true:=by
 obtain ⟨hb,hm⟩:=b9 h
 rcases bQ hb with h1 | ⟨m,ds',e,e',h8,hb'⟩
 ·rcases bV h1 with ⟨i,z⟩ | ⟨x,z⟩ <;> cases z
 ·cases e; cases e'
  obtain ⟨u1,u2⟩:=gz 3 d (hb' d hd)
  have:aE 3 d≤aE 4 (.tuple ds):=lN (n:=3) hd
  show (aF 4 d && decide (aE 4 d≤40))=true
  rw [u1,u2,decide_eq_true (by omega)]
  rfl
theorem dC {v:PyData} (h:aG v=true):(∃ i,v=.int i∧single (.int i)=true)∨(∃ x,v=.str x∧x.length≤20∧∀ c∈x.cps.toList,c < 128)∨∃ ds,v=.tuple ds∧ds.length≤8:=by
 rcases bQ (b9 h).1 with h1 | ⟨m,ds,e,rfl,h8,hd⟩
 ·rcases bV h1 with ⟨i,rfl⟩ | ⟨x,rfl⟩
  ·exact .inl ⟨i,rfl,h1⟩
  ·have h':(decide (x.length≤20) && has TXT x)=true:=h1
   rw [Bool.and_eq_true] at h'
   exact .inr (.inl ⟨x,rfl,of_decide_eq_true h'.1,K1.iC K1.jc h'.2⟩)
 ·exact .inr (.inr ⟨ds,rfl,h8⟩)
theorem jU {i:Int} (h : -1000000000000000000≤i) (h':i≤1000000000000000000):aG (.int i)=true:=by
 show (single (.int i) && decide ((1:Int)≤40))=true
 rw [gp h h']
 rfl
theorem Bn (i:Int):Sm (.int i):=by simp [Sm,smB]
theorem Ca {x y:PyData} (h1:aG x=true) (h2:aG y=true):eqG x y=some (.bool (sam x y)):=by
 unfold eqG
 rw [if_pos ⟨g7 h1,g7 h2⟩,j6 h1 h2]
@[simp] theorem GO {α:Type} {a b:α}:atI [a,b] 0=some a:=rfl
@[simp] theorem GN {α:Type} {a b:α}:atI [a,b] 1=some b:=rfl
@[simp] theorem GP {α:Type} {a:α}:atI [a] 0=some a:=rfl
@[simp] theorem GM {α:Type} {a b c:α}:atI [a,b,c] 0=some a:=rfl
@[simp] theorem GK {α:Type} {a b c:α}:atI [a,b,c] 1=some b:=rfl
@[simp] theorem GJ {α:Type} {a b c:α}:atI [a,b,c] 2=some c:=rfl
@[simp] theorem Ip:a6 .int .int=true:=rfl
@[simp] theorem Io:a6 .int .str=false:=rfl
@[simp] theorem Im:a6 .int .tup=false:=rfl
@[simp] theorem Iq:a6 .int .bl=false:=rfl
@[simp] theorem Ik:a6 .str .str=true:=rfl
@[simp] theorem Ij:a6 .str .tup=false:=rfl
@[simp] theorem Il:a6 .str .int=false:=rfl
@[simp] theorem Ig:a6 .tup .tup=true:=rfl
@[simp] theorem Ii:a6 .tup .int=false:=rfl
@[simp] theorem Ih:a6 .tup .str=false:=rfl
@[simp] theorem E5 (x:PyData) (T:Tp):b8 [.d x] T=some (.bool (whole x),T):=iu x T
@[simp] theorem Ie (i:Int):whole (.int i)=true:=rfl
@[simp] theorem Ic (x:Str):whole (.str x)=false:=rfl
@[simp] theorem Ib (x:List PyData):whole (.tuple x)=false:=rfl
def Pairs (w:String) (a b:PyData):Prop:=∃ R,cA R∧∀ T,bc [.d (.str (Str.ofString w)),.d (.list [a,b])] T=some (R,T)
theorem Ck {ds:List PyData} {i:Int} (h:aG (.tuple ds)=true) (h0:0≤i) (h1:i < (ds.length:Int)):∃ d,atI ds i=some d∧aG d=true:=by
 obtain ⟨d,e,hd⟩:=fB h0 h1
 exact ⟨d,e,iS h hd⟩
def PW:List String:=["part","sum","join","same","less"]
inductive Ex (m:Int):Nat→PyData→Prop where
 | put {n:Nat} {v:PyData}:aG v=true→Ex m n (.tuple [.str "put",v])
 | got {n:Nat} {i:Int}:0≤i→i < m→Ex m n (.tuple [.str "got",.int i])
 | row {n:Nat} {es:List PyData}:es.length≤8→(∀ e∈es,Ex m n e)→Ex m (n + 1) (.tuple [.str "row",.tuple es])
 | many {n:Nat} {e:PyData}:Ex m n e→Ex m (n + 1) (.tuple [.str "many",e])
 | pair {n:Nat} {w:String} {a b:PyData}:w∈PW→Ex m n a→Ex m n b→Ex m (n + 1) (.tuple [.str (Str.ofString w),a,b])
def isF:PyData→Bool
 | .tuple (.str x::_)=>decide (x=Str.ofString "fails")
 | _=>false
def vOf:PyData→PyData
 | .tuple [_,v]=>v
 | _=>.none
theorem B5 (v:PyData):isF (vl v)=false:=by
 show decide (Str.ofString "value" = Str.ofString "fails")=false
 decide +kernel
theorem B6 (w:String):isF (fl w)=true:=by
 show decide (Str.ofString "fails" = Str.ofString "fails")=true
 exact decide_eq_true rfl
theorem lD {R:PyData} (h:cA R):(isF R=true∧∃ w∈FW,R=fl w)∨(isF R=false∧R=vl (vOf R)∧aG (vOf R)=true):=by
 rcases h with ⟨v,rfl,hv⟩ | ⟨w,hw,rfl⟩
 ·exact .inr ⟨B5 v,rfl,hv⟩
 ·exact .inl ⟨B6 w,w,hw,rfl⟩
def gK (m:FnM) (ws:List D.W) (T1:Tp):Option (D.W×Tp):=if jq ws=true then (match m (ws.map iR) [] with
 | some (x,_)=>if aZ x=true then some (.d x,T1) else none
 | none=>none) else none
@[simp] theorem E3 {m:FnM} {a:FA} {ρ:Rho} {T:Tp}:iG m a ρ T=bnd (a ρ T) (gK m):=rfl
theorem jI {m:FnM} {ws:List D.W} {T T':Tp} {x:PyData} (h1:jq ws=true) (h2:m (ws.map iR) []=some (x,T')) (h3:aZ x=true):gK m ws T=some (.d x,T):=by
 unfold gK
 rw [if_pos h1,h2]
 exact if_pos h3
theorem iT:∀ {ds:List PyData},(∀ d∈ds,aZ d=true)→br ds=true
 | [],_=>by simp [br]
 | d::r,h=>by simp [br,h d List.mem_cons_self,iT (ds:=r) fun x hx=>h x (List.mem_cons_of_mem _ hx)]
theorem oJ:∀ (n:Nat) (d:PyData),aF n d=true→aZ d=true
 | n,d,h=>by
  rcases bQ h with h1 | ⟨m,ds,rfl,rfl,_,hd⟩
  ·rcases bV h1 with ⟨i,rfl⟩ | ⟨x,rfl⟩ <;> simp [aZ]
  ·simp [aZ,iT fun x hx=>oJ m x (hd x hx)]
termination_by n=>n
theorem ia {v:PyData} (h:aG v=true):aZ v=true:=oJ 4 v (b9 h).1
theorem jK {R:PyData} (h:cA R):aZ R=true:=by
 rcases h with ⟨v,rfl,hv⟩ | ⟨w,_,rfl⟩
 ·simp [vl,aZ,br,ia hv]
 ·simp [fl,aZ,br]
def eG (k:Nat):FS:=(aq (aQ 4 (ar (cw k) (ae (aa 3) (ae (aa 1) ai)))) (aq (fIf (aH (ag eqD (ag ixD (aa 4) (fC (.int 0))) (fC (.str "fails")))) (ax (aa 4)) aK) (cX 2 (ag ixD (aa 4) (fC (.int 1))))))
def k6 (k:FS) (p:Fl×Rho) (T:Tp):Option ((Fl×Rho)×Tp):=match p with
 | (.nx,ρ1)=>k ρ1 T
 | (.ct,ρ1)=>k ρ1 T
 | (.bk,ρ1)=>some ((.nx,ρ1),T)
 | (.rt x,ρ1)=>some ((.rt x,ρ1),T)
 | (.ro x,ρ1)=>some ((.ro x,ρ1),T)
theorem qM {k:FS} {ρ:Rho} {T:Tp}:k6 k (.nx,ρ) T=k ρ T:=rfl
theorem yw {i:Nat} {b:FS} {d:PyData} {r:List PyData} {ρ:Rho} {T:Tp}:forL i b (d::r) ρ T=bnd (b (ρ.set i (some (.d d))) T) (k6 (forL i b r)):=rfl
theorem lE {k:Nat} {T:Tp} {e0 G:PyData} {f:PyData→PyData}:∀ (es:List PyData) (acc:List PyData) (o3 o4:Option D.W),(∀ e∈es,cA (f e)∧cw k [.d e,.d G] T=some (f e,T))→acc.length + es.length≤1000 →
  match (es.map f).filter isF with
  | R::_=>∃ ρ',forL 3 (eG k) es [some (.d e0),some (.d G),some (.loc (.list acc)),o3,o4] T=some ((.rt R,ρ'),T)
  | []=>∃ o3' o4',forL 3 (eG k) es [some (.d e0),some (.d G),some (.loc (.list acc)),o3,o4] T=some ((.nx,[some (.d e0),some (.d G),some (.loc (.list (acc++es.map fun e=>vOf (f e)))),(o3':Option D.W),o4']),T)
 | [],acc,o3,o4,_,_=>⟨o3,o4,by simp [forL]⟩
 | e::es,acc,o3,o4,h,hl=>by
  obtain ⟨t,ht⟩:=h e List.mem_cons_self
  have hl':acc.length < sizeLine:=Nat.lt_of_lt_of_le (by simp at hl; omega:acc.length < 1000) (by decide)
  have go:forL 3 (eG k) (e::es) [some (.d e0),some (.d G),some (.loc (.list acc)),o3,o4] T=bnd (eG k [some (.d e0),some (.d G),some (.loc (.list acc)),some (.d e),o4] T) (k6 (forL 3 (eG k) es)):=rfl
  rw [go]
  rcases lD t with ⟨hf,w,_,hw⟩ | ⟨hf,hv,_⟩
  ·rw [List.map_cons,List.filter_cons,if_pos hf]
   rw [hw] at ht
   have hb:eG k [some (.d e0),some (.d G),some (.loc (.list acc)),some (.d e),o4] T=some ((.rt (fl w),[some (.d e0),some (.d G),some (.loc (.list acc)),some (.d e),some (.d (fl w))]),T):=by
    simp [eG,ht,fl]
   rw [hb,hw]
   exact ⟨_,rfl⟩
  ·rw [List.map_cons,List.filter_cons,hf]
   have ih:=lE (e0:=e0) es (acc++[vOf (f e)]) (some (.d e)) (some (.d (f e))) (fun x hx=>h x (List.mem_cons_of_mem _ hx)) (by simp at hl ⊢; omega)
   have hb:eG k [some (.d e0),some (.d G),some (.loc (.list acc)),some (.d e),o4] T=some ((.nx,[some (.d e0),some (.d G),some (.loc (.list (acc++[vOf (f e)]))),some (.d e),some (.d (f e))]),T):=by
    generalize hV:vOf (f e)=v at hv
    rw [hv] at ht ⊢
    simp [eG,ht,vl,hl']
   rw [hb,sE,qM]
   simp only [Bool.false_eq_true,if_false]
   cases hF:(es.map f).filter isF with
   | nil=>
    rw [hF] at ih
    obtain ⟨o3',o4',hi⟩:=ih
    exact ⟨o3',o4',by rw [hi]; simp⟩
   | cons R r=>
    rw [hF] at ih
    exact ih
structure Node (e0:PyData) (w0:Str) (es:List PyData):Prop where
 w1:∀ T,dA [.d e0] T=some (.list es,T)
 ix:ixD e0 (.int 0)=some (.str w0)
 np:(w0=Str.ofString "put")=False
 ng:(w0=Str.ofString "got")=False
 ln:es.length≤8
def TB (G:PyData) (n:Nat) (e:PyData):Prop:=∃ R,cA R∧∀ k T,n < k→cw k [.d e,.d G] T=some (R,T)
def ui (G:PyData) (gs:List PyData):Prop:=∀ i:Int,ixD G (.int i)=atI gs i
theorem lQ (gs:List PyData):ui (.tuple gs) gs:=fun _=>rfl
theorem oK (n:Nat):cw (n + 1)=aW 5 (aq (fIf (aH (ag eqD (ag ixD (aa 0) (fC (.int 0))) (fC (.str "put")))) (ax (aD .tuple (ae (fC (.str "value")) (ae (ag ixD (aa 0) (fC (.int 1))) ai)))) aK) (aq (fIf (aH (ag eqD (ag ixD (aa 0) (fC (.int 0))) (fC (.str "got")))) (ax (aD .tuple (ae (fC (.str "value")) (ae (ag ixD (aa 1) (ag ixD (aa 0) (fC (.int 1)))) ai)))) aK) (aq (dI 2 ai) (aq (ck 3 (bD (ar dA (ae (aa 0) ai))) (eG n)) (ax (iG bc (ae (ag ixD (aa 0) (fC (.int 0))) (ae (aa 2) ai)))))))):=by rw [cw]; rfl
theorem jv {a:PyData} {r:List PyData}:cY (a::r) (some 1) none=r:=by
 have e:HT.sIx (a::r).length 0 (some 1)=1:=by
  have:=HT.z8 (a::r).length 0 1
  rw [show ((1:Nat):Int)=1 from rfl] at this
  rw [this]
  simp
 have e2:HT.sIx (a::r).length (a::r).length none=(a::r).length:=rfl
 unfold cY
 rw [e,e2]
 simp
inductive Rg (p:Bool):Nat→Nat→PyData→Prop where
 | fail {g n:Nat} {x:Str}:isName (.str x)=true→Rg p g n (.tuple [.str "fail",.str x])
 | say {g n:Nat} {e:PyData}:Ex (g:Int) n e→Rg p g (n + 1) (.tuple [.str "say",e])
 | ask {g n:Nat} {w:String} {e r:PyData}:(w = "want"∨(w = "peek"∧p=true))→g < 12→Ex (g:Int) n e→Rg p (g + 1) n r→Rg p g (n + 1) (.tuple [.str (Str.ofString w),e,r])
 | whn {g n:Nat} {e r s:PyData}:Ex (g:Int) n e→Rg p g n r→Rg p g n s→Rg p g (n + 1) (.tuple [.str "when",e,r,s])
def mdT (v:PyData):PyData:=.tuple [.str "made",v]
def flT (x:Str):PyData:=.tuple [.str "fails",.str x]
def asT (b:Bool) (x:Str) (r:PyData):PyData:=.tuple [.str (Str.ofString (if b then "peek" else "want")),.str x,r]
inductive StepOk (p:Bool) (g n:Nat):PyData→Prop where
 | md {v:PyData}:aG v=true→StepOk p g n (mdT v)
 | fl {x:Str}:isName (.str x)=true→StepOk p g n (flT x)
 | ask {b:Bool} {x:Str} {r:PyData} {n':Nat}:(b=true→p=true)→isName (.str x)=true→g < 12→n'≤n→Rg p (g + 1) n' r→StepOk p g n (asT b x r)
theorem StepOk.up {p:Bool} {g n m:Nat} {S:PyData} (h:StepOk p g n S) (l:n≤m):StepOk p g m S:=by
 cases h with
 | md a=>exact .md a
 | fl a=>exact .fl a
 | ask a b c d e=>exact .ask a b c (Nat.le_trans d l) e
theorem mv:∀ w∈FW,isName (.str (Str.ofString w))=true:=by decide +kernel
theorem qB:isName (.str "name")=true:=by decide +kernel
theorem zV {d:PyData} (T:Tp) (h:Sm d):fQ [.d d] T=some (.bool (isName d),T):=by
 cases d with
 | str x=>
  have hz:x.length≤sizeLine:=Nat.le_trans h.str (by decide)
  have hh:∀ T,et [.d (.str x),.d (.str "abcdefghijklmnopqrstuvwxyz")] T=some (.bool (has LET x),T):=fun T=>uh T hz
  have e:isName (.str x)=(decide (1≤x.length) && decide (x.length≤8) && has LET x):=rfl
  by_cases h1:1≤x.length
  ·have h1':(1:Int)≤(x.length:Int):=by omega
   by_cases h8:x.length≤8
   ·have h8':(x.length:Int)≤8:=by omega
    simp [fQ,hz,hh,e,h1,h1',h8,h8']
   ·have h8':¬ (x.length:Int)≤8:=by omega
    simp [fQ,hz,hh,e,h1,h1',h8,h8']
  ·have h1':¬ (1:Int)≤(x.length:Int):=by omega
   simp [fQ,hz,hh,e,h1,h1']
 | _=>rfl
theorem kT {α:Type} {a b c d:α}:atI [a,b,c,d] 0=some a:=rfl
theorem kS {α:Type} {a b c d:α}:atI [a,b,c,d] 1=some b:=rfl
theorem ul {α:Type} {a b c d:α}:atI [a,b,c,d] 2=some c:=rfl
theorem uk {α:Type} {a b c d:α}:atI [a,b,c,d] 3=some d:=rfl
theorem pj {ds:List PyData} {k:Nat} (h:∀ d∈ds,d.depth≤k):PyData.depthAll ds≤k:=by
 induction ds with
 | nil=>simp [PyData.depthAll]
 | cons d r ih=>
  simp only [PyData.depthAll]
  have h1:=h d List.mem_cons_self
  have h2:=ih fun x hx=>h x (List.mem_cons_of_mem _ hx)
  omega
theorem lh {l:List PyData} (h:∀ d∈l,aF 4 d=true):SeqAt.shaped (.list l)=true:=by
 unfold SeqAt.shaped
 have h1:(PyData.list l).canLay0=true:=by
  simp only [PyData.canLay0]
  exact mF fun d hd=>jz 4 d (h d hd)
 have h2:(PyData.list l).depth≤64:=by
  simp only [PyData.depth]
  have:=pj (k:=4) fun d hd=>(pR (h d hd)).dp
  omega
 rw [h1,decide_eq_true h2]
 rfl
theorem eq_nil {l:List PyData} (h:∀ d∈l,aF 4 d=true):eqG (.list l) (.list [])=some (.bool l.isEmpty):=by
 have h2:SeqAt.shaped (.list [])=true:=lh (l:=[]) (by simp)
 unfold eqG
 rw [if_pos ⟨lh h,h2⟩]
 cases l <;> simp [PyData.eqv,PyData.eqvAll]
theorem nV {x:Str} (h:∀ c∈x.cps.toList,c < 128) {d:PyData} (hd:d∈D.signs x):∃ c,c∈x.cps.toList∧d=.str ⟨#[c]⟩:=by
 unfold D.signs at hd
 obtain ⟨c,hc,rfl⟩:=List.mem_map.mp hd
 exact ⟨c,hc,rfl⟩
theorem vZ {l:List PyData} (h:∀ d∈l,∃ c:Nat,c < 128∧d=.str ⟨#[c]⟩):SeqAt.shaped (.list l)=true:=by
 unfold SeqAt.shaped
 have h1:(PyData.list l).canLay0=true:=by
  simp only [PyData.canLay0]
  refine mF fun d hd=>?_
  obtain ⟨c,hc,rfl⟩:=h d hd
  simp only [PyData.canLay0]
  unfold PyData.strOk
  simp
  omega
 have h2:(PyData.list l).depth≤64:=by
  simp only [PyData.depth]
  have:=pj (k:=0) (ds:=l) fun d hd=>by
   obtain ⟨c,hc,rfl⟩:=h d hd
   simp [PyData.depth]
  omega
 rw [h1,decide_eq_true h2]
 rfl
theorem AK {l:List PyData} (h:∀ d∈l,∃ c:Nat,c < 128∧d=.str ⟨#[c]⟩):eqG (.list l) (.list [])=some (.bool l.isEmpty):=by
 have h2:SeqAt.shaped (.list [])=true:=lh (l:=[]) (by simp)
 unfold eqG
 rw [if_pos ⟨vZ h,h2⟩]
 cases l <;> simp [PyData.eqv,PyData.eqvAll]
theorem filter_none {α:Type} (p:α→Bool) (l:List α):(l.filter fun x=>!(p x)).isEmpty=l.all p:=by
 induction l with
 | nil=>rfl
 | cons a r ih=>
  rw [List.filter_cons,List.all_cons]
  cases p a with
  | true=>simpa using ih
  | false=>simp
theorem oP {y x:Str} {T:Tp} {ρ:Rho} (c:FT) (hx:∀ c∈x.cps.toList,c < 128) (hc:∀ z:Str,c (some (.d (.str z))::ρ) T=some (!(gW y z),T)) :
  ∃ l,bN c (aa 0) ρ (D.signs x) T=some (l,T)∧eqG (.list l) (.list [])=some (.bool (has y x)):=by
 refine ⟨(D.signs x).filter (fun d=>!(mM y d)),k8 fun d hd=>?_,?_⟩
 ·obtain ⟨c',hc',rfl⟩:=nV hx hd
  rw [hc]
  rfl
 ·rw [AK,filter_none,oQ]
  intro d hd
  obtain ⟨c',hc',rfl⟩:=nV hx (List.mem_filter.mp hd).1
  exact ⟨c',hx c' hc',rfl⟩
theorem AZ {v:PyData} (T:Tp) (h:aG v=true):eX [.d v] T=some (.bool (isName v),T):=by
 rcases dC h with ⟨i,rfl,_⟩ | ⟨x,rfl,hx,hx2⟩ | ⟨ds,rfl,_⟩
 ·rfl
 ·have hz:x.length≤sizeLine:=Nat.le_trans hx (by decide)
  have e:isName (.str x)=(decide (1≤x.length) && decide (x.length≤8) && has LET x):=rfl
  obtain ⟨l,hc,hl⟩:=oP (y:=LET) (x:=x) (T:=T) (ρ:=[some (.d (.str x))]) (aH (ag i8 (aa 0) (fC (.str "abcdefghijklmnopqrstuvwxyz")))) hx2 fun z=>by simp; rfl
  by_cases h1:1≤x.length
  ·have h1':¬ (x.length:Int) < 1:=by omega
   by_cases h8:x.length≤8
   ·have h8':¬ (8:Int) < (x.length:Int):=by omega
    simp [eX,hz,h1',h8',hc,hl,e,h1,h8]
   ·have h8':(8:Int) < (x.length:Int):=by omega
    simp [eX,hz,h1',h8',e,h1,h8]
  ·have h1':(x.length:Int) < 1:=by omega
   simp [eX,hz,h1',e,h1]
 ·rfl
theorem rE:∀ (n k:Nat) (d:PyData) (T:Tp),tdp n d=true→n < k→ej k [.d d] T=some (.int (aE n d),T)
 | n,0,d,T,_,hk=>absurd hk (Nat.not_lt_zero _)
 | n,k + 1,d,T,hg,hk=>by
  by_cases ht:kd d=.tup
  ·cases n with
   | zero=>exact absurd ht (uq hg)
   | succ n=>
    obtain ⟨ds,rfl⟩:=iB ht
    have hg':ds.all (tdp n)=true:=hg
    have e:aE (n + 1) (.tuple ds)=1 + (ds.map (aE n)).sum:=rfl
    have hc:bN bG (ar (ej k) (ae (aa 0) ai)) [some (.d (.tuple ds))] ds T=some (ds.map fun x=>.int (aE n x),T):=dE fun x hx=>by
     have:=rE n k x T (List.all_eq_true.mp hg' x hx) (by omega)
     simp [this]
    simp [ej,ja,e,hc]
  ·simp [ej,mj ht,lu ht]
def BP (d:PyData):Prop:=(∃ i,d=.int i)∨(∃ x,d=.str x∧x.length≤60000∧∀ c∈x.cps.toList,c < 128)∨∃ ds,d=.tuple ds∧∀ x∈ds,aF 4 x=true
theorem BP.of {d:PyData} (h:aF 4 d=true):BP d:=by
 rcases bQ h with h1 | ⟨m,ds,e,rfl,h8,hd⟩
 ·rcases bV h1 with ⟨i,rfl⟩ | ⟨x,rfl⟩
  ·exact .inl ⟨i,rfl⟩
  ·have hs:=l5 4 _ h
   exact .inr (.inl ⟨x,rfl,hs.both.1,hs.both.2⟩)
 ·cases e
  exact .inr (.inr ⟨ds,rfl,fun x hx=>(gz 3 x (hd x hx)).1⟩)
theorem rD:∀ (n k:Nat) (d:PyData) (T:Tp) (a:Int),BP d→n < k→a + n=4→cG k [.d d,.d (.int a)] T=some (.bool (aF n d),T)
 | n,0,d,T,a,_,hk,_=>absurd hk (Nat.not_lt_zero _)
 | n,k + 1,d,T,a,hb,hk,ha=>by
  rcases hb with ⟨i,rfl⟩ | ⟨x,rfl,hx,hx2⟩ | ⟨ds,rfl,hd⟩
  ·have e:aF n (.int i)=single (.int i):=by cases n <;> rfl
   have e2:single (.int i)=decide ((if i < 0 then -i else i)≤10 ^ 18):=rfl
   rw [e,e2]
   by_cases hi:(if i < 0 then -i else i)≤(10:Int) ^ 18
   ·have hi':(if i < 0 then -i else i)≤1000000000000000000:=hi
    rw [decide_eq_true hi]
    simp [cG,a6,hi']
   ·have hi':¬ (if i < 0 then -i else i)≤1000000000000000000:=hi
    rw [decide_eq_false hi]
    simp [cG,a6,hi']
  ·have e:aF n (.str x)=single (.str x):=by cases n <;> rfl
   have e2:single (.str x)=(decide (x.length≤20) && has TXT x):=rfl
   have hz:x.length≤sizeLine:=Nat.le_trans hx (by decide)
   obtain ⟨l,hc,hl⟩:=oP (y:=TXT) (x:=x) (T:=T) (ρ:=[some (.d (.str x)),some (.d (.int a)),some (.d (.str TXT))]) (aH (ag i8 (aa 0) (aa 3))) hx2 fun z=>by simp; rfl
   have tx:TXT=Str.ofString "abcdefghijklmnopqrstuvwxyz0123456789-":=rfl
   rw [tx] at hc
   rw [e,e2]
   by_cases h20:x.length≤20
   ·have h20':(x.length:Int)≤20:=by omega
    simp [cG,a6,hz,h20,h20',hc,hl]
   ·have h20':¬ (x.length:Int)≤20:=by omega
    simp [cG,a6,hz,h20,h20']
  ·by_cases h8:ds.length≤8
   ·have h8':¬ (8:Int) < (ds.length:Int):=by omega
    cases n with
    | zero=>
     have h3:(3:Int) < a:=by omega
     simp [cG,a6,aF,h8',h3]
    | succ n=>
     have h3:¬ (3:Int) < a:=by omega
     have e:aF (n + 1) (.tuple ds)=(decide (ds.length≤8) && ds.all (aF n)):=rfl
     have hc:bN (bH (aV (ar (cG k) (ae (aa 0) (ae (ag aU (aa 2) (fC (.int 1))) ai))))) (aa 0) [some (.d (.tuple ds)),some (.d (.int a)),none] ds T=some (ds.filter (fun x=>!(aF n x)),T):=k8 fun x hx=>by
      have:=rD n k x T (a + 1) (.of (hd x hx)) (by omega) (by omega)
      simp [this]
     have hq:eqG (.list (ds.filter fun x=>!(aF n x))) (.list [])=some (.bool (ds.all (aF n))):=by
      rw [eq_nil fun d hd'=>hd d (List.mem_filter.mp hd').1,filter_none]
     simp [cG,a6,h8',h3,e,h8,hc,hq]
   ·have h8':(8:Int) < (ds.length:Int):=by omega
    have e:aF n (.tuple ds)=false:=by
     cases n with
     | zero=>rfl
     | succ n=>show (decide (ds.length≤8) && ds.all (aF n))=false; rw [decide_eq_false h8]; rfl
    simp [cG,a6,h8',e]
theorem jT {d:PyData} (T:Tp) (h:BP d):d9 [.d d] T=some (.bool (aG d),T):=by
 have h1:=rD 4 25 d T 0 h (by decide) (by decide)
 have e:aG d=(aF 4 d && decide (aE 4 d≤40)):=rfl
 cases hb:aF 4 d with
 | false=>rw [hb] at h1; simp [d9,h1,e,hb]
 | true=>
  have h2:=rE 4 25 d T (K1.lT 4 d hb) (by decide)
  rw [hb] at h1
  simp [d9,h1,h2,e,hb]
theorem Cj (i:Int):BP (.int i):=.inl ⟨i,rfl⟩
theorem iV {x:PyData} {T:Tp} (h:gO x=true):kB T (.d x)=some (.d (.str x.shown),T):=if_pos h
def iJ (w:String) (a b:PyData):Prop:=∃ R,cA R∧(∀ T,bc [.d (.str (Str.ofString w)),.d (.list [a,b])] T=some (R,T))∧∀ T,bj [.d (.str (Str.ofString w)),.d a,.d b] T=some (R,T)
theorem Cm {a b:PyData} (ha:aG a=true) (hb:aG b=true):iJ "same" a b:=by
 have g1:=lw ha
 have g2:=lw hb
 have e1:=Ca ha hb
 have e2:=jD ha hb
 refine ⟨vl (.int (if sam a b=true then 1 else 0)),.inl ⟨_,rfl,by split <;> exact jU (by decide) (by decide)⟩,fun T=>?_,fun T=>?_⟩
 ·cases hs:sam a b with
  | true=>rw [hs] at e1; simp [bc,e1,vl]
  | false=>rw [hs] at e1; simp [bc,e1,vl]
 ·rw [← e2]
  by_cases c:a.shown=b.shown
  ·simp [bj,iV g1,iV g2,c,vl,D.intD]
  ·simp [bj,iV g1,iV g2,c,vl,D.intD]
theorem Cn {a b:PyData} (ha:aG a=true) (hb:aG b=true):iJ "part" a b:=by
 rcases dC ha with ⟨i,rfl,hi⟩ | ⟨x,rfl,hx,hx2⟩ | ⟨ds,rfl,hd⟩
 ·refine ⟨_,cb,fun T=>?_,fun T=>?_⟩ <;> simp [bc,dN,bj,fl]
 ·refine ⟨_,cb,fun T=>?_,fun T=>?_⟩ <;> simp [bc,dN,bj,fl]
 ·rcases dC hb with ⟨j,rfl,hj⟩ | ⟨y,rfl,hy,hy2⟩ | ⟨es,rfl,he⟩
  ·by_cases c:0≤j∧j < (ds.length:Int)
   ·obtain ⟨d,e,hv⟩:=Ck ha c.1 c.2
    refine ⟨vl d,.inl ⟨d,rfl,hv⟩,fun T=>?_,fun T=>?_⟩ <;> simp [bc,dN,bj,vl,c.1,c.2,e]
   ·refine ⟨_,zZ,fun T=>?_,fun T=>?_⟩
    ·by_cases c0:0≤j
     ·have c1:¬ j < (ds.length:Int):=fun z=>c ⟨c0,z⟩
      simp [bc,dN,fl,c0,c1]
     ·simp [bc,dN,fl,c0]
    ·by_cases c0:0≤j
     ·have c1:¬ j < (ds.length:Int):=fun z=>c ⟨c0,z⟩
      simp [bj,fl,c0,c1]
     ·simp [bj,fl,c0]
  ·refine ⟨_,cb,fun T=>?_,fun T=>?_⟩ <;> simp [bc,dN,bj,fl]
  ·refine ⟨_,cb,fun T=>?_,fun T=>?_⟩ <;> simp [bc,dN,bj,fl]
theorem Dz {a b:PyData} (ha:aG a=true) (hb:aG b=true):iJ "sum" a b:=by
 rcases dC ha with ⟨i,rfl,hi⟩ | ⟨x,rfl,hx,hx2⟩ | ⟨ds,rfl,hd⟩
 ·rcases dC hb with ⟨j,rfl,hj⟩ | ⟨y,rfl,hy,hy2⟩ | ⟨es,rfl,he⟩
  ·have b1:=fun T=>jJ T (Bn (i + j))
   have b2:=fun T=>jT T (Cj (i + j))
   refine ⟨_,jV (.int (i + j)),fun T=>?_,fun T=>?_⟩
   ·simp [bc,fj,b1]
   ·cases hv:aG (.int (i + j)) <;> simp [bj,b2,hv,bd,vl,fl]
  ·refine ⟨_,cb,fun T=>?_,fun T=>?_⟩ <;> simp [bc,fj,bj,fl]
  ·refine ⟨_,cb,fun T=>?_,fun T=>?_⟩ <;> simp [bc,fj,bj,fl]
 ·refine ⟨_,cb,fun T=>?_,fun T=>?_⟩ <;> simp [bc,fj,bj,fl]
 ·refine ⟨_,cb,fun T=>?_,fun T=>?_⟩ <;> simp [bc,fj,bj,fl]
theorem Co {a b:PyData} (ha:aG a=true) (hb:aG b=true):iJ "less" a b:=by
 rcases dC ha with ⟨i,rfl,hi⟩ | ⟨x,rfl,hx,hx2⟩ | ⟨ds,rfl,hd⟩
 ·rcases dC hb with ⟨j,rfl,hj⟩ | ⟨y,rfl,hy,hy2⟩ | ⟨es,rfl,he⟩
  ·refine ⟨vl (.int (if i < j then 1 else 0)),.inl ⟨_,rfl,by split <;> exact jU (by decide) (by decide)⟩,fun T=>?_,fun T=>?_⟩
   ·by_cases c:i < j
    ·simp [bc,ei,c,vl]
    ·simp [bc,ei,c,vl]
   ·by_cases c:i < j
    ·simp [bj,c,vl,D.intD]
    ·simp [bj,c,vl,D.intD]
  ·refine ⟨_,cb,fun T=>?_,fun T=>?_⟩ <;> simp [bc,ei,bj,fl]
  ·refine ⟨_,cb,fun T=>?_,fun T=>?_⟩ <;> simp [bc,ei,bj,fl]
 ·refine ⟨_,cb,fun T=>?_,fun T=>?_⟩ <;> simp [bc,ei,bj,fl]
 ·refine ⟨_,cb,fun T=>?_,fun T=>?_⟩ <;> simp [bc,ei,bj,fl]
theorem Cp {a b:PyData} (ha:aG a=true) (hb:aG b=true):iJ "join" a b:=by
 rcases dC ha with ⟨i,rfl,hi⟩ | ⟨x,rfl,hx,hx2⟩ | ⟨ds,rfl,hd⟩
 ·refine ⟨_,cb,fun T=>?_,fun T=>?_⟩
  ·simp [bc,dO,fl]
  ·rcases dC hb with ⟨j,rfl,hj⟩ | ⟨y,rfl,hy,hy2⟩ | ⟨es,rfl,he⟩ <;> simp [bj,fl]
 ·rcases dC hb with ⟨j,rfl,hj⟩ | ⟨y,rfl,hy,hy2⟩ | ⟨es,rfl,he⟩
  ·refine ⟨_,cb,fun T=>?_,fun T=>?_⟩ <;> simp [bc,dO,bj,fl]
  ·have l:x.length + y.length≤sizeLine:=dQ (by omega)
   have sx:Sm (.str (x++y)):=Sm.mkS (by rw [← kr,gJ,List.length_append,kr,kr]; omega) fun c hc=>by
    have hc':c∈cd (x++y):=hc
    rw [gJ] at hc'
    exact (List.mem_append.mp hc').elim (hx2 c) (hy2 c)
   have b1:=fun T=>jJ T sx
   have b2:=fun T=>jT (d:=.str (x++y)) T (.inr (.inl ⟨_,rfl,sx.both.1,sx.both.2⟩))
   refine ⟨_,jV (.str (x++y)),fun T=>?_,fun T=>?_⟩
   ·simp [bc,dO,b1,l]
   ·cases hv:aG (.str (x++y)) <;> simp [bj,b2,l,hv,bd,vl,fl]
  ·refine ⟨_,cb,fun T=>?_,fun T=>?_⟩ <;> simp [bc,dO,bj,fl]
 ·rcases dC hb with ⟨j,rfl,hj⟩ | ⟨y,rfl,hy,hy2⟩ | ⟨es,rfl,he⟩
  ·refine ⟨_,cb,fun T=>?_,fun T=>?_⟩ <;> simp [bc,dO,bj,fl]
  ·refine ⟨_,cb,fun T=>?_,fun T=>?_⟩ <;> simp [bc,dO,bj,fl]
  ·have l:ds.length + es.length≤sizeLine:=dQ (by omega)
   have sx:Sm (.tuple (ds++es)):=Sm.tup fun d hd=>by
    rcases List.mem_append.mp hd with z | z
    ·exact kb (iS ha z)
    ·exact kb (iS hb z)
   have b1:=fun T=>jJ T sx
   have b2:=fun T=>jT (d:=.tuple (ds++es)) T (.inr (.inr ⟨_,rfl,fun z hz=>(List.mem_append.mp hz).elim (fun q=>(b9 (iS ha q)).1) fun q=>(b9 (iS hb q)).1⟩))
   refine ⟨_,jV (.tuple (ds++es)),fun T=>?_,fun T=>?_⟩
   ·simp [bc,dO,b1,l]
   ·cases hv:aG (.tuple (ds++es)) <;> simp [bj,b2,l,hv,bd,vl,fl]
theorem DB {w:String} {a b:PyData} (hw:w∈PW) (ha:aG a=true) (hb:aG b=true):iJ w a b:=by
 simp [PW] at hw
 rcases hw with rfl | rfl | rfl | rfl | rfl
 ·exact Cn ha hb
 ·exact Dz ha hb
 ·exact Cp ha hb
 ·exact Cm ha hb
 ·exact Co ha hb
def eE (M:FnM):FS:=(aq (aQ 4 (ar M (ae (aa 3) (ae (aa 1) ai)))) (aq (fIf (aH (ag eqD (ag ixD (aa 4) (fC (.int 0))) (fC (.str "fails")))) (ax (aa 4)) aK) (cX 2 (ag ixD (aa 4) (fC (.int 1))))))
def fZ:FI:=(bD (ag ixD (aD .list (ae (fCB dv (ae (fSl (aa 0) (fP (fC (.int 1))) fK) ai)) (ae (fCB dv (ae (ag ixD (aa 0) (fC (.int 1))) ai)) ai))) (fCB intD (ae (ag eqD (ag ixD (aa 0) (fC (.int 0))) (fC (.str "row"))) ai))))
def gG:FS:=(aq (fIf (aH (ag eqD (ag ixD (aa 0) (fC (.int 0))) (fC (.str "row")))) (ax (cW (aV (ar d9 (ae (fCB cy (ae (aa 2) ai)) ai))) (aD .tuple (ae (fC (.str "value")) (ae (fCB cy (ae (aa 2) ai)) ai))) (aD .tuple (ae (fC (.str "fails")) (ae (fC (.str "great")) ai))))) aK) (aq (fIf (aH (ag eqD (ag ixD (aa 0) (fC (.int 0))) (fC (.str "many")))) (ax (cW (aV (fUn (a9 .int) (ag ixD (aa 2) (fC (.int 0))))) (aD .tuple (ae (fC (.str "fails")) (ae (fC (.str "kind")) ai))) (aD .tuple (ae (fC (.str "value")) (ae (fCB bq (ae (ag ixD (aa 2) (fC (.int 0))) ai)) ai))))) aK) (ax (ar bj (ae (ag ixD (aa 0) (fC (.int 0))) (ae (ag ixD (aa 2) (fC (.int 0))) (ae (ag ixD (aa 2) (fC (.int 1))) ai)))))))
theorem oo (n:Nat):b4 (n + 1)=aW 5 (aq (fIf (aH (ag eqD (ag ixD (aa 0) (fC (.int 0))) (fC (.str "put")))) (ax (aD .tuple (ae (fC (.str "value")) (ae (ag ixD (aa 0) (fC (.int 1))) ai)))) aK) (aq (fIf (aH (ag eqD (ag ixD (aa 0) (fC (.int 0))) (fC (.str "got")))) (ax (aD .tuple (ae (fC (.str "value")) (ae (ag ixD (aa 1) (ag ixD (aa 0) (fC (.int 1)))) ai)))) aK) (aq (dI 2 ai) (aq (ck 3 fZ (eE (b4 n))) gG)))):=by rw [b4]; rfl
theorem ni {M:FnM} {T:Tp} {e0 G:PyData} {f:PyData→PyData}:∀ (es:List PyData) (acc:List PyData) (o3 o4:Option D.W),(∀ e∈es,cA (f e)∧M [.d e,.d G] T=some (f e,T))→acc.length + es.length≤1000 →
  match (es.map f).filter isF with
  | R::_=>∃ ρ',forL 3 (eE M) es [some (.d e0),some (.d G),some (.loc (.list acc)),o3,o4] T=some ((.rt R,ρ'),T)
  | []=>∃ o3' o4',forL 3 (eE M) es [some (.d e0),some (.d G),some (.loc (.list acc)),o3,o4] T=some ((.nx,[some (.d e0),some (.d G),some (.loc (.list (acc++es.map fun e=>vOf (f e)))),(o3':Option D.W),o4']),T)
 | [],acc,o3,o4,_,_=>⟨o3,o4,by simp [forL]⟩
 | e::es,acc,o3,o4,h,hl=>by
  obtain ⟨t,ht⟩:=h e List.mem_cons_self
  have hl':acc.length < sizeLine:=Nat.lt_of_lt_of_le (by simp at hl; omega:acc.length < 1000) (by decide)
  have go:forL 3 (eE M) (e::es) [some (.d e0),some (.d G),some (.loc (.list acc)),o3,o4] T=bnd (eE M [some (.d e0),some (.d G),some (.loc (.list acc)),some (.d e),o4] T) (k6 (forL 3 (eE M) es)):=rfl
  rw [go]
  rcases lD t with ⟨hf,w,_,hw⟩ | ⟨hf,hv,_⟩
  ·rw [List.map_cons,List.filter_cons,if_pos hf]
   rw [hw] at ht
   have hb:eE M [some (.d e0),some (.d G),some (.loc (.list acc)),some (.d e),o4] T=some ((.rt (fl w),[some (.d e0),some (.d G),some (.loc (.list acc)),some (.d e),some (.d (fl w))]),T):=by
    simp [eE,ht,fl]
   rw [hb,hw]
   exact ⟨_,rfl⟩
  ·rw [List.map_cons,List.filter_cons,hf]
   have ih:=ni (e0:=e0) es (acc++[vOf (f e)]) (some (.d e)) (some (.d (f e))) (fun x hx=>h x (List.mem_cons_of_mem _ hx)) (by simp at hl ⊢; omega)
   have hb:eE M [some (.d e0),some (.d G),some (.loc (.list acc)),some (.d e),o4] T=some ((.nx,[some (.d e0),some (.d G),some (.loc (.list (acc++[vOf (f e)]))),some (.d e),some (.d (f e))]),T):=by
    generalize hV:vOf (f e)=v at hv
    rw [hv] at ht ⊢
    simp [eE,ht,vl,hl']
   rw [hb,sE,qM]
   simp only [Bool.false_eq_true,if_false]
   cases hF:(es.map f).filter isF with
   | nil=>
    rw [hF] at ih
    obtain ⟨o3',o4',hi⟩:=ih
    exact ⟨o3',o4',by rw [hi]; simp⟩
   | cons R r=>
    rw [hF] at ih
    exact ih
def TBB (G:PyData) (gs:List PyData) (n:Nat) (e:PyData):Prop:=∃ R,cA R∧(∀ k T,n < k→b4 k [.d e,.d (.list gs)] T=some (R,T))∧∀ k T,n < k→cw k [.d e,.d G] T=some (R,T)
structure NodeB (e0:PyData) (w0:Str) (es:List PyData):Prop where
 nd:Node e0 w0 es
 w2:∀ G T,fZ [some (.d e0),some (.d G),some (.loc (.list [])),none,none] T=some (es,T)
theorem lj {G:PyData} {gs:List PyData} {e0:PyData} {w0:Str} {es:List PyData} {f:PyData→PyData} {n:Nat} (N:NodeB e0 w0 es)
  (hf:∀ e∈es,cA (f e)∧(∀ k T,n < k→b4 k [.d e,.d (.list gs)] T=some (f e,T))∧∀ k T,n < k→cw k [.d e,.d G] T=some (f e,T))
  (fin:(∀ e∈es,f e=vl (vOf (f e))∧aG (vOf (f e))=true)→∃ R,cA R∧(∀ T,bc [.d (.str w0),.d (.list (es.map fun e=>vOf (f e)))] T=some (R,T))∧∀ o3 o4 T,eK (gG [some (.d e0),some (.d (.list gs)),some (.loc (.list (es.map fun e=>vOf (f e)))),o3,o4] T)=some (R,T)):TBB G gs (n + 1) e0:=by
 have ix:=N.nd.ix
 have np:=N.nd.np
 have ng:=N.nd.ng
 have byP:∀ k T,n < k→(∀ e∈es,cA (f e)∧cw k [.d e,.d G] T=some (f e,T)):=fun k T hk e he=>⟨(hf e he).1,(hf e he).2.2 k T hk⟩
 have byL:∀ k T,n < k→(∀ e∈es,cA (f e)∧b4 k [.d e,.d (.list gs)] T=some (f e,T)):=fun k T hk e he=>⟨(hf e he).1,(hf e he).2.1 k T hk⟩
 cases hF:(es.map f).filter isF with
 | cons R r=>
  have hR:R∈(es.map f).filter isF:=by rw [hF]; exact List.mem_cons_self
  obtain ⟨e,he,eR⟩:=List.mem_map.mp (List.mem_filter.mp hR).1
  refine ⟨R,by rw [← eR]; exact (hf e he).1,fun k T hk=>?_,fun k T hk=>?_⟩
  ·obtain ⟨k,rfl⟩:=bb k (by omega)
   have lp:=ni (e0:=e0) es [] none none (byL k T (by omega)) (by have:=N.nd.ln; simp; omega)
   rw [hF] at lp
   obtain ⟨ρ',lp⟩:=lp
   rw [oo]
   simp [ix,np,ng,N.w2,lp]
  ·obtain ⟨k,rfl⟩:=bb k (by omega)
   have lp:=lE (e0:=e0) es [] none none (byP k T (by omega)) (by have:=N.nd.ln; simp; omega)
   rw [hF] at lp
   obtain ⟨ρ',lp⟩:=lp
   rw [oK]
   simp [ix,np,ng,N.nd.w1,lp]
 | nil=>
  have all:∀ e∈es,f e=vl (vOf (f e))∧aG (vOf (f e))=true:=fun e he=>by
   rcases lD (hf e he).1 with ⟨h1,_⟩ | ⟨_,h2⟩
   ·have:f e∈(es.map f).filter isF:=List.mem_filter.mpr ⟨List.mem_map.mpr ⟨e,he,rfl⟩,h1⟩
    rw [hF] at this
    cases this
   ·exact h2
  obtain ⟨R,t,q1,q2⟩:=fin all
  refine ⟨R,t,fun k T hk=>?_,fun k T hk=>?_⟩
  ·obtain ⟨k,rfl⟩:=bb k (by omega)
   have lp:=ni (e0:=e0) es [] none none (byL k T (by omega)) (by have:=N.nd.ln; simp; omega)
   rw [hF] at lp
   obtain ⟨o3',o4',lp⟩:=lp
   rw [oo]
   have q:=q2 o3' o4' T
   simp [ix,np,ng,N.w2,lp,q]
  ·obtain ⟨k,rfl⟩:=bb k (by omega)
   have lp:=lE (e0:=e0) es [] none none (byP k T (by omega)) (by have:=N.nd.ln; simp; omega)
   rw [hF] at lp
   obtain ⟨o3',o4',lp⟩:=lp
   have cf:∀ T,gK bc [.d (.str w0),.d (.list (es.map fun e=>vOf (f e)))] T=some (.d R,T):=fun T=>jI rfl (q1 []) (jK t)
   rw [oK]
   simp [ix,np,ng,N.nd.w1,lp,cf]
theorem k9 {G:PyData} {gs:List PyData} {n:Nat} {es:List PyData} (h:∀ e∈es,TBB G gs n e):∃ f:PyData→PyData,∀ e∈es,cA (f e)∧(∀ k T,n < k→b4 k [.d e,.d (.list gs)] T=some (f e,T))∧∀ k T,n < k→cw k [.d e,.d G] T=some (f e,T):=by
 classical
 refine ⟨fun e=>if h':e∈es then (h e h').choose else .none,fun e he=>?_⟩
 simp only [dif_pos he]
 exact (h e he).choose_spec
theorem Ex.tup {m:Int} {n:Nat} {e:PyData} (h:Ex m n e):∃ xs,e=.tuple xs:=by cases h <;> exact ⟨_,rfl⟩
theorem lF {m:Int} {G:PyData} {gs:List PyData} (hG:ui G gs) (hg:∀ g∈gs,aG g=true) (hm:m≤(gs.length:Int)):∀ (n:Nat) (e:PyData),Ex m n e→TBB G gs n e:=by
 intro n e h
 induction h with
 | put hv=>
  rename_i n v
  refine ⟨vl v,.inl ⟨v,rfl,hv⟩,fun k T hk=>?_,fun k T hk=>?_⟩
  ·obtain ⟨k,rfl⟩:=bb k (by omega)
   simp [b4,vl]
  ·obtain ⟨k,rfl⟩:=bb k (by omega)
   simp [cw,vl]
 | got h0 h1=>
  rename_i n i
  obtain ⟨g,e,hgm⟩:=fB (xs:=gs) h0 (by omega)
  refine ⟨vl g,.inl ⟨g,rfl,hg g hgm⟩,fun k T hk=>?_,fun k T hk=>?_⟩
  ·obtain ⟨k,rfl⟩:=bb k (by omega)
   simp [b4,vl,e]
  ·obtain ⟨k,rfl⟩:=bb k (by omega)
   simp [cw,vl,hG i,e]
 | row hl _ ih=>
  rename_i n es _
  obtain ⟨f,hf⟩:=k9 ih
  have e1:∀ T,dA [.d (.tuple [.str "row",.tuple es])] T=some (.list es,T):=fun T=>by simp [dA]
  have e2:∀ G T,fZ [some (.d (.tuple [.str "row",.tuple es])),some (.d G),some (.loc (.list [])),none,none] T=some (es,T):=fun G T=>by simp [fZ,jv,D.intD,D.dv]
  refine lj (w0:=Str.ofString "row") (es:=es) (f:=f) ⟨⟨e1,rfl,by simp,by simp,hl⟩,e2⟩ hf fun all=>?_
  have sx:Sm (.tuple (es.map fun e=>vOf (f e))):=Sm.tup fun d hd=>by
   obtain ⟨e,he,rfl⟩:=List.mem_map.mp hd
   exact kb (all e he).2
  have bp:BP (.tuple (es.map fun e=>vOf (f e))):=.inr (.inr ⟨_,rfl,fun d hd=>by
   obtain ⟨e,he,rfl⟩:=List.mem_map.mp hd
   exact (b9 (all e he).2).1⟩)
  refine ⟨bd (.tuple (es.map fun e=>vOf (f e))),jV _,fun T=>?_,fun o3 o4 T=>?_⟩
  ·simp [bc,jJ T sx]
  ·have lv:=jT T bp
   generalize es.map (fun e=>vOf (f e))=ps at lv ⊢
   cases hv:aG (.tuple ps) <;> simp [gG,lv,hv,bd,vl,fl,D.cy]
 | many _ ih=>
  rename_i n e he
  obtain ⟨xs,hxs⟩:=Ex.tup he
  obtain ⟨f,hf⟩:=k9 (es:=[e]) (fun x hx=>by rw [List.mem_singleton.mp hx]; exact ih)
  have e1:∀ T,dA [.d (.tuple [.str "many",e])] T=some (.list [e],T):=fun T=>by simp [dA,jv]
  have e2:∀ G T,fZ [some (.d (.tuple [.str "many",e])),some (.d G),some (.loc (.list [])),none,none] T=some ([e],T):=fun G T=>by subst hxs; simp [fZ,jv,D.intD,D.dv]
  refine lj (w0:=Str.ofString "many") (es:=[e]) (f:=f) ⟨⟨e1,rfl,by simp,by simp,by simp⟩,e2⟩ hf fun all=>?_
  obtain ⟨a1,a2⟩:=all e (by simp)
  generalize hV:vOf (f e)=v at a1 a2
  rcases dC a2 with ⟨i,rfl,hi⟩ | ⟨x,rfl,hx,_⟩ | ⟨ds,rfl,hd⟩
  ·refine ⟨fl "kind",cb,fun T=>?_,fun o3 o4 T=>?_⟩
   ·simp [bc,gj,hV,fl]
   ·simp [gG,hV,fl]
  ·have hx':x.length≤sizeLine:=dQ (by omega)
   refine ⟨vl (.int x.length),.inl ⟨_,rfl,jU (by omega) (by omega)⟩,fun T=>?_,fun o3 o4 T=>?_⟩
   ·simp [bc,gj,hV,vl,hx']
   ·simp [gG,hV,vl,hx']
  ·refine ⟨vl (.int ds.length),.inl ⟨_,rfl,jU (by omega) (by omega)⟩,fun T=>?_,fun o3 o4 T=>?_⟩
   ·simp [bc,gj,hV,vl]
   ·simp [gG,hV,vl]
 | pair hw ha hb iha ihb=>
  rename_i n w a b
  obtain ⟨xs,hxs⟩:=Ex.tup ha
  obtain ⟨f,hf⟩:=k9 (es:=[a,b]) (fun x hx=>by
   simp at hx
   rcases hx with rfl | rfl
   ·exact iha
   ·exact ihb)
  have ne:¬ w = "put"∧¬ w = "got"∧¬ w = "row"∧¬ w = "many":=by
   simp [PW] at hw
   rcases hw with rfl | rfl | rfl | rfl | rfl <;> simp
  obtain ⟨n1,n2,n4,n5⟩:=ne
  have e1:∀ T,dA [.d (.tuple [.str (Str.ofString w),a,b])] T=some (.list [a,b],T):=fun T=>by simp [dA,jv,n1,n2,n4]
  have e2:∀ G T,fZ [some (.d (.tuple [.str (Str.ofString w),a,b])),some (.d G),some (.loc (.list [])),none,none] T=some ([a,b],T):=fun G T=>by subst hxs; simp [fZ,jv,D.intD,D.dv,n4]
  refine lj (w0:=Str.ofString w) (es:=[a,b]) (f:=f) ⟨⟨e1,rfl,by simp [n1],by simp [n2],by simp⟩,e2⟩ hf fun all=>?_
  obtain ⟨a1,a2⟩:=all a (by simp)
  obtain ⟨b1,b2⟩:=all b (by simp)
  obtain ⟨R,t,q1,q2⟩:=DB hw a2 b2
  refine ⟨R,t,fun T=>q1 T,fun o3 o4 T=>?_⟩
  simp [gG,n4,n5,q2]
def dy:FT:=(aH (ag neD (ag ixD (aa 0) (fC (.int 0))) (fC (.str "fail"))))
def dz:FS:=(aq (aQ 4 (iG (b4 25) (ae (ag ixD (aa 0) (fC (.int 1))) (ae (aa 2) ai)))) (aq (fIf (aH (ag eqD (ag ixD (aa 4) (fC (.int 0))) (fC (.str "fails")))) (ax (aD .tuple (ae (aa 3) (ae (aa 4) ai)))) aK) (aq (fIf (aH (ag eqD (ag ixD (aa 0) (fC (.int 0))) (fC (.str "say")))) (ax (aD .tuple (ae (aa 3) (ae (aD .tuple (ae (fC (.str "made")) (ae (ag ixD (aa 4) (fC (.int 1))) ai))) ai)))) aK) (fIf (aH (ag eqD (ag ixD (aa 0) (fC (.int 0))) (fC (.str "when")))) (aQ 0 (ag ixD (aa 0) (ag aU (fC (.int 2)) (fCB intD (ae (ag inD (iL (ag ixD (aa 4) (fC (.int 1)))) (aD .list (ae (fC (.str "0")) (ae (fC (.str "''")) (ae (fC (.str "()")) ai))))) ai))))) (fIf (bH (aV (ar eX (ae (ag ixD (aa 4) (fC (.int 1))) ai)))) (ax (aD .tuple (ae (aa 3) (ae (aD .tuple (ae (fC (.str "fails")) (ae (fC (.str "name")) ai))) ai)))) (fIf (aH (ag dS (ag ixD (aa 4) (fC (.int 1))) (aa 1))) (ax (aD .tuple (ae (aa 3) (ae (aD .tuple (ae (fC (.str "wants")) (ae (ag ixD (aa 4) (fC (.int 1))) ai))) ai)))) (aq (cX 2 (ag ixA (aa 1) (ag ixD (aa 4) (fC (.int 1))))) (aq (fIf (aH (ag eqD (ag ixD (aa 0) (fC (.int 0))) (fC (.str "want")))) (cX 3 (aD .tuple (ae (ag ixD (aa 4) (fC (.int 1))) (ae (ag ixA (aa 1) (ag ixD (aa 4) (fC (.int 1)))) ai)))) aK) (aQ 0 (ag ixD (aa 0) (fC (.int 2))))))))))))
def nH:FS:=(ax (aD .tuple (ae (aa 3) (ae (aD .tuple (ae (fC (.str "fails")) (ae (ag ixD (aa 0) (fC (.int 1))) ai))) ai))))
theorem yg:fm=aW 5 (aq (dI 2 ai) (aq (dI 3 ai) (aq (bC dy dz 100000) nH))):=rfl
def ρL (r:PyData) (G:List (PyData×PyData)) (gs rd:List PyData) (o:Option D.W):Rho:=[some (.d r),some (.d (.dict G)),some (.loc (.list gs)),some (.loc (.list rd)),o]
def goL (m:Nat) (r:PyData) (G:List (PyData×PyData)) (gs rd:List PyData) (o:Option D.W) (T:Tp):Option (PyData×Tp):=eK (bnd (bC dy dz m (ρL r G gs rd o) T) (iO nH))
def bZ (w:String) (x:PyData):PyData:=.tuple [.str (Str.ofString w),x]
def cE (b:Bool) (x:Str) (v:PyData):List PyData:=if b then [] else [.tuple [.str x,v]]
def k7 (n:Nat) (r:PyData) (gs:List PyData) (S:PyData):Prop:=∀ (G:List (PyData×PyData)) (m:Nat) (rd:List PyData) (o:Option D.W) (T:Tp),n < m→rd.length < 1000 →
 (∀ v,S=mdT v→goL m r G gs rd o T=some (.tuple [.list rd,bZ "made" v],T)) ∧
 (∀ x,S=flT x→goL m r G gs rd o T=some (.tuple [.list rd,bZ "fails" (.str x)],T)) ∧
 (∀ b x r',S=asT b x r'→(aB G x=none→goL m r G gs rd o T=some (.tuple [.list rd,bZ "wants" (.str x)],T)) ∧
  ∀ v,aB G x=some v→∃ m' o',m≤m' + n∧goL m r G gs rd o T=goL m' r' G (gs++[v]) (rd++cE b x v) o' T)
theorem fD {v:PyData} {x:Str}:mdT v≠flT x:=by simp [mdT,flT]
theorem Ea {v:PyData} (h:aG v=true):∃ b,inG v (.tuple [.int 0,.str "",.tuple []])=some (.bool b)∧inD (.str v.shown) (.list [.str "0",.str "''",.str "()"])=some (.bool b):=by
 have z1:aG (.int 0)=true:=by decide +kernel
 have z2:aG (.str "")=true:=by decide +kernel
 have z3:aG (.tuple [])=true:=by decide +kernel
 have s1:=jD z1 h
 have s2:=jD z2 h
 have s3:=jD z3 h
 have t1:(PyData.int 0).shown=Str.ofString "0":=by decide +kernel
 have t2:(PyData.str "").shown=Str.ofString "''":=by decide +kernel
 have t3:(PyData.tuple []).shown=Str.ofString "()":=by decide +kernel
 rw [t1] at s1
 rw [t2] at s2
 rw [t3] at s3
 have h2:([PyData.int 0,.str "",.tuple []]).all SeqAt.shaped=true:=by
  simp [g7 z1,g7 z2,g7 z3]
 have e:inG v (.tuple [.int 0,.str "",.tuple []])=some (.bool ([PyData.int 0,.str "",.tuple []].any fun y=>PyData.eqv y v)):=if_pos ⟨g7 h,h2⟩
 refine ⟨_,e,?_⟩
 have a:([PyData.int 0,.str "",.tuple []].any fun y=>PyData.eqv y v)=(decide (Str.ofString "0" = v.shown) || (decide (Str.ofString "''" = v.shown) || decide (Str.ofString "()" = v.shown))):=by
  simp only [List.any_cons,List.any_nil,Bool.or_false]
  rw [j6 z1 h,j6 z2 h,j6 z3 h,s1,s2,s3]
 rw [a]
 have q:∀ a b:Str,(a == b)=decide (a=b):=fun a b=>by first | rfl | (rw [Bool.eq_iff_iff]; simp)
 simp [inD,inS,cL,eqF,q]
theorem zx {m:Nat} {x:Str} {G:List (PyData×PyData)} {gs rd:List PyData} {o:Option D.W} {T:Tp}:goL (m + 1) (.tuple [.str "fail",.str x]) G gs rd o T=some (.tuple [.list rd,bZ "fails" (.str x)],T):=by simp [goL,ρL,bC,dy,nH,bZ]
theorem whl {c:FT} {b:FS} {m:Nat} {ρ:Rho} {T:Tp} (h:c ρ T=some (true,T)):bC c b (m + 1) ρ T=bnd (b ρ T) fun p T2=>match p with
   | (.nx,ρ1)=>bC c b m ρ1 T2
   | (.ct,ρ1)=>bC c b m ρ1 T2
   | (.bk,ρ1)=>some ((.nx,ρ1),T2)
   | (.rt x,ρ1)=>some ((.rt x,ρ1),T2)
   | (.ro x,ρ1)=>some ((.ro x,ρ1),T2):=by
 show bnd (c ρ T) _=_
 rw [h]
 rfl
theorem A8 {c:FT} {b:FS} {m:Nat} {ρ ρ':Rho} {T:Tp} {x:PyData} (h:c ρ T=some (true,T)) (hb:b ρ T=some ((.rt x,ρ'),T)):bC c b (m + 1) ρ T=some ((.rt x,ρ'),T):=by rw [whl h,hb]; rfl
theorem ka {c:FT} {b:FS} {m:Nat} {ρ ρ':Rho} {T:Tp} (h:c ρ T=some (true,T)) (hb:b ρ T=some ((.nx,ρ'),T)):bC c b (m + 1) ρ T=bC c b m ρ' T:=by rw [whl h,hb]; rfl
theorem l7 {c:FT} {b:FS} {m:Nat} {ρ:Rho} {T:Tp} (h:c ρ T=some (false,T)):bC c b (m + 1) ρ T=some ((.nx,ρ),T):=by
 show bnd (c ρ T) _=_
 rw [h]
 rfl
theorem iD {m:Nat} {r:PyData} {G:List (PyData×PyData)} {gs rd:List PyData} {o:Option D.W} {T:Tp} {ρ':Rho} {x:PyData} (h:dy (ρL r G gs rd o) T=some (true,T)) (hb:dz (ρL r G gs rd o) T=some ((.rt x,ρ'),T)):goL (m + 1) r G gs rd o T=some (x,T):=by
 unfold goL
 rw [A8 h hb]
 rfl
theorem sC {m:Nat} {r r':PyData} {G:List (PyData×PyData)} {gs rd gs' rd':List PyData} {o o':Option D.W} {T:Tp} (h:dy (ρL r G gs rd o) T=some (true,T)) (hb:dz (ρL r G gs rd o) T=some ((.nx,ρL r' G gs' rd' o'),T)):goL (m + 1) r G gs rd o T=goL m r' G gs' rd' o' T:=by
 unfold goL
 rw [ka h hb]
theorem zk {p:Bool}:∀ (n g:Nat) (r:PyData),Rg p g n r→∀ gs:List PyData,gs.length=g→(∀ v∈gs,aG v=true)→n≤20→∃ S,StepOk p g n S∧(∀ k T,n < k→bR k [.d r,.d (.tuple gs)] T=some (S,T))∧k7 n r gs S:=by
 intro n g r h
 induction h with
 | fail hx=>
  rename_i g n x
  intro gs hl hv hn
  refine ⟨flT x,.fl hx,fun k T hk=>?_,fun G m rd o T hm hr=>⟨fun v e=>absurd e.symm fD,fun y e=>?_,fun b y r' e=>?_⟩⟩
  ·obtain ⟨k,rfl⟩:=bb k (by omega)
   simp [bR,flT]
  ·obtain ⟨m,rfl⟩:=bb m (by omega)
   have:x=y:=by simpa [flT] using e
   subst this
   exact zx
  ·cases b <;> simp [flT,asT] at e
 | say he=>
  rename_i g n e
  intro gs hl hv hn
  have hls:gs.length≤12∨True:=.inr trivial
  obtain ⟨R,t,hL,hP⟩:=lF (lQ gs) hv (by rw [hl]; exact Int.le_refl _) n e he
  have tb:=fun T=>hP 25 T (by omega)
  have tl:∀ T,gK (b4 25) [.d e,.loc (.list gs)] T=some (.d R,T):=fun T=>jI rfl (hL 25 [] (by omega)) (jK t)
  rcases t with ⟨v,rfl,hv'⟩ | ⟨w,hw,rfl⟩
  ·refine ⟨mdT v,.md hv',fun k T hk=>?_,fun G m rd o T hm hr=>⟨fun u e'=>?_,fun y e'=>absurd e' fD,fun b y r' e'=>?_⟩⟩
   ·obtain ⟨k,rfl⟩:=bb k (by omega)
    simp [bR,mdT,tb,vl]
   ·obtain ⟨m,rfl⟩:=bb m (by omega)
    have:v=u:=by simpa [mdT] using e'
    subst this
    exact iD (by simp [dy,ρL]) (by simp [dz,ρL,tl,vl,bZ]; rfl)
   ·cases b <;> simp [mdT,asT] at e'
  ·refine ⟨flT (Str.ofString w),.fl (mv w hw),fun k T hk=>?_,fun G m rd o T hm hr=>⟨fun u e'=>absurd e'.symm fD,fun y e'=>?_,fun b y r' e'=>?_⟩⟩
   ·obtain ⟨k,rfl⟩:=bb k (by omega)
    simp [bR,flT,tb,fl]
   ·obtain ⟨m,rfl⟩:=bb m (by omega)
    have:Str.ofString w=y:=by simpa [flT] using e'
    subst this
    exact iD (by simp [dy,ρL]) (by simp [dz,ρL,tl,fl,bZ]; rfl)
   ·cases b <;> simp [flT,asT] at e'
 | ask hw hg he hr ih=>
  rename_i g n w e r
  intro gs hl hv hn
  obtain ⟨R,t,hL,hP⟩:=lF (lQ gs) hv (by rw [hl]; exact Int.le_refl _) n e he
  have tb:=fun T=>hP 25 T (by omega)
  have tl:∀ T,gK (b4 25) [.d e,.loc (.list gs)] T=some (.d R,T):=fun T=>jI rfl (hL 25 [] (by omega)) (jK t)
  have nw:¬ w = "fail"∧¬ w = "when"∧¬ w = "say":=by rcases hw with rfl | ⟨rfl,_⟩ <;> simp
  obtain ⟨n1,n2,n3⟩:=nw
  have hgl:gs.length < sizeLine:=Nat.lt_of_lt_of_le (by omega:gs.length < 1000) (by decide)
  rcases t with ⟨v,rfl,hv'⟩ | ⟨u,hu,rfl⟩
  ·have ln:=fun T=>zV (d:=v) T (kb hv')
   have ll:=fun T=>AZ (v:=v) T hv'
   cases hi:isName v with
   | false=>
    refine ⟨flT "name",.fl qB,fun k T hk=>?_,fun G m rd o T hm hr=>⟨fun u e'=>absurd e'.symm fD,fun y e'=>?_,fun b y r' e'=>?_⟩⟩
    ·obtain ⟨k,rfl⟩:=bb k (by omega)
     simp [bR,flT,tb,vl,n1,n2,n3,ln,hi]
    ·obtain ⟨m,rfl⟩:=bb m (by omega)
     have:Str.ofString "name" = y:=by simpa [flT] using e'
     subst this
     exact iD (by simp [dy,ρL,n1]) (by simp [dz,ρL,tl,vl,bZ,n2,n3,ll,hi]; rfl)
    ·cases b <;> simp [flT,asT] at e'
   | true=>
    obtain ⟨x,rfl⟩:∃ x,v=.str x:=by cases v <;> first | exact ⟨_,rfl⟩ | cases hi
    obtain ⟨b,hb,hbp⟩:∃ b:Bool,w=(if b then "peek" else "want")∧(b=true→p=true):=by
     rcases hw with rfl | ⟨rfl,hp⟩
     ·exact ⟨false,rfl,fun z=>by cases z⟩
     ·exact ⟨true,rfl,fun _=>hp⟩
    refine ⟨asT b x r,.ask hbp hi hg (Nat.le_succ n) hr,fun k T hk=>?_,fun G m rd o T hm hrd=>⟨fun u e'=>?_,fun y e'=>?_,fun b' y r' e'=>?_⟩⟩
    ·obtain ⟨k,rfl⟩:=bb k (by omega)
     simp [bR,asT,tb,vl,n1,n2,n3,ln,hi,hb]
     cases b <;> simp
    ·cases b <;> simp [mdT,asT] at e'
    ·cases b <;> simp [flT,asT] at e'
    ·obtain ⟨m,rfl⟩:=bb m (by omega)
     have hc:dy (ρL (.tuple [.str (Str.ofString w),e,r]) G gs rd o) T=some (true,T):=by simp [dy,ρL,n1]
     obtain ⟨rfl,rfl,rfl⟩:b=b'∧x=y∧r=r':=by
      cases b <;> cases b' <;> simp [asT] at e' <;> simp [e']
     have hrl:rd.length < sizeLine:=Nat.lt_of_lt_of_le hrd (by decide)
     refine ⟨fun hk=>iD hc (by simp [dz,ρL,tl,vl,bZ,n2,n3,ll,hi,dS,hk]; rfl),fun v hk=>⟨m,some (.d (vl (.str x))),by omega,?_⟩⟩
     refine sC hc ?_
     cases b with
     | true=>
      subst hb
      simp [dz,ρL,tl,vl,n2,n3,ll,hi,dS,ixA,hk,hgl,cE]
     | false=>
      subst hb
      simp [dz,ρL,tl,vl,n2,n3,ll,hi,dS,ixA,hk,hgl,hrl,cE]
  ·refine ⟨flT (Str.ofString u),.fl (mv u hu),fun k T hk=>?_,fun G m rd o T hm hr=>⟨fun u e'=>absurd e'.symm fD,fun y e'=>?_,fun b y r' e'=>?_⟩⟩
   ·obtain ⟨k,rfl⟩:=bb k (by omega)
    simp [bR,flT,tb,fl,n1]
   ·obtain ⟨m,rfl⟩:=bb m (by omega)
    have:Str.ofString u=y:=by simpa [flT] using e'
    subst this
    exact iD (by simp [dy,ρL,n1]) (by simp [dz,ρL,tl,fl,bZ]; rfl)
   ·cases b <;> simp [flT,asT] at e'
 | whn he hr hs ihr ihs=>
  rename_i g n e r s
  intro gs hl hv hn
  obtain ⟨R,t,hL,hP⟩:=lF (lQ gs) hv (by rw [hl]; exact Int.le_refl _) n e he
  have tb:=fun T=>hP 25 T (by omega)
  have tl:∀ T,gK (b4 25) [.d e,.loc (.list gs)] T=some (.d R,T):=fun T=>jI rfl (hL 25 [] (by omega)) (jK t)
  have hc:∀ G rd o T,dy (ρL (.tuple [.str "when",e,r,s]) G gs rd o) T=some (true,T):=fun G rd o T=>by simp [dy,ρL,kT]
  rcases t with ⟨v,rfl,hv'⟩ | ⟨u,hu,rfl⟩
  ·obtain ⟨b,hb,hb2⟩:=Ea hv'
   have gd:=lw hv'
   have key:∀ q,q=(if b=true then s else r)→∀ S,StepOk p g n S→(∀ k T,n < k→bR k [.d q,.d (.tuple gs)] T=some (S,T))→k7 n q gs S→∃ S,StepOk p g (n + 1) S∧(∀ k T,n + 1 < k→bR k [.d (.tuple [.str "when",e,r,s]),.d (.tuple gs)] T=some (S,T))∧k7 (n + 1) (.tuple [.str "when",e,r,s]) gs S:=by
    intro q hq S hS hq2 hq3
    refine ⟨S,hS.up (Nat.le_succ n),fun k T hk=>?_,fun G m rd o T hm hrd=>?_⟩
    ·obtain ⟨k,rfl⟩:=bb k (by omega)
     have:=hq2 k T (by omega)
     cases b <;> (simp at hq; subst hq; simp [bR,tb,vl,hb,kT,kS,ul,uk,this])
    ·obtain ⟨m,rfl⟩:=bb m (by omega)
     have st:goL (m + 1) (.tuple [.str "when",e,r,s]) G gs rd o T=goL m q G gs rd (some (.d (vl v))) T:=by
      refine sC (hc G rd o T) ?_
      cases b <;> (simp at hq; subst hq; simp [dz,ρL,tl,vl,iV gd,hb2,kT,kS,ul,uk,D.intD])
     obtain ⟨a1,a2,a3⟩:=hq3 G m rd (some (.d (vl v))) T (by omega) hrd
     refine ⟨fun u e'=>by rw [st]; exact a1 u e',fun y e'=>by rw [st]; exact a2 y e',fun b' y r' e'=>?_⟩
     obtain ⟨c1,c2⟩:=a3 b' y r' e'
     refine ⟨fun hk=>by rw [st]; exact c1 hk,fun w hk=>?_⟩
     obtain ⟨m',o',l,q'⟩:=c2 w hk
     exact ⟨m',o',by omega,by rw [st]; exact q'⟩
   cases b with
   | true=>
    obtain ⟨S,h1,h2,h3⟩:=ihs gs hl hv (by omega)
    exact key s rfl S h1 h2 h3
   | false=>
    obtain ⟨S,h1,h2,h3⟩:=ihr gs hl hv (by omega)
    exact key r rfl S h1 h2 h3
  ·refine ⟨flT (Str.ofString u),.fl (mv u hu),fun k T hk=>?_,fun G m rd o T hm hr=>⟨fun u e'=>absurd e'.symm fD,fun y e'=>?_,fun b y r' e'=>?_⟩⟩
   ·obtain ⟨k,rfl⟩:=bb k (by omega)
    simp [bR,flT,tb,fl,kT,kS]
   ·obtain ⟨m,rfl⟩:=bb m (by omega)
    have:Str.ofString u=y:=by simpa [flT] using e'
    subst this
    exact iD (hc G rd o T) (by simp [dz,ρL,tl,fl,bZ,kS]; rfl)
   ·cases b <;> simp [flT,asT] at e'
@[simp] theorem F3 {f:FE} {ρ:Rho} {T:Tp}:gP f ρ T=kJ T (f (cK ρ) []):=rfl
@[simp] theorem EB:cK []=[]:=rfl
@[simp] theorem Ey {r:Rho}:cK (none::r)=none::cK r:=rfl
@[simp] theorem EA {x:PyData} {r:Rho}:cK (some (.d x)::r)=some (.d x)::cK r:=rfl
@[simp] theorem Ez {x:PyData} {r:Rho}:cK (some (.loc x)::r)=some (.d x)::cK r:=rfl
@[simp] theorem Ew {i:Nat} {r:Rho}:cK (some (.tp i)::r)=none::cK r:=rfl
theorem jO {T T':Tp} {x:PyData} (h:aZ x=true):kJ T (some (.d x,T'))=some (.d x,T):=if_pos h
theorem mJ {m:Int} {n:Nat} {e:PyData} (h:Ex m n e):aZ e=true:=by
 induction h with
 | put hv=>simp [aZ,br,ia hv]
 | got _ _=>simp [aZ,br]
 | row _ _ ih=>simp [aZ,br,iT ih]
 | many _ ih=>simp [aZ,br,ih]
 | pair _ _ _ iha ihb=>simp [aZ,br,iha,ihb]
theorem Bc {p:Bool} {g n:Nat} {r:PyData} (h:Rg p g n r):aZ r=true:=by
 induction h with
 | fail _=>simp [aZ,br]
 | say he=>simp [aZ,br,mJ he]
 | ask _ _ he _ ih=>simp [aZ,br,mJ he,ih]
 | whn he _ _ ih1 ih2=>simp [aZ,br,mJ he,ih1,ih2]
theorem yN {p:Bool} {g n:Nat} {S:PyData} (h:StepOk p g n S):aZ S=true:=by
 cases h with
 | md hv=>simp [mdT,aZ,br,ia hv]
 | fl _=>simp [flT,aZ,br]
 | ask _ _ _ _ hr=>simp [asT,aZ,br,Bc hr]
def stp (r:PyData) (gs:List PyData):PyData:=match bR 25 [.d r,.d (.tuple gs)] [] with
 | some (S,_)=>S
 | none=>.none
theorem iw {p:Bool} {n g:Nat} {r:PyData} {gs:List PyData} (h:Rg p g n r) (hl:gs.length=g) (hv:∀ v∈gs,aG v=true) (hn:n≤20) :
  StepOk p g n (stp r gs)∧(∀ k T,n < k→bR k [.d r,.d (.tuple gs)] T=some (stp r gs,T))∧k7 n r gs (stp r gs):=by
 obtain ⟨S,h1,h2,h3⟩:=zk n g r h gs hl hv hn
 have e:stp r gs=S:=by
  unfold stp
  rw [h2 25 [] (by omega)]
 rw [e]
 exact ⟨h1,h2,h3⟩
def eO:PyData→Option (Bool×Str×PyData)
 | .tuple [.str w,.str x,r]=>if w=Str.ofString "want" then some (false,x,r) else if w=Str.ofString "peek" then some (true,x,r) else none
 | _=>none
@[simp] theorem sW {b:Bool} {x:Str} {r:PyData}:eO (asT b x r)=some (b,x,r):=by cases b <;> simp [asT,eO]
@[simp] theorem HN {v:PyData}:eO (mdT v)=none:=by simp [mdT,eO]
@[simp] theorem HP {x:Str}:eO (flT x)=none:=by simp [flT,eO]
structure St3 where
 gs:List PyData
 rd:List PyData
 S:PyData
abbrev Dc:=List (PyData×PyData)
def gR:Nat→Dc→St3→St3
 | 0,_,s=>s
 | f + 1,G,s=>match eO s.S with
  | none=>s
  | some (b,x,r)=>match aB G x with
   | none=>s
   | some v=>gR f G ⟨s.gs++[v],s.rd++cE b x v,stp r (s.gs++[v])⟩
def run (G:Dc) (s:St3):St3:=gR (12 - s.gs.length) G s
structure OkS (p:Bool) (n:Nat) (s:St3):Prop where
 v:∀ v∈s.gs,aG v=true
 st:StepOk p s.gs.length n s.S
 rd:s.rd.length≤s.gs.length
 rv:∀ d∈s.rd,∃ x v,d=.tuple [.str x,v]∧aG v=true
 le:s.gs.length≤12
def GV (G:Dc):Prop:=∀ x v,aB G x=some v→aG v=true
theorem jX {G:Dc} {s:St3} (h:eO s.S=none):run G s=s:=by
 unfold run
 cases 12 - s.gs.length with
 | zero=>rfl
 | succ f=>rw [gR,h]
theorem lX {G:Dc} {s:St3} {b:Bool} {x:Str} {r:PyData} (h:s.S=asT b x r) (hk:aB G x=none):run G s=s:=by
 unfold run
 cases 12 - s.gs.length with
 | zero=>rfl
 | succ f=>rw [gR,h,sW]; simp only [hk]
theorem fu {G:Dc} {s:St3} {b:Bool} {x:Str} {r v:PyData} (h:s.S=asT b x r) (hl:s.gs.length < 12) (hk:aB G x=some v):run G s=run G ⟨s.gs++[v],s.rd++cE b x v,stp r (s.gs++[v])⟩:=by
 have e:12 - s.gs.length=(12 - (s.gs++[v]).length) + 1:=by simp; omega
 show gR (12 - s.gs.length) G s=_
 rw [e,gR,h,sW]
 simp only [hk]
 rfl
theorem OkS.next {p:Bool} {n:Nat} {s:St3} {b:Bool} {x:Str} {r v:PyData} (h:OkS p n s) (e:s.S=asT b x r) (hn:n≤20) (hv:aG v=true):s.gs.length < 12∧OkS p n ⟨s.gs++[v],s.rd++cE b x v,stp r (s.gs++[v])⟩:=by
 have st:=h.st
 rw [e] at st
 generalize hS:asT b x r=S at st
 cases st with
 | md _=>cases b <;> simp [asT,mdT] at hS
 | fl _=>cases b <;> simp [asT,flT] at hS
 | @ask b' x' r' n' hp hx hg hn' hr=>
  obtain ⟨rfl,rfl,rfl⟩:b=b'∧x=x'∧r=r':=by
   cases b <;> cases b' <;> simp [asT] at hS <;> simp [hS]
  have hv':∀ u∈s.gs++[v],aG u=true:=fun u hu=>(List.mem_append.mp hu).elim (h.v u) fun z=>by rw [List.mem_singleton.mp z]; exact hv
  obtain ⟨a1,_,_⟩:=iw hr (by simp) hv' (by omega:n'≤20)
  refine ⟨hg,hv',by have:=a1.up hn'; simpa using this,?_,fun d hd=>?_,by simp; omega⟩
  ·have:=h.rd
   cases b <;> simp [cE] <;> omega
  ·rcases List.mem_append.mp hd with z | z
   ·exact h.rv d z
   ·cases b with
    | true=>simp [cE] at z
    | false=>simp [cE] at z; exact ⟨x,v,z,hv⟩
def ny (G:Dc) (S:PyData):Prop:=eO S=none∨∃ b x r,S=asT b x r∧aB G x=none
theorem en {p:Bool} {g n:Nat} {S:PyData} (h:StepOk p g n S):(∃ v,S=mdT v∧aG v=true)∨(∃ x,S=flT x∧isName (.str x)=true)∨∃ b x r,S=asT b x r∧isName (.str x)=true:=by
 cases h with
 | md hv=>exact .inl ⟨_,rfl,hv⟩
 | fl hx=>exact .inr (.inl ⟨_,rfl,hx⟩)
 | ask _ hx _ _ _=>exact .inr (.inr ⟨_,_,_,rfl,hx⟩)
theorem gA {p:Bool} {n:Nat} {G:Dc} (hG:GV G) (hn:n≤20) (Q:St3→St3→Prop) (h0:∀ s,OkS p n s→ny G s.S→Q s s) (h1:∀ s b x r v,OkS p n s→s.S=asT b x r→aB G x=some v→s.gs.length < 12→OkS p n ⟨s.gs++[v],s.rd++cE b x v,stp r (s.gs++[v])⟩ →
  Q ⟨s.gs++[v],s.rd++cE b x v,stp r (s.gs++[v])⟩ (run G ⟨s.gs++[v],s.rd++cE b x v,stp r (s.gs++[v])⟩)→Q s (run G s)):∀ (f:Nat) (s:St3),OkS p n s→12 - s.gs.length=f→Q s (run G s)
 | f,s,h,hf=>by
  rcases en h.st with ⟨v,e,_⟩ | ⟨x,e,_⟩ | ⟨b,x,r,e,_⟩
  ·rw [jX (by rw [e]; simp)]
   exact h0 s h (.inl (by rw [e]; simp))
  ·rw [jX (by rw [e]; simp)]
   exact h0 s h (.inl (by rw [e]; simp))
  ·cases hk:aB G x with
   | none=>
    rw [lX e hk]
    exact h0 s h (.inr ⟨b,x,r,e,hk⟩)
   | some v=>
    obtain ⟨hl,h'⟩:=h.next e hn (hG x v hk)
    exact h1 s b x r v h e hk hl h' (gA hG hn Q h0 h1 (f - 1) _ h' (by simp; omega))
termination_by f=>f
decreasing_by omega
theorem iy {p:Bool} {n:Nat} {G:Dc} {s:St3} (hG:GV G) (hn:n≤20) (h:OkS p n s):OkS p n (run G s)∧ny G (run G s).S:=gA hG hn (fun _ s'=>OkS p n s'∧ny G s'.S) (fun s h e=>⟨h,e⟩) (fun s b x r v _ e hk hl _ q=>by rw [fu e hl hk]; exact q) _ s h rfl
def cm (s:St3):PyData:=.tuple [.tuple s.gs,.tuple s.rd,s.S]
theorem Bd {p:Bool} {n:Nat} {s:St3} (h:OkS p n s):aZ (cm s)=true:=by
 have h1:br s.gs=true:=iT fun d hd=>ia (h.v d hd)
 have h2:br s.rd=true:=iT fun d hd=>by
  obtain ⟨x,v,rfl,hv⟩:=h.rv d hd
  simp [aZ,br,ia hv]
 simp [cm,aZ,br,h1,h2,yN h.st]
theorem l6 {gs rd:List PyData} {b:Bool} {x:Str} {r:PyData} (T:Tp):cO [.d (cm ⟨gs,rd,asT b x r⟩)] T=some (.str x,T):=by cases b <;> simp [cO,cm,asT,inD,inS,cL,eqF]
theorem zR {gs rd:List PyData} {v:PyData} (T:Tp):cO [.d (cm ⟨gs,rd,mdT v⟩)] T=some (.none,T):=by simp [cO,cm,mdT,inD,inS,cL,eqF]
theorem zS {gs rd:List PyData} {x:Str} (T:Tp):cO [.d (cm ⟨gs,rd,flT x⟩)] T=some (.none,T):=by simp [cO,cm,flT,inD,inS,cL,eqF]
theorem A6 {p:Bool} {n:Nat} {s:St3} {b:Bool} {x:Str} {r v:PyData} (T:Tp) (h:OkS p n s) (e:s.S=asT b x r) (hn:n≤20) (hv:aG v=true) :
  fW [.d (cm s),.d v] T=some (cm ⟨s.gs++[v],s.rd++cE b x v,stp r (s.gs++[v])⟩,T):=by
 have st:=h.st
 rw [e] at st
 generalize hS:asT b x r=S at st
 cases st with
 | md _=>cases b <;> simp [asT,mdT] at hS
 | fl _=>cases b <;> simp [asT,flT] at hS
 | @ask b' x' r' n' hp hx hg hn' hr=>
  obtain ⟨rfl,rfl,rfl⟩:b=b'∧x=x'∧r=r':=by
   cases b <;> cases b' <;> simp [asT] at hS <;> simp [hS]
  have hv':∀ u∈s.gs++[v],aG u=true:=fun u hu=>(List.mem_append.mp hu).elim (h.v u) fun z=>by rw [List.mem_singleton.mp z]; exact hv
  obtain ⟨_,a2,_⟩:=iw hr (by simp) hv' (by omega:n'≤20)
  have st:=a2 25 T (by omega)
  have l1:s.gs.length + 1≤sizeLine:=dQ (by omega)
  have l2:s.rd.length + 1≤sizeLine:=dQ (by have:=h.rd; omega)
  obtain ⟨gs,rd,S0⟩:=s
  subst e
  cases b with
  | true=>simp [fW,cm,asT,l1,st,cE]
  | false=>simp [fW,cm,asT,l1,l2,st,cE]
def goC:FT:=(aH (ag inA (ar cO (ae (aa 0) ai)) (aa 1)))
def goB:FS:=(aQ 0 (ar fW (ae (aa 0) (ae (ag ixA (aa 1) (ar cO (ae (aa 0) ai))) ai))))
theorem AG:gu=aW 2 (aq (bC goC goB 100000) (ax (aa 0))):=rfl
theorem yu {p:Bool} {n:Nat} {G:Dc} (hG:GV G) (hn:n≤20) (T:Tp) (s:St3) (h:OkS p n s):∀ m,12 - s.gs.length < m→bC goC goB m [some (.d (cm s)),some (.d (.dict G))] T=some ((.nx,[some (.d (cm (run G s))),some (.d (.dict G))]),T):=by
 refine gA hG hn (fun s s'=>∀ m,12 - s.gs.length < m→bC goC goB m [some (.d (cm s)),some (.d (.dict G))] T=some ((.nx,[some (.d (cm s')),some (.d (.dict G))]),T)) (fun s h e m hm=>?_) (fun s b x r v h e hk hl h' q m hm=>?_) _ s h rfl
 ·obtain ⟨m,rfl⟩:=bb m (by omega)
  refine l7 ?_
  obtain ⟨gs,rd,S⟩:=s
  rcases en h.st with ⟨v,e1,_⟩ | ⟨x,e1,_⟩ | ⟨b,x,r,e1,_⟩
  ·have e1:S=mdT v:=e1
   subst e1
   simp [goC,zR,inA,inB,inK]
  ·have e1:S=flT x:=e1
   subst e1
   simp [goC,zS,inA,inB,inK]
  ·have e1:S=asT b x r:=e1
   subst e1
   rcases e with e | ⟨b',x',r',e2,hk⟩
   ·simp at e
   ·have:x=x':=by
     have e2:asT b x r=asT b' x' r':=e2
     cases b <;> cases b' <;> simp [asT] at e2 <;> simp [e2]
    subst this
    simp [goC,l6,inA,inB,inK,hk]
 ·obtain ⟨m,rfl⟩:=bb m (by omega)
  have gv:=A6 T h e hn (hG x v hk)
  rw [fu e hl hk]
  have hc:goC [some (.d (cm s)),some (.d (.dict G))] T=some (true,T):=by
   obtain ⟨gs,rd,S⟩:=s
   have e1:S=asT b x r:=e
   subst e1
   simp [goC,l6,inA,inB,inK,hk]
  have hb:goB [some (.d (cm s)),some (.d (.dict G))] T=some ((.nx,[some (.d (cm ⟨s.gs++[v],s.rd++cE b x v,stp r (s.gs++[v])⟩)),some (.d (.dict G))]),T):=by
   have aw:cO [.d (cm s)] T=some (.str x,T):=by
    obtain ⟨gs,rd,S⟩:=s
    have e1:S=asT b x r:=e
    subst e1
    exact l6 T
   simp [goB,aw,ixA,hk,gv]
  rw [ka hc hb]
  exact q m (by simp; omega)
theorem Cr {p:Bool} {n:Nat} {G:Dc} {s:St3} (T:Tp) (hG:GV G) (hn:n≤20) (h:OkS p n s):gu [.d (cm s),.d (.dict G)] T=some (cm (run G s),T):=by
 rw [AG]
 have:=yu hG hn T s h 100000 (by omega)
 simp [this]
def s0 (r:PyData):St3:=⟨[],[],stp r []⟩
theorem dr {p:Bool} {n:Nat} {r:PyData} (h:Rg p 0 n r) (hn:n≤20):OkS p n (s0 r):=by
 obtain ⟨a1,_,_⟩:=iw (gs:=[]) h rfl (by simp) hn
 exact ⟨by simp [s0],a1,by simp [s0],by simp [s0],by simp [s0]⟩
theorem AX {p:Bool} {n:Nat} {r:PyData} (T:Tp) (h:Rg p 0 n r) (hn:n≤20):gq [.d r] T=some (cm (s0 r),T):=by
 obtain ⟨_,a2,_⟩:=iw (gs:=[]) h rfl (by simp) hn
 simp [gq,a2 25 T (by omega),cm,s0]
def gX:PyData→PyData
 | .tuple [.str w,v]=>.tuple [.str w,v]
 | .tuple [_,.str x,_]=>bZ "wants" (.str x)
 | _=>.none
@[simp] theorem qR {v:PyData}:gX (mdT v)=mdT v:=rfl
@[simp] theorem qS {x:Str}:gX (flT x)=flT x:=rfl
@[simp] theorem qT {b:Bool} {x:Str} {r:PyData}:gX (asT b x r)=bZ "wants" (.str x):=rfl
def AtL (p:Bool) (n:Nat) (s:St3) (r:PyData):Prop:=∃ n',n'≤n∧Rg p s.gs.length n' r∧s.S=stp r s.gs
theorem zm {p:Bool} {n:Nat} {G:Dc} (hG:GV G) (hn:n≤20) (T:Tp) (s:St3) (h:OkS p n s):∀ r m o,AtL p n s r→(13 - s.gs.length) * 21 < m→goL m r G s.gs s.rd o T=some (.tuple [.list (run G s).rd,gX (run G s).S],T):=by
 refine gA hG hn (fun s s'=>∀ r m o,AtL p n s r→(13 - s.gs.length) * 21 < m→goL m r G s.gs s.rd o T=some (.tuple [.list s'.rd,gX s'.S],T)) (fun s h e r m o a hm=>?_) (fun s b x r0 v h e hk hl h' q r m o a hm=>?_) _ s h rfl
 ·obtain ⟨n',hn',hr,hs⟩:=a
  obtain ⟨_,_,a3⟩:=iw hr rfl h.v (by omega)
  obtain ⟨c1,c2,c3⟩:=a3 G m s.rd o T (by have:=h.le; omega) (by have:=h.rd; have:=h.le; omega)
  rw [← hs] at c1 c2 c3
  rcases en h.st with ⟨v,e1,_⟩ | ⟨x,e1,_⟩ | ⟨b,x,r,e1,_⟩
  ·rw [c1 v e1,e1]; rfl
  ·rw [c2 x e1,e1]; rfl
  ·rcases e with e | ⟨b',x',r',e2,hk⟩
   ·rw [e1] at e; simp at e
   ·rw [(c3 b' x' r' e2).1 hk,e2]; simp
 ·obtain ⟨n',hn',hr,hs⟩:=a
  obtain ⟨a1,_,a3⟩:=iw hr rfl h.v (by omega)
  obtain ⟨_,_,c3⟩:=a3 G m s.rd o T (by omega) (by have:=h.rd; omega)
  rw [← hs] at c3 a1
  obtain ⟨m',o',l,go⟩:=(c3 b x r0 e).2 v hk
  rw [go,fu e hl hk]
  rw [e] at a1
  generalize hS:asT b x r0=S at a1
  cases a1 with
  | md _=>cases b <;> simp [asT,mdT] at hS
  | fl _=>cases b <;> simp [asT,flT] at hS
  | @ask b' x' r' n2 hp hx hg hn2 hr2=>
   obtain ⟨rfl,rfl,rfl⟩:b=b'∧x=x'∧r0=r':=by
    cases b <;> cases b' <;> simp [asT] at hS <;> simp [hS]
   refine q r0 m' o' ⟨n2,by omega,by simpa using hr2,rfl⟩ ?_
   simp
   omega
theorem sZ {p:Bool} {n:Nat} {G:Dc} {r:PyData} (T:Tp) (hG:GV G) (hn:n≤20) (h:Rg p 0 n r):fm [.d r,.d (.dict G)] T=some (.tuple [.list (run G (s0 r)).rd,gX (run G (s0 r)).S],T):=by
 have:=zm hG hn T (s0 r) (dr h hn) r 100000 none ⟨n,Nat.le_refl _,h,rfl⟩ (by simp [s0])
 rw [← this,yg]
 simp [goL,ρL,s0]
theorem ym {ds:Dc} {x y:Str} {v:PyData}:aB (ds++[(.str x,v)]) y=match aB ds y with
  | some u=>some u
  | none=>if x=y then some v else none:=by
 induction ds with
 | nil=>rfl
 | cons q r ih=>
  obtain ⟨k,d⟩:=q
  cases k with
  | str k=>
   show (if k=y then some d else aB (r++[(.str x,v)]) y)=_
   by_cases h:k=y
   ·rw [if_pos h]
    have:aB ((PyData.str k,d)::r) y=some d:=if_pos h
    rw [this]
   ·rw [if_neg h,ih]
    have:aB ((PyData.str k,d)::r) y=aB r y:=if_neg h
    rw [this]
  | _=>exact ih
theorem yl {ds:Dc} {x y:Str} {v:PyData}:aB (bK ds x v) y=if x=y then (aB ds x).map (fun _=>v) else aB ds y:=by
 induction ds with
 | nil=>by_cases h:x=y <;> simp [bK,aB,h]
 | cons q r ih=>
  obtain ⟨k,d⟩:=q
  cases k with
  | str k=>
   by_cases hk:k=x
   ·subst hk
    have e1:bK ((PyData.str k,d)::r) k v=(.str k,v)::bK r k v:=if_pos rfl
    rw [e1]
    by_cases h:k=y
    ·subst h
     simp [aB]
    ·simp [aB,h,ih]
   ·have e1:bK ((PyData.str k,d)::r) x v=(.str k,d)::bK r x v:=if_neg hk
    rw [e1]
    by_cases h:x=y
    ·subst h
     simp [aB,hk,ih]
    ·simp [aB,h] at ih ⊢
     rw [ih]
  | _=>exact ih
theorem wZ {ds:Dc} {x:Str} {v:PyData}:(bK ds x v).length=ds.length:=by
 induction ds with
 | nil=>rfl
 | cons q r ih=>
  obtain ⟨k,d⟩:=q
  cases k with
  | str k=>
   by_cases hk:k=x
   ·have e1:bK ((PyData.str k,d)::r) x v=(.str k,v)::bK r x v:=if_pos hk
    rw [e1,List.length_cons,List.length_cons,ih]
   ·have e1:bK ((PyData.str k,d)::r) x v=(.str k,d)::bK r x v:=if_neg hk
    rw [e1,List.length_cons,List.length_cons,ih]
  | _=>exact congrArg (· + 1) ih
theorem fq {ds:Dc} {x y:Str} {v:PyData}:aB (putN ds x v) y=if x=y then some v else aB ds y:=by
 unfold putN
 cases h:aB ds x with
 | some u=>
  rw [if_pos (by rfl),yl,h]
  rfl
 | none=>
  rw [if_neg (by simp),ym]
  by_cases hx:x=y
  ·subst hx; rw [h,if_pos rfl]
  ·rw [if_neg hx,if_neg hx]
   cases aB ds y <;> rfl
def Sub (G G':Dc):Prop:=∀ x v,aB G x=some v→aB G' x=some v
theorem Sub.refl (G:Dc):Sub G G:=fun _ _ h=>h
theorem Sub.trans {A B C:Dc} (h:Sub A B) (g:Sub B C):Sub A C:=fun x v q=>g x v (h x v q)
theorem Sub.new {G:Dc} {x:Str} {v:PyData} (h:aB G x=none):Sub G (putN G x v):=fun y u q=>by
 rw [fq]
 by_cases e:x=y
 ·subst e; rw [h] at q; cases q
 ·rw [if_neg e]; exact q
theorem pS {p:Bool} {n:Nat} {G G':Dc} {s:St3} (hs:Sub G G') (hG:GV G) (hn:n≤20) (h:OkS p n s):run G' (run G s)=run G' s:=
 gA hG hn (fun s s'=>run G' s'=run G' s) (fun _ _ _=>rfl) (fun s b x r v _ e hk hl _ q=>by
  rw [fu e hl hk,q,fu e hl (hs x v hk)]) _ s h rfl
theorem pT {G':Dc} {s:St3} {v:PyData} (h:s.S=mdT v):run G' s=s:=jX (by rw [h]; simp)
theorem jE {p:Bool} {n:Nat} {G G':Dc} {s:St3} (hs:∀ x,aB G x=aB G' x) (hG:GV G) (hn:n≤20) (h:OkS p n s):run G s=run G' s:=
 gA hG hn (fun s s'=>s'=run G' s) (fun s h e=>by
  rcases e with e | ⟨b,x,r,e,hk⟩
  ·exact (jX e).symm
  ·rw [hs] at hk; exact (lX e hk).symm) (fun s b x r v _ e hk hl _ q=>by
  rw [fu e hl hk,q,← fu e hl (by rw [← hs]; exact hk)]) _ s h rfl
structure Bk (p:Bool) (n:Nat) (D0 R0:Dc):Prop where
 dk:∀ q∈D0,∃ x v,q=(.str x,v)∧aG v=true
 rk:∀ q∈R0,∃ x r,q=(.str x,r)∧Rg p 0 n r∧aB R0 x=some r∧aB D0 x=none
 rnd:(R0.map (·.1)).Nodup
 len:D0.length + R0.length≤900
 n20:n≤20
inductive Der (D0 R0:Dc):Str→PyData→Prop where
 | told {x:Str} {v:PyData}:aB D0 x=some v→Der D0 R0 x v
 | made {x:Str} {v r:PyData} {G:Dc}:aB R0 x=some r→GV G→(∀ y u,aB G y=some u→Der D0 R0 y u)→(run G (s0 r)).S=mdT v→Der D0 R0 x v
theorem gw {ds:Dc} {x:Str} {v:PyData} (h:aB ds x=some v):(.str x,v)∈ds:=by
 induction ds with
 | nil=>cases h
 | cons q r ih=>
  obtain ⟨k,d⟩:=q
  cases k with
  | str k=>
   by_cases hk:k=x
   ·have e:aB ((PyData.str k,d)::r) x=some d:=if_pos hk
    rw [e] at h
    cases h
    rw [hk]
    exact List.mem_cons_self
   ·have e:aB ((PyData.str k,d)::r) x=aB r x:=if_neg hk
    rw [e] at h
    exact List.mem_cons_of_mem _ (ih h)
  | _=>exact List.mem_cons_of_mem _ (ih h)
section
variable {p:Bool} {n:Nat} {D0 R0:Dc}
theorem Bk.rg (b:Bk p n D0 R0) {x:Str} {r:PyData} (h:aB R0 x=some r):Rg p 0 n r∧aB D0 x=none:=by
 obtain ⟨x',r',e,h1,h2,h3⟩:=b.rk _ (gw h)
 cases e
 exact ⟨h1,h3⟩
theorem Bk.gv (b:Bk p n D0 R0):GV D0:=fun x v h=>by
 obtain ⟨x',v',e,h1⟩:=b.dk _ (gw h)
 cases e
 exact h1
theorem Der.val (b:Bk p n D0 R0) {x:Str} {v:PyData} (h:Der D0 R0 x v):aG v=true:=by
 cases h with
 | told h=>exact b.gv _ _ h
 | made hr hG _ e=>
  obtain ⟨h1,_⟩:=iy hG b.n20 (dr (b.rg hr).1 b.n20)
  rcases en h1.st with ⟨v',e1,hv⟩ | ⟨x,e1,_⟩ | ⟨b,x,r,e1,_⟩
  ·rw [e1] at e
   have:v'=v:=by simpa [mdT] using e
   rw [← this]; exact hv
  ·rw [e1] at e; exact absurd e.symm fD
  ·rw [e1] at e; cases b <;> simp [asT,mdT] at e
def Snd (D0 R0 G:Dc):Prop:=∀ x v,aB G x=some v→Der D0 R0 x v
def ClsAt (R0 G:Dc) (x:Str):Prop:=∀ r v,aB R0 x=some r→(run G (s0 r)).S=mdT v→aB G x=some v
theorem Snd.gv (b:Bk p n D0 R0) {G:Dc} (h:Snd D0 R0 G):GV G:=fun x v q=>(h x v q).val b
theorem sL (b:Bk p n D0 R0) {G:Dc} (hd:Sub D0 G) (hs:Snd D0 R0 G) (hc:∀ x,ClsAt R0 G x) {x:Str} {v:PyData} (h:Der D0 R0 x v):aB G x=some v:=by
 induction h with
 | told h=>exact hd _ _ h
 | made hr hG hall e ih=>
  rename_i x v r G1
  refine hc x r v hr ?_
  have hsub:Sub G1 G:=fun y u q=>ih y u q
  have h1:=pS hsub hG b.n20 (dr (b.rg hr).1 b.n20)
  rw [pT e] at h1
  rw [← h1]
  exact e
theorem yt (b:Bk p n D0 R0) {G G':Dc} (hd:Sub D0 G) (hs:Snd D0 R0 G) (hc:∀ x,ClsAt R0 G x) (hd':Sub D0 G') (hs':Snd D0 R0 G') (hc':∀ x,ClsAt R0 G' x) (x:Str):aB G x=aB G' x:=by
 cases h:aB G x with
 | some v=>exact (sL b hd' hs' hc' (hs x v h)).symm
 | none=>
  cases h':aB G' x with
  | none=>rfl
  | some v=>rw [sL b hd hs hc (hs' x v h')] at h; cases h
def mu (R0 G:Dc):Nat:=R0.countP fun q=>match q.1 with
 | .str x=>(aB G x).isNone
 | _=>false
theorem countP_le {α:Type} {f g:α→Bool}:∀ {l:List α},(∀ a∈l,g a=true→f a=true)→l.countP g≤l.countP f
 | [],_=>Nat.le_refl _
 | a::r,h=>by
  have ih:=countP_le (l:=r) fun x hx=>h x (List.mem_cons_of_mem _ hx)
  rw [List.countP_cons,List.countP_cons]
  have h1:=h a List.mem_cons_self
  cases hg:g a with
  | true=>rw [h1 hg]; simp; exact ih
  | false=>simp; omega
theorem pq {α:Type} {f g:α→Bool} {a:α}:∀ {l:List α},(∀ a∈l,g a=true→f a=true)→a∈l→f a=true→g a=false→l.countP g < l.countP f
 | [],_,h,_,_=>by cases h
 | b::r,h,hm,hf,hg=>by
  have hr:∀ x∈r,g x=true→f x=true:=fun x hx=>h x (List.mem_cons_of_mem _ hx)
  rw [List.countP_cons,List.countP_cons]
  rcases List.mem_cons.mp hm with e | e
  ·subst e
   have:=countP_le hr
   rw [hf,hg]
   simp
   omega
  ·have ih:=pq hr e hf hg
   have h1:=h b List.mem_cons_self
   cases hb:g b with
   | true=>rw [h1 hb]; simp; exact ih
   | false=>simp; omega
theorem kH {G G':Dc} (h:Sub G G'):mu R0 G'≤mu R0 G:=countP_le fun q _ hq=>by
 split at hq
 ·rename_i x e
  cases hk:aB G x with
  | none=>rfl
  | some v=>rw [h x v hk] at hq; cases hq
 ·cases hq
theorem tK {G:Dc} {x:Str} {r v:PyData} (hr:aB R0 x=some r) (h:aB G x=none):mu R0 (putN G x v) + 1≤mu R0 G:=by
 have hs:=Sub.new (v:=v) h
 refine pq (a:=(.str x,r)) (fun q _ hq=>?_) (gw hr) (by simp [h]) (by simp [fq])
 split at hq
 ·rename_i x e
  cases hk:aB G x with
  | none=>rfl
  | some v=>rw [hs x v hk] at hq; cases hq
 ·cases hq
theorem jM {G:Dc} {x:Str} {v:PyData} (h:aB G x=none):(putN G x v).length=G.length + 1:=by
 unfold putN
 rw [h,if_neg (by simp)]
 simp
end
def gdI:FS:=(fIf (aH (ag dS (aa 3) (aa 1))) (aq (aQ 4 (gP (ag ixD (ar fm (ae (ag ixA (ag ixD (aa 0) (fC (.int 1))) (aa 3)) (ae (aa 1) ai))) (fC (.int 1))))) (fIf (aH (ag eqD (ag ixD (aa 4) (fC (.int 0))) (fC (.str "made")))) (aq (cT 1 (aa 3) (ag ixD (aa 4) (fC (.int 1)))) (aQ 2 (fC (.bool true)))) aK)) aK)
def gdB:FS:=(aq (aQ 2 (fC (.bool false))) (ck 3 (bD (ag ixD (aa 0) (fC (.int 1)))) gdI))
theorem zh:gm=aW 5 (aq (iE 1 (ag ixD (aa 0) (fC (.int 0)))) (aq (aQ 2 (fC (.bool true))) (aq (bC (aV (aa 2)) gdB 100000) (ax (aa 1))))):=rfl
theorem ij {i:Nat} {b:FS} {d:PyData} {r:List PyData} {ρ ρ':Rho} {T:Tp} (h:b (ρ.set i (some (.d d))) T=some ((.nx,ρ'),T)):forL i b (d::r) ρ T=forL i b r ρ' T:=by
 rw [yw,h]
 rfl
@[simp] theorem FM {i:Nat} {fk fv:FE} {ρ:Rho} {T:Tp}:cT i fk fv ρ T=bnd (fv ρ T) fun w T1=>kE i fk ρ w T1 ρ[i]?:=rfl
@[simp] theorem EN {i:Nat} {fk:FE} {ρ:Rho} {w:D.W} {T:Tp} {ds:Dc}:kE i fk ρ w T (some (some (.loc (.dict ds))))=bnd (fk ρ T) (kF i ρ ds w):=rfl
@[simp] theorem EO {i:Nat} {ρ:Rho} {T:Tp} {ds:Dc} {x:PyData} {s:Str}:kF i ρ ds (.d x) (.d (.str s)) T=if ds.length≤1000 then some ((.nx,ρ.set i (some (.loc (.dict (putN ds s x))))),T) else none:=rfl
@[simp] theorem EM {i:Nat} {f:FE} {ρ:Rho} {T:Tp}:iE i f ρ T=bnd (f ρ T) fun w T1=>ke i ρ (gY (view T1 w)) T1:=rfl
@[simp] theorem Gr {ds:Dc}:gY (some (.dict ds))=some ds:=rfl
@[simp] theorem Et {i:Nat} {ρ:Rho} {ds:Dc} {T:Tp}:ke i ρ (some ds) T=some ((.nx,ρ.set i (some (.loc (.dict ds)))),T):=rfl
@[simp] theorem Fu {i:Nat} {ρ:Rho} {T:Tp}:f7 i ρ T=some ((.nx,ρ.set i (some (.loc (.dict [])))),T):=rfl
@[simp] theorem Eu {s:Str} {ds:Dc}:dS (.str s) (.dict ds)=some (.bool (!(aB ds s).isSome)):=rfl
@[simp] theorem Gd {s:Str} {ds:Dc}:inA (.str s) (.dict ds)=some (.bool (aB ds s).isSome):=rfl
@[simp] theorem F8 {s:Str} {ds:Dc}:ixA (.dict ds) (.str s)=aB ds s:=rfl
@[simp] theorem ER {o:PyData→PyData→Option PyData} {T:Tp} {x:PyData} {ds:Dc}:op2 o T (.d x) (.loc (.dict ds))=mkD T (o x (.dict ds)):=rfl
@[simp] theorem EQ {o:PyData→PyData→Option PyData} {T:Tp} {y:PyData} {ds:Dc}:op2 o T (.loc (.dict ds)) (.d y)=mkD T (o (.dict ds) y):=rfl
@[simp] theorem ES {o:PyData→Option PyData} {T:Tp} {ds:Dc}:op1 o T (.loc (.dict ds))=mkD T (o (.dict ds)):=rfl
@[simp] theorem ev_viewLD {T:Tp} {ds:Dc}:view T (.loc (.dict ds))=some (.dict ds):=rfl
def bkD (D0 R0:Dc):PyData:=.tuple [.dict D0,.dict R0]
def ρG (D0 R0 G:Dc) (b:Bool) (on o4:Option D.W):Rho:=[some (.d (bkD D0 R0)),some (.loc (.dict G)),some (.d (.bool b)),on,o4]
section
variable {p:Bool} {n:Nat} {D0 R0:Dc}
theorem zY {p:Bool} {g n:Nat} {S:PyData} (h:StepOk p g n S):aZ (gX S)=true:=by
 rcases en h with ⟨v,rfl,hv⟩ | ⟨x,rfl,_⟩ | ⟨b,x,r,rfl,_⟩
 ·rw [qR]; simp [mdT,aZ,br,ia hv]
 ·rw [qS]; simp [flT,aZ,br]
 ·rw [qT]; simp [bZ,aZ,br]
theorem Dp {G:Dc} {b:Bool} {x:Str} {o4:Option D.W} {T:Tp} {v:PyData} (h:aB G x=some v):gdI (ρG D0 R0 G b (some (.d (.str x))) o4) T=some ((.nx,ρG D0 R0 G b (some (.d (.str x))) o4),T):=by simp [gdI,ρG,h]
theorem B9 (B:Bk p n D0 R0) {G:Dc} {b:Bool} {x:Str} {r:PyData} {o4:Option D.W} {T:Tp} (hs:Snd D0 R0 G) (hr:aB R0 x=some r) (h:aB G x=none) (hl:G.length≤1000) :
  (∃ v,(run G (s0 r)).S=mdT v∧gdI (ρG D0 R0 G b (some (.d (.str x))) o4) T=some ((.nx,ρG D0 R0 (putN G x v) true (some (.d (.str x))) (some (.d (mdT v)))),T)) ∨
  ((∀ v,(run G (s0 r)).S≠mdT v)∧∃ o,gdI (ρG D0 R0 G b (some (.d (.str x))) o4) T=some ((.nx,ρG D0 R0 G b (some (.d (.str x))) o),T)):=by
 have hG:=hs.gv B
 have lr:=sZ [] hG B.n20 (B.rg hr).1
 obtain ⟨ok,_⟩:=iy hG B.n20 (dr (B.rg hr).1 B.n20)
 have te:=zY ok.st
 rcases en ok.st with ⟨v,e,hv⟩ | ⟨y,e,_⟩ | ⟨b',y,r',e,_⟩
 ·refine .inl ⟨v,e,?_⟩
  rw [e] at lr te
  have lk:=jO (T:=T) (T':=[]) te
  simp at lr lk
  simp [gdI,ρG,h,bkD,hr,lr,lk]
  simp [mdT,hl]
 ·refine .inr ⟨fun v q=>fD (q.symm.trans e),some (.d (flT y)),?_⟩
  rw [e] at lr te
  have lk:=jO (T:=T) (T':=[]) te
  simp at lr lk
  simp [gdI,ρG,h,bkD,hr,lr,lk]
  simp [flT]
 ·refine .inr ⟨fun v q=>by rw [e] at q; cases b' <;> simp [asT,mdT] at q,some (.d (bZ "wants" (.str y))),?_⟩
  rw [e] at lr te
  have lk:=jO (T:=T) (T':=[]) te
  simp at lr lk
  simp [gdI,ρG,h,bkD,hr,lr,lk]
  simp [bZ]
end
@[simp] theorem Em {T:Tp} {ds:Dc} {r:List D.W}:views T (.loc (.dict ds)::r)=jl (.dict ds) (views T r):=rfl
section
variable {p:Bool} {n:Nat} {D0 R0:Dc}
def jn (R0:Dc) (k:PyData):Prop:=∃ x r,k=.str x∧aB R0 x=some r
theorem Snd.put (B:Bk p n D0 R0) {G:Dc} {x:Str} {r v:PyData} (hs:Snd D0 R0 G) (hr:aB R0 x=some r) (e:(run G (s0 r)).S=mdT v):Snd D0 R0 (putN G x v):=fun y u q=>by
 rw [fq] at q
 by_cases h:x=y
 ·subst h
  rw [if_pos rfl] at q
  cases q
  exact .made hr (hs.gv B) hs e
 ·rw [if_neg h] at q
  exact hs y u q
theorem zE (B:Bk p n D0 R0) {x:Str} {v:PyData} (h:Der D0 R0 x v):∀ u,Der D0 R0 x u→v=u:=by
 induction h with
 | told h=>
  intro u hu
  cases hu with
  | told h'=>rw [h] at h'; cases h'; rfl
  | made hr _ _ _=>rw [(B.rg hr).2] at h; cases h
 | made hr hG hall e ih=>
  rename_i x v r G1
  intro u hu
  cases hu with
  | told h'=>rw [(B.rg hr).2] at h'; cases h'
  | made hr' hG' hall' e'=>
   rename_i r' G2
   rw [hr] at hr'
   cases hr'
   have key:∀ (s:St3),OkS p n s→∀ v u,(run G1 s).S=mdT v→(run G2 s).S=mdT u→v=u:=fun s hs=>by
    refine gA hG B.n20 (fun s s'=>∀ v u,s'.S=mdT v→(run G2 s).S=mdT u→v=u) (fun s h st v u e1 e2=>?_) (fun s b x r w h e hk hl h' q v u e1 e2=>?_) _ s hs rfl
    ·rw [pT e1,e1] at e2
     simpa [mdT] using e2
    ·rw [fu e hl hk] at e1
     cases hk2:aB G2 x with
     | none=>rw [lX e hk2,e] at e2; cases b <;> simp [asT,mdT] at e2
     | some w'=>
      have:w=w':=ih x w hk w' (hall' x w' hk2)
      subst this
      rw [fu e hl hk2] at e2
      exact q v u e1 e2
   exact key _ (dr (B.rg hr).1 B.n20) v u e e'
theorem ow (B:Bk p n D0 R0) {G:Dc} {x:Str} {r v u:PyData} (hs:Snd D0 R0 G) (hr:aB R0 x=some r) (h:aB G x=some v) (e:(run G (s0 r)).S=mdT u):v=u:=zE B (hs x v h) u (.made hr (hs.gv B) hs e)
theorem km (B:Bk p n D0 R0) {T:Tp}:∀ (ks:List PyData) (G:Dc) (b:Bool) (on o4:Option D.W),(∀ k∈ks,jn R0 k)→Snd D0 R0 G→G.length + mu R0 G≤900 →
  ∃ G' b' on' o4',forL 3 gdI ks (ρG D0 R0 G b on o4) T=some ((.nx,ρG D0 R0 G' b' on' o4'),T)∧Snd D0 R0 G'∧Sub G G'∧G'.length + mu R0 G'≤900∧(b'=false→b=false∧G'=G∧∀ x,.str x∈ks→ClsAt R0 G x)∧(b'=true→b=true∨mu R0 G' < mu R0 G)
 | [],G,b,on,o4,_,hs,hl=>⟨G,b,on,o4,by simp [forL],hs,.refl G,hl,fun e=>⟨e,rfl,fun x h=>by cases h⟩,fun e=>.inl e⟩
 | k::ks,G,b,on,o4,hk,hs,hl=>by
  obtain ⟨x,r,rfl,hr⟩:=hk _ List.mem_cons_self
  have hk':∀ k∈ks,jn R0 k:=fun k h=>hk k (List.mem_cons_of_mem _ h)
  have st:∀ {ρ':Rho},gdI (ρG D0 R0 G b (some (.d (.str x))) o4) T=some ((.nx,ρ'),T)→forL 3 gdI (.str x::ks) (ρG D0 R0 G b on o4) T=forL 3 gdI ks ρ' T:=fun h=>ij h
  cases h:aB G x with
  | some v=>
   rw [st (Dp h)]
   obtain ⟨G',b',on',o4',e1,e2,e3,e4,e5,e6⟩:=km B ks G b (some (.d (.str x))) o4 hk' hs hl
   refine ⟨G',b',on',o4',e1,e2,e3,e4,fun q=>?_,e6⟩
   obtain ⟨q1,q2,q3⟩:=e5 q
   refine ⟨q1,q2,fun y hy=>?_⟩
   rcases List.mem_cons.mp hy with z | z
   ·cases z
    intro r' v' hr' e
    have:=ow B hs hr' h e
    rw [h,this]
   ·exact q3 y z
  | none=>
   rcases B9 B (b:=b) (o4:=o4) (T:=T) hs hr h (by omega) with ⟨v,e,go⟩ | ⟨ne,o,go⟩
   ·rw [st go]
    have m1:=tK (v:=v) hr h
    have l1:=jM (v:=v) h
    obtain ⟨G',b',on',o4',e1,e2,e3,e4,e5,e6⟩:=km B ks (putN G x v) true (some (.d (.str x))) (some (.d (mdT v))) hk' (hs.put B hr e) (by omega)
    refine ⟨G',b',on',o4',e1,e2,(Sub.new h).trans e3,e4,fun q=>?_,fun q=>?_⟩
    ·obtain ⟨q1,_⟩:=e5 q
     cases q1
    ·have:=kH (R0:=R0) e3
     exact .inr (by omega)
   ·rw [st go]
    obtain ⟨G',b',on',o4',e1,e2,e3,e4,e5,e6⟩:=km B ks G b (some (.d (.str x))) o hk' hs hl
    refine ⟨G',b',on',o4',e1,e2,e3,e4,fun q=>?_,e6⟩
    obtain ⟨q1,q2,q3⟩:=e5 q
    refine ⟨q1,q2,fun y hy=>?_⟩
    rcases List.mem_cons.mp hy with z | z
    ·cases z
     intro r' v' hr' e
     rw [hr] at hr'
     cases hr'
     exact absurd e (ne v')
    ·exact q3 y z
end
def mdS:FS:=(cT 2 (aa 3) (ar gq (ae (aa 4) ai)))
def mdI:FS:=(aq (cT 2 (aa 3) (gP (ar gu (ae (ag ixA (aa 2) (aa 3)) (ae (aa 1) ai))))) (fIf (aH (ag eqD (ag ixD (ag ixD (ag ixA (aa 2) (aa 3)) (fC (.int 2))) (fC (.int 0))) (fC (.str "made")))) (cT 1 (aa 3) (ag ixD (ag ixD (ag ixA (aa 2) (aa 3)) (fC (.int 2))) (fC (.int 1)))) aK))
def mdB:FS:=(aq (aQ 6 (fCB bq (ae (aa 1) ai))) (aq (ck 3 (bD (ag ixD (aa 0) (fC (.int 1)))) mdI) (aQ 5 (ag gtD (fCB bq (ae (aa 1) ai)) (aa 6)))))
theorem Ay:eY=aW 7 (aq (iE 1 (ag ixD (aa 0) (fC (.int 0)))) (aq (f7 2) (aq (kO 3 4 (ag ixD (aa 0) (fC (.int 1))) mdS) (aq (aQ 5 (fC (.bool true))) (aq (bC (aV (aa 5)) mdB 100000) (ax (aD .tuple (ae (aa 1) (ae (aa 2) ai))))))))):=rfl
section
variable {p:Bool} {n:Nat} {D0 R0:Dc}
theorem qH (B:Bk p n D0 R0):∀ k∈R0.map (·.1),jn R0 k:=fun k hk=>by
 obtain ⟨q,hq,rfl⟩:=List.mem_map.mp hk
 obtain ⟨x,r,rfl,_,h,_⟩:=B.rk q hq
 exact ⟨x,r,rfl,h⟩
theorem mY {x:Str} {r:PyData} (h:aB R0 x=some r):PyData.str x∈R0.map (·.1):=List.mem_map.mpr ⟨_,gw h,rfl⟩
theorem sf (G:Dc):mu R0 G≤R0.length:=List.countP_le_length
theorem p4 (B:Bk p n D0 R0) {T:Tp}:∀ (m:Nat) (G:Dc) (on o4:Option D.W),mu R0 G + 1 < m→Snd D0 R0 G→G.length + mu R0 G≤900 →
  ∃ G' on' o4',bC (aV (aa 2)) gdB m (ρG D0 R0 G true on o4) T=some ((.nx,ρG D0 R0 G' false on' o4'),T)∧Snd D0 R0 G'∧Sub G G'∧∀ x,ClsAt R0 G' x
 | 0,G,on,o4,h,_,_=>by omega
 | m + 1,G,on,o4,h,hs,hl=>by
  obtain ⟨G',b',on',o4',e1,e2,e3,e4,e5,e6⟩:=km B (T:=T) (R0.map (·.1)) G false on o4 (qH B) hs hl
  have hc:∀ b G on o4,aV (aa 2) (ρG D0 R0 G b on o4) T=some (b,T):=fun b G on o4=>by simp [ρG]
  have hb:gdB (ρG D0 R0 G true on o4) T=some ((.nx,ρG D0 R0 G' b' on' o4'),T):=by
   simp [ρG] at e1
   simp [gdB,ρG,bkD] at e1 ⊢
   exact e1
  rw [ka (hc _ _ _ _) hb]
  cases b' with
  | false=>
   obtain ⟨_,q2,q3⟩:=e5 rfl
   obtain ⟨m,rfl⟩:=bb m (by omega)
   rw [l7 (hc _ _ _ _)]
   refine ⟨G',on',o4',rfl,e2,e3,fun x r v hr e=>?_⟩
   rw [q2] at e ⊢
   exact q3 x (mY hr) r v hr e
  | true=>
   have hm:=(e6 rfl).resolve_left (by simp)
   obtain ⟨G2,on2,o42,f1,f2,f3,f4⟩:=p4 B m G' on' o4' (by omega) e2 e4
   exact ⟨G2,on2,o42,f1,f2,e3.trans f3,f4⟩
theorem uw (B:Bk p n D0 R0):Snd D0 R0 D0:=fun _ _ h=>.told h
theorem A4 (B:Bk p n D0 R0) (T:Tp):∃ G,gm [.d (bkD D0 R0)] T=some (.dict G,T)∧Snd D0 R0 G∧Sub D0 G∧∀ x,ClsAt R0 G x:=by
 have hl:=B.len
 have hm:=sf (R0:=R0) D0
 obtain ⟨G,on,o4,e1,e2,e3,e4⟩:=p4 B (T:=T) 100000 D0 none none (by omega) (uw B) (by omega)
 refine ⟨G,?_,e2,e3,e4⟩
 rw [zh]
 simp [ρG] at e1
 simp [bkD] at e1 ⊢
 rw [e1]
 simp
end
def nm:PyData→Str
 | .str x=>x
 | _=>Str.ofString ""
def cmL (R0:Dc) (st:Str→St3):Dc:=R0.map fun q=>(q.1,cm (st (nm q.1)))
def b7 (st:Str→St3) (x:Str) (s:St3):Str→St3:=fun y=>if y=x then s else st y
section
variable {p:Bool} {n:Nat} {D0 R0:Dc}
theorem jb {st:Str→St3} {x:Str}:aB (cmL R0 st) x=(aB R0 x).map fun _=>cm (st x):=by
 induction R0 with
 | nil=>rfl
 | cons q r ih=>
  obtain ⟨k,d⟩:=q
  cases k with
  | str k=>
   by_cases hk:k=x
   ·subst hk
    simp [cmL,aB,nm]
   ·have:=ih
    simp [cmL] at this
    simp [cmL,aB,hk,this]
  | _=>exact ih
theorem AQ {st:Str→St3}:(cmL R0 st).length=R0.length:=by simp [cmL]
theorem AO {st:Str→St3} {x:Str} {s:St3} (hk:∀ q∈R0,∃ y r,q=(PyData.str y,r)):bK (cmL R0 st) x (cm s)=cmL R0 (b7 st x s):=by
 induction R0 with
 | nil=>rfl
 | cons q r ih=>
  obtain ⟨y,d,rfl⟩:=hk q List.mem_cons_self
  have ih':=ih fun q hq=>hk q (List.mem_cons_of_mem _ hq)
  have e:cmL ((PyData.str y,d)::r) st=(.str y,cm (st y))::cmL r st:=rfl
  have e2:cmL ((PyData.str y,d)::r) (b7 st x s)=(.str y,cm (b7 st x s y))::cmL r (b7 st x s):=rfl
  rw [e,e2,← ih']
  by_cases h:y=x
  ·have e3:bK ((PyData.str y,cm (st y))::cmL r st) x (cm s)=(.str y,cm s)::bK (cmL r st) x (cm s):=if_pos h
   rw [e3]
   simp [b7,h]
  ·have e3:bK ((PyData.str y,cm (st y))::cmL r st) x (cm s)=(.str y,cm (st y))::bK (cmL r st) x (cm s):=if_neg h
   rw [e3]
   simp [b7,h]
theorem zM (B:Bk p n D0 R0) {st:Str→St3} {x:Str} {r:PyData} {s:St3} (h:aB R0 x=some r):putN (cmL R0 st) x (cm s)=cmL R0 (b7 st x s):=by
 unfold putN
 rw [jb,h,if_pos (by rfl)]
 exact AO fun q hq=>by
  obtain ⟨y,r,e,_⟩:=B.rk q hq
  exact ⟨y,r,e⟩
def ρM (D0 R0 G:Dc) (st:Str→St3) (on o4 o5 o6:Option D.W):Rho:=[some (.d (bkD D0 R0)),some (.loc (.dict G)),some (.loc (.dict (cmL R0 st))),on,o4,o5,o6]
def SI (R0 G:Dc) (st:Str→St3):Prop:=∀ x r,aB R0 x=some r→∃ G1,Sub G1 G∧GV G1∧st x=run G1 (s0 r)
theorem SI.sub {G G':Dc} {st:Str→St3} (h:SI R0 G st) (hs:Sub G G'):SI R0 G' st:=fun x r hr=>by
 obtain ⟨G1,h1,h2,h3⟩:=h x r hr
 exact ⟨G1,h1.trans hs,h2,h3⟩
theorem SI.go (B:Bk p n D0 R0) {G:Dc} {st:Str→St3} (h:SI R0 G st) {x:Str} {r:PyData} (hr:aB R0 x=some r):OkS p n (st x)∧run G (st x)=run G (s0 r):=by
 obtain ⟨G1,h1,h2,h3⟩:=h x r hr
 have ok:=dr (B.rg hr).1 B.n20
 rw [h3]
 exact ⟨(iy h2 B.n20 ok).1,pS h1 h2 B.n20 ok⟩
theorem SI.upd (B:Bk p n D0 R0) {G:Dc} {st:Str→St3} (h:SI R0 G st) (hG:GV G) {x:Str} {r:PyData} (hr:aB R0 x=some r):SI R0 G (b7 st x (run G (s0 r))):=fun y r' hr'=>by
 by_cases e:y=x
 ·subst e
  rw [hr] at hr'
  cases hr'
  exact ⟨G,.refl G,hG,by simp [b7]⟩
 ·obtain ⟨G1,h1,h2,h3⟩:=h y r' hr'
  exact ⟨G1,h1,h2,by simp [b7,e]; exact h3⟩
theorem BU (B:Bk p n D0 R0) {G:Dc} {st:Str→St3} {x:Str} {r:PyData} {o4 o5 o6:Option D.W} {T:Tp} (hs:Snd D0 R0 G) (hi:SI R0 G st) (hr:aB R0 x=some r) (hl:G.length≤1000) :
  (∃ v,(run G (s0 r)).S=mdT v∧mdI (ρM D0 R0 G st (some (.d (.str x))) o4 o5 o6) T=some ((.nx,ρM D0 R0 (putN G x v) (b7 st x (run G (s0 r))) (some (.d (.str x))) o4 o5 o6),T)) ∨
  ((∀ v,(run G (s0 r)).S≠mdT v)∧mdI (ρM D0 R0 G st (some (.d (.str x))) o4 o5 o6) T=some ((.nx,ρM D0 R0 G (b7 st x (run G (s0 r))) (some (.d (.str x))) o4 o5 o6),T)):=by
 have hG:=hs.gv B
 obtain ⟨ok,er⟩:=hi.go B hr
 obtain ⟨ok2,_⟩:=iy hG B.n20 (dr (B.rg hr).1 B.n20)
 have lg:=Cr [] hG B.n20 ok
 rw [er] at lg
 have lk:=jO (T:=T) (T':=[]) (Bd ok2)
 have c1:aB (cmL R0 st) x=some (cm (st x)):=by rw [jb,hr]; rfl
 have c2:=zM B (st:=st) (s:=run G (s0 r)) hr
 have c3:aB (cmL R0 (b7 st x (run G (s0 r)))) x=some (cm (run G (s0 r))):=by rw [jb,hr]; simp [b7]
 have l2:(cmL R0 st).length≤1000:=by rw [AQ]; have:=B.len; omega
 have e2:∀ s:St3,ixD (cm s) (.int 2)=some s.S:=fun s=>rfl
 generalize hs':run G (s0 r)=s' at *
 rcases en ok2.st with ⟨v,e,hv⟩ | ⟨y,e,_⟩ | ⟨b',y,r',e,_⟩
 ·refine .inl ⟨v,e,?_⟩
  simp [mdI,ρM,c1,lg,lk,c2,l2,c3,e2,e,mdT,hl]
 ·refine .inr ⟨fun v q=>fD (q.symm.trans e),?_⟩
  simp [mdI,ρM,c1,lg,lk,c2,l2,c3,e2,e,flT]
 ·refine .inr ⟨fun v q=>by rw [e] at q; cases b' <;> simp [asT,mdT] at q,?_⟩
  cases b' <;> simp [mdI,ρM,c1,lg,lk,c2,l2,c3,e2,e,asT]
end
@[simp] theorem EW {ds:Dc}:bq [.dict ds]=some (.int ds.length):=rfl
section
variable {p:Bool} {n:Nat} {D0 R0:Dc}
theorem yV {G:Dc} {x:Str} {v:PyData} (h:aB G x=some v):(∀ y,aB (putN G x v) y=aB G y)∧(putN G x v).length=G.length:=by
 refine ⟨fun y=>?_,?_⟩
 ·rw [fq]
  by_cases e:x=y
  ·subst e; rw [if_pos rfl,h]
  ·rw [if_neg e]
 ·unfold putN
  rw [h,if_pos (by rfl),wZ]
theorem Sub.of {G G':Dc} (h:∀ y,aB G' y=aB G y):Sub G G':=fun x v q=>by rw [h]; exact q
structure Rnd (D0 R0:Dc) (ks:List PyData) (G:Dc) (st:Str→St3) (G':Dc) (st':Str→St3):Prop where
 snd:Snd D0 R0 G'
 sub:Sub G G'
 si:SI R0 G' st'
 bd:G'.length + mu R0 G'≤900
 le:G.length≤G'.length
 lt:G.length < G'.length→mu R0 G' < mu R0 G
 same:G'.length=G.length→(∀ y,aB G' y=aB G y)∧(∀ x r,.str x∈ks→aB R0 x=some r→st' x=run G (s0 r)∧ClsAt R0 G x)∧∀ x,.str x∉ks→st' x=st x
theorem sg (B:Bk p n D0 R0) {T:Tp} {o4 o5 o6:Option D.W}:∀ (ks:List PyData) (G:Dc) (st:Str→St3) (on:Option D.W),(∀ k∈ks,jn R0 k)→Snd D0 R0 G→SI R0 G st→G.length + mu R0 G≤900 →
  ∃ G' st' on',forL 3 mdI ks (ρM D0 R0 G st on o4 o5 o6) T=some ((.nx,ρM D0 R0 G' st' on' o4 o5 o6),T)∧Rnd D0 R0 ks G st G' st'
 | [],G,st,on,_,hs,hi,hl=>⟨G,st,on,by simp [forL],hs,.refl G,hi,hl,Nat.le_refl _,fun h=>absurd h (Nat.lt_irrefl _),fun _=>⟨fun _=>rfl,fun x r h=>(by cases h),fun _ _=>rfl⟩⟩
 | k::ks,G,st,on,hk,hs,hi,hl=>by
  obtain ⟨x,r,rfl,hr⟩:=hk _ List.mem_cons_self
  have hk':∀ k∈ks,jn R0 k:=fun k h=>hk k (List.mem_cons_of_mem _ h)
  have hG:=hs.gv B
  have st0:∀ {ρ':Rho},mdI (ρM D0 R0 G st (some (.d (.str x))) o4 o5 o6) T=some ((.nx,ρ'),T)→forL 3 mdI (.str x::ks) (ρM D0 R0 G st on o4 o5 o6) T=forL 3 mdI ks ρ' T:=fun h=>ij h
  have fin:∀ (G1:Dc),Snd D0 R0 G1→Sub G G1→G1.length + mu R0 G1≤900→G.length≤G1.length→(G.length < G1.length→mu R0 G1 < mu R0 G)→(G1.length=G.length→(∀ y,aB G1 y=aB G y)∧ClsAt R0 G x)→SI R0 G1 (b7 st x (run G (s0 r))) →
    ∃ G' st' on',forL 3 mdI ks (ρM D0 R0 G1 (b7 st x (run G (s0 r))) (some (.d (.str x))) o4 o5 o6) T=some ((.nx,ρM D0 R0 G' st' on' o4 o5 o6),T)∧Rnd D0 R0 (.str x::ks) G st G' st':=by
   intro G1 h1 h2 h3 h4 h5 h6 h7
   obtain ⟨G',st',on',e1,R⟩:=sg B (T:=T) (o4:=o4) (o5:=o5) (o6:=o6) ks G1 (b7 st x (run G (s0 r))) (some (.d (.str x))) hk' h1 h7 h3
   refine ⟨G',st',on',e1,R.snd,h2.trans R.sub,R.si,R.bd,Nat.le_trans h4 R.le,fun h=>?_,fun h=>?_⟩
   ·have m1:=kH (R0:=R0) R.sub
    have m2:=kH (R0:=R0) h2
    by_cases c:G.length < G1.length
    ·have:=h5 c; omega
    ·have:=R.lt (by omega); omega
   ·have c1:G1.length=G.length:=by have:=R.le; omega
    obtain ⟨q1,q2⟩:=h6 c1
    obtain ⟨r1,r2,r3⟩:=R.same (by omega)
    have same:∀ r',aB R0 x=some r'∨True→True:=fun _ _=>trivial
    refine ⟨fun y=>(r1 y).trans (q1 y),fun y r' hy hr'=>?_,fun y hy=>?_⟩
    ·by_cases hy2:PyData.str y∈ks
     ·obtain ⟨a1,a2⟩:=r2 y r' hy2 hr'
      have cg:=jE q1 (h1.gv B) B.n20 (dr (B.rg hr').1 B.n20)
      refine ⟨by rw [a1,cg],fun r2' v hr2 e=>?_⟩
      rw [hr'] at hr2
      cases hr2
      rw [← q1]
      exact a2 r' v hr' (by rw [cg]; exact e)
     ·have hxy:y=x:=by
       rcases List.mem_cons.mp hy with z | z
       ·cases z; rfl
       ·exact absurd z hy2
      subst hxy
      rw [hr] at hr'
      cases hr'
      exact ⟨by rw [r3 y hy2]; simp [b7],q2⟩
    ·have n1:PyData.str y∉ks:=fun z=>hy (List.mem_cons_of_mem _ z)
     have n2:¬ y=x:=fun z=>hy (by rw [z]; exact List.mem_cons_self)
     rw [r3 y n1]
     simp [b7,n2]
  rcases BU B (T:=T) (o4:=o4) (o5:=o5) (o6:=o6) hs hi hr (by omega) with ⟨v,e,go⟩ | ⟨ne,go⟩
  ·rw [st0 go]
   have sp:=hs.put B hr e
   cases h:aB G x with
   | none=>
    have m1:=tK (v:=v) hr h
    have l1:=jM (v:=v) h
    have sb:=Sub.new (v:=v) h
    exact fin (putN G x v) sp sb (by omega) (by omega) (fun _=>by omega) (fun c=>by omega) ((hi.upd B hG hr).sub sb)
   | some u=>
    have:=ow B hs hr h e
    subst this
    obtain ⟨o1,o2⟩:=yV h
    have sb:=Sub.of o1
    have m1:=kH (R0:=R0) sb
    refine fin (putN G x u) sp sb (by omega) (by omega) (fun c=>by omega) (fun _=>⟨o1,fun r' v' hr' e'=>?_⟩) ((hi.upd B hG hr).sub sb)
    rw [hr] at hr'
    cases hr'
    rw [e] at e'
    have:u=v':=by simpa [mdT] using e'
    rw [← this]; exact h
  ·rw [st0 go]
   exact fin G hs (.refl G) hl (Nat.le_refl _) (fun c=>absurd c (Nat.lt_irrefl _)) (fun _=>⟨fun _=>rfl,fun r' v' hr' e'=>by
    rw [hr] at hr'
    cases hr'
    exact absurd e' (ne v')⟩) (hi.upd B hG hr)
theorem pY (B:Bk p n D0 R0) {T:Tp}:∀ (m:Nat) (G:Dc) (st:Str→St3) (on o4 o6:Option D.W),mu R0 G + 1 < m→Snd D0 R0 G→SI R0 G st→G.length + mu R0 G≤900 →
  ∃ G' st' on' o5' o6',bC (aV (aa 5)) mdB m (ρM D0 R0 G st on o4 (some (.d (.bool true))) o6) T=some ((.nx,ρM D0 R0 G' st' on' o4 o5' o6'),T)∧Snd D0 R0 G'∧Sub G G'∧(∀ x,ClsAt R0 G' x)∧∀ x r,aB R0 x=some r→st' x=run G' (s0 r)
 | 0,G,st,on,o4,o6,h,_,_,_=>by omega
 | m + 1,G,st,on,o4,o6,h,hs,hi,hl=>by
  obtain ⟨G',st',on',e1,R⟩:=sg B (T:=T) (o4:=o4) (o5:=some (.d (.bool true))) (o6:=some (.d (.int G.length))) (R0.map (·.1)) G st on (qH B) hs hi hl
  have hc:∀ b G st on o4 o6,aV (aa 5) (ρM D0 R0 G st on o4 (some (.d (.bool b))) o6) T=some (b,T):=fun b G st on o4 o6=>by simp [ρM]
  have hb:mdB (ρM D0 R0 G st on o4 (some (.d (.bool true))) o6) T=some ((.nx,ρM D0 R0 G' st' on' o4 (some (.d (.bool (decide (G.length < G'.length))))) (some (.d (.int G.length)))),T):=by
   simp only [ρM,bkD] at e1
   simp [mdB,ρM,bkD,e1]
  rw [ka (hc _ _ _ _ _ _) hb]
  by_cases c:G.length < G'.length
  ·rw [decide_eq_true c]
   have:=R.lt c
   obtain ⟨G2,st2,on2,o52,o62,f1,f2,f3,f4,f5⟩:=pY B (T:=T) m G' st' on' o4 (some (.d (.int G.length))) (by omega) R.snd R.si R.bd
   exact ⟨G2,st2,on2,o52,o62,f1,f2,R.sub.trans f3,f4,f5⟩
  ·rw [decide_eq_false c]
   obtain ⟨m,rfl⟩:=bb m (by omega)
   rw [l7 (hc _ _ _ _ _ _)]
   obtain ⟨q1,q2,_⟩:=R.same (by have:=R.le; omega)
   refine ⟨G',st',on',_,_,rfl,R.snd,R.sub,fun x r v hr e=>?_,fun x r hr=>?_⟩
   ·have cg:=jE q1 (R.snd.gv B) B.n20 (dr (B.rg hr).1 B.n20)
    rw [q1]
    exact (q2 x r (mY hr) hr).2 r v hr (by rw [← cg]; exact e)
   ·have cg:=jE q1 (R.snd.gv B) B.n20 (dr (B.rg hr).1 B.n20)
    rw [(q2 x r (mY hr) hr).1,cg]
theorem zq {ds:Dc} {x:Str} (h:PyData.str x∉ds.map (·.1)):aB ds x=none:=by
 cases e:aB ds x with
 | none=>rfl
 | some v=>exact absurd (List.mem_map.mpr ⟨_,gw e,rfl⟩) h
def d7 (q:PyData×PyData):PyData×PyData:=(q.1,cm (s0 q.2))
def ρ0 (D0 R0:Dc) (c:Dc) (on o4:Option D.W):Rho:=[some (.d (bkD D0 R0)),some (.loc (.dict D0)),some (.loc (.dict c)),on,o4,none,none]
theorem AH {i j:Nat} {b:FS} {d:PyData×PyData} {r:Dc} {ρ ρ':Rho} {T:Tp} (h:b ((ρ.set i (some (.d d.1))).set j (some (.d d.2))) T=some ((.nx,ρ'),T)):eW i j b (d::r) ρ T=eW i j b r ρ' T:=by
 show bnd (b ((ρ.set i (some (.d d.1))).set j (some (.d d.2))) T) _=_
 rw [h]
 rfl
theorem qE (B:Bk p n D0 R0) {T:Tp}:∀ (rest P:Dc) (on o4:Option D.W),R0=P++rest→∃ on' o4',eW 3 4 mdS rest (ρ0 D0 R0 (P.map d7) on o4) T=some ((.nx,ρ0 D0 R0 (R0.map d7) on' o4'),T)
 | [],P,on,o4,e=>⟨on,o4,by rw [e]; simp [eW]⟩
 | q::rest,P,on,o4,e=>by
  have hq:q∈R0:=by rw [e]; simp
  obtain ⟨x,r,rfl,hr,hk,_⟩:=B.rk q hq
  have ls:=AX T hr B.n20
  have nk:aB (P.map d7) x=none:=zq fun z=>by
   have nd:=B.rnd
   rw [e,List.map_append,List.nodup_append] at nd
   obtain ⟨q,hq1,hq2⟩:=List.mem_map.mp z
   obtain ⟨q',hq3,rfl⟩:=List.mem_map.mp hq1
   exact nd.2.2 q'.1 (List.mem_map.mpr ⟨q',hq3,rfl⟩) (.str x) (by simp) hq2
  have pn:putN (P.map d7) x (cm (s0 r))=(P++[(PyData.str x,r)]).map d7:=by
   unfold putN
   rw [nk,if_neg (by simp)]
   simp [d7]
  have pl:(P.map d7).length≤1000:=by
   have:=B.len
   have e2:R0.length=P.length + (rest.length + 1):=by rw [e]; simp
   simp
   omega
  have st:mdS (((ρ0 D0 R0 (P.map d7) on o4).set 3 (some (.d (.str x)))).set 4 (some (.d r))) T=some ((.nx,ρ0 D0 R0 ((P++[(PyData.str x,r)]).map d7) (some (.d (.str x))) (some (.d r))),T):=by
   rw [← pn]
   simp at pl
   simp [mdS,ρ0,ls,pl]
  rw [AH st]
  exact qE B rest (P++[(.str x,r)]) _ _ (by rw [e]; simp)
def stI (R0:Dc) (x:Str):St3:=match aB R0 x with
 | some r=>s0 r
 | none=>⟨[],[],.none⟩
theorem AE (B:Bk p n D0 R0):R0.map d7=cmL R0 (stI R0):=by
 unfold cmL
 refine List.map_congr_left fun q hq=>?_
 obtain ⟨x,r,rfl,_,hk,_⟩:=B.rk q hq
 simp [d7,nm,stI,hk]
theorem z9 (s:St3):run [] s=s:=by
 unfold run
 cases 12 - s.gs.length with
 | zero=>rfl
 | succ f=>
  rw [gR]
  cases eO s.S with
  | none=>rfl
  | some q=>rfl
theorem z5:SI R0 D0 (stI R0):=fun x r hr=>⟨[],fun y v h=>(by cases h),fun y v h=>(by cases h),by simp [stI,hr,z9]⟩
theorem sY (B:Bk p n D0 R0) (T:Tp):∃ G st,eY [.d (bkD D0 R0)] T=some (.tuple [.dict G,.dict (cmL R0 st)],T)∧Snd D0 R0 G∧Sub D0 G∧(∀ x,ClsAt R0 G x)∧∀ x r,aB R0 x=some r→st x=run G (s0 r):=by
 have hl:=B.len
 have hm:=sf (R0:=R0) D0
 obtain ⟨on,o4,i1⟩:=qE B (T:=T) R0 [] none none rfl
 obtain ⟨G,st,on',o5,o6,e1,e2,e3,e4,e5⟩:=pY B (T:=T) 100000 D0 (stI R0) on o4 none (by omega) (uw B) z5 (by omega)
 refine ⟨G,st,?_,e2,e3,e4,e5⟩
 rw [AE B] at i1
 rw [Ay]
 simp only [ρ0,bkD] at i1
 simp only [ρM,bkD] at e1
 have fi:∀ ρ T,kO 3 4 (ag ixD (aa 0) (fC (.int 1))) mdS ρ T=bnd (ag ixD (aa 0) (fC (.int 1)) ρ T) (kM 3 4 mdS ρ):=fun _ _=>rfl
 have fk:∀ ρ T,kM 3 4 mdS ρ (.d (.dict R0)) T=eW 3 4 mdS R0 ρ T:=fun _ _=>rfl
 simp [bkD,fi,fk]
 simp at i1
 simp [i1,e1]
end
def cst:Nat→PyData→List Nat
 | n + 1,.tuple ds=>40::(bx [44] (ds.map (cst n))++[41])
 | 0,.tuple _=>[]
 | _,.int i=>nc i
 | _,.str x=>39::cd x
 | _,_=>[]
theorem mE (n:Nat) (i:Int):cst n (.int i)=nc i:=by cases n <;> rfl
theorem mD (n:Nat) (x:Str):cst n (.str x)=39::cd x:=by cases n <;> rfl
theorem yP {d:PyData} {n:Nat} (h:single d=true):(cst n d).length≤21:=by
 rcases bV h with ⟨i,rfl⟩ | ⟨x,rfl⟩
 ·rw [mE]
  have:=BR h
  omega
 ·rw [mD]
  have h':(decide (x.length≤20) && has TXT x)=true:=h
  rw [Bool.and_eq_true] at h'
  have:=of_decide_eq_true h'.1
  rw [List.length_cons,kr]
  omega
theorem lA (f:PyData→List Nat):∀ ds:List PyData,(ds.map fun d=>(f d).length).sum + ds.length≤(bx [44] (ds.map f)).length + 1∧(bx [44] (ds.map f)).length≤(ds.map fun d=>(f d).length).sum + ds.length
 | []=>by simp [bx]
 | [d]=>by simp [bx]
 | d::e::r=>by
  have ih:=lA f (e::r)
  have e1:bx [44] ((d::e::r).map f)=f d++[44]++bx [44] ((e::r).map f):=rfl
  rw [e1]
  simp only [List.map_cons,List.sum_cons,List.length_cons,List.length_append,List.length_nil] at ih ⊢
  omega
theorem mq {n:Nat}:∀ {ds:List PyData},(∀ d∈ds,((cst n d).length:Int) + 1≤25 * aE n d)→(((ds.map fun d=>(cst n d).length).sum + ds.length:Nat):Int)≤25 * (ds.map (aE n)).sum
 | [],_=>by simp
 | d::r,h=>by
  have h1:=h d List.mem_cons_self
  have h2:=mq (ds:=r) fun x hx=>h x (List.mem_cons_of_mem _ hx)
  simp only [List.map_cons,List.sum_cons,List.length_cons]
  omega
theorem rq:∀ (n:Nat) (d:PyData),aF n d=true→((cst n d).length:Int) + 1≤25 * aE n d
 | n,d,h=>by
  rcases bQ h with h1 | ⟨m,ds,rfl,rfl,h8,hb⟩
  ·have:=yP (n:=n) h1
   have:=lZ n d
   omega
  ·have ih:=rq m
   have h1:=mq (ds:=ds) fun d hd=>ih d (hb d hd)
   have h2:=(lA (cst m) ds).2
   show (((40::(bx [44] (ds.map (cst m))++[41])).length:Nat):Int) + 1≤25 * (1 + (ds.map (aE m)).sum)
   simp only [List.length_cons,List.length_append,List.length_nil]
   omega
termination_by n=>n
theorem qN {i:Int} (h:single (.int i)=true):jp [.int i]=some (.str (mk (nc i))):=by
 have h1:=lq h
 have h2:i.natAbs.log2 < 1920:=by
  by_cases z:i.natAbs=0
  ·rw [z]; decide
  ·exact Nat.lt_of_lt_of_le ((Nat.log2_lt (k:=64) z).mpr (Nat.lt_of_le_of_lt h1 (by decide))) (by decide)
 have e:Str.ofString (toString i)=mk (nc i):=iI (by rw [tJ,dY])
 show (if i.natAbs.log2 < 1920 then some (PyData.str (Str.ofString (toString i))) else none)=_
 rw [if_pos h2,e]
theorem iA (a b:List Nat):mk a++mk b=mk (a++b):=iI (by rw [gJ,dY,dY,dY])
theorem lit {s:String} {l:List Nat} (h:cd (Str.ofString s)=l):Str.ofString s=mk l:=iI (by rw [h,dY])
theorem qD (f:PyData→List Nat) (ds:List PyData):((ds.map fun d=>mk (f d)).map (·.length)).sum=(ds.map fun d=>(f d).length).sum:=by
 rw [List.map_map]
 exact congrArg List.sum (List.map_congr_left fun d _=>dh _)
theorem qJ (f:PyData→List Nat) (ds:List PyData):Str.join (mk [44]) (ds.map fun d=>mk (f d))=mk (bx [44] (ds.map f)):=iI (by
 rw [ms,dY,dY,List.map_map]
 exact congrArg (bx [44]) (List.map_congr_left fun d _=>dY _))
theorem qg {m:Nat} {ds:List PyData} (hm:aE (m + 1) (.tuple ds)≤40) (hb:∀ x∈ds,aF m x=true):(bx [44] (ds.map (cst m))).length≤1000∧(ds.map fun d=>(cst m d).length).sum + ds.length≤1000:=by
 have h1:=mq (ds:=ds) fun d hd=>rq m d (hb d hd)
 have h2:=(lA (cst m) ds).2
 have h3:1 + (ds.map (aE m)).sum≤40:=hm
 omega
theorem str_len {n:Nat} {x:Str} (h:single (.str x)=true):x.length≤20:=by
 have h':(decide (x.length≤20) && has TXT x)=true:=h
 rw [Bool.and_eq_true] at h'
 exact of_decide_eq_true h'.1
theorem rC:∀ (n k:Nat) (d:PyData) (T:Tp),aF n d=true→aE n d≤40→n < k→cH k [.d d] T=some (.str (mk (cst n d)),T)
 | n,0,d,T,h,hm,hk=>absurd hk (Nat.not_lt_zero _)
 | n,k + 1,d,T,h,hm,hk=>by
  have q1:=lit (s:="'") (l:=[39]) (by decide +kernel)
  have q2:=lit (s:="(") (l:=[40]) (by decide +kernel)
  have q3:=lit (s:=")") (l:=[41]) (by decide +kernel)
  have q4:=lit (s:=",") (l:=[44]) (by decide +kernel)
  rcases bQ h with h1 | ⟨m,ds,rfl,rfl,h8,hb⟩
  ·rcases bV h1 with ⟨i,rfl⟩ | ⟨x,rfl⟩
   ·simp [cH,iu,whole,qN h1,mE]
   ·have e:mk [39]++x=mk (39::cd x):=by rw [← tL x,iA,dY]; rfl
    have l:(mk [39]).length + x.length≤sizeLine:=dQ (by rw [dh]; have:=str_len (n:=0) h1; simp; omega)
    simp [cH,iu,whole,mD,B3,q1,l,e]
  ·obtain ⟨l1,l2⟩:=qg hm hb
   have c:=dE (e:=ar (cH k) (ae (aa 0) ai)) (ρ:=[some (.d (.tuple ds))]) (T:=T) (g:=fun d=>.str (mk (cst m d))) (ds:=ds) fun d hd=>by
    have:=rC m k d T (hb d hd) (Int.le_trans (lN hd) hm) (by omega)
    simp [this]
   have j:=p8 (z:=mk [44]) (jB (fun d=>mk (cst m d)) ds)
   rw [qD,qJ,List.length_map,dh] at j
   rw [if_pos (by simp; omega)] at j
   have a1:(mk [40]).length + (mk (bx [44] (ds.map (cst m)))).length≤sizeLine:=dQ (by rw [dh,dh]; simp; omega)
   have a2:(mk (40::bx [44] (ds.map (cst m)))).length + (mk [41]).length≤sizeLine:=dQ (by rw [dh,dh]; simp; omega)
   have e1:mk [40]++mk (bx [44] (ds.map (cst m)))=mk (40::bx [44] (ds.map (cst m))):=by rw [iA]; rfl
   have e2:mk (40::bx [44] (ds.map (cst m)))++mk [41]=mk (cst (m + 1) (.tuple ds)):=by rw [iA]; rfl
   simp [cH,iu,whole,B2,q2,q3,q4,c,j,a1,a2,e1,e2]
def nmL (ps:List Str):List PyData:=ps.map PyData.str
def fL:PyData→PyData
 | .tuple [.str w,v]=>if w=Str.ofString "made" then .tuple [.str w,.str (mk (cst 4 v))] else .tuple [.str w,v]
 | .tuple [_,.str x,_]=>bZ "wants" (.str x)
 | _=>.none
@[simp] theorem qU {v:PyData}:fL (mdT v)=.tuple [.str "made",.str (mk (cst 4 v))]:=by simp [mdT,fL]
@[simp] theorem qV {x:Str}:fL (flT x)=flT x:=by simp [flT,fL]
@[simp] theorem mx {b:Bool} {x:Str} {r:PyData}:fL (asT b x r)=bZ "wants" (.str x):=rfl
def rdS:PyData→PyData
 | .tuple [x,v]=>.tuple [x,.str (mk (cst 4 v))]
 | d=>d
def ln (x:Str) (s:St3):PyData:=.tuple [.str x,.tuple (s.rd.map rdS),fL s.S]
theorem rP {v:PyData} (T:Tp) (h:aG v=true):cH 25 [.d v] T=some (.str (mk (cst 4 v)),T):=rC 4 25 v T (b9 h).1 (b9 h).2 (by decide)
theorem A7 {p:Bool} {g n:Nat} {S:PyData} (T:Tp) (h:StepOk p g n S):fU [.d S] T=some (fL S,T):=by
 rcases en h with ⟨v,rfl,hv⟩ | ⟨x,rfl,_⟩ | ⟨b,x,r,rfl,_⟩
 ·rw [qU]
  simp [fU,mdT,rP T hv]
 ·rw [qV]
  simp [fU,flT]
 ·rw [mx]
  cases b <;> simp [fU,asT,bZ]
theorem Cq {p:Bool} {n:Nat} {s:St3} {x:Str} (T:Tp) (h:OkS p n s):g0 [.d (.str x),.d (cm s)] T=some (ln x s,T):=by
 have c:bN bG (aD .tuple (ae (ag ixD (aa 0) (fC (.int 0))) (ae (ar (cH 25) (ae (ag ixD (aa 0) (fC (.int 1))) ai)) ai))) [some (.d (.str x)),some (.d (cm s)),none] s.rd T=some (s.rd.map rdS,T):=dE fun d hd=>by
  obtain ⟨y,v,rfl,hv⟩:=h.rv d hd
  simp [rP T hv,rdS]
 have e:=A7 T h.st
 have e1:ixD (cm s) (.int 1)=some (.tuple s.rd):=rfl
 have e2:ixD (cm s) (.int 2)=some s.S:=rfl
 simp [g0,e1,e2,c,e,ln,D.cy]
theorem ql:∀ (n k:Nat) (d:PyData) (T:Tp),aF n d=true→aE n d≤40→n < k→cP k [.d d] T=some (.str (mk (cst n d)),T)
 | n,0,d,T,h,hm,hk=>absurd hk (Nat.not_lt_zero _)
 | n,k + 1,d,T,h,hm,hk=>by
  have q1:=lit (s:="'") (l:=[39]) (by decide +kernel)
  have q2:=lit (s:="(") (l:=[40]) (by decide +kernel)
  have q3:=lit (s:=")") (l:=[41]) (by decide +kernel)
  have q4:=lit (s:=",") (l:=[44]) (by decide +kernel)
  have k1:a6 .int .tup=false:=rfl
  have k2:a6 .int .str=false:=rfl
  have k3:a6 .str .tup=false:=rfl
  have k4:a6 .str .str=true:=rfl
  have k5:a6 .tup .tup=true:=rfl
  rcases bQ h with h1 | ⟨m,ds,rfl,rfl,h8,hb⟩
  ·rcases bV h1 with ⟨i,rfl⟩ | ⟨x,rfl⟩
   ·simp [cP,k1,k2,qN h1,mE]
   ·have e:mk [39]++x=mk (39::cd x):=by rw [← tL x,iA,dY]; rfl
    have l:(mk [39]).length + x.length≤sizeLine:=dQ (by rw [dh]; have:=str_len (n:=0) h1; simp; omega)
    simp [cP,k3,mD,k4,q1,l,e]
  ·obtain ⟨l1,l2⟩:=qg hm hb
   have c:=dE (e:=ar (cP k) (ae (aa 0) ai)) (ρ:=[some (.d (.tuple ds))]) (T:=T) (g:=fun d=>.str (mk (cst m d))) (ds:=ds) fun d hd=>by
    have:=ql m k d T (hb d hd) (Int.le_trans (lN hd) hm) (by omega)
    simp [this]
   have j:=p8 (z:=mk [44]) (jB (fun d=>mk (cst m d)) ds)
   rw [qD,qJ,List.length_map,dh] at j
   rw [if_pos (by simp; omega)] at j
   have a1:(mk [40]).length + (mk (bx [44] (ds.map (cst m)))).length≤sizeLine:=dQ (by rw [dh,dh]; simp; omega)
   have a2:(mk (40::bx [44] (ds.map (cst m)))).length + (mk [41]).length≤sizeLine:=dQ (by rw [dh,dh]; simp; omega)
   have e1:mk [40]++mk (bx [44] (ds.map (cst m)))=mk (40::bx [44] (ds.map (cst m))):=by rw [iA]; rfl
   have e2:mk (40::bx [44] (ds.map (cst m)))++mk [41]=mk (cst (m + 1) (.tuple ds)):=by rw [iA]; rfl
   simp [cP,k5,q2,q3,q4,c,j,a1,a2,e1,e2]
theorem qG {v:PyData} (T:Tp) (h:aG v=true):cP 25 [.d v] T=some (.str (mk (cst 4 v)),T):=ql 4 25 v T (b9 h).1 (b9 h).2 (by decide)
section
variable {p:Bool} {n:Nat} {D0 R0:Dc}
theorem zU (B:Bk p n D0 R0) {x:Str} {r:PyData} (hr:aB R0 x=some r) (T:Tp):∃ G,fO [.d (bkD D0 R0),.d (.str x)] T=some (ln x (run G (s0 r)),T)∧Snd D0 R0 G∧Sub D0 G∧(∀ x,ClsAt R0 G x)∧OkS p n (run G (s0 r)):=by
 obtain ⟨G,st,e,h1,h2,h3,h4⟩:=sY B T
 have ok:OkS p n (run G (s0 r)):=(iy (Snd.gv B h1) B.n20 (dr (B.rg hr).1 B.n20)).1
 have hk:aB (cmL R0 st) x=some (cm (run G (s0 r))):=by rw [jb,hr,← h4 x r hr]; rfl
 refine ⟨G,?_,h1,h2,h3,ok⟩
 have el:=Cq (x:=x) T ok
 simp [fO,e,hk,el]
theorem tP {T:Tp} (ρ:Rho):∀ (ds:List PyData),(∀ d∈ds,∃ (y:Str) (v:PyData),d=.tuple [.str y,v]∧aG v=true)→eC bG (aD .tuple (ae (aa 0) (ae (ar (cP 25) (ae (aa 1) ai)) ai))) ρ ds T=some (ds.map rdS,T)
 | [],_=>rfl
 | d::r,h=>by
  obtain ⟨y,v,rfl,hv⟩:=h d (List.mem_cons_self ..)
  have ih:=tP (T:=T) ρ r fun x hx=>h x (List.mem_cons_of_mem _ hx)
  unfold eC
  simp [qG T hv,ih,rdS]
theorem A0 (B:Bk p n D0 R0) {G:Dc} (hG:GV G) {x:Str} {r:PyData} (hr:aB R0 x=some r) (T:Tp):fg [.d (bkD D0 R0),.d (.dict G),.d (.str x)] T=some (ln x (run G (s0 r)),T):=by
 have ok:OkS p n (run G (s0 r)):=(iy hG B.n20 (dr (B.rg hr).1 B.n20)).1
 have e:=sZ T hG B.n20 (B.rg hr).1
 generalize run G (s0 r)=s at ok e
 have c:=fun ρ=>tP (T:=T) ρ s.rd fun d hd=>ok.rv d hd
 have fc:∀ {it:FI} {c:FT} {f:FE} {ρ:Rho} {T:Tp},mZ it c f ρ T=bnd (it ρ T) fun ds T1=>bnd (eC c f ρ ds T1) fun ys T2=>some (.d (.list ys),T2):=rfl
 rcases en ok.st with ⟨v,ev,hv⟩ | ⟨y,ev,_⟩ | ⟨b,y,r',ev,_⟩
 ·rw [ev,qR] at e
  simp [fg,bkD,e,hr,mdT,qG T hv,fc,c,ln,ev,D.cy,jt,fL]
 ·rw [ev,qS] at e
  simp [fg,bkD,e,hr,flT,fc,c,ln,ev,D.cy,jt,fL]
 ·rw [ev,qT] at e
  simp [fg,bkD,e,hr,bZ,fc,c,ln,ev,D.cy,jt,mx]
theorem yL (B:Bk p n D0 R0) {x:Str} (hr:aB R0 x=none) (hz:x.length≤1000) (hc:∀ c∈x.cps.toList,c < 16 ^ 8) (T:Tp):fN [.d (bkD D0 R0),.d (.str x)] T=some (.list [.bool true,.bool false,.str x],T):=by
 obtain ⟨G,st,e,_⟩:=sY B T
 have hk:aB (cmL R0 st) x=none:=by rw [jb,hr]; rfl
 have hl:(reprText x).length + 1000≤sizeLine:=by
  have:=StrLaws.reprText_len x hc
  have z:sizeLine=16777216:=by decide
  omega
 simp [fN,jA,oS,oM,du,e,hk,hl]
end
inductive SV:Nat→PyData→Prop where
 | int {n:Nat} {i:Int}:SV n (.int i)
 | str {n:Nat} {x:Str}:SV n (.str x)
 | tup {n:Nat} {xs:List PyData}:xs.length≤1000→(∀ d∈xs,SV n d)→SV (n + 1) (.tuple xs)
 | dct {n:Nat} {ds:Dc}:(∀ q∈ds,∃ x,q.1=.str x∧aB ds x=some q.2)→(∀ q∈ds,SV n q.2)→SV (n + 1) (.dict ds)
theorem SV.up {n m:Nat} {d:PyData} (h:SV n d) (l:n≤m):SV m d:=by
 induction h generalizing m with
 | int=>exact .int
 | str=>exact .str
 | tup hl _ ih=>
  obtain ⟨m,rfl⟩:=bb m (by omega)
  exact .tup hl fun d hd=>ih d hd (by omega)
 | dct hq _ ih=>
  obtain ⟨m,rfl⟩:=bb m (by omega)
  exact .dct hq fun q hq'=>ih q hq' (by omega)
@[simp] theorem F7 {xs:List PyData} {i:Int}:ixA (.tuple xs) (.int i)=atI xs i:=rfl
@[simp] theorem EV {ds:Dc}:bq [.dict ds]=some (.int ds.length):=rfl
theorem tV:a6 .int .dct=false:=rfl
theorem tS:a6 .str .dct=false:=rfl
theorem Dm:a6 .dct .dct=true:=rfl
theorem tT:a6 .str .bl=false:=rfl
theorem tR:a6 .str .int=false:=rfl
theorem tW:a6 .int .bl=false:=rfl
theorem tU:a6 .int .int=true:=rfl
theorem tQ:a6 .str .str=true:=rfl
theorem mI (l:List PyData):gh [.list (l.map fun _=>.bool true)]=some (.bool true):=by
 rw [Cb (fun _=>true)]
 simp
theorem m7 {n:Nat} {d:PyData} (h:SV n d):∀ k T,n < k→bw k [.d d,.d d] T=some (.bool true,T):=by
 induction h with
 | int=>
  intro k T hk
  obtain ⟨k,rfl⟩:=bb k (by omega)
  simp [bw,f6,eV,isNone,tV,tS,tT,tR,tW,tU,tQ]
 | str=>
  intro k T hk
  obtain ⟨k,rfl⟩:=bb k (by omega)
  simp [bw,f6,eV,isNone,tV,tS,tT,tR,tW,tU,tQ]
 | tup hl hs ih=>
  rename_i n xs
  intro k T hk
  obtain ⟨k,rfl⟩:=bb k (by omega)
  have hr:=hJ (j:=(xs.length:Int)) (by omega) (by omega)
  have c:=dE (e:=ar (bw k) (ae (ag ixA (aa 1) (aa 0)) (ae (ag ixA (aa 2) (aa 0)) ai))) (ρ:=[some (.d (.tuple xs)),some (.d (.tuple xs))]) (T:=T) (g:=fun _=>.bool true) (ds:=bF 0 xs.length) fun d hd=>by
   obtain ⟨i,hi,rfl⟩:=List.mem_map.mp hd
   have hi':=List.mem_range.mp hi
   obtain ⟨a,ha,hm⟩:=fB (xs:=xs) (i:=0 + (i:Int)) (by omega) (by omega)
   have:=ih a hm k T (by omega)
   rw [Int.zero_add] at ha
   simp [ha,this]
  have al:=mI (bF 0 xs.length)
  simp [bw,f6,eV,hr,c,al]
 | dct hq hs ih=>
  rename_i n ds
  intro k T hk
  obtain ⟨k,rfl⟩:=bb k (by omega)
  have c:=dE (e:=bY (ag inA (aa 0) (aa 1)) (ar (bw k) (ae (ag ixA (aa 1) (aa 0)) (ae (ag ixA (aa 2) (aa 0)) ai)))) (ρ:=[some (.d (.dict ds)),some (.d (.dict ds))]) (T:=T) (g:=fun _=>.bool true) (ds:=ds.map (·.1)) fun d hd=>by
   obtain ⟨q,hq1,rfl⟩:=List.mem_map.mp hd
   obtain ⟨x,e1,e2⟩:=hq q hq1
   have:=ih q hq1 k T (by omega)
   rw [e1]
   simp [e2,this]
  have al:=mI (ds.map (·.1))
  simp only [List.map_map] at al
  simp [bw,f6,eV,c,Dm,al]
theorem pL:∀ (n:Nat) (d:PyData),aF n d=true→SV n d
 | n,.int i,_=>.int
 | n,.str x,_=>.str
 | n,.none,h=>by cases n <;> cases h
 | n,.bool _,h=>by cases n <;> cases h
 | n,.list _,h=>by cases n <;> cases h
 | n,.dict _,h=>by cases n <;> cases h
 | 0,.tuple _,h=>by cases h
 | n + 1,.tuple xs,h=>by
  have h':(decide (xs.length≤8) && xs.all (aF n))=true:=h
  rw [Bool.and_eq_true] at h'
  have l:=of_decide_eq_true h'.1
  exact .tup (by omega) fun d hd=>pL n d (List.all_eq_true.mp h'.2 d hd)
theorem rM {v:PyData} (h:aG v=true):SV 4 v:=pL 4 v (b9 h).1
theorem m9 {m:Int} {n:Nat} {e:PyData} (h:Ex m n e):SV (n + n + 5) e:=by
 induction h with
 | put hv=>
  refine .tup (by simp) fun d hd=>?_
  simp at hd
  rcases hd with rfl | rfl
  ·exact .str
  ·exact (rM hv).up (by omega)
 | got _ _=>
  refine .tup (by simp) fun d hd=>?_
  simp at hd
  rcases hd with rfl | rfl
  ·exact .str
  ·exact .int
 | row hl hx ih=>
  rename_i n es
  have e:n + 1 + (n + 1) + 5=(n + n + 5 + 1) + 1:=by omega
  rw [e]
  refine .tup (by simp) fun d hd=>?_
  simp at hd
  rcases hd with rfl | rfl
  ·exact .str
  ·exact .tup (by omega) fun d hd=>ih d hd
 | many _ ih=>
  rename_i n e _
  have e:n + 1 + (n + 1) + 5=(n + n + 5 + 1) + 1:=by omega
  rw [e]
  refine .tup (by simp) fun d hd=>?_
  simp at hd
  rcases hd with rfl | rfl
  ·exact .str
  ·exact ih.up (by omega)
 | pair _ _ _ iha ihb=>
  rename_i n w a b _ _ _
  have e:n + 1 + (n + 1) + 5=(n + n + 5 + 1) + 1:=by omega
  rw [e]
  refine .tup (by simp) fun d hd=>?_
  simp at hd
  rcases hd with rfl | rfl | rfl
  ·exact .str
  ·exact iha.up (by omega)
  ·exact ihb.up (by omega)
theorem CI {p:Bool} {g n:Nat} {r:PyData} (h:Rg p g n r):SV (n + n + 5) r:=by
 induction h with
 | fail _=>
  refine .tup (by simp) fun d hd=>?_
  simp at hd
  rcases hd with rfl | rfl
  ·exact .str
  ·exact .str
 | say he=>
  rename_i g n e
  have e:n + 1 + (n + 1) + 5=(n + n + 5 + 1) + 1:=by omega
  rw [e]
  refine .tup (by simp) fun d hd=>?_
  simp at hd
  rcases hd with rfl | rfl
  ·exact .str
  ·exact (m9 he).up (by omega)
 | ask _ _ he _ ih=>
  rename_i g n w e r _ _ _
  have e:n + 1 + (n + 1) + 5=(n + n + 5 + 1) + 1:=by omega
  rw [e]
  refine .tup (by simp) fun d hd=>?_
  simp at hd
  rcases hd with rfl | rfl | rfl
  ·exact .str
  ·exact (m9 he).up (by omega)
  ·exact ih.up (by omega)
 | whn he _ _ ihr ihs=>
  rename_i g n e r s _ _
  have e:n + 1 + (n + 1) + 5=(n + n + 5 + 1) + 1:=by omega
  rw [e]
  refine .tup (by simp) fun d hd=>?_
  simp at hd
  rcases hd with rfl | rfl | rfl | rfl
  ·exact .str
  ·exact (m9 he).up (by omega)
  ·exact ihr.up (by omega)
  ·exact ihs.up (by omega)
def bJ (A T:Tp):Prop:=∃ (ds:List PyData) (i:Int),T=A++[[.list ds,.int i]]∧0≤i∧0 < ds.length∧ds.length≤1000∧∀ d∈ds,∃ c:Int,d=.int c
theorem AI {o:PyData→PyData→Option PyData} {A:Tp} {zs xs:List PyData} {y:PyData}:op2 o (A++[.list zs::xs]) (.tp A.length) (.d y)=mkD (A++[.list zs::xs]) (o (.list (.list zs::xs)) y):=by
 have h:view (A++[.list zs::xs]) (.tp A.length)=some (.list (.list zs::xs)):=by simp [view,iP,isO]
 unfold op2
 rw [h]
 rfl
theorem xX {α:Type} (A:List α) (a b:α):(A++[a]).set A.length b=A++[b]:=by
 induction A with
 | nil=>rfl
 | cons x r ih=>exact congrArg (x::·) ih
theorem yQ {A:Tp} {a b:List PyData}:(A++[a]).set A.length b=A++[b]:=xX A a b
theorem Dl:ixN 2 1=some 1:=rfl
theorem fH {α:Type} {a b:α}:atI [a,b] 0=some a:=rfl
theorem fG {α:Type} {a b:α}:atI [a,b] 1=some b:=rfl
theorem bS {A T:Tp} {m:Int} (t:bJ A T) (h1:0 < m):∃ r T',bf [.tp A.length,.d (.int m)] T=some (.int r,T')∧bJ A T'∧0≤r∧r < m:=by
 obtain ⟨ds,i,rfl,hi,hl,hl2,hd⟩:=t
 have hp:(0:Int) < (ds.length:Int):=by omega
 obtain ⟨d,e1,hm⟩:=fB (xs:=ds) (i:=i % (ds.length:Int)) (Int.emod_nonneg _ (by omega)) (Int.emod_lt_of_pos _ hp)
 obtain ⟨c,rfl⟩:=hd d hm
 refine ⟨c % m,A++[[.list ds,.int (i + 1)]],?_,⟨ds,i + 1,rfl,by omega,hl,hl2,hd⟩,Int.emod_nonneg _ (by omega),Int.emod_lt_of_pos _ h1⟩
 have e2:i + 1 - 1=i:=by omega
 simp [bf,nJ,AI,fH,fG,Dl,yQ,e2,hp,e1,h1,hl]
def dwB:FS:=(aq (aQ 4 (ag bT (ag aU (ag aU (ag bO (aa 4) (aa 4)) (ag bO (fC (.int 48271)) (aa 4))) (ag bO (fC (.int 7)) (aa 5))) (fC (.int 2147483647)))) (fIf (aH (ag gtD (aa 3) (fC (.int 0)))) (aq (cX 2 (ag bT (aa 3) (fC (.int 720720)))) (aQ 3 (ag fF (aa 3) (fC (.int 720720))))) (cX 2 (ag fF (ag bT (ag aU (ag bO (aa 4) (fC (.int 69621))) (ag bO (fC (.int 13)) (aa 5))) (fC (.int 2147483629))) (fC (.int 3))))))
theorem tZ:ff=aW 6 (aq (dI 2 ai) (aq (aQ 3 (fC (.int 0))) (aq (fIf (aH (ag geD (aa 0) (ag gb (fC (.int 10)) (fC (.int 18))))) (aQ 3 (aa 0)) aK) (aq (aQ 4 (ag aU (ag bT (aa 0) (fC (.int 2147483629))) (fC (.int 48271)))) (aq (ck 5 (eM (aa 1)) dwB) (ax (aa 2))))))):=rfl
def ρD (c N:Int) (fs:List PyData) (nu mi:Int) (o:Option D.W):Rho:=[some (.d (.int c)),some (.d (.int N)),some (.loc (.list fs)),some (.d (.int nu)),some (.d (.int mi)),o]
theorem jR:1000 < sizeLine:=by decide
theorem sH {c N:Int} {T:Tp}:∀ (ks:List Int) (fs:List PyData) (nu mi:Int) (o:Option D.W),-18446744073709551616 < mi→mi < 18446744073709551616→fs.length + ks.length≤1000→(∀ d∈fs,∃ c:Int,d=.int c) →
  ∃ fs' nu' mi' o',forL 5 dwB (ks.map PyData.int) (ρD c N fs nu mi o) T=some ((.nx,ρD c N fs' nu' mi' o'),T)∧fs'.length=fs.length + ks.length∧∀ d∈fs',∃ c:Int,d=.int c
 | [],fs,nu,mi,o,_,_,_,hf=>⟨fs,nu,mi,o,rfl,by simp,hf⟩
 | k::ks,fs,nu,mi,o,h1,h2,hl,hf=>by
  have hl':fs.length + (ks.length + 1)≤1000:=hl
  have bl:=jR
  have hl1:fs.length < sizeLine:=by omega
  have m2:0≤(mi * mi + 48271 * mi + 7 * k) % 2147483647∧(mi * mi + 48271 * mi + 7 * k) % 2147483647 < 2147483647:=⟨Int.emod_nonneg _ (by decide),Int.emod_lt_of_pos _ (by decide)⟩
  generalize hmi:(mi * mi + 48271 * mi + 7 * k) % 2147483647=mi' at m2
  have ap:∀ (x:Int),∀ d∈fs++[PyData.int x],∃ c:Int,d=.int c:=fun x d hd=>by
   rcases List.mem_append.mp hd with z | z
   ·exact hf d z
   ·exact ⟨x,List.mem_singleton.mp z⟩
  have hst:∃ x nu',dwB (List.set (ρD c N fs nu mi o) 5 (some (.d (.int k)))) T=some ((.nx,ρD c N (fs++[.int x]) nu' mi' (some (.d (.int k)))),T):=by
   by_cases hn:0 < nu
   ·refine ⟨nu % 720720,nu / 720720,?_⟩
    simp [dwB,ρD,h1,h2,hn,hl1,hmi]
   ·refine ⟨(mi' * 69621 + 13 * k) % 2147483629 / 3,nu,?_⟩
    simp [dwB,ρD,h1,h2,hn,hl1,hmi]
  obtain ⟨x,nu',st⟩:=hst
  obtain ⟨fs',nu2,mi2,o2,e1,e2,e3⟩:=sH (c:=c) (N:=N) (T:=T) ks (fs++[.int x]) nu' mi' (some (.d (.int k))) (by omega) (by omega) (by simp; omega) (ap x)
  refine ⟨fs',nu2,mi2,o2,?_,by rw [e2]; simp; omega,e3⟩
  rw [List.map_cons,ij st]
  exact e1
theorem yc (n:Nat):bF 0 n=((List.range n).map fun (i:Nat)=>(i:Int)).map PyData.int:=by
 unfold bF
 rw [List.map_map]
 exact List.map_congr_left fun i _=>by simp
theorem rF {c N:Int} {T:Tp} (h0:0 < N) (h1:N≤1000):∃ ds,ff [.d (.int c),.d (.int N)] T=some (.list ds,T)∧ds.length=N.toNat∧∀ d∈ds,∃ c:Int,d=.int c:=by
 have hr:=hJ (j:=N) (by omega) h1
 have m0:0≤c % 2147483629∧c % 2147483629 < 2147483629:=⟨Int.emod_nonneg _ (by decide),Int.emod_lt_of_pos _ (by decide)⟩
 have key:∀ nu,∃ ds o,forL 5 dwB (bF 0 N.toNat) (ρD c N [] nu (c % 2147483629 + 48271) none) T=some ((.nx,o),T)∧(∃ a b d e,o=ρD c N ds a b d∧e=())∧ds.length=N.toNat∧∀ d∈ds,∃ c:Int,d=.int c:=fun nu=>by
  obtain ⟨fs',nu2,mi2,o2,e1,e2,e3⟩:=sH (c:=c) (N:=N) (T:=T) ((List.range N.toNat).map fun (i:Nat)=>(i:Int)) [] nu (c % 2147483629 + 48271) none (by omega) (by omega) (by simp; omega) (by simp)
  rw [← yc] at e1
  exact ⟨fs',_,e1,⟨_,_,_,(),rfl,rfl⟩,by rw [e2]; simp,e3⟩
 by_cases hc:1000000000000000000≤c
 ·obtain ⟨ds,o,e1,⟨a,b,d,e,rfl,_⟩,e3,e4⟩:=key c
  refine ⟨ds,?_,e3,e4⟩
  rw [tZ]
  simp [ρD] at e1
  simp [hc,hr,e1]
 ·obtain ⟨ds,o,e1,⟨a,b,d,e,rfl,_⟩,e3,e4⟩:=key 0
  refine ⟨ds,?_,e3,e4⟩
  rw [tZ]
  simp [ρD] at e1
  simp [hc,hr,e1]
theorem rK {A:Tp} {ds:List PyData} (h0:0 < ds.length) (h1:ds.length≤1000) (h:∀ d∈ds,∃ c:Int,d=.int c):bJ A (A++[[.list ds,.int 0]]):=⟨ds,0,rfl,by decide,h0,h1,h⟩
theorem m8 {ns:List Int} {k:Int} {T:Tp} (h:0≤k):∃ c:Int,cZ [.d (de ns),.d (.int k)] T=some (.int c,T):=by
 by_cases hk:k < (ns.length:Int)
 ·obtain ⟨d,e1,hm⟩:=fB (xs:=ns.map PyData.int) (i:=k) h (by simpa using hk)
  obtain ⟨c,_,rfl⟩:=List.mem_map.mp hm
  exact ⟨c,by simp [cZ,de,hk,e1]⟩
 ·exact ⟨0,by simp [cZ,de,hk]⟩
theorem zK {α:Type} (xs:List α) (a:Nat):cY xs (some (a:Int)) none=xs.drop a:=by
 have e:HT.sIx xs.length 0 (some (a:Int))=min a xs.length:=by
  show (if (a:Int) < 0 then ((a:Int) + (xs.length:Int)).toNat else min ((a:Int)).toNat xs.length)=_
  rw [if_neg (by omega)]
  simp
 have e2:HT.sIx xs.length xs.length none=xs.length:=rfl
 unfold cY
 rw [e,e2]
 by_cases h:a≤xs.length
 ·rw [Nat.min_eq_left h]
  exact List.take_of_length_le (by simp)
 ·rw [Nat.min_eq_right (by omega)]
  simp
  omega
theorem sQ {α:Type} (xs:List α) (a:Nat):cY xs none (some (a:Int))=xs.take a:=by
 have e:HT.sIx xs.length 0 none=0:=rfl
 have e2:HT.sIx xs.length xs.length (some (a:Int))=min a xs.length:=by
  show (if (a:Int) < 0 then ((a:Int) + (xs.length:Int)).toNat else min ((a:Int)).toNat xs.length)=_
  rw [if_neg (by omega)]
  simp
 unfold cY
 rw [e,e2,List.drop_zero,Nat.sub_zero]
 by_cases h:a≤xs.length
 ·rw [Nat.min_eq_left h]
 ·rw [Nat.min_eq_right (by omega),List.take_length]
  exact (List.take_of_length_le (by omega)).symm
def NW:List Str:=["told","made","say","want","wants","fails","put","got","row","peek","when","kind"].map Str.ofString
def ZZ:Str:=Str.ofString "zzzzzzzz"
def jr (l:List Str):Bool:=decide l.Nodup && l.all fun x=>isName (.str x) && decide (x≠ZZ)
def nW0 (a:Nat):List Str:=NW.drop a++NW.take a
def lc (i:Nat):Str:=⟨#[97 + i]⟩
def f1 (a k:Nat):Str:=Txt.mul (lc (a + k / 8)) ((1 + k % 8:Nat):Int)
def f2 (a t k:Nat):Str:=Txt.mul (lc a) ((a % 7:Nat):Int)++lc ((a + k) % 26)++Txt.mul (lc a) (t:Int)
theorem Cz:∀ a,a < 12→jr (nW0 a)=true∧(nW0 a).length=12:=by decide +kernel
theorem Cy:∀ a,a < 12→jr ((List.range 12).map (f1 a))=true:=by decide +kernel
theorem Cw:∀ a,a < 12→∀ t,t < 8→t < 8 - a % 7→jr ((List.range 12).map (f2 a t))=true:=by decide +kernel
theorem BV:∀ i,i < 26→LET.cps.toList[i]? = some (97 + i):=by decide +kernel
theorem m5 {i:Int} (h0:0≤i) (h1:i < 26):atI LET.cps.toList i=some (97 + i.toNat):=by
 unfold atI ixN
 rw [Az,if_pos h0,if_pos h1]
 exact BV _ (by omega)
theorem mn {l:List Str} (m:Nat) (h:jr l=true):(l.take m).Nodup∧∀ x∈l.take m,isName (.str x)=true∧x≠ZZ:=by
 have h':=h
 unfold jr at h'
 rw [Bool.and_eq_true] at h'
 exact ⟨(of_decide_eq_true h'.1).sublist (List.take_sublist ..),fun x hx=>by
  have:=List.all_eq_true.mp h'.2 x (List.mem_of_mem_take hx)
  rw [Bool.and_eq_true] at this
  exact ⟨this.1,of_decide_eq_true this.2⟩⟩
theorem ol {β:Type} (f:Nat→β) {m:Nat} (h:m≤12):(List.range m).map f=((List.range 12).map f).take m:=by rw [← List.map_take,List.take_range,Nat.min_eq_left h]
structure Nms (l:List Str) (m:Nat):Prop where
 len:l.length=m
 nd:l.Nodup
 nm:∀ x∈l,isName (.str x)=true
 nz:∀ x∈l,x≠ZZ
theorem pX {f:Nat→Str} {e:FE} {ρ:Rho} {T:Tp} {m:Nat} (h:∀ k:Nat,k < m→e (some (.d (.int (k:Int)))::ρ) T=some (.d (.str (f k)),T)):bN bG e ρ (bF 0 m) T=some (nmL ((List.range m).map f),T):=by
 have c:=dE (e:=e) (ρ:=ρ) (T:=T) (g:=fun d=>match d with
  | .int k=>.str (f k.toNat)
  | d=>d) (ds:=bF 0 m) fun d hd=>by
   obtain ⟨i,hi,rfl⟩:=List.mem_map.mp hd
   have:=h i (List.mem_range.mp hi)
   simp
   exact this
 rw [c]
 refine congrArg some (congrArg (·,T) ?_)
 unfold bF nmL
 rw [List.map_map,List.map_map]
 exact List.map_congr_left fun i _=>by simp
theorem D7:∀ a,a < 12→(Txt.mul (lc a) ((a % 7:Nat):Int)).length≤100:=by decide +kernel
theorem D6:∀ a,a < 12→∀ k,k < 12→(Txt.mul (lc a) ((a % 7:Nat):Int)++lc ((a + k) % 26)).length≤100:=by decide +kernel
theorem D5:∀ a:Nat,a < 12→∀ s:Nat,s < 8→(Txt.mul (lc a) (s:Int)).length≤100:=by decide +kernel
theorem lcl (i:Nat):(lc i).length=1:=rfl
theorem AY {A T:Tp} {m:Nat} (t:bJ A T) (h0:m≤12):∃ l T',ef [.tp A.length,.d (.int (m:Int))] T=some (.list (nmL l),T')∧bJ A T'∧Nms l m:=by
 obtain ⟨w,T1,e1,t1,w0,w1⟩:=bS (m:=4) t (by decide)
 obtain ⟨a,T2,e2,t2,a0,a1⟩:=bS (m:=12) t1 (by decide)
 obtain ⟨a,rfl⟩:∃ j:Nat,a=(j:Int):=⟨a.toNat,by omega⟩
 have a1':a < 12:=by omega
 have hr:=hJ (j:=(m:Int)) (by omega) (by omega)
 by_cases c0:w=0
 ·obtain ⟨q1,q2⟩:=Cz a a1'
  obtain ⟨n1,n2⟩:=mn m q1
  refine ⟨(nW0 a).take m,T2,?_,t2,⟨by rw [List.length_take,q2]; omega,n1,fun x hx=>(n2 x hx).1,fun x hx=>(n2 x hx).2⟩⟩
  have z:nmL ((nW0 a).take m)=((nmL NW).drop a++(nmL NW).take a).take m:=by
   simp [nmL,nW0,List.map_take,List.map_drop]
  have z2:(nmL NW)=[.str "told",.str "made",.str "say",.str "want",.str "wants",.str "fails",.str "put",.str "got",.str "row",.str "peek",.str "when",.str "kind"]:=rfl
  rw [z,z2]
  have lz:∀ xs:List PyData,xs.length=12→(xs.drop a).length + (xs.take a).length≤sizeLine:=fun xs h=>by
   have:=jR
   simp [h]
   omega
  have lz':=lz [.str "told",.str "made",.str "say",.str "want",.str "wants",.str "fails",.str "put",.str "got",.str "row",.str "peek",.str "when",.str "kind"] rfl
  simp only [ef,Dq,yz,yA,yB,if_true]
  simp [e1,e2,c0,zK,sQ,-List.length_drop,-List.length_take,lz']
 ·by_cases c1:w=1
  ·obtain ⟨n1,n2⟩:=mn m (Cy a a1')
   rw [← ol _ h0] at n1 n2
   refine ⟨(List.range m).map (f1 a),T2,?_,t2,⟨by simp,n1,fun x hx=>(n2 x hx).1,fun x hx=>(n2 x hx).2⟩⟩
   have c:=pX (f:=f1 a) (e:=(ag bO (ag ixD (aa 3) (ag aU (aa 5) (ag fF (aa 0) (fC (.int 8))))) (ag aU (fC (.int 1)) (ag bT (aa 0) (fC (.int 8)))))) (ρ:=[some (.tp A.length),some (.d (.int (m:Int))),some (.d (.str LET)),some (.d (.int w)),some (.d (.int (a:Int))),none,none]) (T:=T2) (m:=m) fun k hk=>by
    have x1:=m5 (i:=(a:Int) + (k:Int) / 8) (by omega) (by omega)
    have x2:((a:Int) + (k:Int) / 8).toNat=a + k / 8:=by omega
    rw [x2] at x1
    have x3:(0:Int)≤1 + (k:Int) % 8∧1 + (k:Int) % 8≤2000:=by omega
    have x4:((1 + k % 8:Nat):Int)=1 + (k:Int) % 8:=by omega
    have x5:Str.length (⟨#[97 + (a + k / 8)]⟩:Str)≤1000:=by show 1≤1000; decide
    simp [x1,x3,mr,x5,f1,x4,lc]
   have e0:Str.ofString "abcdefghijklmnopqrstuvwxyz" = LET:=rfl
   simp [ef,e0,e1,e2,c1,hr]
   rw [c1] at c
   simp [c]
  ·obtain ⟨s,T3,e3,t3,s0,s1⟩:=bS (m:=8 - (a:Int) % 7) t2 (by omega)
   obtain ⟨s,rfl⟩:∃ j:Nat,s=(j:Int):=⟨s.toNat,by omega⟩
   obtain ⟨n1,n2⟩:=mn m (Cw a a1' s (by omega) (by omega))
   rw [← ol _ h0] at n1 n2
   refine ⟨(List.range m).map (f2 a s),T3,?_,t3,⟨by simp,n1,fun x hx=>(n2 x hx).1,fun x hx=>(n2 x hx).2⟩⟩
   have bl:=jR
   have la:=D7 a a1'
   have lb:=D5 a a1' s (by omega)
   have xa:=m5 (i:=(a:Int)) (by omega) (by omega)
   rw [Int.toNat_natCast] at xa
   have z7:((a % 7:Nat):Int)=(a:Int) % 7:=by omega
   have xl:∀ j,Str.length (⟨#[97 + j]⟩:Str)≤1000:=fun j=>by show 1≤1000; decide
   have c:=pX (f:=f2 a s) (e:=(ag aU (ag aU (ag bO (ag ixD (aa 3) (aa 5)) (ag bT (aa 5) (fC (.int 7)))) (ag ixD (aa 3) (ag bT (ag aU (aa 5) (aa 0)) (fC (.int 26))))) (aa 7))) (ρ:=[some (.tp A.length),some (.d (.int (m:Int))),some (.d (.str LET)),some (.d (.int w)),some (.d (.int (a:Int))),none,some (.d (.str (Txt.mul (lc a) (s:Int))))]) (T:=T3) (m:=m) fun k hk=>by
    have lk:=D6 a a1' k (by omega)
    have x1:=m5 (i:=((a:Int) + (k:Int)) % 26) (by omega) (by omega)
    have x2:(((a:Int) + (k:Int)) % 26).toNat=(a + k) % 26:=by omega
    rw [x2] at x1
    rw [z7] at lk la
    have y1:(Txt.mul (lc a) ((a:Int) % 7)).length + (lc ((a + k) % 26)).length≤sizeLine:=by rw [lcl]; omega
    have y2:(Txt.mul (lc a) ((a:Int) % 7)++lc ((a + k) % 26)).length + (Txt.mul (lc a) (s:Int)).length≤sizeLine:=by omega
    have x3:(0:Int)≤(a:Int) % 7∧(a:Int) % 7≤2000:=by omega
    simp only [lc] at y1 y2
    simp only [f2,z7,lc]
    simp [xa,x1,x3,mr,xl,y1,y2]
   have e0:Str.ofString "abcdefghijklmnopqrstuvwxyz" = LET:=rfl
   have x3:(0:Int)≤(s:Int)∧(s:Int)≤2000:=by omega
   simp only [lc] at c
   simp [ef,e0,e1,e2,c0,c1,hr,e3,xa,mr,xl,x3]
   simp [c]
def mb:Nat→Int
 | 0=>1
 | n + 1=>1 + 3 * mb n
theorem mU:∀ n,1≤mb n
 | 0=>by decide
 | n + 1=>by
  have:=mU n
  show 1≤1 + 3 * mb n
  omega
def VS:List PyData:=[.int 0,.int 1,.int (-1),.int 2,.int 1000000000000000000,.int (-1000000000000000000),.str "",.str "a",.str "0",.str "-",.str (Txt.mul "a" 20),.tuple []]
theorem CA:∀ d∈VS,∀ n,aF (n + 1) d=true∧aE (n + 1) d=1:=by
 intro d hd n
 have tu:aF (n + 1) (.tuple [])=true∧aE (n + 1) (.tuple [])=1:=⟨rfl,rfl⟩
 simp [VS] at hd
 rcases hd with rfl | rfl | rfl | rfl | rfl | rfl | rfl | rfl | rfl | rfl | rfl | rfl
 ·exact cC (gp (by decide) (by decide))
 ·exact cC (gp (by decide) (by decide))
 ·exact cC (gp (by decide) (by decide))
 ·exact cC (gp (by decide) (by decide))
 ·exact cC (gp (by decide) (by decide))
 ·exact cC (gp (by decide) (by decide))
 ·exact cC (by decide +kernel)
 ·exact cC (by decide +kernel)
 ·exact cC (by decide +kernel)
 ·exact cC (by decide +kernel)
 ·exact cC (by decide +kernel)
 ·exact tu
theorem tI {l:List Str} {m:Nat} {i:Int} (h:Nms l m) (h0:0≤i) (h1:i < (l.length:Int)):∃ x,atI (nmL l) i=some (.str x)∧isName (.str x)=true:=by
 obtain ⟨d,e,hm⟩:=fB (xs:=nmL l) h0 (by simpa [nmL] using h1)
 obtain ⟨x,hx,rfl⟩:=List.mem_map.mp hm
 exact ⟨x,e,h.nm x hx⟩
theorem fV (l:List Str):(nmL l).length=l.length:=by simp [nmL]
theorem qm {l:List Str} {m:Nat} (hn:Nms l m) (hm:0 < m):∀ (n k:Nat) (A T:Tp),bJ A T→n < k→∃ d T',bW k [.tp A.length,.d (.list (nmL l)),.d (.int (n:Int))] T=some (d,T')∧bJ A T'∧aF (n + 1) d=true∧aE (n + 1) d≤mb n
 | n,0,A,T,_,hk=>absurd hk (Nat.not_lt_zero _)
 | n,k + 1,A,T,t,hk=>by
  obtain ⟨w,T1,e1,t1,w0,w1⟩:=bS (m:=10) t (by decide)
  have mp:=mU n
  have some_:(w < 6∨((n:Int)=0∧7 < w))→∃ d T',bW (k + 1) [.tp A.length,.d (.list (nmL l)),.d (.int (n:Int))] T=some (d,T')∧bJ A T'∧aF (n + 1) d=true∧aE (n + 1) d≤mb n:=fun hc=>by
   obtain ⟨i,T2,e2,t2,i0,i1⟩:=bS (m:=12) t1 (by decide)
   obtain ⟨d,hd,hmem⟩:=fB (xs:=VS) i0 (by show i < 12; exact i1)
   obtain ⟨b1,b2⟩:=CA d hmem n
   refine ⟨d,T2,?_,t2,b1,by omega⟩
   simp only [VS] at hd
   have l1:(Str.ofString "a").length≤1000:=by decide +kernel
   by_cases h6:w < 6
   ·simp [bW,e1,h6,e2,hd,l1]
   ·obtain ⟨h7,h8⟩:=hc.resolve_left h6
    simp [bW,e1,h6,h7,h8,e2,hd,l1]
  by_cases c1:w < 6
  ·exact some_ (.inl c1)
  by_cases c2:(n:Int)=0∧7 < w
  ·exact some_ (.inr c2)
  clear some_
  have l1:(Str.ofString "a").length≤1000:=by decide +kernel
  by_cases c3:w < 8
  ·have c4:¬ 7 < w:=by omega
   obtain ⟨i,T2,e2,t2,i0,i1⟩:=bS (m:=(l.length:Int)) t1 (by rw [hn.len]; omega)
   obtain ⟨x,hx,hxn⟩:=tI hn i0 i1
   obtain ⟨b1,b2⟩:=cC (n:=n + 1) (nW hxn)
   refine ⟨.str x,T2,?_,t2,b1,by omega⟩
   by_cases h0:(n:Int)=0
   ·simp [bW,e1,c1,h0,c4,c3,fV,e2,hx,l1]
   ·have h0':¬ n=0:=by omega
    simp [bW,e1,c1,h0,h0',c3,fV,e2,hx,l1]
  ·have h0:¬ (n:Int)=0:=fun z=>c2 ⟨z,by omega⟩
   obtain ⟨n,rfl⟩:=bb n (by omega)
   obtain ⟨j,T2,e2,t2,j0,j1⟩:=bS (m:=4) t1 (by decide)
   have hrj:=hJ (j:=j) j0 (by omega)
   have hs:((n + 1:Nat):Int) - 1=(n:Int):=by omega
   obtain ⟨ys,T3,e3,t3,l3,q3⟩:=pw (P:=bJ A) (Q:=fun d=>aF (n + 1) d=true∧aE (n + 1) d≤mb n) (ds:=bF 0 j.toNat)
    (e:=ar (bW k) (ae (aa 1) (ae (aa 2) (ae (ag dZ (aa 3) (fC (.int 1))) ai)))) (ρ:=[some (.tp A.length),some (.d (.list (nmL l))),some (.d (.int ((n + 1:Nat):Int))),some (.d (.int w)),some (.d (.list VS))]) t2 fun d _ T t=>by
     obtain ⟨d',T',e1,t1,b1,b2⟩:=qm hn hm n k A T t (by omega)
     refine ⟨d',T',?_,t1,b1,b2⟩
     rw [← hs] at e1
     generalize ((n + 1:Nat):Int)=N at e1 ⊢
     simp [e1]
   have hl:(ys.length:Int)=j:=by rw [l3,zf]; omega
   refine ⟨.tuple ys,T3,?_,t3,?_,?_⟩
   ·simp only [VS] at e3
    generalize ((n + 1:Nat):Int)=N at e3 h0 ⊢
    simp [bW,e1,c1,h0,c3,e2,hrj,l1,e3]
   ·show (decide (ys.length≤8) && ys.all (aF (n + 1)))=true
    rw [decide_eq_true (by omega)]
    exact List.all_eq_true.mpr fun d hd=>(q3 d hd).1
   ·show 1 + (ys.map (aE (n + 1))).sum≤1 + 3 * mb n
    have s1:=rN (f:=aE (n + 1)) (q:=mb n) fun d hd=>(q3 d hd).2
    have s2:(ys.length:Int) * mb n≤3 * mb n:=Int.mul_le_mul_of_nonneg_right (by omega) (by have:=mU n; omega)
    omega
theorem A9 {n:Nat} {d:PyData} (hn:n≤2) (hb:aF (n + 1) d=true) (hm:aE (n + 1) d≤mb n):aG d=true:=by
 obtain ⟨u1,u2⟩:=gz (n + 1) d hb
 have fin:∀ j,aF j d=true→aE j d≤40→j=4→aG d=true:=fun j a b e=>by
  subst e
  show (aF 4 d && decide (aE 4 d≤40))=true
  rw [a,decide_eq_true b]
  rfl
 match n,hn with
 | 0,_=>
  obtain ⟨v1,v2⟩:=gz 2 d u1
  obtain ⟨x1,x2⟩:=gz 3 d v1
  have hm':aE 1 d≤1:=hm
  have u2':aE 2 d=aE 1 d:=u2
  have v2':aE 3 d=aE 2 d:=v2
  have x2':aE 4 d=aE 3 d:=x2
  exact fin 4 x1 (by omega) rfl
 | 1,_=>
  obtain ⟨v1,v2⟩:=gz 3 d u1
  have hm':aE 2 d≤4:=hm
  have u2':aE 3 d=aE 2 d:=u2
  have v2':aE 4 d=aE 3 d:=v2
  exact fin 4 v1 (by omega) rfl
 | 2,_=>
  have hm':aE 3 d≤13:=hm
  have u2':aE 4 d=aE 3 d:=u2
  exact fin 4 u1 (by omega) rfl
theorem ug {l:List Str} {m:Nat} (hn:Nms l m) (hm:0 < m) {n:Nat} (h2:n≤2) {A T:Tp} (t:bJ A T):∃ d T',bW 25 [.tp A.length,.d (.list (nmL l)),.d (.int (n:Int))] T=some (d,T')∧bJ A T'∧aG d=true:=by
 obtain ⟨d,T',e,t',b1,b2⟩:=qm hn hm n 25 A T t (by omega)
 exact ⟨d,T',e,t',A9 h2 b1 b2⟩
theorem qk {l:List Str} {m:Nat} (hn:Nms l m) (hm:0 < m) {n:Nat} {g:Int} {A T:Tp} (t:bJ A T):∃ e T',eZ [.tp A.length,.d (.list (nmL l)),.d (.int g)] T=some (e,T')∧bJ A T'∧Ex g n e:=by
 have putL:∀ T,bJ A T→∃ v T',bW 25 [.tp A.length,.d (.list (nmL l)),.d (.int 1)] T=some (v,T')∧bJ A T'∧Ex g n (.tuple [.str "put",v]):=fun T t=>by
  obtain ⟨d,T',e,t',hv⟩:=ug hn hm (n:=1) (by decide) t
  exact ⟨d,T',e,t',.put hv⟩
 by_cases hg:0 < g
 ·obtain ⟨r,T1,e1,t1,r0,r1⟩:=bS (m:=3) t (by decide)
  by_cases hr:0 < r
  ·obtain ⟨i,T2,e2,t2,i0,i1⟩:=bS (m:=g) t1 hg
   exact ⟨_,T2,by simp [eZ,hg,e1,hr,e2],t2,.got i0 i1⟩
  ·obtain ⟨v,T2,e2,t2,x⟩:=putL T1 t1
   exact ⟨_,T2,by simp [eZ,hg,e1,hr,e2],t2,x⟩
 ·obtain ⟨v,T2,e2,t2,x⟩:=putL T t
  exact ⟨_,T2,by simp [eZ,hg,e2],t2,x⟩
theorem Ex.up {m:Int} {n k:Nat} {e:PyData} (h:Ex m n e) (l:n≤k):Ex m k e:=by
 induction h generalizing k with
 | put a=>exact .put a
 | got a b=>exact .got a b
 | row a _ ih=>
  obtain ⟨k,rfl⟩:=bb k (by omega)
  exact .row a fun e he=>ih e he (by omega)
 | many _ ih=>
  obtain ⟨k,rfl⟩:=bb k (by omega)
  exact .many (ih (by omega))
 | pair a _ _ i1 i2=>
  obtain ⟨k,rfl⟩:=bb k (by omega)
  exact .pair a (i1 (by omega)) (i2 (by omega))
theorem Rg.up {p:Bool} {g n k:Nat} {r:PyData} (h:Rg p g n r) (l:n≤k):Rg p g k r:=by
 induction h generalizing k with
 | fail a=>exact .fail a
 | say a=>
  obtain ⟨k,rfl⟩:=bb k (by omega)
  exact .say (a.up (by omega))
 | ask a b c _ ih=>
  obtain ⟨k,rfl⟩:=bb k (by omega)
  exact .ask a b (c.up (by omega)) (ih (by omega))
 | whn a _ _ i1 i2=>
  obtain ⟨k,rfl⟩:=bb k (by omega)
  exact .whn (a.up (by omega)) (i1 (by omega)) (i2 (by omega))
theorem A5 {l:List Str} {m:Nat} (hn:Nms l m) (hm:0 < m) {g:Int} {A T:Tp} (t:bJ A T):∃ e T',fh [.tp A.length,.d (.list (nmL l)),.d (.int g)] T=some (e,T')∧bJ A T'∧Ex g 1 e:=by
 obtain ⟨w,T1,e1,t1,w0,w1⟩:=bS (m:=10) t (by decide)
 obtain ⟨a,T2,e2,t2,xa⟩:=qk hn hm (n:=0) (g:=g) t1
 by_cases c1:w < 5
 ·by_cases c2:w=4
  ·refine ⟨.tuple [.str "many",a],T2,?_,t2,.many xa⟩
   subst c2
   simp [fh,e1,e2,fH,fG]
  ·refine ⟨a,T2,?_,t2,xa.up (by decide)⟩
   have z:w / 4=0:=by omega
   simp [fh,e1,e2,c1,z,fH,fG]
 ·obtain ⟨b,T3,e3,t3,xb⟩:=qk hn hm (n:=0) (g:=g) t2
  by_cases c5:w=5
  ·obtain ⟨j,T4,e4,t4,j0,j1⟩:=bS (m:=3) t3 (by decide)
   obtain ⟨j,rfl⟩:∃ i:Nat,j=(i:Int):=⟨j.toNat,by omega⟩
   refine ⟨.tuple [.str "row",.tuple ([a,b].take j)],T4,?_,t4,.row (by simp; omega) fun e he=>?_⟩
   ·subst c5
    simp [fh,e1,e2,e3,e4,sQ]
   ·have:=List.mem_of_mem_take he
    simp at this
    rcases this with rfl | rfl
    ·exact xa
    ·exact xb
  ·obtain ⟨i,T4,e4,t4,i0,i1⟩:=bS (m:=5) t3 (by decide)
   obtain ⟨wd,hwd,hat⟩:∃ wd∈PW,atI [PyData.str "sum",.str "join",.str "same",.str "less",.str "part"] i=some (.str (Str.ofString wd)):=by
    obtain ⟨d,h,hm⟩:=fB (xs:=[PyData.str "sum",.str "join",.str "same",.str "less",.str "part"]) i0 (by simpa using i1)
    simp at hm
    rcases hm with rfl | rfl | rfl | rfl | rfl
    ·exact ⟨"sum",by simp [PW],h⟩
    ·exact ⟨"join",by simp [PW],h⟩
    ·exact ⟨"same",by simp [PW],h⟩
    ·exact ⟨"less",by simp [PW],h⟩
    ·exact ⟨"part",by simp [PW],h⟩
   refine ⟨.tuple [.str (Str.ofString wd),a,b],T4,?_,t4,.pair hwd xa xb⟩
   simp [fh,e1,e2,e3,c1,c5,e4,hat]
theorem name_val {x:Str} (hx:isName (.str x)=true):aG (.str x)=true:=by
 obtain ⟨u1,u2⟩:=cC (n:=4) (nW hx)
 show (aF 4 (.str x) && decide (aE 4 (.str x)≤40))=true
 rw [u1,u2]
 rfl
theorem yh:isName (.str "kind")=true:=by decide +kernel
theorem jS {l:List Str} {m:Nat} (hn:Nms l m) (hm:0 < m) (hm2:m≤12) {p:Bool}:∀ (n k g:Nat) (A T:Tp),bJ A T→n < k→n + g≤12→∃ r T',bI k [.tp A.length,.d (.list (nmL l)),.d (.int (n:Int)),.d (.int (g:Int)),.d (.bool p)] T=some (r,T')∧bJ A T'∧Rg p g (n + 2) r
 | n,0,g,A,T,_,hk,_=>absurd hk (Nat.not_lt_zero _)
 | n,k + 1,g,A,T,t,hk,hg=>by
  obtain ⟨w,T1,e1,t1,w0,w1⟩:=bS (m:=8) t (by decide)
  obtain ⟨ex,T2,e2,t2,xe⟩:=A5 hn hm (g:=(g:Int)) t1
  by_cases c1:0 < n∧w < 4
  ·obtain ⟨c1,c2⟩:=c1
   obtain ⟨n,rfl⟩:=bb n (by omega)
   have c1':(0:Int) < ((n + 1:Nat):Int):=by omega
   have hs:((n + 1:Nat):Int) - 1=(n:Int):=by omega
   have hgs:((g + 1:Nat):Int)=(g:Int) + 1:=by omega
   obtain ⟨wd,T3,t3,hwd,e3⟩:∃ wd T3,bJ A T3∧(wd = "want"∨(wd = "peek"∧p=true))∧((p=false∧wd = "want"∧T3=T2)∨(p=true∧∃ j,bf [.tp A.length,.d (.int 4)] T2=some (.int j,T3)∧((j=0∧wd = "peek")∨(¬ j=0∧wd = "want")))):=by
    cases p with
    | false=>exact ⟨"want",T2,t2,.inl rfl,.inl ⟨rfl,rfl,rfl⟩⟩
    | true=>
     obtain ⟨j,T3,e3,t3,j0,j1⟩:=bS (m:=4) t2 (by decide)
     by_cases hj:j=0
     ·exact ⟨"peek",T3,t3,.inr ⟨rfl,rfl⟩,.inr ⟨rfl,j,e3,.inl ⟨hj,rfl⟩⟩⟩
     ·exact ⟨"want",T3,t3,.inl rfl,.inr ⟨rfl,j,e3,.inr ⟨hj,rfl⟩⟩⟩
   obtain ⟨j,T4,e4,t4,j0,j1⟩:=bS (m:=5) t3 (by decide)
   obtain ⟨ex',T5,x5,t5,e5⟩:∃ ex' T5,Ex (g:Int) 1 ex'∧bJ A T5∧((0 < j∧∃ i x,bf [.tp A.length,.d (.int (l.length:Int))] T4=some (.int i,T5)∧atI (nmL l) i=some (.str x)∧ex'=.tuple [.str "put",.str x])∨(¬ 0 < j∧ex'=ex∧T5=T4)):=by
    by_cases hj:0 < j
    ·obtain ⟨i,T5,e5,t5,i0,i1⟩:=bS (m:=(l.length:Int)) t4 (by rw [hn.len]; omega)
     obtain ⟨x,hx,hxn⟩:=tI hn i0 i1
     exact ⟨_,T5,.put (name_val hxn),t5,.inl ⟨hj,i,x,e5,hx,rfl⟩⟩
    ·exact ⟨ex,T4,xe,t4,.inr ⟨hj,rfl,rfl⟩⟩
   obtain ⟨r,T6,e6,t6,xr⟩:=jS hn hm hm2 (p:=p) n k (g + 1) A T5 t5 (by omega) (by omega)
   refine ⟨.tuple [.str (Str.ofString wd),ex',r],T6,?_,t6,.ask hwd (by omega) (x5.up (by omega)) xr⟩
   rw [← hs,hgs] at e6
   generalize ((n + 1:Nat):Int)=N at e6 c1' ⊢
   generalize (g:Int)=G at *
   have i0:intD [.bool false]=some (.int 0):=rfl
   have i1:intD [.bool true]=some (.int 1):=rfl
   rcases e5 with ⟨hj,i,x,y1,y2,rfl⟩ | ⟨hj,rfl,rfl⟩
   ·rcases e3 with ⟨rfl,rfl,rfl⟩ | ⟨rfl,q,e3,⟨hq,rfl⟩ | ⟨hq,rfl⟩⟩
    ·simp [bI,e1,e2,c1',c2,i0,i1,fH,fG,e4,hj,fV,y1,y2,e6]
    ·simp [bI,e1,e2,c1',c2,i0,i1,fH,fG,e3,hq,e4,hj,fV,y1,y2,e6]
    ·simp [bI,e1,e2,c1',c2,i0,i1,fH,fG,e3,hq,e4,hj,fV,y1,y2,e6]
   ·rcases e3 with ⟨rfl,rfl,rfl⟩ | ⟨rfl,q,e3,⟨hq,rfl⟩ | ⟨hq,rfl⟩⟩
    ·simp [bI,e1,e2,c1',c2,i0,i1,fH,fG,e4,hj,e6]
    ·simp [bI,e1,e2,c1',c2,i0,i1,fH,fG,e3,hq,e4,hj,e6]
    ·simp [bI,e1,e2,c1',c2,i0,i1,fH,fG,e3,hq,e4,hj,e6]
  ·by_cases c3:1 < n∧w < 6
   ·obtain ⟨c3,c4⟩:=c3
    obtain ⟨n,rfl⟩:∃ j,n=j + 2:=⟨n - 2,by omega⟩
    have c5:¬ w < 4:=fun z=>c1 ⟨by omega,z⟩
    have hs:((n + 2:Nat):Int) - 2=(n:Int):=by omega
    have c3':(1:Int) < ((n + 2:Nat):Int):=by omega
    have c3'':(0:Int) < ((n + 2:Nat):Int):=by omega
    obtain ⟨r,T3,e3,t3,xr⟩:=jS hn hm hm2 (p:=p) n k g A T2 t2 (by omega) (by omega)
    obtain ⟨s,T4,e4,t4,xs⟩:=jS hn hm hm2 (p:=p) n k g A T3 t3 (by omega) (by omega)
    refine ⟨.tuple [.str "when",ex,r,s],T4,?_,t4,.whn (n:=n + 3) (xe.up (by omega)) (xr.up (by omega)) (xs.up (by omega))⟩
    rw [← hs] at e3 e4
    generalize ((n + 2:Nat):Int)=N at e3 e4 c3' c3'' ⊢
    generalize (g:Int)=G at *
    simp [bI,e1,e2,c3',c3'',c5,c4,e3,e4]
   ·have z1:¬ ((0:Int) < (n:Int)∧w < 4):=fun z=>c1 ⟨by omega,z.2⟩
    have z3:¬ ((1:Int) < (n:Int)∧w < 6):=fun z=>c3 ⟨by omega,z.2⟩
    have say:∀ T4,bJ A T4→(¬ w=6∧T4=T2∨w=6∧∃ j,bf [.tp A.length,.d (.int 2)] T2=some (.int j,T4)∧¬ j=0)→bI (k + 1) [.tp A.length,.d (.list (nmL l)),.d (.int (n:Int)),.d (.int (g:Int)),.d (.bool p)] T=some (.tuple [.str "say",ex],T4):=fun T4 t4 h=>by
     generalize (n:Int)=N at z1 z3 ⊢
     generalize (g:Int)=G at *
     rcases h with ⟨h6,rfl⟩ | ⟨rfl,j,e3,hj⟩
     ·by_cases a0:0 < N
      ·have b0:¬ w < 4:=fun z=>z1 ⟨a0,z⟩
       by_cases a1:1 < N
       ·have b1:¬ w < 6:=fun z=>z3 ⟨a1,z⟩
        simp [bI,e1,e2,a0,b0,a1,b1,h6]
       ·simp [bI,e1,e2,a0,b0,a1,h6]
      ·have a1:¬ 1 < N:=by omega
       simp [bI,e1,e2,a0,a1,h6]
     ·simp [bI,e1,e2,e3,hj]
    by_cases c6:w=6
    ·obtain ⟨j,T3,e3,t3,j0,j1⟩:=bS (m:=2) t2 (by decide)
     by_cases hj:j=0
     ·obtain ⟨i,T4,e4,t4,i0,i1⟩:=bS (m:=(l.length:Int) + 2) t3 (by omega)
      obtain ⟨x,hx,hxn⟩:∃ x,atI (nmL l++[.str "kind",.str "name"]) i=some (.str x)∧isName (.str x)=true:=by
       obtain ⟨d,h,hmem⟩:=fB (xs:=nmL l++[.str "kind",.str "name"]) i0 (by simp [fV]; omega)
       rcases List.mem_append.mp hmem with z | z
       ·obtain ⟨x,hx,rfl⟩:=List.mem_map.mp z
        exact ⟨x,h,hn.nm x hx⟩
       ·simp at z
        rcases z with rfl | rfl
        ·exact ⟨_,h,yh⟩
        ·exact ⟨_,h,qB⟩
      refine ⟨.tuple [.str "fail",.str x],T4,?_,t4,.fail hxn⟩
      have ll:l.length + 2≤sizeLine:=by
       have:=jR
       have:=hn.len
       omega
      subst c6 hj
      generalize (n:Int)=N at z1 z3 ⊢
      generalize (g:Int)=G at *
      simp [bI,e1,e2,e3,e4,fV,hx,ll]
     ·exact ⟨_,T3,say T3 t3 (.inr ⟨c6,j,e3,hj⟩),t3,.say (xe.up (by omega)) ⟩
    ·exact ⟨_,T2,say T2 t2 (.inl ⟨c6,rfl⟩),t2,.say (xe.up (by omega))⟩
structure BkP (p:Bool) (n:Nat) (S:List Str) (D0 R0:Dc):Prop where
 dk:∀ q∈D0,∃ x v,q=(.str x,v)∧aG v=true∧aB D0 x=some v∧x∈S
 rk:∀ q∈R0,∃ x r,q=(.str x,r)∧Rg p 0 n r∧aB R0 x=some r∧aB D0 x=none∧x∈S
 rnd:(R0.map (·.1)).Nodup
 len:D0.length + R0.length=S.length
theorem BkP.nil {p:Bool} {n:Nat}:BkP p n [] [] []:=⟨by simp,by simp,by simp,rfl⟩
section
variable {p:Bool} {n:Nat} {S:List Str} {D0 R0:Dc}
theorem BkP.noD (b:BkP p n S D0 R0) {x:Str} (h:x∉S):aB D0 x=none:=by
 cases e:aB D0 x with
 | none=>rfl
 | some v=>
  obtain ⟨y,_,e1,_,_,hy⟩:=b.dk _ (gw e)
  cases e1
  exact absurd hy h
theorem BkP.noR (b:BkP p n S D0 R0) {x:Str} (h:x∉S):aB R0 x=none:=by
 cases e:aB R0 x with
 | none=>rfl
 | some v=>
  obtain ⟨y,_,e1,_,_,_,hy⟩:=b.rk _ (gw e)
  cases e1
  exact absurd hy h
theorem ma {G:Dc} {x:Str} {v:PyData} (h:aB G x=none):putN G x v=G++[(.str x,v)]:=by
 unfold putN
 rw [h,if_neg (by simp)]
theorem BkP.putD (b:BkP p n S D0 R0) {x:Str} {v:PyData} (h:x∉S) (hv:aG v=true):BkP p n (x::S) (putN D0 x v) R0:=by
 have nd:=b.noD h
 refine ⟨fun q hq=>?_,fun q hq=>?_,b.rnd,by rw [jM nd,List.length_cons]; have:=b.len; omega⟩
 ·rw [ma nd] at hq
  rcases List.mem_append.mp hq with z | z
  ·obtain ⟨y,u,rfl,h1,h2,h3⟩:=b.dk q z
   refine ⟨y,u,rfl,h1,?_,List.mem_cons_of_mem _ h3⟩
   rw [fq,if_neg (fun e=>h (by rw [e]; exact h3))]
   exact h2
  ·rw [List.mem_singleton.mp z]
   exact ⟨x,v,rfl,hv,by rw [fq,if_pos rfl],List.mem_cons_self⟩
 ·obtain ⟨y,r,rfl,h1,h2,h3,h4⟩:=b.rk q hq
  refine ⟨y,r,rfl,h1,h2,?_,List.mem_cons_of_mem _ h4⟩
  rw [fq,if_neg (fun e=>h (by rw [e]; exact h4))]
  exact h3
theorem BkP.putR (b:BkP p n S D0 R0) {x:Str} {r:PyData} (h:x∉S) (hr:Rg p 0 n r):BkP p n (x::S) D0 (putN R0 x r):=by
 have nd:=b.noR h
 refine ⟨fun q hq=>?_,fun q hq=>?_,?_,by rw [jM nd,List.length_cons]; have:=b.len; omega⟩
 ·obtain ⟨y,u,rfl,h1,h2,h3⟩:=b.dk q hq
  exact ⟨y,u,rfl,h1,h2,List.mem_cons_of_mem _ h3⟩
 ·rw [ma nd] at hq
  rcases List.mem_append.mp hq with z | z
  ·obtain ⟨y,u,rfl,h1,h2,h3,h4⟩:=b.rk q z
   refine ⟨y,u,rfl,h1,?_,h3,List.mem_cons_of_mem _ h4⟩
   rw [fq,if_neg (fun e=>h (by rw [e]; exact h4))]
   exact h2
  ·rw [List.mem_singleton.mp z]
   exact ⟨x,r,rfl,hr,by rw [fq,if_pos rfl],b.noD h,List.mem_cons_self⟩
 ·rw [ma nd,List.map_append,List.nodup_append]
  refine ⟨b.rnd,by simp,fun a ha c hc e=>?_⟩
  simp at hc
  subst hc e
  obtain ⟨q,hq,e⟩:=List.mem_map.mp ha
  obtain ⟨y,u,rfl,_,_,_,h4⟩:=b.rk q hq
  cases e
  exact h h4
theorem BkP.bk (b:BkP p n S D0 R0) (hn:n≤20) (hl:S.length≤900):Bk p n D0 R0:=⟨fun q hq=>by
  obtain ⟨x,v,e,h1,_⟩:=b.dk q hq
  exact ⟨x,v,e,h1⟩,fun q hq=>by
  obtain ⟨x,r,e,h1,h2,h3,_⟩:=b.rk q hq
  exact ⟨x,r,e,h1,h2,h3⟩,b.rnd,by rw [b.len]; exact hl,hn⟩
theorem BkP.sv (b:BkP p n S D0 R0) (hn:n≤8):SV 23 (bkD D0 R0):=by
 refine .tup (by simp) fun d hd=>?_
 simp at hd
 rcases hd with rfl | rfl
 ·refine .dct (fun q hq=>?_) fun q hq=>?_
  ·obtain ⟨x,v,rfl,_,h2,_⟩:=b.dk q hq
   exact ⟨x,rfl,h2⟩
  ·obtain ⟨x,v,rfl,h1,h2,_⟩:=b.dk q hq
   exact (rM h1).up (by omega)
 ·refine .dct (fun q hq=>?_) fun q hq=>?_
  ·obtain ⟨x,v,rfl,_,h2,_⟩:=b.rk q hq
   exact ⟨x,rfl,h2⟩
  ·obtain ⟨x,v,rfl,h1,h2,_⟩:=b.rk q hq
   exact (CI h1).up (by omega)
end
def bkF:FS:=(fIf (aH (ag eqD (ar bf (ae (aa 9) (ae (fC (.int 4)) ai))) (fC (.int 0)))) (cT 6 (ag ixD (aa 5) (aa 8)) (ar (bW 25) (ae (aa 9) (ae (aa 5) (ae (fC (.int 2)) ai))))) (cT 7 (ag ixD (aa 5) (aa 8)) (ar (bI 25) (ae (aa 9) (ae (aa 5) (ae (ag aU (fC (.int 1)) (ar bf (ae (aa 9) (ae (fC (.int 4)) ai)))) (ae (fC (.int 0)) (ae (aa 2) ai))))))))
def bkI:FS:=(iF 9 (ae (ar ff (ae (ag aU (ar cZ (ae (aa 0) (ae (ag aU (ag aU (aa 1) (fC (.int 1))) (aa 8)) ai))) (ag bO (fC (.int 977)) (aa 8))) (ae (fC (.int 60)) ai))) (ae (fC (.int 0)) ai)) bkF)
def bkS:FS:=(aq (aQ 4 (ag aU (fC (.int 3)) (ar bf (ae (aa 3) (ae (fC (.int 8)) ai))))) (aq (aQ 5 (ar ef (ae (aa 3) (ae (ag aU (aa 4) (fC (.int 2))) ai)))) (aq (f7 6) (aq (f7 7) (aq (ck 8 (eM (aa 4)) bkI) (ax (aD .tuple (ae (aa 6) (ae (aa 7) ai)))))))))
theorem AS:gn=aW 10 (iF 3 (ae (ar ff (ae (ar cZ (ae (aa 0) (ae (aa 1) ai))) (ae (fC (.int 24)) ai))) (ae (fC (.int 0)) ai)) bkS):=rfl
theorem p6 {i:Nat} {g:FA} {fr:FS} {ρ:Rho} {T:Tp}:iF i g fr ρ T=bnd (g ρ T) fun ws T1=>openK i fr ρ (dw ws) T1:=rfl
theorem p7 {i:Nat} {fr:FS} {ρ:Rho} {T:Tp} {a b:PyData}:openK i fr ρ (some [a,b]) T=ie T.length (fr (ρ.set i (some (.tp T.length))) (T++[[a,b]])):=rfl
theorem ot {n:Nat} {fl:Fl} {ρ:Rho} {T:Tp} {row:List PyData} (h:T.length=n):ie n (some ((fl,ρ),T++[row]))=some ((fl,gQ n ρ),T):=by
 have e:jg (T++[row])=some (T,row):=by
  unfold jg
  have h1:List.getLast? (T++[row])=some row:=List.getLast?_concat ..
  have h2:List.dropLast (T++[row])=T:=List.dropLast_concat ..
  rw [h1,h2]
 simp [ie,e,h]
def ρB (ns:List Int) (p:Bool) (m:Int) (l:List Str) (D0 R0:Dc) (o8 o9:Option D.W):Rho:=[some (.d (de ns)),some (.d (.int 1)),some (.d (.bool p)),some (.tp 0),some (.d (.int m)),some (.d (.list (nmL l))),some (.loc (.dict D0)),some (.loc (.dict R0)),o8,o9]
theorem Cg {ns:List Int} {p:Bool} {m:Int} {l:List Str} {D0 R0:Dc} {k:Int}:gQ 1 (ρB ns p m l D0 R0 (some (.d (.int k))) (some (.tp 1)))=ρB ns p m l D0 R0 (some (.d (.int k))) none:=rfl
theorem Eg {ns:List Int} {p:Bool} {m:Int} {l:List Str} {j:Nat} {D0 R0:Dc} {k:Nat} {x:Str} {A T:Tp} (hA:A.length=1) (t:bJ A T) (hn:Nms l j) (hj:0 < j) (hj2:j≤12) (hx:atI (nmL l) (k:Int)=some (.str x)) (hD:D0.length≤1000) (hR:R0.length≤1000) :
  ∃ D1 R1 T',bkF (ρB ns p m l D0 R0 (some (.d (.int (k:Int)))) (some (.tp 1))) T=some ((.nx,ρB ns p m l D1 R1 (some (.d (.int (k:Int)))) (some (.tp 1))),T')∧bJ A T'∧((∃ v,aG v=true∧D1=putN D0 x v∧R1=R0)∨(∃ r,Rg p 0 6 r∧D1=D0∧R1=putN R0 x r)):=by
 obtain ⟨w,T1,e1,t1,w0,w1⟩:=bS (m:=4) t (by decide)
 rw [hA] at e1
 by_cases hw:w=0
 ·obtain ⟨v,T2,e2,t2,hv⟩:=ug hn hj (n:=2) (by decide) t1
  rw [hA] at e2
  refine ⟨putN D0 x v,R0,T2,?_,t2,.inl ⟨v,hv,rfl,rfl⟩⟩
  have e2':bW 25 [.tp 1,.d (.list (nmL l)),.d (.int 2)] T1=some (v,T2):=e2
  simp [bkF,ρB,e1,hw,e2',hx,hD]
 ·obtain ⟨i,T2,e2,t2,i0,i1⟩:=bS (m:=4) t1 (by decide)
  obtain ⟨i,rfl⟩:∃ q:Nat,i=(q:Int):=⟨i.toNat,by omega⟩
  obtain ⟨r,T3,e3,t3,hr⟩:=jS hn hj hj2 (p:=p) (1 + i) 25 0 A T2 t2 (by omega) (by omega)
  rw [hA] at e2 e3
  refine ⟨D0,putN R0 x r,T3,?_,t3,.inr ⟨r,hr.up (by omega),rfl,rfl⟩⟩
  have e3':bI 25 [.tp 1,.d (.list (nmL l)),.d (.int (1 + (i:Int))),.d (.int 0),.d (.bool p)] T2=some (r,T3):=by
   have z:((1 + i:Nat):Int)=1 + (i:Int):=by omega
   rw [z] at e3
   exact e3
  simp [bkF,ρB,e1,hw,e2,e3',hx,hR]
theorem Ef {ns:List Int} {p:Bool} {m:Int} {l:List Str} {j:Nat} {D0 R0:Dc} {k:Nat} {x:Str} {T:Tp} (hA:T.length=1) (hn:Nms l j) (hj:0 < j) (hj2:j≤12) (hx:atI (nmL l) (k:Int)=some (.str x)) (hD:D0.length≤1000) (hR:R0.length≤1000) :
  ∃ D1 R1,bkI (ρB ns p m l D0 R0 (some (.d (.int (k:Int)))) none) T=some ((.nx,ρB ns p m l D1 R1 (some (.d (.int (k:Int)))) none),T)∧((∃ v,aG v=true∧D1=putN D0 x v∧R1=R0)∨(∃ r,Rg p 0 6 r∧D1=D0∧R1=putN R0 x r)):=by
 obtain ⟨c,ec⟩:=m8 (ns:=ns) (k:=1 + 1 + (k:Int)) (T:=T) (by omega)
 obtain ⟨ds,ed,ld,hd⟩:=rF (c:=c + 977 * (k:Int)) (N:=60) (T:=T) (by decide) (by decide)
 have ld':ds.length=60:=ld
 obtain ⟨D1,R1,T',eF,tF,res⟩:=Eg (ns:=ns) (p:=p) (m:=m) hA (rK (A:=T) (ds:=ds) (by omega) (by omega) hd) hn hj hj2 hx hD hR
 obtain ⟨ds',i',rfl,_⟩:=tF
 refine ⟨D1,R1,?_,res⟩
 have oe:=ot (fl:=.nx) (ρ:=ρB ns p m l D1 R1 (some (.d (.int (k:Int)))) (some (.tp 1))) (T:=T) (row:=[.list ds',.int i']) hA
 rw [← eF,Cg] at oe
 rw [← oe]
 unfold bkI
 rw [p6]
 have z:(1:Int) + 1=2:=by decide
 rw [z] at ec
 simp [ρB,ec,ed,p7,hA]
theorem sU {ns:List Int} {p:Bool} {m:Int} {l:List Str} {j:Nat} {T:Tp} (hA:T.length=1) (hn:Nms l j) (hj:0 < j) (hj2:j≤12):∀ (c k:Nat) (S:List Str) (D0 R0:Dc) (o8:Option D.W),k + c≤j→BkP p 6 S D0 R0→S.length=k→(∀ y∈S,y∈l.take k) →
  ∃ D1 R1 S1 o,forL 8 bkI ((List.range' k c).map fun (i:Nat)=>PyData.int (i:Int)) (ρB ns p m l D0 R0 o8 none) T=some ((.nx,ρB ns p m l D1 R1 o none),T)∧BkP p 6 S1 D1 R1∧S1.length=k + c∧∀ y∈S1,y∈l.take (k + c)
 | 0,k,S,D0,R0,o8,_,b,hS,hb=>⟨D0,R0,S,o8,rfl,b,hS,hb⟩
 | c + 1,k,S,D0,R0,o8,hk,b,hS,hsub=>by
  have hkl:k < l.length:=by rw [hn.len]; omega
  have hx:atI (nmL l) (k:Int)=some (.str l[k]):=by
   unfold atI ixN
   rw [fV,if_pos (by omega),if_pos (by omega)]
   simp [nmL,hkl]
  have hnx:l[k]∉S:=fun z=>by
   have z2:=hsub _ z
   obtain ⟨i,hi,e⟩:=List.mem_take_iff_getElem.mp z2
   exact (List.pairwise_iff_getElem.mp hn.nd) i k (by omega) hkl (by omega) e
  have hlen:=b.len
  obtain ⟨D1,R1,e1,res⟩:=Ef (ns:=ns) (p:=p) (m:=m) hA hn hj hj2 hx (show D0.length≤1000 by omega) (show R0.length≤1000 by omega)
  have b1:BkP p 6 (l[k]::S) D1 R1:=by
   rcases res with ⟨v,hv,rfl,rfl⟩ | ⟨r,hr,rfl,rfl⟩
   ·exact b.putD hnx hv
   ·exact b.putR hnx hr
  obtain ⟨D2,R2,S2,o,e2,b2,h2,h3⟩:=sU (ns:=ns) (p:=p) (m:=m) hA hn hj hj2 c (k + 1) (l[k]::S) D1 R1 (some (.d (.int (k:Int)))) (by omega) b1 (by simp; omega) fun y hy=>by
   rcases List.mem_cons.mp hy with rfl | z
   ·exact List.mem_take_iff_getElem.mpr ⟨k,by omega,rfl⟩
   ·exact List.take_subset_take_left l (by omega) (hsub y z)
  refine ⟨D2,R2,S2,o,?_,b2,by omega,fun y hy=>by have:=h3 y hy; rwa [show k + 1 + c=k + (c + 1) by omega] at this⟩
  have st:bkI (List.set (ρB ns p m l D0 R0 o8 none) 8 (some (.d (.int (k:Int))))) T=some ((.nx,ρB ns p m l D1 R1 (some (.d (.int (k:Int)))) none),T):=e1
  rw [List.range'_succ,List.map_cons,ij st]
  exact e2
theorem wA (n:Nat):bF 0 n=(List.range' 0 n).map fun (i:Nat)=>PyData.int (i:Int):=by
 unfold bF
 rw [List.range_eq_range']
 exact List.map_congr_left fun i _=>by simp
theorem Cs (ns:List Int) (p:Bool):∃ D0 R0 S,gn [.d (de ns),.d (.int 1),.d (.bool p)] []=some (bkD D0 R0,[])∧BkP p 6 S D0 R0∧S.length≤10∧∀ y∈S,isName (.str y)=true∧y≠ZZ:=by
 obtain ⟨c,ec⟩:=m8 (ns:=ns) (k:=1) (T:=[]) (by omega)
 obtain ⟨ds,ed,ld,hd⟩:=rF (c:=c) (N:=24) (T:=[]) (by decide) (by decide)
 have ld':ds.length=24:=ld
 obtain ⟨w,T1,e1,t1,w0,w1⟩:=bS (m:=8) (rK (A:=[]) (ds:=ds) (by omega) (by omega) hd) (by decide)
 obtain ⟨w,rfl⟩:∃ q:Nat,w=(q:Int):=⟨w.toNat,by omega⟩
 obtain ⟨l,T2,e2,t2,hn⟩:=AY (m:=3 + w + 2) t1 (by omega)
 have hA:T2.length=1:=by
  obtain ⟨_,_,rfl,_⟩:=t2
  rfl
 obtain ⟨D1,R1,S1,o,e3,b,hS,hY⟩:=sU (ns:=ns) (p:=p) (m:=3 + (w:Int)) hA hn (by omega) (by omega) (3 + w) 0 [] [] [] none (by omega) BkP.nil rfl (by simp)
 refine ⟨D1,R1,S1,?_,b,by omega,fun y hy=>⟨hn.nm y (List.mem_of_mem_take (hY y hy)),hn.nz y (List.mem_of_mem_take (hY y hy))⟩⟩
 rw [← wA] at e3
 have zt:(3 + (w:Int)).toNat=3 + w:=by omega
 have hr:=hJ (j:=3 + (w:Int)) (by omega) (by omega)
 have z2:((3 + w + 2:Nat):Int)=3 + (w:Int) + 2:=by omega
 rw [z2] at e2
 have e1':bf [.tp 0,.d (.int 8)] [[.list ds,.int 0]]=some (.int (w:Int),T1):=e1
 have e2':ef [.tp 0,.d (.int (3 + (w:Int) + 2))] T1=some (.list (nmL l),T2):=e2
 have es:bkS [some (.d (de ns)),some (.d (.int 1)),some (.d (.bool p)),some (.tp 0),none,none,none,none,none,none] [[.list ds,.int 0]]=some ((.rt (bkD D1 R1),ρB ns p (3 + (w:Int)) l D1 R1 o none),T2):=by
  simp [ρB] at e3
  simp [bkS,e1',e2',hr,zt,e3,ρB,bkD]
 obtain ⟨ds',i',rfl,_⟩:=t2
 have oe:=ot (n:=0) (fl:=.rt (bkD D1 R1)) (ρ:=ρB ns p (3 + (w:Int)) l D1 R1 o none) (T:=[]) (row:=[.list ds',.int i']) rfl
 rw [← es] at oe
 rw [AS]
 simp [p6,ec,ed,p7]
 exact congrArg eK oe
def kn (ds:Dc):List Str:=ds.map fun q=>nm q.1
theorem qI {ds:Dc} (h:∀ q∈ds,∃ x,q.1=.str x):eJ ds=nmL (kn ds):=by
 unfold eJ nmL kn
 rw [List.map_map]
 exact List.map_congr_left fun q hq=>by
  obtain ⟨x,e⟩:=h q hq
  show q.1=PyData.str (nm q.1)
  rw [e]
  rfl
theorem BkP.dkn {p:Bool} {n:Nat} {S:List Str} {D0 R0:Dc} (b:BkP p n S D0 R0):eJ D0=nmL (kn D0):=qI fun q hq=>by
 obtain ⟨x,v,rfl,_⟩:=b.dk q hq
 exact ⟨x,rfl⟩
theorem BkP.rkn {p:Bool} {n:Nat} {S:List Str} {D0 R0:Dc} (b:BkP p n S D0 R0):eJ R0=nmL (kn R0):=qI fun q hq=>by
 obtain ⟨x,v,rfl,_⟩:=b.rk q hq
 exact ⟨x,rfl⟩
theorem AJ {f:FE} {ρ:Rho} {T:Tp}:iM f ρ T=bnd (f ρ T) fun w T1=>kQ (gY (view T1 w)) T1:=rfl
theorem zB {ds:Dc} {T:Tp}:kQ (some ds) T=some (.d (.dict ds),T):=rfl
theorem rQ {ds:Dc} {l:List Str} (hk:eJ ds=nmL l) (h:l.length < 64):gD (.dict ds)=some (.list (nmL (cD l))):=by
 have e:dq (nmL l)=some l:=by
  have:=jB (fun x:Str=>x) l
  simpa [nmL] using this
 show kA (dq (eJ ds))=_
 rw [hk,e]
 show (if l.length < 64 then _ else _)=_
 rw [if_pos h]
 rfl
theorem mW (ds:Dc):(kn ds).length=ds.length:=by simp [kn]
theorem CJ {p:Bool} {n:Nat} {s:St3} {x:Str} (h:OkS p n s):SV 3 (ln x s):=by
 have r1:=h.rd
 have r2:=h.le
 refine .tup (by simp) fun d hd=>?_
 simp at hd
 rcases hd with rfl | rfl | rfl
 ·exact .str
 ·refine .tup (by simp; omega) fun d hd=>?_
  obtain ⟨d',hd',rfl⟩:=List.mem_map.mp hd
  obtain ⟨y,v,rfl,hv⟩:=h.rv d' hd'
  refine .tup (by simp) fun d hd=>?_
  simp at hd
  rcases hd with rfl | rfl <;> exact .str
 ·rcases en h.st with ⟨v,ev,hv⟩ | ⟨y,ev,_⟩ | ⟨b,y,r',ev,_⟩
  ·rw [ev,qU]
   refine .tup (by simp) fun d hd=>?_
   simp at hd
   rcases hd with rfl | rfl <;> exact .str
  ·rw [ev,qV]
   refine .tup (by simp) fun d hd=>?_
   simp at hd
   rcases hd with rfl | rfl <;> exact .str
  ·rw [ev,mx]
   refine .tup (by simp) fun d hd=>?_
   simp at hd
   rcases hd with rfl | rfl <;> exact .str
theorem qt (b:Bool) (k:Nat) (T:Tp):bw (k + 1) [.d (.bool b),.d (.bool b)] T=some (.bool true,T):=by
 have k1:a6 .bl .dct=false:=rfl
 have k2:a6 .bl .bl=true:=rfl
 cases b <;> simp [bw,f6,eV,isNone,k1,k2]
theorem yR {k:Nat} {x:Str} {T:Tp} (a1:bw k [.d (.bool true),.d (.bool true)] T=some (.bool true,T)) (a2:bw k [.d (.bool false),.d (.bool false)] T=some (.bool true,T)) (a3:bw k [.d (.str x),.d (.str x)] T=some (.bool true,T)) :
  bw (k + 1) [.d (.list [.bool true,.bool false,.str x]),.d (.list [.bool true,.bool false,.str x])] T=some (.bool true,T):=by
 have hr:=hJ (j:=3) (by omega) (by omega)
 have nn:bF 0 3=[.int 0,.int 1,.int 2]:=rfl
 have c:bN bG (ar (bw k) (ae (ag ixA (aa 1) (aa 0)) (ae (ag ixA (aa 2) (aa 0)) ai))) [some (.d (.list [.bool true,.bool false,.str x])),some (.d (.list [.bool true,.bool false,.str x]))] (bF 0 3) T=some ((bF 0 3).map fun _=>.bool true,T):=dE fun d hd=>by
  rw [nn] at hd
  simp at hd
  have b0:ixA (.list [.bool true,.bool false,.str x]) (.int 0)=some (.bool true):=rfl
  have b1:ixA (.list [.bool true,.bool false,.str x]) (.int 1)=some (.bool false):=rfl
  have b2:ixA (.list [.bool true,.bool false,.str x]) (.int 2)=some (.str x):=rfl
  rcases hd with rfl | rfl | rfl
  ·simp [b0,a1]
  ·simp [b1,a2]
  ·simp [b2,a3]
 have al:=mI (bF 0 3)
 have k1:a6 .lst .tup=false:=rfl
 have k2:a6 .lst .lst=true:=rfl
 simp [bw,f6,eV,hr,c,al,k1,k2]
theorem z6 (x:Str) (T:Tp):bw 25 [.d (.list [.bool true,.bool false,.str x]),.d (.list [.bool true,.bool false,.str x])] T=some (.bool true,T):=yR (k:=24) (qt true 23 T) (qt false 23 T) (m7 (SV.str (n:=0) (x:=x)) 24 T (by decide))
theorem Ax {x:Str} (h:isName (.str x)=true):x.length≤8∧∀ c∈x.cps.toList,c < 16 ^ 8:=by
 have h':(decide (1≤x.length) && decide (x.length≤8) && has LET x)=true:=h
 rw [Bool.and_eq_true,Bool.and_eq_true] at h'
 exact ⟨of_decide_eq_true h'.1.2,fun c hc=>Nat.lt_trans (K1.iC K1.Ct h'.2 c hc) (by decide)⟩
section
variable {p:Bool} {n:Nat} {S:List Str} {D0 R0:Dc}
def lI:FS:=(fIf (bH (aV (ar (bw 25) (ae (ar fO (ae (aa 1) (ae (aa 4) ai))) (ae (ar fg (ae (aa 2) (ae (aa 3) (ae (aa 4) ai)))) ai))))) (ax (fC (.bool false))) aK)
def lJ:FS:=(fIf (bH (aV (ar (bw 25) (ae (ar fN (ae (aa 1) (ae (aa 4) ai))) (ae (aD .list (ae (fC (.bool true)) (ae (fC (.bool false)) (ae (aa 4) ai)))) ai))))) (ax (fC (.bool false))) aK)
theorem BW:kI=aW 5 (aq (aQ 1 (ar gn (ae (aa 0) (ae (fC (.int 1)) (ae (ag eqD (ag bT (ar cZ (ae (aa 0) (ae (fC (.int 0)) ai))) (fC (.int 3))) (fC (.int 0))) ai))))) (aq (aQ 2 (aD .tuple (ae (iM (ag ixD (aa 1) (fC (.int 0)))) (ae (iM (ag ixD (aa 1) (fC (.int 1)))) ai)))) (aq (aQ 3 (ar gm (ae (aa 2) ai))) (aq (ck 4 (bD (fUn gD (ag ixD (aa 1) (fC (.int 1))))) lI) (aq (ck 4 (bD (ag aU (fUn gD (ag ixD (aa 1) (fC (.int 0)))) (aD .list (ae (fC (.str "zzzzzzzz")) (ae (fC (.str "A")) (ae (fC (.str "")) ai)))))) lJ) (ax (ar (bw 25) (ae (aa 1) (ae (aa 2) ai))))))))):=rfl
def ρQ (d0:PyData) (D0 R0 GL:Dc) (o:Option D.W):Rho:=[some (.d d0),some (.d (bkD D0 R0)),some (.d (bkD D0 R0)),some (.d (.dict GL)),o]
theorem sm (B:Bk p n D0 R0) {GL:Dc} (s2:Snd D0 R0 GL) (d2:Sub D0 GL) (c2:∀ x,ClsAt R0 GL x) {d0:PyData} {T:Tp}:∀ (ys:List Str) (o:Option D.W),(∀ y∈ys,∃ r,aB R0 y=some r)→∃ o',forL 4 lI (nmL ys) (ρQ d0 D0 R0 GL o) T=some ((.nx,ρQ d0 D0 R0 GL o'),T)
 | [],o,_=>⟨o,rfl⟩
 | x::ys,o,h=>by
  obtain ⟨r,hr⟩:=h x (List.mem_cons_self ..)
  obtain ⟨o',ih⟩:=sm B s2 d2 c2 (d0:=d0) (T:=T) ys (some (.d (.str x))) fun y hy=>h y (List.mem_cons_of_mem _ hy)
  refine ⟨o',?_⟩
  obtain ⟨G,e1,s1,d1,c1,ok⟩:=zU B hr T
  have gv:=Snd.gv B s2
  have e2:=A0 B gv hr T
  have es:run GL (s0 r)=run G (s0 r):=jE (fun y=>yt B d2 s2 c2 d1 s1 c1 y) gv B.n20 (dr (B.rg hr).1 B.n20)
  rw [es] at e2
  have e3:=m7 (CJ (x:=x) ok) 25 T (by decide)
  have st:lI ((ρQ d0 D0 R0 GL o).set 4 (some (.d (.str x)))) T=some ((.nx,ρQ d0 D0 R0 GL (some (.d (.str x)))),T):=by
   simp [ρQ,lI,e1,e2,e3]
  exact (ij st).trans ih
theorem sk (B:Bk p n D0 R0) {GL:Dc} {d0:PyData} {T:Tp}:∀ (ys:List Str) (o:Option D.W),(∀ y∈ys,aB R0 y=none∧y.length≤1000∧∀ c∈y.cps.toList,c < 16 ^ 8)→∃ o',forL 4 lJ (nmL ys) (ρQ d0 D0 R0 GL o) T=some ((.nx,ρQ d0 D0 R0 GL o'),T)
 | [],o,_=>⟨o,rfl⟩
 | x::ys,o,h=>by
  obtain ⟨h1,h2,h3⟩:=h x (List.mem_cons_self ..)
  obtain ⟨o',ih⟩:=sk B (GL:=GL) (d0:=d0) (T:=T) ys (some (.d (.str x))) fun y hy=>h y (List.mem_cons_of_mem _ hy)
  refine ⟨o',?_⟩
  have e1:=yL B h1 h2 h3 T
  have e3:=z6 x T
  have st:lJ ((ρQ d0 D0 R0 GL o).set 4 (some (.d (.str x)))) T=some ((.nx,ρQ d0 D0 R0 GL (some (.d (.str x)))),T):=by
   simp [ρQ,lJ,e1,e3]
  exact (ij st).trans ih
end
theorem zl:∀ ns:List Int,ns.length≤63→∃ T',kI [.d (de ns)] []=some (.bool true,T'):=by
 intro ns _
 obtain ⟨c,ec⟩:=m8 (ns:=ns) (k:=0) (T:=[]) (by omega)
 obtain ⟨D0,R0,S,eb,b,hS,hY⟩:=Cs ns (decide (c % 3=0))
 have B:=b.bk (by decide) (by omega)
 obtain ⟨GL,eg,s2,d2,c2⟩:=A4 B []
 have bl:=b.len
 have sR:=rQ b.rkn (by rw [mW]; omega)
 have sD:=rQ b.dkn (by rw [mW]; omega)
 obtain ⟨o1,f1⟩:=sm B s2 d2 c2 (d0:=de ns) (T:=[]) (cD (kn R0)) none fun y hy=>by
  have hy':=(g6 _).mem_iff.mp hy
  obtain ⟨q,hq,rfl⟩:=List.mem_map.mp hy'
  obtain ⟨x,r,rfl,_,h1,_⟩:=B.rk q hq
  exact ⟨r,h1⟩
 obtain ⟨o2,f2⟩:=sk B (GL:=GL) (d0:=de ns) (T:=[]) (cD (kn D0)++[Str.ofString "zzzzzzzz",Str.ofString "A",Str.ofString ""]) o1 fun y hy=>by
  rcases List.mem_append.mp hy with hy | hy
  ·have hy':=(g6 _).mem_iff.mp hy
   obtain ⟨q,hq,rfl⟩:=List.mem_map.mp hy'
   obtain ⟨x,v,rfl,_,h1,h2⟩:=b.dk q hq
   obtain ⟨n1,n2⟩:=Ax (hY x h2).1
   refine ⟨?_,Nat.le_trans n1 (by decide),n2⟩
   show aB R0 x=none
   cases z:aB R0 x with
   | none=>rfl
   | some r=>rw [(B.rg z).2] at h1; cases h1
  ·simp at hy
   rcases hy with rfl | rfl | rfl
   ·exact ⟨b.noR fun z=>(hY _ z).2 rfl,by decide +kernel,by decide +kernel⟩
   ·exact ⟨b.noR fun z=>absurd (hY _ z).1 (by decide +kernel),by decide +kernel,by decide +kernel⟩
   ·exact ⟨b.noR fun z=>absurd (hY _ z).1 (by decide +kernel),by decide +kernel,by decide +kernel⟩
 have sv:=m7 (b.sv (by decide)) 25 [] (by decide)
 refine ⟨[],?_⟩
 rw [BW]
 have ap:nmL (cD (kn D0))++[.str "zzzzzzzz",.str "A",.str ""]=nmL (cD (kn D0)++[Str.ofString "zzzzzzzz",Str.ofString "A",Str.ofString ""]):=by simp [nmL]
 have lz:(nmL (cD (kn D0))).length + 3≤sizeLine:=by
  have:=(g6 (kn D0)).length_eq
  rw [mW] at this
  have z:sizeLine=16777216:=by decide
  simp [nmL]; omega
 simp only [ρQ] at f1 f2
 have i0:ixD (bkD D0 R0) (.int 0)=some (.dict D0):=rfl
 have i1:ixD (bkD D0 R0) (.int 1)=some (.dict R0):=rfl
 have i2:PyData.tuple [.dict D0,.dict R0]=bkD D0 R0:=rfl
 simp [ec,eb,AJ,zB,i0,i1,i2,eg,sR,sD,f1,ap,lz,f2,sv]
def top (i:Nat):Stmt:=PySem.Challenge.pw_redo_k23_lines_by_good_things.main.body.getD i (.Pass ⟨0,0,0,0⟩)
def iQ (i j:Nat):Stmt:=match top i with
 | .ClassDef _ _ _ b _ _ _ _ _ _ _=>b.getD j (.Pass ⟨0,0,0,0⟩)
 | s=>s
structure Bi (K:Frag) (mg:Str→Option Value):Prop where
 b_ValueError:mg "ValueError" = none
 b_abs:mg "abs" = none
 b_all:mg "all" = none
 b_bool:mg "bool" = none
 b_dict:mg "dict" = none
 b_int:mg "int" = none
 b_isinstance:mg "isinstance" = none
 b_len:mg "len" = none
 b_list:mg "list" = none
 b_range:mg "range" = none
 b_repr:mg "repr" = none
 b_sorted:mg "sorted" = none
 b_str:mg "str" = none
 b_sum:mg "sum" = none
 b_tuple:mg "tuple" = none
 g_GETTING:uQ K mg "GETTING" ["want","peek"]
 c_LETTERS:∃ t,mg "LETTERS" = some (.str "abcdefghijklmnopqrstuvwxyz" t)
 c_MOST_LETTERS:∃ t,mg "MOST_LETTERS" = some (.int 8 t)
 c_MOST_PARTS:∃ t,mg "MOST_PARTS" = some (.int 8 t)
 c_MOST_ROWS:∃ t,mg "MOST_ROWS" = some (.int 4 t)
 c_MOST_SIGNS:∃ t,mg "MOST_SIGNS" = some (.int 20 t)
 c_MOST_VALUES:∃ t,mg "MOST_VALUES" = some (.int 40 t)
 c_TEXT_SIGNS:∃ t,mg "TEXT_SIGNS" = some (.str "abcdefghijklmnopqrstuvwxyz0123456789-" t)
 xc:∃ C R A1 A2 A3,XE.XB K C R "name" [A1,A2,A3]∧mg "NotMade" = some (.ref C)∧mg "RedoError" = some (.ref R)∧mg "NoLine" = some (.ref A1)∧mg "NoName" = some (.ref A2)∧mg "NoThing" = some (.ref A3)∧DfM K C "__init__" "NotMade.__init__" (iQ 2 0)
 xl:∃ f fd,Fun K "line_of" "line_of" (top 38) f fd∧mg "line_of" = some (.ref f)
variable {P:Program} {w:World} {K:Frag} {mg:Str→Option Value} {base:Heap} {f:Addr} {fd:FuncData}
theorem rm {j k:Nat} {A:Around} (r:Room k A) (h:j≤k:=by omega):Room j A:=r.mono h
theorem v7:FnScope ["thing"] ["thing"] (aL (top 14)):=⟨rfl,rfl,rfl,by decide +kernel,rfl,by decide +kernel,by decide +kernel⟩
theorem wm (B:Bi K mg) (F:Fun K "is_whole" "is_whole" (top 14) f fd)  : FnOk P w K mg base CX0 1 f fd ["thing"] (spM K 1 (b8)):=dfn F v7 fun _ _ _ _ _ _ hr=>(au (aC (cz (ba .int B.b_isinstance (af 0) B.b_int boot_int) (cQ (sN (ba .bl B.b_isinstance (af 0) B.b_bool boot_bool))))))
theorem wb:FnScope ["text","signs"] ["text","signs"] (aL (top 15)):=⟨rfl,rfl,rfl,by decide +kernel,rfl,by decide +kernel,by decide +kernel⟩
theorem wx (B:Bi K mg) (F:Fun K "has_only" "has_only" (top 15) f fd)  : FnOk P w K mg base CX0 1 f fd ["text","signs"] (spM K 2 (et)):=dfn F wb fun _ _ _ _ _ _ hr=>(au (aC (bt kR rfl B.b_all boot_all (ah (cI (osc:=aL (top 15)) (N:=["text","signs"]) (N':=["text","signs"]) (x:="sign") ⟨rfl,by decide +kernel,by decide +kernel,rfl,by decide +kernel,by decide +kernel,by decide +kernel,by decide +kernel,rfl,by decide +kernel⟩ (cj (af 0)) (fun C s0 H0 ex=>(bE nF (af 0) (af 2))) (fun C s0 H0 ex=>c9)) aj))))
theorem wW:FnScope ["thing"] ["thing"] (aL (top 16)):=⟨rfl,rfl,rfl,by decide +kernel,rfl,by decide +kernel,by decide +kernel⟩
theorem xj (B:Bi K mg) (F:Fun K "is_name" "is_name" (top 16) f fd) (Qan:Fn P w K mg base "has_only" ["text","signs"] 1 (spM K 2 et)):FnOk P w K mg base CX0 2 f fd ["thing"] (spM K 1 (fQ)):=dfn F wW fun _ _ _ _ _ _ hr=>(au (aC (cz (ba .str B.b_isinstance (af 0) B.b_str boot_str) (cz (zI eS eS ak (bt bM rfl B.b_len boot_len (ah (af 0) aj)) (iW rfl B.c_MOST_LETTERS)) (cQ (aJ Qan (rm hr) rfl (ah (af 0) (ah (qe rfl B.c_LETTERS) aj)) (ao (ao aI))))))))
theorem vD:FnScope ["thing"] ["thing"] (aL (top 17)):=⟨rfl,rfl,rfl,by decide +kernel,rfl,by decide +kernel,by decide +kernel⟩
theorem vO (B:Bi K mg) (F:Fun K "is_single" "is_single" (top 17) f fd) (Qab:Fn P w K mg base "is_whole" ["thing"] 1 (spM K 1 b8)) (Qan:Fn P w K mg base "has_only" ["text","signs"] 1 (spM K 2 et)):FnOk P w K mg base CX0 2 f fd ["thing"] (spM K 1 (gk)):=dfn F vD fun _ _ _ _ _ _ hr=>(az (aM (a8 (aJ Qab (rm hr) rfl (ah (af 0) aj) (ao aI))) (au (aC (bE eS (bt ud rfl B.b_abs boot_abs (ah (af 0) aj)) (aP jf ak ak)))) aO) (au (aC (cz (ba .str B.b_isinstance (af 0) B.b_str boot_str) (cz (bE eS (bt bM rfl B.b_len boot_len (ah (af 0) aj)) (iW rfl B.c_MOST_SIGNS)) (cQ (aJ Qan (rm hr) rfl (ah (af 0) (ah (qe rfl B.c_TEXT_SIGNS) aj)) (ao (ao aI)))))))))
theorem wa:FnScope ["thing","rows_left"] ["thing","rows_left"] (aL (top 18)):=⟨rfl,rfl,rfl,by decide +kernel,rfl,by decide +kernel,by decide +kernel⟩
theorem wu (n:Nat) (B:Bi K mg) (F:Fun K "is_built" "is_built" (top 18) f fd) (Qbd:Fn P w K mg base "is_single" ["thing"] 2 (spM K 1 gk)) (Qas:Fn P w K mg base "is_built" ["thing","rows_left"] (2 + n) (spM K 2 (c7 n))):FnOk P w K mg base CX0 (2 + n + 1) f fd ["thing","rows_left"] (spM K 2 (c7 (n + 1))):=dfn F wa fun _ _ _ _ _ _ hr=>(az (aM (b6 (a8 (ba .tup B.b_isinstance (af 0) B.b_tuple boot_tuple))) (au (aC (aJ Qbd (rm hr) rfl (ah (af 0) aj) (ao aI)))) aO) (az (aM (bL (cU (aN aX (af 1) ak) (dH (aN dM (bt bM rfl B.b_len boot_len (ah (af 0) aj)) (iW rfl B.c_MOST_PARTS))))) (au (aC cV)) aO) (au (aC (bt kR rfl B.b_all boot_all (ah (cI (osc:=aL (top 18)) (N:=["thing","rows_left"]) (N':=["thing","rows_left"]) (x:="part") ⟨rfl,by decide +kernel,by decide +kernel,rfl,by decide +kernel,by decide +kernel,by decide +kernel,by decide +kernel,rfl,by decide +kernel⟩ (cj (af 0)) (fun C s0 H0 ex=>(aJ Qas (rm hr) rfl (ah (af 0) (ah (aP gM (af 2) ak) aj)) (ao (ao aI)))) (fun C s0 H0 ex=>c9)) aj))))))
theorem wV:FnScope ["value"] ["value"] (aL (top 20)):=⟨rfl,rfl,rfl,by decide +kernel,rfl,by decide +kernel,by decide +kernel⟩
theorem xh (n:Nat) (B:Bi K mg) (F:Fun K "many_of" "many_of" (top 20) f fd) (Qay:Fn P w K mg base "many_of" ["value"] (0 + n) (spM K 1 (eA n))):FnOk P w K mg base CX0 (0 + n + 1) f fd ["value"] (spM K 1 (eA (n + 1))):=dfn F wV fun _ _ _ _ _ _ hr=>(az (aM (b6 (a8 (ba .tup B.b_isinstance (af 0) B.b_tuple boot_tuple))) (au (aC ak)) aO) (au (aC (aP bg ak (bt ub rfl B.b_sum boot_sum (ah (cI (osc:=aL (top 20)) (N:=["value"]) (N':=["value"]) (x:="part") ⟨rfl,by decide +kernel,by decide +kernel,rfl,by decide +kernel,by decide +kernel,by decide +kernel,by decide +kernel,rfl,by decide +kernel⟩ (cj (af 0)) (fun C s0 H0 ex=>(aJ Qay (rm hr) rfl (ah (af 0) aj) (ao aI))) (fun C s0 H0 ex=>c9)) aj))))))
theorem v8:FnScope ["thing"] ["thing"] (aL (top 19)):=⟨rfl,rfl,rfl,by decide +kernel,rfl,by decide +kernel,by decide +kernel⟩
theorem wq (B:Bi K mg) (F:Fun K "is_value" "is_value" (top 19) f fd) (Qas:Fn P w K mg base "is_built" ["thing","rows_left"] 27 (spM K 2 (c7 25))) (Qay:Fn P w K mg base "many_of" ["value"] 25 (spM K 1 (eA 25))):FnOk P w K mg base CX0 28 f fd ["thing"] (spM K 1 (gr)):=dfn F v8 fun _ _ _ _ _ _ hr=>(au (aC (cz (aJ Qas (rm hr) rfl (ah (af 0) (ah (iW rfl B.c_MOST_ROWS) aj)) (ao (ao aI))) (cQ (bE eS (aJ Qay (rm hr) rfl (ah (af 0) aj) (ao aI)) (iW rfl B.c_MOST_VALUES))))))
theorem uY:FnScope ["expr"] ["expr"] (aL (top 22)):=⟨rfl,rfl,rfl,by decide +kernel,rfl,by decide +kernel,by decide +kernel⟩
theorem u4 (B:Bi K mg) (F:Fun K "exprs_within" "exprs_within" (top 22) f fd)  : FnOk P w K mg base CX0 1 f fd ["expr"] (spM K 1 (dA)):=dfn F uY fun _ _ _ _ _ _ hr=>(az (aM (bL (cU (aN aX (av aA (af 0) ak) ay) (dH (aN aX (av aA (af 0) ak) ay)))) (au (aC (cR aj))) aO) (az (aM (aN aX (av aA (af 0) ak) ay) (au (aC (cx ku rfl B.b_list boot_list (ah (av aA (af 0) ak) aj)))) aO) (au (aC (cx ku rfl B.b_list boot_list (ah (iN (af 0) (il ak) ip) aj))))))
theorem vB:FnScope ["one","other"] ["one","other"] (aL (top 32)):=⟨rfl,rfl,rfl,by decide +kernel,rfl,by decide +kernel,by decide +kernel⟩
theorem vL (B:Bi K mg) (F:Fun K "told_less" "told_less" (top 32) f fd) (Qab:Fn P w K mg base "is_whole" ["thing"] 1 (spM K 1 b8)):FnOk P w K mg base CX0 2 f fd ["one","other"] (spM K 2 (ei)):=dfn F vB fun _ _ _ _ _ _ hr=>(az (aM (bL (cU (b6 (a8 (aJ Qab (rm hr) rfl (ah (af 0) aj) (ao aI)))) (dH (b6 (a8 (aJ Qab (rm hr) rfl (ah (af 1) aj) (ao aI))))))) (au (aC (aS (ah ay (ah ay aj))))) aO) (au (aC (aS (ah ay (ah (eN (aN d4 (af 0) (af 1)) ak ak) aj))))))
theorem wX:FnScope ["thing"] ["thing"] (aL (top 27)):=⟨rfl,rfl,rfl,by decide +kernel,rfl,by decide +kernel,by decide +kernel⟩
theorem xm (B:Bi K mg) (F:Fun K "bounded" "bounded" (top 27) f fd) (Qbn:Fn P w K mg base "is_value" ["thing"] 28 (spM K 1 gr)):FnOk P w K mg base CX0 29 f fd ["thing"] (spM K 1 (dD)):=dfn F wX fun _ _ _ _ _ _ hr=>(au (aC (eN (a8 (aJ Qbn (rm hr) rfl (ah (af 0) aj) (ao aI))) (aS (ah ay (ah (af 0) aj))) (aS (ah ay (ah ay aj))))))
theorem vA:FnScope ["value"] ["value"] (aL (top 28)):=⟨rfl,rfl,rfl,by decide +kernel,rfl,by decide +kernel,by decide +kernel⟩
theorem vK (B:Bi K mg) (F:Fun K "told_many" "told_many" (top 28) f fd) (Qab:Fn P w K mg base "is_whole" ["thing"] 1 (spM K 1 b8)):FnOk P w K mg base CX0 2 f fd ["value"] (spM K 1 (gj)):=dfn F vA fun _ _ _ _ _ _ hr=>(az (aM (a8 (aJ Qab (rm hr) rfl (ah (af 0) aj) (ao aI))) (au (aC (aS (ah ay (ah ay aj))))) aO) (au (aC (aS (ah ay (ah (bt bM rfl B.b_len boot_len (ah (af 0) aj)) aj))))))
theorem vz:FnScope ["row","number"] ["row","number"] (aL (top 29)):=⟨rfl,rfl,rfl,by decide +kernel,rfl,by decide +kernel,by decide +kernel⟩
theorem vJ (B:Bi K mg) (F:Fun K "told_part" "told_part" (top 29) f fd) (Qab:Fn P w K mg base "is_whole" ["thing"] 1 (spM K 1 b8)):FnOk P w K mg base CX0 2 f fd ["row","number"] (spM K 2 (dN)):=dfn F vz fun _ _ _ _ _ _ hr=>(az (aM (bL (cU (b6 (a8 (ba .tup B.b_isinstance (af 0) B.b_tuple boot_tuple))) (dH (b6 (a8 (aJ Qab (rm hr) rfl (ah (af 1) aj) (ao aI))))))) (au (aC (aS (ah ay (ah ay aj))))) aO) (az (aM (b6 (qa eS d4 ak (af 1) (bt bM rfl B.b_len boot_len (ah (af 0) aj)))) (au (aC (aS (ah ay (ah ay aj))))) aO) (au (aC (aS (ah ay (ah (av aA (af 0) (af 1)) aj)))))))
theorem v4:FnScope ["one","other"] ["one","other"] (aL (top 30)):=⟨rfl,rfl,rfl,by decide +kernel,rfl,by decide +kernel,by decide +kernel⟩
theorem we (B:Bi K mg) (F:Fun K "told_sum" "told_sum" (top 30) f fd) (Qab:Fn P w K mg base "is_whole" ["thing"] 1 (spM K 1 b8)) (Qah:Fn P w K mg base "bounded" ["thing"] 29 (spM K 1 dD)):FnOk P w K mg base CX0 30 f fd ["one","other"] (spM K 2 (fj)):=dfn F v4 fun _ _ _ _ _ _ hr=>(az (aM (bL (cU (b6 (a8 (aJ Qab (rm hr) rfl (ah (af 0) aj) (ao aI)))) (dH (b6 (a8 (aJ Qab (rm hr) rfl (ah (af 1) aj) (ao aI))))))) (au (aC (aS (ah ay (ah ay aj))))) aO) (au (aC (aJ Qah (rm hr) rfl (ah (aP bg (af 0) (af 1)) aj) (ao aI)))))
theorem vC:FnScope ["one","other"] ["one","other"] (aL (top 31)):=⟨rfl,rfl,rfl,by decide +kernel,rfl,by decide +kernel,by decide +kernel⟩
theorem vM (B:Bi K mg) (F:Fun K "told_join" "told_join" (top 31) f fd) (Qah:Fn P w K mg base "bounded" ["thing"] 29 (spM K 1 dD)):FnOk P w K mg base CX0 30 f fd ["one","other"] (spM K 2 (dO)):=dfn F vC fun _ _ _ _ _ _ hr=>(az (aM (bL (dj (a8 (ba .str B.b_isinstance (af 0) B.b_str boot_str)) (dR (a8 (ba .str B.b_isinstance (af 1) B.b_str boot_str))))) (au (aC (aJ Qah (rm hr) rfl (ah (aP bg (af 0) (af 1)) aj) (ao aI)))) aO) (az (aM (bL (dj (a8 (ba .tup B.b_isinstance (af 0) B.b_tuple boot_tuple)) (dR (a8 (ba .tup B.b_isinstance (af 1) B.b_tuple boot_tuple))))) (au (aC (aJ Qah (rm hr) rfl (ah (aP bg (af 0) (af 1)) aj) (ao aI)))) aO) (au (aC (aS (ah ay (ah ay aj)))))))
theorem wU:FnScope ["word","parts"] ["word","parts"] (aL (top 26)):=⟨rfl,rfl,rfl,by decide +kernel,rfl,by decide +kernel,by decide +kernel⟩
theorem w8 (B:Bi K mg) (F:Fun K "told_of" "told_of" (top 26) f fd) (Qah:Fn P w K mg base "bounded" ["thing"] 29 (spM K 1 dD)) (Qbe:Fn P w K mg base "told_many" ["value"] 2 (spM K 1 gj)) (Qbf:Fn P w K mg base "told_part" ["row","number"] 2 (spM K 2 dN)) (Qbo:Fn P w K mg base "told_sum" ["one","other"] 30 (spM K 2 fj)) (Qbg:Fn P w K mg base "told_join" ["one","other"] 30 (spM K 2 dO)) (Qbh:Fn P w K mg base "told_less" ["one","other"] 2 (spM K 2 ei)):FnOk P w K mg base CX0 31 f fd ["word","parts"] (spM K 2 (bc)):=dfn F wU fun _ _ _ _ _ _ hr=>(az (aM (aN aX (af 0) ay) (au (aC (aJ Qah (rm hr) rfl (ah (cx ir rfl B.b_tuple boot_tuple (ah (af 1) aj)) aj) (ao aI)))) aO) (az (aM (aN aX (af 0) ay) (au (aC (aJ Qbe (rm hr) rfl (ah (av aA (af 1) ak) aj) (ao aI)))) aO) (az (aM (aN aX (af 0) ay) (au (aC (aJ Qbf (rm hr) rfl (ah (av aA (af 1) ak) (ah (av aA (af 1) ak) aj)) (ao (ao aI))))) aO) (az (aM (aN aX (af 0) ay) (au (aC (aJ Qbo (rm hr) rfl (ah (av aA (af 1) ak) (ah (av aA (af 1) ak) aj)) (ao (ao aI))))) aO) (az (aM (aN aX (af 0) ay) (au (aC (aJ Qbg (rm hr) rfl (ah (av aA (af 1) ak) (ah (av aA (af 1) ak) aj)) (ao (ao aI))))) aO) (az (aM (aN aX (af 0) ay) (au (aC (aS (ah ay (ah (eN (aN (kG hr) (av aA (af 1) ak) (av aA (af 1) ak)) ak ak) aj))))) aO) (au (aC (aJ Qbh (rm hr) rfl (ah (av aA (af 1) ak) (ah (av aA (af 1) ak) aj)) (ao (ao aI)))))))))))
theorem sc_told_by:FnScope ["expr","got","parts","inner","told"] ["expr","got"] (aL (top 25)):=⟨rfl,rfl,rfl,by decide +kernel,rfl,by decide +kernel,by decide +kernel⟩
theorem xf (n:Nat) (B:Bi K mg) (F:Fun K "told_by" "told_by" (top 25) f fd) (Qav:Fn P w K mg base "exprs_within" ["expr"] 1 (spM K 1 dA)) (Qaz:Fn P w K mg base "told_by" ["expr","got"] (31 + n) (spM K 2 (cw n))) (Qbq:Fn P w K mg base "told_of" ["word","parts"] 31 (spM K 2 bc)):FnOk P w K mg base CX0 (31 + n + 1) f fd ["expr","got"] (spM K 2 (cw (n + 1))):=dfn F sc_told_by fun _ _ _ _ _ _ hr=>(az (aM (aN aX (av aA (af 0) ak) ay) (au (aC (aS (ah ay (ah (av aA (af 0) ak) aj))))) aO) (az (aM (aN aX (av aA (af 0) ak) ay) (au (aC (aS (ah ay (ah (av aA (af 1) (av aA (af 0) ak)) aj))))) aO) (az (i3 (i:=2) sc_told_by.nd aj) (az (fX (i:=3) sc_told_by.nd (cj (aJ Qav (rm hr) rfl (ah (af 0) aj) (ao aI))) (az (aY (i:=4) sc_told_by.nd (aJ Qaz (rm hr) rfl (ah (af 3) (ah (af 1) aj)) (ao (ao aI)))) (az (aM (aN aX (av aA (af 4) ak) ay) (au (aC (af 4))) aO) (au (iH (i:=2) (by exact (av aA (af 4) ak))))))) (au (aC (qf Qbq (rm hr) rfl (ah (av aA (af 0) ak) (ah (af 2) aj)) (ao (ao aI)))))))))
theorem sc_step_of:FnScope ["recipe","got","told"] ["recipe","got"] (aL (top 34)):=⟨rfl,rfl,rfl,by decide +kernel,rfl,by decide +kernel,by decide +kernel⟩
theorem xg (n:Nat) (B:Bi K mg) (F:Fun K "step_of" "step_of" (top 34) f fd) (Qaz:Fn P w K mg base "told_by" ["expr","got"] 56 (spM K 2 (cw 25))) (Qam:Fn P w K mg base "step_of" ["recipe","got"] (56 + n) (spM K 2 (bR n))) (Qbr:Fn P w K mg base "is_name" ["thing"] 2 (spM K 1 fQ)):FnOk P w K mg base CX0 (56 + n + 1) f fd ["recipe","got"] (spM K 2 (bR (n + 1))):=dfn F sc_step_of fun _ _ _ _ _ _ hr=>(az (aM (aN aX (av aA (af 0) ak) ay) (au (aC (aS (ah ay (ah (av aA (af 0) ak) aj))))) aO) (az (aY (i:=2) sc_step_of.nd (aJ Qaz (rm hr) rfl (ah (av aA (af 0) ak) (ah (af 1) aj)) (ao (ao aI)))) (az (aM (aN aX (av aA (af 2) ak) ay) (au (aC (af 2))) aO) (az (aM (aN aX (av aA (af 0) ak) ay) (au (aC (aJ Qam (rm hr) rfl (ah (eN (aN (Da hr) (av aA (af 2) ak) (aS (ah ak (ah ay (ah (aS aj) aj))))) (av aA (af 0) ak) (av aA (af 0) ak)) (ah (af 1) aj)) (ao (ao aI))))) aO) (az (aM (aN aX (av aA (af 0) ak) ay) (au (aC (aS (ah ay (ah (av aA (af 2) ak) aj))))) aO) (az (aM (b6 (a8 (aJ Qbr (rm hr) rfl (ah (av aA (af 2) ak) aj) (ao aI)))) (au (aC (aS (ah ay (ah ay aj))))) aO) (au (aC (aS (ah (av aA (af 0) ak) (ah (av aA (af 2) ak) (ah (av aA (af 0) ak) aj))))))))))))
theorem v6:FnScope ["value"] ["value"] (aL (top 36)):=⟨rfl,rfl,rfl,by decide +kernel,rfl,by decide +kernel,by decide +kernel⟩
theorem wj (n:Nat) (B:Bi K mg) (F:Fun K "stamp_of" "stamp_of" (top 36) f fd) (Qab:Fn P w K mg base "is_whole" ["thing"] 1 (spM K 1 b8)) (Qaj:Fn P w K mg base "stamp_of" ["value"] (1 + n) (spM K 1 (cH n))):FnOk P w K mg base CX0 (1 + n + 1) f fd ["value"] (spM K 1 (cH (n + 1))):=dfn F v6 fun _ _ _ _ _ _ hr=>(az (aM (a8 (aJ Qab (rm hr) rfl (ah (af 0) aj) (ao aI))) (au (aC (cx uc rfl B.b_str boot_str (ah (af 0) aj)))) aO) (az (aM (a8 (ba .str B.b_isinstance (af 0) B.b_str boot_str)) (au (aC (aP bg ay (af 0)))) aO) (au (aC (aP bg (aP bg ay (rf ay (cI (osc:=aL (top 36)) (N:=["value"]) (N':=["value"]) (x:="part") ⟨rfl,by decide +kernel,by decide +kernel,rfl,by decide +kernel,by decide +kernel,by decide +kernel,by decide +kernel,rfl,by decide +kernel⟩ (cj (af 0)) (fun C s0 H0 ex=>(aJ Qaj (rm hr) rfl (ah (af 0) aj) (ao aI))) (fun C s0 H0 ex=>c9)))) ay)))))
theorem xZ:FnScope ["step"] ["step"] (aL (top 45)):=⟨rfl,rfl,rfl,by decide +kernel,rfl,by decide +kernel,by decide +kernel⟩
theorem ya (B:Bi K mg) (F:Fun K "end_by" "end_by" (top 45) f fd) (Qaj:Fn P w K mg base "stamp_of" ["value"] 26 (spM K 1 (cH 25))):FnOk P w K mg base CX0 27 f fd ["step"] (spM K 1 (fU)):=dfn F xZ fun _ _ _ _ _ _ hr=>(az (aM (aN aX (av aA (af 0) ak) ay) (au (aC (aS (ah ay (ah (aJ Qaj (rm hr) rfl (ah (av aA (af 0) ak) aj) (ao aI)) aj))))) aO) (az (aM (aN aX (av aA (af 0) ak) ay) (au (aC (af 0))) aO) (au (aC (aS (ah ay (ah (av aA (af 0) ak) aj)))))))
theorem sc_line_from:FnScope ["name","come","reads"] ["name","come"] (aL (top 44)):=⟨rfl,rfl,rfl,by decide +kernel,rfl,by decide +kernel,by decide +kernel⟩
theorem vN (B:Bi K mg) (F:Fun K "line_from" "line_from" (top 44) f fd) (Qaj:Fn P w K mg base "stamp_of" ["value"] 26 (spM K 1 (cH 25))) (Qbt:Fn P w K mg base "end_by" ["step"] 27 (spM K 1 fU)):FnOk P w K mg base CX0 28 f fd ["name","come"] (spM K 2 (g0)):=dfn F sc_line_from fun _ _ _ _ _ _ hr=>(az (aY (i:=2) sc_line_from.nd (cx ir rfl B.b_tuple boot_tuple (ah (cI (osc:=aL (top 44)) (N:=["name","come","reads"]) (N':=["name","come","reads"]) (x:="read") ⟨rfl,by decide +kernel,by decide +kernel,rfl,by decide +kernel,by decide +kernel,by decide +kernel,by decide +kernel,rfl,by decide +kernel⟩ (cj (av aA (af 1) ak)) (fun C s0 H0 ex=>(aS (ah (av aA (af 0) ak) (ah (aJ Qaj (rm hr) rfl (ah (av aA (af 0) ak) aj) (ao aI)) aj)))) (fun C s0 H0 ex=>c9)) aj))) (au (aC (aS (ah (af 0) (ah (af 2) (ah (aJ Qbt (rm hr) rfl (ah (av aA (af 1) ak) aj) (ao aI)) aj)))))))
theorem v5:FnScope ["recipe"] ["recipe"] (aL (top 40)):=⟨rfl,rfl,rfl,by decide +kernel,rfl,by decide +kernel,by decide +kernel⟩
theorem wg (B:Bi K mg) (F:Fun K "start_of" "start_of" (top 40) f fd) (Qam:Fn P w K mg base "step_of" ["recipe","got"] 81 (spM K 2 (bR 25))):FnOk P w K mg base CX0 82 f fd ["recipe"] (spM K 1 (gq)):=dfn F v5 fun _ _ _ _ _ _ hr=>(au (aC (aS (ah (aS aj) (ah (aS aj) (ah (aJ Qam (rm hr) rfl (ah (af 0) (ah (aS aj) aj)) (ao (ao aI))) aj))))))
theorem vj:FnScope ["come"] ["come"] (aL (top 42)):=⟨rfl,rfl,rfl,by decide +kernel,rfl,by decide +kernel,by decide +kernel⟩
theorem vn (B:Bi K mg) (F:Fun K "awaited_at" "awaited_at" (top 42) f fd)  : FnOk P w K mg base CX0 1 f fd ["come"] (spM K 1 (cO)):=dfn F vj fun _ _ _ _ _ _ hr=>(au (aC (eN (aN nF (av aA (av aA (af 0) ak) ak) (zG (ss:=["want","peek"]) rfl B.g_GETTING)) (av aA (av aA (af 0) ak) ak) sO)))
theorem sc_given:FnScope ["come","value","step","got","reads"] ["come","value"] (aL (top 43)):=⟨rfl,rfl,rfl,by decide +kernel,rfl,by decide +kernel,by decide +kernel⟩
theorem ze (B:Bi K mg) (F:Fun K "given" "given" (top 43) f fd) (Qam:Fn P w K mg base "step_of" ["recipe","got"] 81 (spM K 2 (bR 25))):FnOk P w K mg base CX0 82 f fd ["come","value"] (spM K 2 (fW)):=dfn F sc_given fun _ _ _ _ _ _ hr=>(az (aY (i:=2) sc_given.nd (av aA (af 0) ak)) (az (aY (i:=3) sc_given.nd (aP bg (av aA (af 0) ak) (aS (ah (af 1) aj)))) (az (aY (i:=4) sc_given.nd (eN (aN aX (av aA (af 2) ak) ay) (aP bg (av aA (af 0) ak) (aS (ah (aS (ah (av aA (af 2) ak) (ah (af 1) aj))) aj))) (av aA (af 0) ak))) (au (aC (aS (ah (af 3) (ah (af 4) (ah (aJ Qam (rm hr) rfl (ah (av aA (af 2) ak) (ah (af 3) aj)) (ao (ao aI))) aj)))))))))
theorem sc_gone_on:FnScope ["come","good"] ["come","good"] (aL (top 41)):=⟨rfl,rfl,rfl,by decide +kernel,rfl,by decide +kernel,by decide +kernel⟩
theorem xk (B:Bi K mg) (F:Fun K "gone_on" "gone_on" (top 41) f fd) (Qat:Fn P w K mg base "awaited_at" ["come"] 1 (spM K 1 cO)) (Qbu:Fn P w K mg base "given" ["come","value"] 82 (spM K 2 fW)):FnOk P w K mg base CX0 83 f fd ["come","good"] (spM K 2 (gu)):=dfn F sc_gone_on fun _ _ _ _ _ _ hr=>(az (jP 100000 (aN (tH hr) (aJ Qat (rm hr) rfl (ah (af 0) aj) (ao aI)) (af 1)) (au (aY (i:=0) sc_gone_on.nd (aJ Qbu (rm hr) rfl (ah (af 0) (ah (av (dm hr) (af 1) (aJ Qat (rm hr) rfl (ah (af 0) aj) (ao aI))) aj)) (ao (ao aI)))))) (au (aC (af 0))))
theorem sc_made_afresh:FnScope ["book","good","come","name","recipe","grown","many"] ["book"] (aL (top 39)):=⟨rfl,rfl,rfl,by decide +kernel,rfl,by decide +kernel,by decide +kernel⟩
theorem vc (B:Bi K mg) (F:Fun K "made_afresh" "made_afresh" (top 39) f fd) (Qbp:Fn P w K mg base "start_of" ["recipe"] 82 (spM K 1 gq)) (Qbs:Fn P w K mg base "gone_on" ["come","good"] 83 (spM K 2 gu)):FnOk P w K mg base CX0 84 f fd ["book"] (spM K 1 (eY)):=dfn F sc_made_afresh fun _ _ _ _ _ _ hr=>(az (qb (i:=1) B.b_dict sc_made_afresh.nd (av aA (af 0) ak)) (az (mz (i:=2) sc_made_afresh.nd) (az (AL (i:=3) (j:=4) sc_made_afresh.nd (av aA (af 0) ak) (au (ik (i:=2) hr (af 3) (aJ Qbp (rm hr) rfl (ah (af 4) aj) (ao aI))))) (az (aY (i:=5) sc_made_afresh.nd cV) (az (jP 100000 (a8 (af 5)) (az (aY (i:=6) sc_made_afresh.nd (bt bM rfl B.b_len boot_len (ah (af 1) aj))) (az (fX (i:=3) sc_made_afresh.nd (cj (av aA (af 0) ak)) (az (ik (i:=2) hr (af 3) (rc (aJ Qbs (rm hr) rfl (ah (av (dm hr) (af 2) (af 3)) (ah (af 1) aj)) (ao (ao aI))))) (au (aM (aN aX (av aA (av aA (av (dm hr) (af 2) (af 3)) ak) ak) ay) (au (ik (i:=1) hr (af 3) (av aA (av aA (av (dm hr) (af 2) (af 3)) ak) ak))) aO)))) (au (aY (i:=5) sc_made_afresh.nd (bE dM (bt bM rfl B.b_len boot_len (ah (af 1) aj)) (af 6))))))) (au (aC (aS (ah (af 1) (ah (af 2) aj))))))))))
theorem sc_line_of:FnScope ["book","name","come"] ["book","name"] (aL (top 38)):=⟨rfl,rfl,rfl,by decide +kernel,rfl,by decide +kernel,by decide +kernel⟩
theorem xi (B:Bi K mg) (F:Fun K "line_of" "line_of" (top 38) f fd) (Qac:Fn P w K mg base "made_afresh" ["book"] 84 (spM K 1 eY)) (Qbi:Fn P w K mg base "line_from" ["name","come"] 28 (spM K 2 g0)):FnOk P w K mg base CX0 85 f fd ["book","name"] (spM K 2 (fO)):=dfn F sc_line_of fun _ _ _ _ _ _ hr=>(az (aY (i:=2) sc_line_of.nd (av aA (aJ Qac (rm hr) rfl (ah (af 0) aj) (ao aI)) ak)) (az (aM (aN (jN hr) (af 1) (af 2)) (au qW) aO) (au (aC (aJ Qbi (rm hr) rfl (ah (af 1) (ah (av (dm hr) (af 2) (af 1)) aj)) (ao (ao aI)))))))
theorem u3:FnScope ["_law_script","_law_k"] ["_law_script","_law_k"] (aL (top 47)):=⟨rfl,rfl,rfl,by decide +kernel,rfl,by decide +kernel,by decide +kernel⟩
theorem u9 (B:Bi K mg) (F:Fun K "_law_cell_at" "_law_cell_at" (top 47) f fd)  : FnOk P w K mg base CX0 1 f fd ["_law_script","_law_k"] (spM K 2 (cZ)):=dfn F u3 fun _ _ _ _ _ _ hr=>(az (aM (aN d4 (af 1) (bt bM rfl B.b_len boot_len (ah (af 0) aj))) (au (aC (av aA (af 0) (af 1)))) aO) (au (aC ak)))
theorem sc__law_draws:FnScope ["_law_cell","_law_many_here","_law_found","_law_number","_law_mixed","_law_k"] ["_law_cell","_law_many_here"] (aL (top 48)):=⟨rfl,rfl,rfl,by decide +kernel,rfl,by decide +kernel,by decide +kernel⟩
theorem vv (B:Bi K mg) (F:Fun K "_law_draws" "_law_draws" (top 48) f fd)  : FnOk P w K mg base CX0 1 f fd ["_law_cell","_law_many_here"] (spM K 2 (ff)):=dfn F sc__law_draws fun _ _ _ _ _ _ hr=>(az (i3 (i:=2) sc__law_draws.nd aj) (az (aY (i:=3) sc__law_draws.nd ak) (az (aM (aN D4 (af 0) (aP jf ak ak)) (au (aY (i:=3) sc__law_draws.nd (af 0))) aO) (az (aY (i:=4) sc__law_draws.nd (aP bg (aP dU (af 0) ak) ak)) (az (fX (i:=5) sc__law_draws.nd (iq rfl B.b_range (af 1)) (az (aY (i:=4) sc__law_draws.nd (aP dU (aP bg (aP bg (aP eI (af 4) (af 4)) (aP eI ak (af 4))) (aP eI ak (af 5))) ak)) (au (aM (aN dM (af 3) ak) (az (iH (i:=2) (by exact (aP dU (af 3) ak))) (au (aY (i:=3) sc__law_draws.nd (aP kh (af 3) ak)))) (au (iH (i:=2) (by exact (aP kh (aP dU (aP bg (aP eI (af 4) ak) (aP eI ak (af 5))) ak) ak)))))))) (au (aC (af 2))))))))
theorem vF:FnScope ["_law_tape","_law_many_here"] ["_law_tape","_law_many_here"] (aL (top 49)):=⟨rfl,rfl,rfl,by decide +kernel,rfl,by decide +kernel,by decide +kernel⟩
theorem vQ (B:Bi K mg) (F:Fun K "_law_take" "_law_take" (top 49) f fd)  : FnOk P w K mg base CX0 1 f fd ["_law_tape","_law_many_here"] (spM K 2 (bf)):=dfn F vF fun _ _ _ _ _ _ hr=>(az (Cf (af 0) ak (aP bg (av aA (af 0) ak) ak)) (au (aC (aP dU (av aA (av aA (af 0) ak) (aP dU (aP gM (av aA (af 0) ak) ak) (bt bM rfl B.b_len boot_len (ah (av aA (af 0) ak) aj)))) (af 1)))))
theorem vH:FnScope ["_law_value_here"] ["_law_value_here"] (aL (top 50)):=⟨rfl,rfl,rfl,by decide +kernel,rfl,by decide +kernel,by decide +kernel⟩
theorem vS (n:Nat) (B:Bi K mg) (F:Fun K "_law_many" "_law_many" (top 50) f fd) (Qap:Fn P w K mg base "_law_many" ["_law_value_here"] (0 + n) (spM K 1 (ej n))):FnOk P w K mg base CX0 (0 + n + 1) f fd ["_law_value_here"] (spM K 1 (ej (n + 1))):=dfn F vH fun _ _ _ _ _ _ hr=>(az (aM (b6 (a8 (ba .tup B.b_isinstance (af 0) B.b_tuple boot_tuple))) (au (aC ak)) aO) (au (aC (aP bg ak (bt ub rfl B.b_sum boot_sum (ah (cI (osc:=aL (top 50)) (N:=["_law_value_here"]) (N':=["_law_value_here"]) (x:="_law_part") ⟨rfl,by decide +kernel,by decide +kernel,rfl,by decide +kernel,by decide +kernel,by decide +kernel,by decide +kernel,rfl,by decide +kernel⟩ (cj (af 0)) (fun C s0 H0 ex=>(aJ Qap (rm hr) rfl (ah (af 0) aj) (ao aI))) (fun C s0 H0 ex=>c9)) aj))))))
theorem uZ:FnScope ["_law_thing"] ["_law_thing"] (aL (top 51)):=⟨rfl,rfl,rfl,by decide +kernel,rfl,by decide +kernel,by decide +kernel⟩
theorem u7 (B:Bi K mg) (F:Fun K "_law_is_name" "_law_is_name" (top 51) f fd)  : FnOk P w K mg base CX0 1 f fd ["_law_thing"] (spM K 1 (eX)):=dfn F uZ fun _ _ _ _ _ _ hr=>(az (aM (bL (cU (b6 (a8 (ba .str B.b_isinstance (af 0) B.b_str boot_str))) (cU (aN d4 (bt bM rfl B.b_len boot_len (ah (af 0) aj)) ak) (dH (aN dM (bt bM rfl B.b_len boot_len (ah (af 0) aj)) ak))))) (au (aC cV)) aO) (au (aC (bE (kG hr) (cI (osc:=aL (top 51)) (N:=["_law_thing"]) (N':=["_law_thing"]) (x:="_law_sign") ⟨rfl,by decide +kernel,by decide +kernel,rfl,by decide +kernel,by decide +kernel,by decide +kernel,by decide +kernel,rfl,by decide +kernel⟩ (cj (af 0)) (fun C s0 H0 ex=>(af 0)) (fun C s0 H0 ex=>my rfl (aN qA (af 0) ay))) (cR aj)))))
theorem sc__law_is_part:FnScope ["_law_thing","_law_deep","_law_signs"] ["_law_thing","_law_deep"] (aL (top 52)):=⟨rfl,rfl,rfl,by decide +kernel,rfl,by decide +kernel,by decide +kernel⟩
theorem u6 (n:Nat) (B:Bi K mg) (F:Fun K "_law_is_part" "_law_is_part" (top 52) f fd) (Qak:Fn P w K mg base "_law_is_part" ["_law_thing","_law_deep"] (0 + n) (spM K 2 (cG n))):FnOk P w K mg base CX0 (0 + n + 1) f fd ["_law_thing","_law_deep"] (spM K 2 (cG (n + 1))):=dfn F sc__law_is_part fun _ _ _ _ _ _ hr=>(az (aM (a8 (ba .bl B.b_isinstance (af 0) B.b_bool boot_bool)) (au (aC cV)) aO) (az (aM (a8 (ba .int B.b_isinstance (af 0) B.b_int boot_int)) (au (aC (bE eS (bt ud rfl B.b_abs boot_abs (ah (af 0) aj)) (aP jf ak ak)))) aO) (az (aM (a8 (ba .str B.b_isinstance (af 0) B.b_str boot_str)) (az (aY (i:=2) sc__law_is_part.nd ay) (au (aC (cz (bE eS (bt bM rfl B.b_len boot_len (ah (af 0) aj)) ak) (cQ (bE (kG hr) (cI (osc:=aL (top 52)) (N:=["_law_thing","_law_deep","_law_signs"]) (N':=["_law_thing","_law_deep","_law_signs"]) (x:="_law_sign") ⟨rfl,by decide +kernel,by decide +kernel,rfl,by decide +kernel,by decide +kernel,by decide +kernel,by decide +kernel,rfl,by decide +kernel⟩ (cj (af 0)) (fun C s0 H0 ex=>(af 0)) (fun C s0 H0 ex=>my rfl (aN qA (af 0) (af 3)))) (cR aj))))))) aO) (az (aM (bL (cU (b6 (a8 (ba .tup B.b_isinstance (af 0) B.b_tuple boot_tuple))) (cU (aN dM (bt bM rfl B.b_len boot_len (ah (af 0) aj)) ak) (dH (aN dM (af 1) ak))))) (au (aC cV)) aO) (au (aC (bE (kG hr) (cI (osc:=aL (top 52)) (N:=["_law_thing","_law_deep","_law_signs"]) (N':=["_law_thing","_law_deep","_law_signs"]) (x:="_law_part") ⟨rfl,by decide +kernel,by decide +kernel,rfl,by decide +kernel,by decide +kernel,by decide +kernel,by decide +kernel,rfl,by decide +kernel⟩ (cj (af 0)) (fun C s0 H0 ex=>(af 0)) (fun C s0 H0 ex=>my rfl (b6 (a8 (aJ Qak (rm hr) rfl (ah (af 0) (ah (aP bg (af 2) ak) aj)) (ao (ao aI))))))) (cR aj))))))))
theorem uV:FnScope ["_law_thing"] ["_law_thing"] (aL (top 53)):=⟨rfl,rfl,rfl,by decide +kernel,rfl,by decide +kernel,by decide +kernel⟩
theorem uW (B:Bi K mg) (F:Fun K "_law_is_value" "_law_is_value" (top 53) f fd) (Qak:Fn P w K mg base "_law_is_part" ["_law_thing","_law_deep"] 25 (spM K 2 (cG 25))) (Qap:Fn P w K mg base "_law_many" ["_law_value_here"] 25 (spM K 1 (ej 25))):FnOk P w K mg base CX0 26 f fd ["_law_thing"] (spM K 1 (d9)):=dfn F uV fun _ _ _ _ _ _ hr=>(au (aC (cz (aJ Qak (rm hr) rfl (ah (af 0) (ah ak aj)) (ao (ao aI))) (cQ (bE eS (aJ Qap (rm hr) rfl (ah (af 0) aj) (ao aI)) ak)))))
theorem vm:FnScope ["_law_value_here"] ["_law_value_here"] (aL (top 54)):=⟨rfl,rfl,rfl,by decide +kernel,rfl,by decide +kernel,by decide +kernel⟩
theorem vq (n:Nat) (B:Bi K mg) (F:Fun K "_law_stamp" "_law_stamp" (top 54) f fd) (Qal:Fn P w K mg base "_law_stamp" ["_law_value_here"] (0 + n) (spM K 1 (cP n))):FnOk P w K mg base CX0 (0 + n + 1) f fd ["_law_value_here"] (spM K 1 (cP (n + 1))):=dfn F vm fun _ _ _ _ _ _ hr=>(az (aM (a8 (ba .tup B.b_isinstance (af 0) B.b_tuple boot_tuple)) (au (aC (aP bg (aP bg ay (rf ay (cI (osc:=aL (top 54)) (N:=["_law_value_here"]) (N':=["_law_value_here"]) (x:="_law_part") ⟨rfl,by decide +kernel,by decide +kernel,rfl,by decide +kernel,by decide +kernel,by decide +kernel,by decide +kernel,rfl,by decide +kernel⟩ (cj (af 0)) (fun C s0 H0 ex=>(aJ Qal (rm hr) rfl (ah (af 0) aj) (ao aI))) (fun C s0 H0 ex=>c9)))) ay))) aO) (az (aM (a8 (ba .str B.b_isinstance (af 0) B.b_str boot_str)) (au (aC (aP bg ay (af 0)))) aO) (au (aC (cx uc rfl B.b_str boot_str (ah (af 0) aj))))))
theorem sc__law_of_two:FnScope ["_law_kind","_law_one","_law_other","_law_whole","_law_alike"] ["_law_kind","_law_one","_law_other"] (aL (top 55)):=⟨rfl,rfl,rfl,by decide +kernel,rfl,by decide +kernel,by decide +kernel⟩
theorem vf (B:Bi K mg) (F:Fun K "_law_of_two" "_law_of_two" (top 55) f fd) (Qaf:Fn P w K mg base "_law_is_value" ["_law_thing"] 26 (spM K 1 d9)):FnOk P w K mg base CX0 27 f fd ["_law_kind","_law_one","_law_other"] (spM K 3 (bj)):=dfn F sc__law_of_two fun _ _ _ _ _ _ hr=>(az (aY (i:=3) sc__law_of_two.nd (cz (ba .int B.b_isinstance (af 1) B.b_int boot_int) (cQ (ba .int B.b_isinstance (af 2) B.b_int boot_int)))) (az (aY (i:=4) sc__law_of_two.nd (cz (bE aX (ba .str B.b_isinstance (af 1) B.b_str boot_str) (ba .str B.b_isinstance (af 2) B.b_str boot_str)) (cQ (bE aX (ba .tup B.b_isinstance (af 1) B.b_tuple boot_tuple) (ba .tup B.b_isinstance (af 2) B.b_tuple boot_tuple))))) (az (aM (aN aX (af 0) ay) (au (aC (aS (ah ay (ah (cx jm rfl B.b_int boot_int (ah (bE aX (mB hr B.b_repr (af 1)) (mB hr B.b_repr (af 2))) aj)) aj))))) aO) (az (aM (bL (dj (aN aX (af 0) ay) (dR (a8 (af 3))))) (au (aC (aS (ah ay (ah (cx jm rfl B.b_int boot_int (ah (bE d4 (af 1) (af 2)) aj)) aj))))) aO) (az (aM (bL (dj (aN aX (af 0) ay) (dj (a8 (ba .tup B.b_isinstance (af 1) B.b_tuple boot_tuple)) (dR (a8 (ba .int B.b_isinstance (af 2) B.b_int boot_int)))))) (au (aC (eN (qa eS d4 ak (af 2) (bt bM rfl B.b_len boot_len (ah (af 1) aj))) (aS (ah ay (ah (av aA (af 1) (af 2)) aj))) (aS (ah ay (ah ay aj)))))) aO) (az (aM (bL (cU (bL (dj (aN aX (af 0) ay) (dj (a8 (af 4)) (dR (b6 (a8 (af 3))))))) (dH (bL (dj (aN aX (af 0) ay) (dR (a8 (af 3)))))))) (au (aC (eN (a8 (aJ Qaf (rm hr) rfl (ah (aP bg (af 1) (af 2)) aj) (ao aI))) (aS (ah ay (ah (aP bg (af 1) (af 2)) aj))) (aS (ah ay (ah ay aj)))))) aO) (au (aC (aS (ah ay (ah ay aj)))))))))))
theorem sc__law_told:FnScope ["_law_expr_here","_law_got","_law_parts","_law_one","_law_found"] ["_law_expr_here","_law_got"] (aL (top 56)):=⟨rfl,rfl,rfl,by decide +kernel,rfl,by decide +kernel,by decide +kernel⟩
theorem vP (n:Nat) (B:Bi K mg) (F:Fun K "_law_told" "_law_told" (top 56) f fd) (Qaq:Fn P w K mg base "_law_told" ["_law_expr_here","_law_got"] (27 + n) (spM K 2 (b4 n))) (Qaf:Fn P w K mg base "_law_is_value" ["_law_thing"] 26 (spM K 1 d9)) (Qbb:Fn P w K mg base "_law_of_two" ["_law_kind","_law_one","_law_other"] 27 (spM K 3 bj)):FnOk P w K mg base CX0 (27 + n + 1) f fd ["_law_expr_here","_law_got"] (spM K 2 (b4 (n + 1))):=dfn F sc__law_told fun _ _ _ _ _ _ hr=>(az (aM (aN aX (av aA (af 0) ak) ay) (au (aC (aS (ah ay (ah (av aA (af 0) ak) aj))))) aO) (az (aM (aN aX (av aA (af 0) ak) ay) (au (aC (aS (ah ay (ah (av aA (af 1) (av aA (af 0) ak)) aj))))) aO) (az (i3 (i:=2) sc__law_told.nd aj) (az (fX (i:=3) sc__law_told.nd (cj (av aA (cR (ah (cx ku rfl B.b_list boot_list (ah (iN (af 0) (il ak) ip) aj)) (ah (cx ku rfl B.b_list boot_list (ah (av aA (af 0) ak) aj)) aj))) (cx jm rfl B.b_int boot_int (ah (bE aX (av aA (af 0) ak) ay) aj)))) (az (aY (i:=4) sc__law_told.nd (aJ Qaq (rm hr) rfl (ah (af 3) (ah (af 1) aj)) (ao (ao aI)))) (az (aM (aN aX (av aA (af 4) ak) ay) (au (aC (af 4))) aO) (au (iH (i:=2) (by exact (av aA (af 4) ak))))))) (az (aM (aN aX (av aA (af 0) ak) ay) (au (aC (eN (a8 (aJ Qaf (rm hr) rfl (ah (cx ir rfl B.b_tuple boot_tuple (ah (af 2) aj)) aj) (ao aI))) (aS (ah ay (ah (cx ir rfl B.b_tuple boot_tuple (ah (af 2) aj)) aj))) (aS (ah ay (ah ay aj)))))) aO) (az (aM (aN aX (av aA (af 0) ak) ay) (au (aC (eN (a8 (ba .int B.b_isinstance (av aA (af 2) ak) B.b_int boot_int)) (aS (ah ay (ah ay aj))) (aS (ah ay (ah (bt bM rfl B.b_len boot_len (ah (av aA (af 2) ak) aj)) aj)))))) aO) (au (aC (aJ Qbb (rm hr) rfl (ah (av aA (af 0) ak) (ah (av aA (af 2) ak) (ah (av aA (af 2) ak) aj))) (ao (ao (ao aI))))))))))))
theorem sc__law_run:FnScope ["_law_recipe_here","_law_good_here","_law_got","_law_reads","_law_found"] ["_law_recipe_here","_law_good_here"] (aL (top 57)):=⟨rfl,rfl,rfl,by decide +kernel,rfl,by decide +kernel,by decide +kernel⟩
theorem wy (B:Bi K mg) (F:Fun K "_law_run" "_law_run" (top 57) f fd) (Qaq:Fn P w K mg base "_law_told" ["_law_expr_here","_law_got"] 52 (spM K 2 (b4 25))) (Qaw:Fn P w K mg base "_law_is_name" ["_law_thing"] 1 (spM K 1 eX)):FnOk P w K mg base CX0 53 f fd ["_law_recipe_here","_law_good_here"] (spM K 2 (fm)):=dfn F sc__law_run fun _ _ _ _ _ _ hr=>(az (i3 (i:=2) sc__law_run.nd aj) (az (i3 (i:=3) sc__law_run.nd aj) (az (jP 100000 (aN kZ (av aA (af 0) ak) ay) (az (aY (i:=4) sc__law_run.nd (qf Qaq (rm hr) rfl (ah (av aA (af 0) ak) (ah (af 2) aj)) (ao (ao aI)))) (az (aM (aN aX (av aA (af 4) ak) ay) (au (aC (aS (ah (af 3) (ah (af 4) aj))))) aO) (az (aM (aN aX (av aA (af 0) ak) ay) (au (aC (aS (ah (af 3) (ah (aS (ah ay (ah (av aA (af 4) ak) aj))) aj))))) aO) (au (aM (aN aX (av aA (af 0) ak) ay) (au (aY (i:=0) sc__law_run.nd (av aA (af 0) (aP bg ak (cx jm rfl B.b_int boot_int (ah (bE nF (mB hr B.b_repr (av aA (af 4) ak)) (cR (ah ay (ah ay (ah ay aj))))) aj)))))) (au (aM (b6 (a8 (aJ Qaw (rm hr) rfl (ah (av aA (af 4) ak) aj) (ao aI)))) (au (aC (aS (ah (af 3) (ah (aS (ah ay (ah ay aj))) aj))))) (au (aM (aN (jN hr) (av aA (af 4) ak) (af 1)) (au (aC (aS (ah (af 3) (ah (aS (ah ay (ah (av aA (af 4) ak) aj))) aj))))) (az (iH (i:=2) (by exact (av (dm hr) (af 1) (av aA (af 4) ak)))) (az (aM (aN aX (av aA (af 0) ak) ay) (au (iH (i:=3) (by exact (aS (ah (av aA (af 4) ak) (ah (av (dm hr) (af 1) (av aA (af 4) ak)) aj)))))) aO) (au (aY (i:=0) sc__law_run.nd (av aA (af 0) ak))))))))))))))) (au (aC (aS (ah (af 3) (ah (aS (ah ay (ah (av aA (af 0) ak) aj))) aj))))))))
theorem sc__law_good:FnScope ["_law_book_here","_law_good_here","_law_going","_law_name","_law_end"] ["_law_book_here"] (aL (top 58)):=⟨rfl,rfl,rfl,by decide +kernel,rfl,by decide +kernel,by decide +kernel⟩
theorem vU (B:Bi K mg) (F:Fun K "_law_good" "_law_good" (top 58) f fd) (Qao:Fn P w K mg base "_law_run" ["_law_recipe_here","_law_good_here"] 53 (spM K 2 fm)):FnOk P w K mg base CX0 54 f fd ["_law_book_here"] (spM K 1 (gm)):=dfn F sc__law_good fun _ _ _ _ _ _ hr=>(az (qb (i:=1) B.b_dict sc__law_good.nd (av aA (af 0) ak)) (az (aY (i:=2) sc__law_good.nd cV) (az (jP 100000 (a8 (af 2)) (az (aY (i:=2) sc__law_good.nd cV) (au (fX (i:=3) sc__law_good.nd (cj (av aA (af 0) ak)) (au (aM (aN (jN hr) (af 3) (af 1)) (az (aY (i:=4) sc__law_good.nd (rc (av aA (aJ Qao (rm hr) rfl (ah (av (dm hr) (av aA (af 0) ak) (af 3)) (ah (af 1) aj)) (ao (ao aI))) ak))) (au (aM (aN aX (av aA (af 4) ak) ay) (az (ik (i:=1) hr (af 3) (av aA (af 4) ak)) (au (aY (i:=2) sc__law_good.nd cV))) aO))) aO)))))) (au (aC (af 1))))))
theorem sc__law_line:FnScope ["_law_book_here","_law_good_here","_law_name","_law_reads","_law_end"] ["_law_book_here","_law_good_here","_law_name"] (aL (top 59)):=⟨rfl,rfl,rfl,by decide +kernel,rfl,by decide +kernel,by decide +kernel⟩
theorem vT (B:Bi K mg) (F:Fun K "_law_line" "_law_line" (top 59) f fd) (Qao:Fn P w K mg base "_law_run" ["_law_recipe_here","_law_good_here"] 53 (spM K 2 fm)) (Qal:Fn P w K mg base "_law_stamp" ["_law_value_here"] 25 (spM K 1 (cP 25))):FnOk P w K mg base CX0 54 f fd ["_law_book_here","_law_good_here","_law_name"] (spM K 3 (fg)):=dfn F sc__law_line fun _ _ _ _ _ _ hr=>(az (Ce (i:=3) (j:=4) sc__law_line.nd (aJ Qao (rm hr) rfl (ah (av (dm hr) (av aA (af 0) ak) (af 2)) (ah (af 1) aj)) (ao (ao aI)))) (az (aM (aN aX (av aA (af 4) ak) ay) (au (aY (i:=4) sc__law_line.nd (aS (ah ay (ah (aJ Qal (rm hr) rfl (ah (av aA (af 4) ak) aj) (ao aI)) aj))))) aO) (au (aC (aS (ah (af 2) (ah (cx ir rfl B.b_tuple boot_tuple (ah (zH (osc:=aL (top 59)) (N:=["_law_book_here","_law_good_here","_law_name","_law_reads","_law_end"]) (N':=["_law_book_here","_law_good_here","_law_name","_law_reads","_law_end"]) (x:="_law_other") (y:="_law_value_here") ⟨rfl,by decide +kernel,by decide +kernel,by decide +kernel,by decide +kernel,by decide +kernel,by decide +kernel,by decide +kernel,rfl,by decide +kernel⟩ (cj (af 3)) (fun C s0 H0 ex=>(aS (ah (af 0) (ah (aJ Qal (rm hr) rfl (ah (af 1) aj) (ao aI)) aj)))) (fun C s0 H0 ex=>c9)) aj)) (ah (af 4) aj))))))))
theorem vG:FnScope ["_law_found","_law_due"] ["_law_found","_law_due"] (aL (top 60)):=⟨rfl,rfl,rfl,by decide +kernel,rfl,by decide +kernel,by decide +kernel⟩
theorem vR (n:Nat) (B:Bi K mg) (F:Fun K "_law_same" "_law_same" (top 60) f fd) (Qai:Fn P w K mg base "_law_same" ["_law_found","_law_due"] (0 + n) (spM K 2 (bw n))):FnOk P w K mg base CX0 (0 + n + 1) f fd ["_law_found","_law_due"] (spM K 2 (bw (n + 1))):=dfn F vG fun _ _ _ _ _ _ hr=>(az (aM (a8 (zF B.b_isinstance (af 1) B.b_tuple B.b_list)) (az (aM (bL (cU (aN kZ (ba .tup B.b_isinstance (af 0) B.b_tuple boot_tuple) (ba .tup B.b_isinstance (af 1) B.b_tuple boot_tuple)) (dH (aN kZ (ba .lst B.b_isinstance (af 0) B.b_list boot_list) (ba .lst B.b_isinstance (af 1) B.b_list boot_list))))) (au (aC cV)) aO) (au (aC (cz (bE aX (bt bM rfl B.b_len boot_len (ah (af 0) aj)) (bt bM rfl B.b_len boot_len (ah (af 1) aj))) (cQ (bt kR rfl B.b_all boot_all (ah (cI (osc:=aL (top 60)) (N:=["_law_found","_law_due"]) (N':=["_law_found","_law_due"]) (x:="_law_k") ⟨rfl,by decide +kernel,by decide +kernel,rfl,by decide +kernel,by decide +kernel,by decide +kernel,by decide +kernel,rfl,by decide +kernel⟩ (iq rfl B.b_range (bt bM rfl B.b_len boot_len (ah (af 1) aj))) (fun C s0 H0 ex=>(aJ Qai (rm hr) rfl (ah (av (dm hr) (af 1) (af 0)) (ah (av (dm hr) (af 2) (af 0)) aj)) (ao (ao aI)))) (fun C s0 H0 ex=>c9)) aj))))))) aO) (az (aM (a8 (ba .dct B.b_isinstance (af 1) B.b_dict boot_dict)) (az (aM (bL (cU (b6 (a8 (ba .dct B.b_isinstance (af 0) B.b_dict boot_dict))) (dH (aN kZ (bt bM rfl B.b_len boot_len (ah (af 0) aj)) (bt bM rfl B.b_len boot_len (ah (af 1) aj)))))) (au (aC cV)) aO) (au (aC (bt kR rfl B.b_all boot_all (ah (cI (osc:=aL (top 60)) (N:=["_law_found","_law_due"]) (N':=["_law_found","_law_due"]) (x:="_law_key") ⟨rfl,by decide +kernel,by decide +kernel,rfl,by decide +kernel,by decide +kernel,by decide +kernel,by decide +kernel,rfl,by decide +kernel⟩ (cj (af 1)) (fun C s0 H0 ex=>(cz (bE (tH hr) (af 0) (af 1)) (cQ (aJ Qai (rm hr) rfl (ah (av (dm hr) (af 1) (af 0)) (ah (av (dm hr) (af 2) (af 0)) aj)) (ao (ao aI)))))) (fun C s0 H0 ex=>c9)) aj))))) aO) (az (aM (bL (cU (a8 (ba .bl B.b_isinstance (af 1) B.b_bool boot_bool)) (dH (aN D3 (af 1) sO)))) (au (aC (cz (bE aX (ba .bl B.b_isinstance (af 0) B.b_bool boot_bool) (ba .bl B.b_isinstance (af 1) B.b_bool boot_bool)) (cQ (bE aX (af 0) (af 1)))))) aO) (az (aM (a8 (ba .int B.b_isinstance (af 1) B.b_int boot_int)) (au (aC (cz (ba .int B.b_isinstance (af 0) B.b_int boot_int) (cz (sN (ba .bl B.b_isinstance (af 0) B.b_bool boot_bool)) (cQ (bE aX (af 0) (af 1))))))) aO) (au (aC (cz (ba .str B.b_isinstance (af 0) B.b_str boot_str) (cQ (bE aX (af 0) (af 1))))))))))
theorem sc__law_names:FnScope ["_law_tape","_law_many_here","_law_letters","_law_way","_law_at","_law_words","_law_tail"] ["_law_tape","_law_many_here"] (aL (top 61)):=⟨rfl,rfl,rfl,by decide +kernel,rfl,by decide +kernel,by decide +kernel⟩
theorem vt (B:Bi K mg) (F:Fun K "_law_names" "_law_names" (top 61) f fd) (Qaa:Fn P w K mg base "_law_take" ["_law_tape","_law_many_here"] 1 (spM K 2 bf)):FnOk P w K mg base CX0 2 f fd ["_law_tape","_law_many_here"] (spM K 2 (ef)):=dfn F sc__law_names fun _ _ _ _ _ _ hr=>(az (aY (i:=2) sc__law_names.nd ay) (az (aY (i:=3) sc__law_names.nd (aJ Qaa (rm hr) rfl (ah (af 0) (ah ak aj)) (ao (ao aI)))) (az (aY (i:=4) sc__law_names.nd (aJ Qaa (rm hr) rfl (ah (af 0) (ah ak aj)) (ao (ao aI)))) (az (aM (aN aX (af 3) ak) (az (aY (i:=5) sc__law_names.nd (cR (ah ay (ah ay (ah ay (ah ay (ah ay (ah ay (ah ay (ah ay (ah ay (ah ay (ah ay (ah ay aj)))))))))))))) (au (aC (iN (aP bg (iN (af 5) (il (af 4)) ip) (iN (af 5) ip (il (af 4)))) ip (il (af 1)))))) aO) (az (aM (aN aX (af 3) ak) (au (aC (cI (osc:=aL (top 61)) (N:=["_law_tape","_law_many_here","_law_letters","_law_way","_law_at","_law_words","_law_tail"]) (N':=["_law_tape","_law_many_here","_law_letters","_law_way","_law_at","_law_words","_law_tail"]) (x:="_law_k") ⟨rfl,by decide +kernel,by decide +kernel,rfl,by decide +kernel,by decide +kernel,by decide +kernel,by decide +kernel,rfl,by decide +kernel⟩ (iq rfl B.b_range (af 1)) (fun C s0 H0 ex=>(aP eI (av aA (af 3) (aP bg (af 5) (aP kh (af 0) ak))) (aP bg ak (aP dU (af 0) ak)))) (fun C s0 H0 ex=>c9)))) aO) (az (aY (i:=6) sc__law_names.nd (aP eI (av aA (af 2) (af 4)) (aJ Qaa (rm hr) rfl (ah (af 0) (ah (aP gM ak (aP dU (af 4) ak)) aj)) (ao (ao aI))))) (au (aC (cI (osc:=aL (top 61)) (N:=["_law_tape","_law_many_here","_law_letters","_law_way","_law_at","_law_words","_law_tail"]) (N':=["_law_tape","_law_many_here","_law_letters","_law_way","_law_at","_law_words","_law_tail"]) (x:="_law_k") ⟨rfl,by decide +kernel,by decide +kernel,rfl,by decide +kernel,by decide +kernel,by decide +kernel,by decide +kernel,rfl,by decide +kernel⟩ (iq rfl B.b_range (af 1)) (fun C s0 H0 ex=>(aP bg (aP bg (aP eI (av aA (af 3) (af 5)) (aP dU (af 5) ak)) (av aA (af 3) (aP dU (aP bg (af 5) (af 0)) ak))) (af 7))) (fun C s0 H0 ex=>c9))))))))))
theorem sc__law_value:FnScope ["_law_tape","_law_names_here","_law_deep","_law_way","_law_some"] ["_law_tape","_law_names_here","_law_deep"] (aL (top 62)):=⟨rfl,rfl,rfl,by decide +kernel,rfl,by decide +kernel,by decide +kernel⟩
theorem vp (n:Nat) (B:Bi K mg) (F:Fun K "_law_value" "_law_value" (top 62) f fd) (Qaa:Fn P w K mg base "_law_take" ["_law_tape","_law_many_here"] 1 (spM K 2 bf)) (Qae:Fn P w K mg base "_law_value" ["_law_tape","_law_names_here","_law_deep"] (1 + n) (spM K 3 (bW n))):FnOk P w K mg base CX0 (1 + n + 1) f fd ["_law_tape","_law_names_here","_law_deep"] (spM K 3 (bW (n + 1))):=dfn F sc__law_value fun _ _ _ _ _ _ hr=>(az (aY (i:=3) sc__law_value.nd (aJ Qaa (rm hr) rfl (ah (af 0) (ah ak aj)) (ao (ao aI)))) (az (aY (i:=4) sc__law_value.nd (cR (ah ak (ah ak (ah (sP ak) (ah ak (ah (aP jf ak ak) (ah (sP (aP jf ak ak)) (ah ay (ah ay (ah ay (ah ay (ah (aP eI ay ak) (ah (aS aj) aj)))))))))))))) (az (aM (bL (cU (aN d4 (af 3) ak) (dH (bL (dj (aN aX (af 2) ak) (dR (aN dM (af 3) ak))))))) (au (aC (av aA (af 4) (aJ Qaa (rm hr) rfl (ah (af 0) (ah ak aj)) (ao (ao aI)))))) aO) (az (aM (aN d4 (af 3) ak) (au (aC (av aA (af 1) (aJ Qaa (rm hr) rfl (ah (af 0) (ah (bt bM rfl B.b_len boot_len (ah (af 1) aj)) aj)) (ao (ao aI)))))) aO) (au (aC (cx ir rfl B.b_tuple boot_tuple (ah (cI (osc:=aL (top 62)) (N:=["_law_tape","_law_names_here","_law_deep","_law_way","_law_some"]) (N':=["_law_tape","_law_names_here","_law_deep","_law_way","_law_some"]) (x:="_law_k") ⟨rfl,by decide +kernel,by decide +kernel,rfl,by decide +kernel,by decide +kernel,by decide +kernel,by decide +kernel,rfl,by decide +kernel⟩ (iq rfl B.b_range (aJ Qaa (rm hr) rfl (ah (af 0) (ah ak aj)) (ao (ao aI)))) (fun C s0 H0 ex=>(aJ Qae (rm hr) rfl (ah (af 1) (ah (af 2) (ah (aP gM (af 3) ak) aj))) (ao (ao (ao aI))))) (fun C s0 H0 ex=>c9)) aj))))))))
theorem vb:FnScope ["_law_tape","_law_names_here","_law_many_here"] ["_law_tape","_law_names_here","_law_many_here"] (aL (top 63)):=⟨rfl,rfl,rfl,by decide +kernel,rfl,by decide +kernel,by decide +kernel⟩
theorem vd (B:Bi K mg) (F:Fun K "_law_simple" "_law_simple" (top 63) f fd) (Qaa:Fn P w K mg base "_law_take" ["_law_tape","_law_many_here"] 1 (spM K 2 bf)) (Qae:Fn P w K mg base "_law_value" ["_law_tape","_law_names_here","_law_deep"] 26 (spM K 3 (bW 25))):FnOk P w K mg base CX0 27 f fd ["_law_tape","_law_names_here","_law_many_here"] (spM K 3 (eZ)):=dfn F vb fun _ _ _ _ _ _ hr=>(az (aM (bL (dj (aN dM (af 2) ak) (dR (aN dM (aJ Qaa (rm hr) rfl (ah (af 0) (ah ak aj)) (ao (ao aI))) ak)))) (au (aC (aS (ah ay (ah (aJ Qaa (rm hr) rfl (ah (af 0) (ah (af 2) aj)) (ao (ao aI))) aj))))) aO) (au (aC (aS (ah ay (ah (aJ Qae (rm hr) rfl (ah (af 0) (ah (af 1) (ah ak aj))) (ao (ao (ao aI)))) aj))))))
theorem sc__law_expr:FnScope ["_law_tape","_law_names_here","_law_many_here","_law_way","_law_one","_law_other"] ["_law_tape","_law_names_here","_law_many_here"] (aL (top 64)):=⟨rfl,rfl,rfl,by decide +kernel,rfl,by decide +kernel,by decide +kernel⟩
theorem vV (B:Bi K mg) (F:Fun K "_law_expr" "_law_expr" (top 64) f fd) (Qaa:Fn P w K mg base "_law_take" ["_law_tape","_law_many_here"] 1 (spM K 2 bf)) (Qar:Fn P w K mg base "_law_simple" ["_law_tape","_law_names_here","_law_many_here"] 27 (spM K 3 eZ)):FnOk P w K mg base CX0 28 f fd ["_law_tape","_law_names_here","_law_many_here"] (spM K 3 (fh)):=dfn F sc__law_expr fun _ _ _ _ _ _ hr=>(az (aY (i:=3) sc__law_expr.nd (aJ Qaa (rm hr) rfl (ah (af 0) (ah ak aj)) (ao (ao aI)))) (az (aY (i:=4) sc__law_expr.nd (aJ Qar (rm hr) rfl (ah (af 0) (ah (af 1) (ah (af 2) aj))) (ao (ao (ao aI))))) (az (aM (aN d4 (af 3) ak) (au (aC (av aA (cR (ah (af 4) (ah (aS (ah ay (ah (af 4) aj))) aj))) (aP kh (af 3) ak)))) aO) (az (aY (i:=5) sc__law_expr.nd (aJ Qar (rm hr) rfl (ah (af 0) (ah (af 1) (ah (af 2) aj))) (ao (ao (ao aI))))) (az (aM (aN aX (af 3) ak) (au (aC (aS (ah ay (ah (iN (aS (ah (af 4) (ah (af 5) aj))) ip (il (aJ Qaa (rm hr) rfl (ah (af 0) (ah ak aj)) (ao (ao aI))))) aj))))) aO) (au (aC (aS (ah (av aA (cR (ah ay (ah ay (ah ay (ah ay (ah ay aj)))))) (aJ Qaa (rm hr) rfl (ah (af 0) (ah ak aj)) (ao (ao aI)))) (ah (af 4) (ah (af 5) aj)))))))))))
theorem sc__law_recipe:FnScope ["_law_tape","_law_names_here","_law_deep","_law_many_here","_law_peeks","_law_way","_law_expr_here","_law_word","_law_one"] ["_law_tape","_law_names_here","_law_deep","_law_many_here","_law_peeks"] (aL (top 65)):=⟨rfl,rfl,rfl,by decide +kernel,rfl,by decide +kernel,by decide +kernel⟩
theorem ve (n:Nat) (B:Bi K mg) (F:Fun K "_law_recipe" "_law_recipe" (top 65) f fd) (Qaa:Fn P w K mg base "_law_take" ["_law_tape","_law_many_here"] 1 (spM K 2 bf)) (Qbj:Fn P w K mg base "_law_expr" ["_law_tape","_law_names_here","_law_many_here"] 28 (spM K 3 fh)) (Qag:Fn P w K mg base "_law_recipe" ["_law_tape","_law_names_here","_law_deep","_law_many_here","_law_peeks"] (28 + n) (spM K 5 (bI n))):FnOk P w K mg base CX0 (28 + n + 1) f fd ["_law_tape","_law_names_here","_law_deep","_law_many_here","_law_peeks"] (spM K 5 (bI (n + 1))):=dfn F sc__law_recipe fun _ _ _ _ _ _ hr=>(az (aY (i:=5) sc__law_recipe.nd (aJ Qaa (rm hr) rfl (ah (af 0) (ah ak aj)) (ao (ao aI)))) (az (aY (i:=6) sc__law_recipe.nd (aJ Qbj (rm hr) rfl (ah (af 0) (ah (af 1) (ah (af 3) aj))) (ao (ao (ao aI))))) (az (aM (bL (dj (aN dM (af 2) ak) (dR (aN d4 (af 5) ak)))) (az (aY (i:=7) sc__law_recipe.nd (av aA (cR (ah ay (ah ay aj))) (cx jm rfl B.b_int boot_int (ah (cz (af 4) (cQ (bE aX (aJ Qaa (rm hr) rfl (ah (af 0) (ah ak aj)) (ao (ao aI))) ak))) aj)))) (az (aM (aN dM (aJ Qaa (rm hr) rfl (ah (af 0) (ah ak aj)) (ao (ao aI))) ak) (au (aY (i:=6) sc__law_recipe.nd (aS (ah ay (ah (av aA (af 1) (aJ Qaa (rm hr) rfl (ah (af 0) (ah (bt bM rfl B.b_len boot_len (ah (af 1) aj)) aj)) (ao (ao aI)))) aj))))) aO) (au (aC (aS (ah (af 7) (ah (af 6) (ah (aJ Qag (rm hr) rfl (ah (af 0) (ah (af 1) (ah (aP gM (af 2) ak) (ah (aP bg (af 3) ak) (ah (af 4) aj))))) (ao (ao (ao (ao (ao aI)))))) aj)))))))) aO) (az (aM (bL (dj (aN dM (af 2) ak) (dR (aN d4 (af 5) ak)))) (az (aY (i:=8) sc__law_recipe.nd (aJ Qag (rm hr) rfl (ah (af 0) (ah (af 1) (ah (aP gM (af 2) ak) (ah (af 3) (ah (af 4) aj))))) (ao (ao (ao (ao (ao aI))))))) (au (aC (aS (ah ay (ah (af 6) (ah (af 8) (ah (aJ Qag (rm hr) rfl (ah (af 0) (ah (af 1) (ah (aP gM (af 2) ak) (ah (af 3) (ah (af 4) aj))))) (ao (ao (ao (ao (ao aI)))))) aj)))))))) aO) (az (aM (bL (dj (aN aX (af 5) ak) (dR (aN aX (aJ Qaa (rm hr) rfl (ah (af 0) (ah ak aj)) (ao (ao aI))) ak)))) (au (aC (aS (ah ay (ah (av aA (aP bg (af 1) (cR (ah ay (ah ay aj)))) (aJ Qaa (rm hr) rfl (ah (af 0) (ah (aP bg (bt bM rfl B.b_len boot_len (ah (af 1) aj)) ak) aj)) (ao (ao aI)))) aj))))) aO) (au (aC (aS (ah ay (ah (af 6) aj))))))))))
theorem sc__law_book:FnScope ["_law_script","_law_at","_law_peeks","_law_head","_law_many_here","_law_names_here","_law_givens","_law_recipes","_law_k","_law_tape"] ["_law_script","_law_at","_law_peeks"] (aL (top 66)):=⟨rfl,rfl,rfl,by decide +kernel,rfl,by decide +kernel,by decide +kernel⟩
theorem vW (B:Bi K mg) (F:Fun K "_law_book" "_law_book" (top 66) f fd) (Qad:Fn P w K mg base "_law_cell_at" ["_law_script","_law_k"] 1 (spM K 2 cZ)) (Qau:Fn P w K mg base "_law_draws" ["_law_cell","_law_many_here"] 1 (spM K 2 ff)) (Qaa:Fn P w K mg base "_law_take" ["_law_tape","_law_many_here"] 1 (spM K 2 bf)) (Qbc:Fn P w K mg base "_law_names" ["_law_tape","_law_many_here"] 2 (spM K 2 ef)) (Qae:Fn P w K mg base "_law_value" ["_law_tape","_law_names_here","_law_deep"] 26 (spM K 3 (bW 25))) (Qag:Fn P w K mg base "_law_recipe" ["_law_tape","_law_names_here","_law_deep","_law_many_here","_law_peeks"] 53 (spM K 5 (bI 25))):FnOk P w K mg base CX0 54 f fd ["_law_script","_law_at","_law_peeks"] (spM K 3 (gn)):=dfn F sc__law_book fun _ _ _ _ _ _ hr=>(ph (i:=3) sc__law_book.nd (ah (aJ Qau (rm hr) rfl (ah (aJ Qad (rm hr) rfl (ah (af 0) (ah (af 1) aj)) (ao (ao aI))) (ah ak aj)) (ao (ao aI))) (ah ak aj)) (az (aY (i:=4) sc__law_book.nd (aP bg ak (aJ Qaa (rm hr) rfl (ah (af 3) (ah ak aj)) (ao (ao aI))))) (az (aY (i:=5) sc__law_book.nd (aJ Qbc (rm hr) rfl (ah (af 3) (ah (aP bg (af 4) ak) aj)) (ao (ao aI)))) (az (mz (i:=6) sc__law_book.nd) (az (mz (i:=7) sc__law_book.nd) (az (fX (i:=8) sc__law_book.nd (iq rfl B.b_range (af 4)) (ph (i:=9) sc__law_book.nd (ah (aJ Qau (rm hr) rfl (ah (aP bg (aJ Qad (rm hr) rfl (ah (af 0) (ah (aP bg (aP bg (af 1) ak) (af 8)) aj)) (ao (ao aI))) (aP eI ak (af 8))) (ah ak aj)) (ao (ao aI))) (ah ak aj)) (au (aM (aN aX (aJ Qaa (rm hr) rfl (ah (af 9) (ah ak aj)) (ao (ao aI))) ak) (au (ik (i:=6) hr (av aA (af 5) (af 8)) (aJ Qae (rm hr) rfl (ah (af 9) (ah (af 5) (ah ak aj))) (ao (ao (ao aI)))))) (au (ik (i:=7) hr (av aA (af 5) (af 8)) (aJ Qag (rm hr) rfl (ah (af 9) (ah (af 5) (ah (aP bg ak (aJ Qaa (rm hr) rfl (ah (af 9) (ah ak aj)) (ao (ao aI)))) (ah ak (ah (af 2) aj))))) (ao (ao (ao (ao (ao aI)))))))))))) (au (aC (aS (ah (af 6) (ah (af 7) aj)))))))))))
theorem sc__law_refused:FnScope ["_law_book_here","_law_name","e","_law_others"] ["_law_book_here","_law_name"] (aL (top 67)):=⟨rfl,rfl,rfl,by decide +kernel,rfl,by decide +kernel,by decide +kernel⟩
theorem sc_law:FnScope ["_law_script","_law_book_here","_law_kept","_law_good_here","_law_name"] ["_law_script"] (aL (top 68)):=⟨rfl,rfl,rfl,by decide +kernel,rfl,by decide +kernel,by decide +kernel⟩
theorem BO (B:Bi K mg) (F:Fun K "law" "law" (top 68) f fd) (Qad:Fn P w K mg base "_law_cell_at" ["_law_script","_law_k"] 1 (spM K 2 cZ)) (Qbk:Fn P w K mg base "_law_book" ["_law_script","_law_at","_law_peeks"] 54 (spM K 3 gn)) (Qbl:Fn P w K mg base "_law_good" ["_law_book_here"] 54 (spM K 1 gm)) (Qbm:Fn P w K mg base "_law_line" ["_law_book_here","_law_good_here","_law_name"] 54 (spM K 3 fg)) (Qba:Fn P w K mg base "line_of" ["book","name"] 85 (spM K 2 fO)) (Qai:Fn P w K mg base "_law_same" ["_law_found","_law_due"] 25 (spM K 2 (bw 25))) (Qax:Fn P w K mg base "_law_refused" ["_law_book_here","_law_name"] 86 (spM K 2 fN)):FnOk P w K mg base CX0 87 f fd ["_law_script"] (spM K 1 (kI)):=dfn F sc_law fun _ _ _ _ _ _ hr=>(az (aY (i:=1) sc_law.nd (aJ Qbk (rm hr) rfl (ah (af 0) (ah ak (ah (bE aX (aP dU (aJ Qad (rm hr) rfl (ah (af 0) (ah ak aj)) (ao (ao aI))) ak) ak) aj))) (ao (ao (ao aI))))) (az (aY (i:=2) sc_law.nd (aS (ah (rh B.b_dict (av aA (af 1) ak)) (ah (rh B.b_dict (av aA (af 1) ak)) aj)))) (az (aY (i:=3) sc_law.nd (aJ Qbl (rm hr) rfl (ah (af 2) aj) (ao aI))) (az (fX (i:=4) sc_law.nd (cj (qd B.b_sorted (av aA (af 1) ak))) (au (aM (b6 (a8 (aJ Qai (rm hr) rfl (ah (aJ Qba (rm hr) rfl (ah (af 1) (ah (af 4) aj)) (ao (ao aI))) (ah (aJ Qbm (rm hr) rfl (ah (af 2) (ah (af 3) (ah (af 4) aj))) (ao (ao (ao aI)))) aj)) (ao (ao aI))))) (au (aC cV)) aO))) (az (fX (i:=4) sc_law.nd (cj (aP bg (qd B.b_sorted (av aA (af 1) ak)) (cR (ah ay (ah ay (ah ay aj)))))) (au (aM (b6 (a8 (aJ Qai (rm hr) rfl (ah (aJ Qax (rm hr) rfl (ah (af 1) (ah (af 4) aj)) (ao (ao aI))) (ah (cR (ah cV (ah cV (ah (af 4) aj)))) aj)) (ao (ao aI))))) (au (aC cV)) aO))) (au (aC (aJ Qai (rm hr) rfl (ah (af 1) (ah (af 2) aj)) (ao (ao aI))))))))))
theorem Bq:FnScope ["self","name"] ["self","name"] (aL (iQ 2 0)):=⟨rfl,rfl,rfl,by decide +kernel,rfl,by decide +kernel,by decide +kernel⟩
theorem BQ {P:Program} {w:World} {K:Frag} {mg:Str→Option Value} {base:Heap} {f:Addr} {fd:FuncData} {C R:Addr} {Ds:List Addr} (x:XE.XB K C R "name" Ds) (mR:mg "RedoError" = some (.ref R)) (F:Fun K "__init__" "NotMade.__init__" (iQ 2 0) f fd) :
  FnOk P w K mg base CX0 1 f fd ["self","name"] (XE.spI C "name"):=by
 refine F.ok Bq (fun vs H Q E h=>?_) (fun cdv A outer s H vs Q E hr h=>?_)
 ·obtain ⟨a,y,rfl,_⟩:=h
  rfl
 ·exact ⟨_,gy (qz (XE.BF x.c x.r x.ri rfl mR x.rd x.fc (pv 0) (XE.C1 (j:=0) (pv 1)))) (ic (XE.CP x.c x.sa x.nn (pv 0) (pv 1))),XE.zu (by decide) h⟩
theorem DD {P:Program} {w:World} {K:Frag} {mg:Str→Option Value} {base:Heap} {C R:Addr} {Ds:List Addr} (x:XE.XB K C R "name" Ds) (mR:mg "RedoError" = some (.ref R)) (d:DfM K C "__init__" "NotMade.__init__" (iQ 2 0)):XE.XIni P w K mg base C R "name" 1:=by
 obtain ⟨f,oc,od,an,sl,kV,dc,pm,cd,ct,a,l,c,kp,fn⟩:=d.ex
 have F:=ko (st:=iQ 2 0) l c kp
 exact ⟨⟨f,_,_,BQ x mR F,F.binds (ps:=["self","name"]) (fun _ _ _ _ _ _ us hl=>match us,hl with | [_,_],_=>rfl),a,fn⟩,x.c,x.r,x.ri,x.kp⟩
theorem wc {P:Program} {w:World} {K:Frag} {mg:Str→Option Value} {base:Heap} {f:Addr} {fd:FuncData} {C R:Addr} (B:Bi K mg) (F:Fun K "line_of" "line_of" (top 38) f fd) (Qac:Fn P w K mg base "made_afresh" ["book"] 84 (spM K 1 eY))
  (XI:XE.XIni P w K mg base C R "name" 1) (mC:mg "NotMade" = some (.ref C)):FnOk P w K mg base (XE.CXx P w) 85 f fd ["book","name"] (XE.spX K 2 C "name" jA):=by
 refine XE.okX F sc_line_of (fun vs H Q E h=>?_) (fun cdv A outer s H vs Q E hr h=>?_)
 ·obtain ⟨O,ts,T,ws,x,T',hc,rw',hl,_⟩:=h
  exact (Paired.length rw').trans hl
 ·obtain ⟨O,ts,T,ws,x,T',hc,rw',hl,hn,e,q⟩:=h
  refine ⟨_,gy (DS.pe (aY (i:=2) sc_line_of.nd (av aA (aJ Qac (hr.mono (by omega)) rfl (ah (af 0) aj) (ao aI)) ak))) (gy (tD (DT.pe (aN (jN hr) (af 1) (af 2))) (ic (XE.y3 XI.c (XE.BA XI (hr.mono (by omega)) rfl mC (pv 1)))) qy) (ic (DS.pe qW))),?_⟩
  have rs:=XE.yS (N:=["book","name","come"]) hc rw' hn
  unfold jA at e
  obtain ⟨⟨fl,ρ1⟩,T1,e1,e⟩:=aT e
  cases fl with
  | nx=>
   refine ⟨O,H,[],ts,O,_,T,.nx,ρ1,T1,rs,e1,fun O' σ' H' rs1=>?_⟩
   obtain ⟨b,T2,e2,e⟩:=aT e
   cases b with
   | true=>
    refine ⟨O',ts,ρ1,T1,true,T2,rs1.hc,rs1.re,e2,fun H2 s2 hc2=>d6 ?_⟩
    rw [if_pos rfl] at e
    split at e
    ·rename_i y h1
     split at e
     ·rename_i hz
      cases e
      exact XE.wY (rs1.step s2 hc2) h1 hz q
     ·cases e
    ·cases e
   | false=>
    rw [if_neg Bool.false_ne_true] at e
    cases e
  | rt y=>cases e
  | bk=>cases e
  | ct=>cases e
  | ro y=>cases e
theorem u5 {P:Program} {w:World} {K:Frag} {mg:Str→Option Value} {base:Heap} {f:Addr} {fd:FuncData} (B:Bi K mg) (F:Fun K "_law_refused" "_law_refused" (top 67) f fd) (Qba:Fn P w K mg base "line_of" ["book","name"] 85 (spM K 2 fO)) (Qac:Fn P w K mg base "made_afresh" ["book"] 84 (spM K 1 eY)):FnOk P w K mg base CX0 86 f fd ["_law_book_here","_law_name"] (spM K 2 (fN)):=by
 obtain ⟨C,R,A1,A2,A3,x,mC,mR,m1,m2,m3,di⟩:=B.xc
 obtain ⟨fl,fdl,Fl,ml⟩:=B.xl
 have XI:XE.XIni P w K mg base C R "name" 1:=DD x mR di
 have FL:=wc B Fl Qac XI mC
 have BL:L2.Binds K fdl ["book","name"] []:=Fl.binds (fun _ _ _ _ _ _ us hl=>match us,hl with | [_,_],_=>rfl)
 refine F.ok sc__law_refused (fun vs H Q E h=>?_) (fun cdv A outer s H vs Q E hr h=>?_)
 ·obtain ⟨O,ts,T,ws,y,T',hc,rw',hl,_⟩:=h
  exact (Paired.length rw').trans hl
 ·obtain ⟨O,ts,T,ws,y,T',hc,rw',hl,e,q⟩:=h
  refine ⟨_,gy (XE.Bx (C:=C) (R:=R) (i:=2) FL (hr.mono (by omega)) rfl ml Fl.kp BL (bu (pv 0) (bu (pv 1) bX)) x.c x.r rfl mR sc__law_refused.nd (fun e oe dx h1 h2 h3=>gy (iz (i:=3) sc__law_refused.nd rfl (.inl rfl)
    (CV (XE.Ak (Ds:=[A1,A2,A3]) (C:=C) ⟨List.mem_cons_self,h1,h2,h3,x.is,x.hd⟩ (pv 2) rfl B.b_isinstance (bu (gC (v:=.ref A1) rfl m1 rfl) (bu (gC (v:=.ref A2) rfl m2 rfl) (bu (gC (v:=.ref A3) rfl m3 rfl) bX))) (fun _ _ _ z=>z) (show 3≤100 by decide) x.kD)
     (mT (rY (XE.Al (T:="") (C:=C) ⟨List.mem_cons_self,h1,h2,h3,x.is,x.hd⟩ (pv 2) rfl B.b_isinstance rfl B.b_ValueError x.kV)))))
    (ic (mP (i6 (bu (XE.rZ (C:=C) ⟨List.mem_cons_self,h1,h2,h3,x.is,x.hd⟩ (pv 2) rfl B.b_isinstance rfl mC x.kC) (bu (pv 3) (bu (r6 (XE.rZ (C:=C) ⟨List.mem_cons_self,h1,h2,h3,x.is,x.hd⟩ (pv 2) rfl B.b_isinstance rfl mC x.kC) (mT (XE.CT (C:=C) ⟨List.mem_cons_self,h1,h2,h3,x.is,x.hd⟩ (pv 2) x.nn))) bX)))))))) (ic (mP (i6 bX))),?_⟩
  unfold fN at e
  split at e
  ·rename_i hz
   obtain ⟨x0,T1,e1,e⟩:=aT e
   cases e
   obtain ⟨v0,v1,rfl⟩:∃ a b,vs=[a,b]:=by
    have hv:vs.length=2:=(Paired.length rw').trans hl
    match vs,hv with
    | [a,b],_=>exact ⟨a,b,rfl⟩
   refine ⟨v0,rfl,v1,rfl,O,ts,T,ws,x0,_,hc,rw',hl,hz.2,e1,fun dx H' s1 hc1 hx=>⟨rfl,dx,rfl,fun e=>?_⟩⟩
   refine ⟨rfl,⟨_,hx⟩,fun p hp=>⟨false,rfl,eU ⟨rfl,⟨_,(aR (cu hx hp)).trans hx⟩,true,rfl,?_⟩⟩⟩
   refine ⟨rfl,⟨_,(aR (cu hx hp)).trans hx⟩,.bl false,rfl,rfl,⟨_,(aR (cu hx hp)).trans hx⟩,true,rfl,d6 ⟨rfl,_,.str x0,(aR (cu hx hp)).trans hx,rfl,(by show 3≤sizeLine; decide),fun l hl=>?_⟩⟩
   exact q _ _ ((s1.trans (.new hp _)).trans (.new hl _)) ((hc1.new hp _).new hl _) ((hc1.new hp _).newL hl (.cons (.bl _) (.cons (.bl _) (.cons (.str _) .nil))))
  ·cases e
theorem bP {α:Type} {us:List α} (h:us.length=1):∃ a,us=[a]:=List.length_eq_one_iff.mp h
theorem bA {α:Type}:∀ {us:List α},us.length=2→∃ a b,us=[a,b]
 | [a,b],_=>⟨a,b,rfl⟩
theorem gT {α:Type}:∀ {us:List α},us.length=3→∃ a b c,us=[a,b,c]
 | [a,b,c],_=>⟨a,b,c,rfl⟩
theorem uG {α:Type}:∀ {us:List α},us.length=5→∃ a b c d e,us=[a,b,c,d,e]
 | [a,b,c,d,e],_=>⟨a,b,c,d,e,rfl⟩
theorem all_mk {l:PySem.W.OpenLaw} {w:World} {K:Frag} {h:Heap} {mg:Str→Option Value} {fa:Addr} (X:K.In h) (G:h.Ns mainGlobals mg) (hfa:mg "law" = some (.ref fa)) {xC xR xA1 xA2 xA3:Addr} (q_NotMade:PySem.W.nsIn K mainGlobals "NotMade" = some (some (.ref xC))) (q_RedoError:PySem.W.nsIn K mainGlobals "RedoError" = some (some (.ref xR))) (q_NoLine:PySem.W.nsIn K mainGlobals "NoLine" = some (some (.ref xA1))) (q_NoName:PySem.W.nsIn K mainGlobals "NoName" = some (some (.ref xA2))) (q_NoThing:PySem.W.nsIn K mainGlobals "NoThing" = some (some (.ref xA3))) (xb:XE.XB K xC xR "name" [xA1,xA2,xA3]) (Qcd:DfM K xC "__init__" "NotMade.__init__" (iQ 2 0)) (d_is_whole:Df K "is_whole" (top 14)) (d_has_only:Df K "has_only" (top 15)) (d_is_name:Df K "is_name" (top 16)) (d_is_single:Df K "is_single" (top 17)) (d_is_built:Df K "is_built" (top 18)) (d_many_of:Df K "many_of" (top 20)) (d_is_value:Df K "is_value" (top 19)) (d_exprs_within:Df K "exprs_within" (top 22)) (d_told_less:Df K "told_less" (top 32)) (d_bounded:Df K "bounded" (top 27)) (d_told_many:Df K "told_many" (top 28)) (d_told_part:Df K "told_part" (top 29)) (d_told_sum:Df K "told_sum" (top 30)) (d_told_join:Df K "told_join" (top 31)) (d_told_of:Df K "told_of" (top 26)) (d_told_by:Df K "told_by" (top 25)) (d_step_of:Df K "step_of" (top 34)) (d_stamp_of:Df K "stamp_of" (top 36)) (d_end_by:Df K "end_by" (top 45)) (d_line_from:Df K "line_from" (top 44)) (d_start_of:Df K "start_of" (top 40)) (d_awaited_at:Df K "awaited_at" (top 42)) (d_given:Df K "given" (top 43)) (d_gone_on:Df K "gone_on" (top 41)) (d_made_afresh:Df K "made_afresh" (top 39)) (d_line_of:Df K "line_of" (top 38)) (d__law_cell_at:Df K "_law_cell_at" (top 47)) (d__law_draws:Df K "_law_draws" (top 48)) (d__law_take:Df K "_law_take" (top 49)) (d__law_many:Df K "_law_many" (top 50)) (d__law_is_name:Df K "_law_is_name" (top 51)) (d__law_is_part:Df K "_law_is_part" (top 52)) (d__law_is_value:Df K "_law_is_value" (top 53)) (d__law_stamp:Df K "_law_stamp" (top 54)) (d__law_of_two:Df K "_law_of_two" (top 55)) (d__law_told:Df K "_law_told" (top 56)) (d__law_run:Df K "_law_run" (top 57)) (d__law_good:Df K "_law_good" (top 58)) (d__law_line:Df K "_law_line" (top 59)) (d__law_same:Df K "_law_same" (top 60)) (d__law_names:Df K "_law_names" (top 61)) (d__law_value:Df K "_law_value" (top 62)) (d__law_simple:Df K "_law_simple" (top 63)) (d__law_expr:Df K "_law_expr" (top 64)) (d__law_recipe:Df K "_law_recipe" (top 65)) (d__law_book:Df K "_law_book" (top 66)) (d__law_refused:Df K "_law_refused" (top 67)) (d_law:Df K "law" (top 68)) (z_ValueError:PySem.W.nsIn K mainGlobals "ValueError" = some none) (Qce:PySem.W.nsIn K mainGlobals "abs" = some none) (Qcf:PySem.W.nsIn K mainGlobals "all" = some none) (Qbz:PySem.W.nsIn K mainGlobals "bool" = some none) (Qca:PySem.W.nsIn K mainGlobals "dict" = some none) (Qcg:PySem.W.nsIn K mainGlobals "int" = some none) (Qbv:PySem.W.nsIn K mainGlobals "isinstance" = some none) (Qch:PySem.W.nsIn K mainGlobals "len" = some none) (Qcb:PySem.W.nsIn K mainGlobals "list" = some none) (Qbx:PySem.W.nsIn K mainGlobals "range" = some none) (Qcc:PySem.W.nsIn K mainGlobals "repr" = some none) (Qbw:PySem.W.nsIn K mainGlobals "sorted" = some none) (Qci:PySem.W.nsIn K mainGlobals "str" = some none) (Qcj:PySem.W.nsIn K mainGlobals "sum" = some none) (Qby:PySem.W.nsIn K mainGlobals "tuple" = some none) {t_LETTERS:Tok} (y_LETTERS:PySem.W.nsIn K mainGlobals "LETTERS" = some (some (.str "abcdefghijklmnopqrstuvwxyz" t_LETTERS))) {t_MOST_LETTERS:Tok} (y_MOST_LETTERS:PySem.W.nsIn K mainGlobals "MOST_LETTERS" = some (some (.int 8 t_MOST_LETTERS))) {t_MOST_PARTS:Tok} (y_MOST_PARTS:PySem.W.nsIn K mainGlobals "MOST_PARTS" = some (some (.int 8 t_MOST_PARTS))) {t_MOST_ROWS:Tok} (y_MOST_ROWS:PySem.W.nsIn K mainGlobals "MOST_ROWS" = some (some (.int 4 t_MOST_ROWS))) {t_MOST_SIGNS:Tok} (y_MOST_SIGNS:PySem.W.nsIn K mainGlobals "MOST_SIGNS" = some (some (.int 20 t_MOST_SIGNS))) {t_MOST_VALUES:Tok} (y_MOST_VALUES:PySem.W.nsIn K mainGlobals "MOST_VALUES" = some (some (.int 40 t_MOST_VALUES))) {t_TEXT_SIGNS:Tok} (y_TEXT_SIGNS:PySem.W.nsIn K mainGlobals "TEXT_SIGNS" = some (some (.str "abcdefghijklmnopqrstuvwxyz0123456789-" t_TEXT_SIGNS))) {a_GETTING:Addr} {o_GETTING:Obj} (u_GETTING:PySem.W.nsIn K mainGlobals "GETTING" = some (some (.ref a_GETTING))) (l_GETTING:K.lookup a_GETTING=some o_GETTING) (v_GETTING:nA o_GETTING ["want","peek"]=true)
  (hm:∀ ns:List Int,ns.length≤63→∃ T',kI [.d (de ns)] []=some (.bool true,T')) :
  ∃ fd:FuncData,(∀ (s:Shared) (v:Value),BindsTo s fd ⟨[v],[]⟩ [("_law_script",v)])∧∀ base:Heap,K.In base→base.Ns mainGlobals mg→FnOk l.prog w K mg base CX0 87 fa fd ["_law_script"] (kz K):=by
 have B:Bi K mg:=⟨PySem.W.mg_none_of X G z_ValueError,PySem.W.mg_none_of X G Qce,PySem.W.mg_none_of X G Qcf,PySem.W.mg_none_of X G Qbz,PySem.W.mg_none_of X G Qca,PySem.W.mg_none_of X G Qcg,PySem.W.mg_none_of X G Qbv,PySem.W.mg_none_of X G Qch,PySem.W.mg_none_of X G Qcb,PySem.W.mg_none_of X G Qbx,PySem.W.mg_none_of X G Qcc,PySem.W.mg_none_of X G Qbw,PySem.W.mg_none_of X G Qci,PySem.W.mg_none_of X G Qcj,PySem.W.mg_none_of X G Qby,⟨_,PySem.W.mg_of X G u_GETTING,xO l_GETTING v_GETTING⟩,⟨_,PySem.W.mg_of X G y_LETTERS⟩,⟨_,PySem.W.mg_of X G y_MOST_LETTERS⟩,⟨_,PySem.W.mg_of X G y_MOST_PARTS⟩,⟨_,PySem.W.mg_of X G y_MOST_ROWS⟩,⟨_,PySem.W.mg_of X G y_MOST_SIGNS⟩,⟨_,PySem.W.mg_of X G y_MOST_VALUES⟩,⟨_,PySem.W.mg_of X G y_TEXT_SIGNS⟩,⟨_,_,_,_,_,xb,PySem.W.mg_of X G q_NotMade,PySem.W.mg_of X G q_RedoError,PySem.W.mg_of X G q_NoLine,PySem.W.mg_of X G q_NoName,PySem.W.mg_of X G q_NoThing,Qcd⟩,let ⟨f,_,_,_,_,_,_,_,_,_,a,lk,c,kp⟩:=d_line_of.ex; ⟨f,_,ko lk c kp,PySem.W.mg_of X G a⟩⟩
 obtain ⟨f0,oc,od,an,sl,kV,dc,pm,cd,ct,a,lk,c,kp⟩:=d_law.ex
 have e:=hfa.symm.trans (PySem.W.mg_of X G a)
 cases e
 have FL:=ko (st:=top 68) lk c kp
 refine ⟨PySem.W.fnOf "law" "law" (eB (top 68)) (da (top 68)) (aL (top 68)) .none kV dc pm an cd ct,fun s v=>.of_eq rfl,fun base _ _=>?_⟩
 have Qab:Fn l.prog w K mg base "is_whole" ["thing"] 1 (spM K 1 b8):=d_is_whole.fn X G (fun _ _ _ _ _ _ _ h=>by obtain ⟨_,rfl⟩:=bP h; rfl) fun f fd F=>wm B F
 have Qan:Fn l.prog w K mg base "has_only" ["text","signs"] 1 (spM K 2 et):=d_has_only.fn X G (fun _ _ _ _ _ _ _ h=>by obtain ⟨_,_,rfl⟩:=bA h; rfl) fun f fd F=>wx B F
 have Qbr:Fn l.prog w K mg base "is_name" ["thing"] 2 (spM K 1 fQ):=d_is_name.fn X G (fun _ _ _ _ _ _ _ h=>by obtain ⟨_,rfl⟩:=bP h; rfl) fun f fd F=>xj B F Qan
 have Qbd:Fn l.prog w K mg base "is_single" ["thing"] 2 (spM K 1 gk):=d_is_single.fn X G (fun _ _ _ _ _ _ _ h=>by obtain ⟨_,rfl⟩:=bP h; rfl) fun f fd F=>vO B F Qab Qan
 have R_is_built:∀ n:Nat,Fn l.prog w K mg base "is_built" ["thing","rows_left"] (2 + n) (spM K 2 (c7 n)):=by
  intro n
  induction n with
  | zero=>exact d_is_built.fn X G (fun _ _ _ _ _ _ _ h=>by obtain ⟨_,_,rfl⟩:=bA h; rfl) fun f fd F=>dF
  | succ n ih=>exact d_is_built.fn X G (fun _ _ _ _ _ _ _ h=>by obtain ⟨_,_,rfl⟩:=bA h; rfl) fun f fd F=>wu n B F Qbd ih
 have Qas:=R_is_built 25
 have R_many_of:∀ n:Nat,Fn l.prog w K mg base "many_of" ["value"] (0 + n) (spM K 1 (eA n)):=by
  intro n
  induction n with
  | zero=>exact d_many_of.fn X G (fun _ _ _ _ _ _ _ h=>by obtain ⟨_,rfl⟩:=bP h; rfl) fun f fd F=>dF
  | succ n ih=>exact d_many_of.fn X G (fun _ _ _ _ _ _ _ h=>by obtain ⟨_,rfl⟩:=bP h; rfl) fun f fd F=>xh n B F ih
 have Qay:=R_many_of 25
 have Qbn:Fn l.prog w K mg base "is_value" ["thing"] 28 (spM K 1 gr):=d_is_value.fn X G (fun _ _ _ _ _ _ _ h=>by obtain ⟨_,rfl⟩:=bP h; rfl) fun f fd F=>wq B F Qas Qay
 have Qav:Fn l.prog w K mg base "exprs_within" ["expr"] 1 (spM K 1 dA):=d_exprs_within.fn X G (fun _ _ _ _ _ _ _ h=>by obtain ⟨_,rfl⟩:=bP h; rfl) fun f fd F=>u4 B F
 have Qbh:Fn l.prog w K mg base "told_less" ["one","other"] 2 (spM K 2 ei):=d_told_less.fn X G (fun _ _ _ _ _ _ _ h=>by obtain ⟨_,_,rfl⟩:=bA h; rfl) fun f fd F=>vL B F Qab
 have Qah:Fn l.prog w K mg base "bounded" ["thing"] 29 (spM K 1 dD):=d_bounded.fn X G (fun _ _ _ _ _ _ _ h=>by obtain ⟨_,rfl⟩:=bP h; rfl) fun f fd F=>xm B F Qbn
 have Qbe:Fn l.prog w K mg base "told_many" ["value"] 2 (spM K 1 gj):=d_told_many.fn X G (fun _ _ _ _ _ _ _ h=>by obtain ⟨_,rfl⟩:=bP h; rfl) fun f fd F=>vK B F Qab
 have Qbf:Fn l.prog w K mg base "told_part" ["row","number"] 2 (spM K 2 dN):=d_told_part.fn X G (fun _ _ _ _ _ _ _ h=>by obtain ⟨_,_,rfl⟩:=bA h; rfl) fun f fd F=>vJ B F Qab
 have Qbo:Fn l.prog w K mg base "told_sum" ["one","other"] 30 (spM K 2 fj):=d_told_sum.fn X G (fun _ _ _ _ _ _ _ h=>by obtain ⟨_,_,rfl⟩:=bA h; rfl) fun f fd F=>we B F Qab Qah
 have Qbg:Fn l.prog w K mg base "told_join" ["one","other"] 30 (spM K 2 dO):=d_told_join.fn X G (fun _ _ _ _ _ _ _ h=>by obtain ⟨_,_,rfl⟩:=bA h; rfl) fun f fd F=>vM B F Qah
 have Qbq:Fn l.prog w K mg base "told_of" ["word","parts"] 31 (spM K 2 bc):=d_told_of.fn X G (fun _ _ _ _ _ _ _ h=>by obtain ⟨_,_,rfl⟩:=bA h; rfl) fun f fd F=>w8 B F Qah Qbe Qbf Qbo Qbg Qbh
 have R_told_by:∀ n:Nat,Fn l.prog w K mg base "told_by" ["expr","got"] (31 + n) (spM K 2 (cw n)):=by
  intro n
  induction n with
  | zero=>exact d_told_by.fn X G (fun _ _ _ _ _ _ _ h=>by obtain ⟨_,_,rfl⟩:=bA h; rfl) fun f fd F=>dF
  | succ n ih=>exact d_told_by.fn X G (fun _ _ _ _ _ _ _ h=>by obtain ⟨_,_,rfl⟩:=bA h; rfl) fun f fd F=>xf n B F Qav ih Qbq
 have Qaz:=R_told_by 25
 have R_step_of:∀ n:Nat,Fn l.prog w K mg base "step_of" ["recipe","got"] (56 + n) (spM K 2 (bR n)):=by
  intro n
  induction n with
  | zero=>exact d_step_of.fn X G (fun _ _ _ _ _ _ _ h=>by obtain ⟨_,_,rfl⟩:=bA h; rfl) fun f fd F=>dF
  | succ n ih=>exact d_step_of.fn X G (fun _ _ _ _ _ _ _ h=>by obtain ⟨_,_,rfl⟩:=bA h; rfl) fun f fd F=>xg n B F Qaz ih Qbr
 have Qam:=R_step_of 25
 have R_stamp_of:∀ n:Nat,Fn l.prog w K mg base "stamp_of" ["value"] (1 + n) (spM K 1 (cH n)):=by
  intro n
  induction n with
  | zero=>exact d_stamp_of.fn X G (fun _ _ _ _ _ _ _ h=>by obtain ⟨_,rfl⟩:=bP h; rfl) fun f fd F=>dF
  | succ n ih=>exact d_stamp_of.fn X G (fun _ _ _ _ _ _ _ h=>by obtain ⟨_,rfl⟩:=bP h; rfl) fun f fd F=>wj n B F Qab ih
 have Qaj:=R_stamp_of 25
 have Qbt:Fn l.prog w K mg base "end_by" ["step"] 27 (spM K 1 fU):=d_end_by.fn X G (fun _ _ _ _ _ _ _ h=>by obtain ⟨_,rfl⟩:=bP h; rfl) fun f fd F=>ya B F Qaj
 have Qbi:Fn l.prog w K mg base "line_from" ["name","come"] 28 (spM K 2 g0):=d_line_from.fn X G (fun _ _ _ _ _ _ _ h=>by obtain ⟨_,_,rfl⟩:=bA h; rfl) fun f fd F=>vN B F Qaj Qbt
 have Qbp:Fn l.prog w K mg base "start_of" ["recipe"] 82 (spM K 1 gq):=d_start_of.fn X G (fun _ _ _ _ _ _ _ h=>by obtain ⟨_,rfl⟩:=bP h; rfl) fun f fd F=>wg B F Qam
 have Qat:Fn l.prog w K mg base "awaited_at" ["come"] 1 (spM K 1 cO):=d_awaited_at.fn X G (fun _ _ _ _ _ _ _ h=>by obtain ⟨_,rfl⟩:=bP h; rfl) fun f fd F=>vn B F
 have Qbu:Fn l.prog w K mg base "given" ["come","value"] 82 (spM K 2 fW):=d_given.fn X G (fun _ _ _ _ _ _ _ h=>by obtain ⟨_,_,rfl⟩:=bA h; rfl) fun f fd F=>ze B F Qam
 have Qbs:Fn l.prog w K mg base "gone_on" ["come","good"] 83 (spM K 2 gu):=d_gone_on.fn X G (fun _ _ _ _ _ _ _ h=>by obtain ⟨_,_,rfl⟩:=bA h; rfl) fun f fd F=>xk B F Qat Qbu
 have Qac:Fn l.prog w K mg base "made_afresh" ["book"] 84 (spM K 1 eY):=d_made_afresh.fn X G (fun _ _ _ _ _ _ _ h=>by obtain ⟨_,rfl⟩:=bP h; rfl) fun f fd F=>vc B F Qbp Qbs
 have Qba:Fn l.prog w K mg base "line_of" ["book","name"] 85 (spM K 2 fO):=d_line_of.fn X G (fun _ _ _ _ _ _ _ h=>by obtain ⟨_,_,rfl⟩:=bA h; rfl) fun f fd F=>xi B F Qac Qbi
 have Qad:Fn l.prog w K mg base "_law_cell_at" ["_law_script","_law_k"] 1 (spM K 2 cZ):=d__law_cell_at.fn X G (fun _ _ _ _ _ _ _ h=>by obtain ⟨_,_,rfl⟩:=bA h; rfl) fun f fd F=>u9 B F
 have Qau:Fn l.prog w K mg base "_law_draws" ["_law_cell","_law_many_here"] 1 (spM K 2 ff):=d__law_draws.fn X G (fun _ _ _ _ _ _ _ h=>by obtain ⟨_,_,rfl⟩:=bA h; rfl) fun f fd F=>vv B F
 have Qaa:Fn l.prog w K mg base "_law_take" ["_law_tape","_law_many_here"] 1 (spM K 2 bf):=d__law_take.fn X G (fun _ _ _ _ _ _ _ h=>by obtain ⟨_,_,rfl⟩:=bA h; rfl) fun f fd F=>vQ B F
 have R__law_many:∀ n:Nat,Fn l.prog w K mg base "_law_many" ["_law_value_here"] (0 + n) (spM K 1 (ej n)):=by
  intro n
  induction n with
  | zero=>exact d__law_many.fn X G (fun _ _ _ _ _ _ _ h=>by obtain ⟨_,rfl⟩:=bP h; rfl) fun f fd F=>dF
  | succ n ih=>exact d__law_many.fn X G (fun _ _ _ _ _ _ _ h=>by obtain ⟨_,rfl⟩:=bP h; rfl) fun f fd F=>vS n B F ih
 have Qap:=R__law_many 25
 have Qaw:Fn l.prog w K mg base "_law_is_name" ["_law_thing"] 1 (spM K 1 eX):=d__law_is_name.fn X G (fun _ _ _ _ _ _ _ h=>by obtain ⟨_,rfl⟩:=bP h; rfl) fun f fd F=>u7 B F
 have R__law_is_part:∀ n:Nat,Fn l.prog w K mg base "_law_is_part" ["_law_thing","_law_deep"] (0 + n) (spM K 2 (cG n)):=by
  intro n
  induction n with
  | zero=>exact d__law_is_part.fn X G (fun _ _ _ _ _ _ _ h=>by obtain ⟨_,_,rfl⟩:=bA h; rfl) fun f fd F=>dF
  | succ n ih=>exact d__law_is_part.fn X G (fun _ _ _ _ _ _ _ h=>by obtain ⟨_,_,rfl⟩:=bA h; rfl) fun f fd F=>u6 n B F ih
 have Qak:=R__law_is_part 25
 have Qaf:Fn l.prog w K mg base "_law_is_value" ["_law_thing"] 26 (spM K 1 d9):=d__law_is_value.fn X G (fun _ _ _ _ _ _ _ h=>by obtain ⟨_,rfl⟩:=bP h; rfl) fun f fd F=>uW B F Qak Qap
 have R__law_stamp:∀ n:Nat,Fn l.prog w K mg base "_law_stamp" ["_law_value_here"] (0 + n) (spM K 1 (cP n)):=by
  intro n
  induction n with
  | zero=>exact d__law_stamp.fn X G (fun _ _ _ _ _ _ _ h=>by obtain ⟨_,rfl⟩:=bP h; rfl) fun f fd F=>dF
  | succ n ih=>exact d__law_stamp.fn X G (fun _ _ _ _ _ _ _ h=>by obtain ⟨_,rfl⟩:=bP h; rfl) fun f fd F=>vq n B F ih
 have Qal:=R__law_stamp 25
 have Qbb:Fn l.prog w K mg base "_law_of_two" ["_law_kind","_law_one","_law_other"] 27 (spM K 3 bj):=d__law_of_two.fn X G (fun _ _ _ _ _ _ _ h=>by obtain ⟨_,_,_,rfl⟩:=gT h; rfl) fun f fd F=>vf B F Qaf
 have R__law_told:∀ n:Nat,Fn l.prog w K mg base "_law_told" ["_law_expr_here","_law_got"] (27 + n) (spM K 2 (b4 n)):=by
  intro n
  induction n with
  | zero=>exact d__law_told.fn X G (fun _ _ _ _ _ _ _ h=>by obtain ⟨_,_,rfl⟩:=bA h; rfl) fun f fd F=>dF
  | succ n ih=>exact d__law_told.fn X G (fun _ _ _ _ _ _ _ h=>by obtain ⟨_,_,rfl⟩:=bA h; rfl) fun f fd F=>vP n B F ih Qaf Qbb
 have Qaq:=R__law_told 25
 have Qao:Fn l.prog w K mg base "_law_run" ["_law_recipe_here","_law_good_here"] 53 (spM K 2 fm):=d__law_run.fn X G (fun _ _ _ _ _ _ _ h=>by obtain ⟨_,_,rfl⟩:=bA h; rfl) fun f fd F=>wy B F Qaq Qaw
 have Qbl:Fn l.prog w K mg base "_law_good" ["_law_book_here"] 54 (spM K 1 gm):=d__law_good.fn X G (fun _ _ _ _ _ _ _ h=>by obtain ⟨_,rfl⟩:=bP h; rfl) fun f fd F=>vU B F Qao
 have Qbm:Fn l.prog w K mg base "_law_line" ["_law_book_here","_law_good_here","_law_name"] 54 (spM K 3 fg):=d__law_line.fn X G (fun _ _ _ _ _ _ _ h=>by obtain ⟨_,_,_,rfl⟩:=gT h; rfl) fun f fd F=>vT B F Qao Qal
 have R__law_same:∀ n:Nat,Fn l.prog w K mg base "_law_same" ["_law_found","_law_due"] (0 + n) (spM K 2 (bw n)):=by
  intro n
  induction n with
  | zero=>exact d__law_same.fn X G (fun _ _ _ _ _ _ _ h=>by obtain ⟨_,_,rfl⟩:=bA h; rfl) fun f fd F=>dF
  | succ n ih=>exact d__law_same.fn X G (fun _ _ _ _ _ _ _ h=>by obtain ⟨_,_,rfl⟩:=bA h; rfl) fun f fd F=>vR n B F ih
 have Qai:=R__law_same 25
 have Qbc:Fn l.prog w K mg base "_law_names" ["_law_tape","_law_many_here"] 2 (spM K 2 ef):=d__law_names.fn X G (fun _ _ _ _ _ _ _ h=>by obtain ⟨_,_,rfl⟩:=bA h; rfl) fun f fd F=>vt B F Qaa
 have R__law_value:∀ n:Nat,Fn l.prog w K mg base "_law_value" ["_law_tape","_law_names_here","_law_deep"] (1 + n) (spM K 3 (bW n)):=by
  intro n
  induction n with
  | zero=>exact d__law_value.fn X G (fun _ _ _ _ _ _ _ h=>by obtain ⟨_,_,_,rfl⟩:=gT h; rfl) fun f fd F=>dF
  | succ n ih=>exact d__law_value.fn X G (fun _ _ _ _ _ _ _ h=>by obtain ⟨_,_,_,rfl⟩:=gT h; rfl) fun f fd F=>vp n B F Qaa ih
 have Qae:=R__law_value 25
 have Qar:Fn l.prog w K mg base "_law_simple" ["_law_tape","_law_names_here","_law_many_here"] 27 (spM K 3 eZ):=d__law_simple.fn X G (fun _ _ _ _ _ _ _ h=>by obtain ⟨_,_,_,rfl⟩:=gT h; rfl) fun f fd F=>vd B F Qaa Qae
 have Qbj:Fn l.prog w K mg base "_law_expr" ["_law_tape","_law_names_here","_law_many_here"] 28 (spM K 3 fh):=d__law_expr.fn X G (fun _ _ _ _ _ _ _ h=>by obtain ⟨_,_,_,rfl⟩:=gT h; rfl) fun f fd F=>vV B F Qaa Qar
 have R__law_recipe:∀ n:Nat,Fn l.prog w K mg base "_law_recipe" ["_law_tape","_law_names_here","_law_deep","_law_many_here","_law_peeks"] (28 + n) (spM K 5 (bI n)):=by
  intro n
  induction n with
  | zero=>exact d__law_recipe.fn X G (fun _ _ _ _ _ _ _ h=>by obtain ⟨_,_,_,_,_,rfl⟩:=uG h; rfl) fun f fd F=>dF
  | succ n ih=>exact d__law_recipe.fn X G (fun _ _ _ _ _ _ _ h=>by obtain ⟨_,_,_,_,_,rfl⟩:=uG h; rfl) fun f fd F=>ve n B F Qaa Qbj ih
 have Qag:=R__law_recipe 25
 have Qbk:Fn l.prog w K mg base "_law_book" ["_law_script","_law_at","_law_peeks"] 54 (spM K 3 gn):=d__law_book.fn X G (fun _ _ _ _ _ _ _ h=>by obtain ⟨_,_,_,rfl⟩:=gT h; rfl) fun f fd F=>vW B F Qad Qau Qaa Qbc Qae Qag
 have Qax:Fn l.prog w K mg base "_law_refused" ["_law_book_here","_law_name"] 86 (spM K 2 fN):=d__law_refused.fn X G (fun _ _ _ _ _ _ _ h=>by obtain ⟨_,_,rfl⟩:=bA h; rfl) fun f fd F=>u5 B F Qba Qac
 exact zA (BO B FL Qad Qbk Qbl Qbm Qba Qai Qax) (yf hm)
theorem walk {l:PySem.W.OpenLaw} {q:Program} {loose:List Str} {XP:(Str→Option Value)→Heap→Prop} {YP:World→Heap→Prop} {d:DefRec} {K:Params→Frag} (hn:l.most=some 63) (hdf:d.params.defaults=[])
  (hY:∀ (w:World) (h:Heap),YP w h→(K w.params).In h)
  (F:∀ (w:World) (mg:Str→Option Value) (fa:Addr) (h:Heap),(K w.params).In h→h.Ns mainGlobals mg→mg d.name=some (.ref fa) →
   ∃ fd:FuncData,(∀ (s:Shared) (u:Value),BindsTo s fd ⟨[u],[]⟩ [("_law_script",u)])∧∀ base:Heap,(K w.params).In base→base.Ns mainGlobals mg→FnOk l.prog w (K w.params) mg base CX0 87 fa fd ["_law_script"] (kz (K w.params))) :
  PySem.W.WalkO q loose XP YP l.row.toRowW d [] (fun f vs=>PySem.call f vs):=L2.zW (n:=63) (k:=87) (x:="_law_script") (CX:=fun _=>CX0) (sp:=fun w=>kz (K w.params)) hn (by decide) hdf ⟨rfl,by decide,by decide,rfl⟩ hY F (fun _ _ a ns hl _ hS=>⟨a,ns,rfl,hS,hl,fun _=>rfl⟩) fun _ _ _ _ _ z=>z
open PySem PySem.Spec PySem.Calls PySem.W PyProof.Rows PySem.W.X PySem.W.ZRun
theorem walkZ {q:Program} {loose:List Str} {XP:(Str→Option Value)→Heap→Prop} {K:Params→Frag} {r:RowW} {d:DefRec} {kwd:List (Str×Expr)}
  {w:World} {s₀ s₁:Shared} {mg mb:Str→Option Value} {a:Addr} {o:Obj} {pm cd doc dV kV:Value} {args:List WData} {vals:List Value} {as:List Addr}
  (KX:(K w.params).In s₁.heap) (GR:Ground q loose r.records XP w s₀ mg mb s₁.heap) (ho:s₁.heap.get? a=some o)
  (hd:o.data=.func { docDef d.name d.params d.body d.scope pm cd doc with defaults:=dV,kwdefaults:=kV }) (hcd:s₁.heap.CodeRec cd d.name) (hD:Dflts mg s₁.heap d.params kwd dV kV) (hmg:mg d.name=some (.ref a)) (hg:s₁.gens = #[])
  (hpre:r.claim.pre args=true) (hlay:WData.layableAll args=true) (hrd:ReadsAllW r.records (classAt s₀.heap) s₁.heap vals args as) (hwl:WellAll w.params s₁.heap vals args) (hlo:∀ a∈as,(a == sysModules)=false)
  (W:PySem.W.WalkO q loose XP (fun w h=>(K w.params).In h) r d kwd fun f vs=>PySem.call f vs) :
  wpAny (model r.prog w) callerA (PySem.call (.ref a) vals) (fun v s'=>GoodWG r.claim (classAt s₀.heap) (ExcName.means s₀.heap) args s₁ (.ok (.ret v)) s')
    (fun e s'=>GoodWG r.claim (classAt s₀.heap) (ExcName.means s₀.heap) args s₁ (.error e) s') s₁:=W w s₀ s₁ mg mb GR KX a o pm cd doc dV kV ho hd hcd hD hmg hg args vals as hpre hlay hrd hwl hlo
end G
def PySem.W.Fast.tw13047156622181602106:Unit:=()
def PySem.W.Fast.tw733633358005640073:Unit:=()
def PySem.W.Fast.tw17845669420797477800:Unit:=()
def PySem.W.Fast.tw17271084706273452526:Unit:=()
def PySem.W.Fast.tw15371889211413755670:Unit:=()
def PySem.W.Fast.tw14025639109619020363:Unit:=()
def PySem.W.Fast.tw15777801550616509783:Unit:=()
def PySem.W.Fast.tw16228601074286547946:Unit:=()
def PySem.W.Fast.tw8980347879741492117:Unit:=()
def PySem.W.Fast.tw6760110919989346471:Unit:=()
def PySem.W.Fast.tw3065607364853291705:Unit:=()
def PySem.W.Fast.tw10477174093944196450:Unit:=()
def PySem.W.Fast.tw2046450534238177136:Unit:=()
def PySem.W.Fast.tw9823556598889579288:Unit:=()
def PySem.W.Fast.tw6766416792124588882:Unit:=()
def PySem.W.Fast.tw2439101734568599492:Unit:=()
def PySem.W.Fast.tw9479055634304228092:Unit:=()
def PySem.W.Fast.tw3541982540066712104:Unit:=()
def PySem.W.Fast.tw12763178304411539498:Unit:=()
def PySem.W.Fast.tw13310290483939533164:Unit:=()
def PySem.W.Fast.tw11268568446610635825:Unit:=()
def PySem.W.Fast.tw9032409121176585677:Unit:=()
def PySem.W.Fast.tw15011283654379373735:Unit:=()
def PySem.W.Fast.tw17113560414864011054:Unit:=()
def PySem.W.Fast.tw14700418887457903155:Unit:=()
def PySem.W.Fast.tw9523878193978402981:Unit:=()
def PySem.W.Fast.tw145155236311071860:Unit:=()
def PySem.W.Fast.tw5161216284005036702:Unit:=()
def PySem.W.Fast.tw7036677766451082414:Unit:=()
def PySem.W.Fast.tw1072885204749209076:Unit:=()
def PySem.W.Fast.tw9740669817704712986:Unit:=()
def PySem.W.Fast.tw13007716756576919226:Unit:=()
def PySem.W.Fast.tw1653950587767821643:Unit:=()
def PySem.W.Fast.tw3445898983966066416:Unit:=()
def PySem.W.Fast.tw11314148812675167236:Unit:=()
def PySem.W.Fast.tw4366078274854309726:Unit:=()
def PySem.W.Fast.tw15967744429188435869:Unit:=()
def PySem.W.Fast.tw4081527827901748690:Unit:=()
def PySem.W.Fast.tw6854342740513171850:Unit:=()
def PySem.W.Fast.tw10969372932888286686:Unit:=()
def PySem.W.Fast.tw16429288005147900555:Unit:=()
def PySem.W.Fast.tw13979134697824903744:Unit:=()
def PySem.W.Fast.tw8504901251727355274:Unit:=()
def PySem.W.Fast.tw13219781122406191343:Unit:=()
def PySem.W.Fast.tw3718160758727930327:Unit:=()
def PySem.W.Fast.tw2954810696553330100:Unit:=()
def PySem.W.Fast.tw1688425161354377930:Unit:=()
def PySem.W.Fast.tw2131724640565637691:Unit:=()
def PySem.W.Fast.tw7949847530323193850:Unit:=()
def PySem.W.Fast.tw5177637443668312438:Unit:=()
def PySem.W.Fast.tw18411916663214732884:Unit:=()
def PySem.W.Fast.tw11341110037623528659:Unit:=()
def PySem.W.Fast.tw16358205789041993627:Unit:=()
def PySem.W.Fast.tw7555850592186203863:Unit:=()
def PySem.W.Fast.tw18355881726563372011:PySem.Program:=PySem.Challenge.pw_redo_k23_lines_by_good_things
theorem PySem.W.Fast.te18355881726563372011:PySem.Challenge.pw_redo_k23_lines_by_good_things=PySem.W.Fast.tw18355881726563372011:=rfl
open PySem PySem.W PyProof.Rows PySem.W.X PySem.W.ZRun
set_option maxRecDepth 100000 in
set_option maxHeartbeats 0 in
theorem PySem.Challenge.cw_redo_k23_lines_by_good_things_holds : PySem.Challenge.rw_redo_k23_lines_by_good_things.Holds := by
 w_on; o_law; z_head; (case hw=>w_witness2)
 k_fill
 intro w s₀ s₁ mg mb GR y fa o pm cd doc dV kV ho hd hcd hD hmg hg args vals as L hpre hlay hrd hwl hlo
 z_open y L KX ZH ZN ZT
 clear ZH ZN ZT
 refine G.walkZ KX GR ho hd hcd hD hmg hg hpre hlay hrd hwl hlo ?W
 clear KX GR ho hd hcd hD hmg hg hpre hlay hrd hwl hlo L y
 refine G.walk (l:=PySem.Challenge.rw_redo_k23_lines_by_good_things) rfl rfl (fun w h Y=>Y) ?F
 case F=>
  intro w mg fa h KX GG hmg
  refine' G.all_mk KX GG hmg ?_ ?_ ?_ ?_ ?_ ?_ ?_ ?_ ?_ ?_ ?_ ?_ ?_ ?_ ?_ ?_ ?_ ?_ ?_ ?_ ?_ ?_ ?_ ?_ ?_ ?_ ?_ ?_ ?_ ?_ ?_ ?_ ?_ ?_ ?_ ?_ ?_ ?_ ?_ ?_ ?_ ?_ ?_ ?_ ?_ ?_ ?_ ?_ ?_ ?_ ?_ ?_ ?_ ?_ ?_ ?_ ?_ ?_ ?_ ?_ ?_ ?_ ?_ ?_ ?_ ?_ ?_ ?_ ?_ ?_ ?_ ?_ ?_ ?_ ?_ ?_ ?_ ?_ ?_ ?_ G.zl
  any_goals first | (refine' XE.Cv ?e1 ?e2 ?e3 ?e4 ?e5 ?e6 ?e7 ?e8 ?e9 ?e10 ?e11 ?e12 ?e13 ?e14 ?e15 ?e16 ?e17 ?e18 ?e19 ?e20 ?e21 ?e22 ?e23 ?e24 ?e25 ?e26 ?e27 ?e28 ?e29 ?e30 ?e31 ?e32; (case e1=>k_is); (case e2=>k_is); (case e3=>k_is); (case e4=>k_is); (case e5=>k_is); (case e6=>k_is); (case e7=>k_is); (case e8=>k_is); (case e9=>k_is); (case e10=>k_is); (case e11=>k_is); (case e12=>k_is); (case e13=>k_is); (case e14=>k_is); (case e15=>k_is); (case e16=>k_is); (case e17=>k_is); (case e18=>k_is); (case e19=>k_is); (case e20=>k_is); (case e21=>k_is); (case e22=>k_is); (case e23=>k_is); (case e24=>k_is); (case e25=>k_is); (case e26=>k_is); (case e27=>k_is); (case e28=>rfl); (case e29=>rfl); (case e30=>rfl); (case e31=>rfl); (case e32=>rfl)) | (refine' D.Dv ?a ?l ?c ?k; (case a=>k_is); (case l=>k_is); (case c=>k_is); (case k=>k_is)) | (refine' D.Ci ?a ?l ?c ?k ?n; (case a=>k_is); (case l=>k_is); (case c=>k_is); (case k=>k_is); (case n=>k_is)) | k_is
  all_goals first | rfl | decide +kernel
