import PyProof.Rows.All
import Wide.All
import OpenK.AllK
import Wide.FinOn
import Lean
import PyProof.EqAt
import PyProof.EqKinds
import PyProof.TupleCall
import PySem.Challenge.RW_redo_k20_books_written
noncomputable section
open PySem.W (Frag)
set_option Elab.async false
set_option linter.all false
set_option maxRecDepth 100000
namespace L2
open PySem PySem.Spec PyProof.Rows
abbrev Key:=Sum Int Str
def dY:Key→Value→Bool
 | .inl k,v=>Value.isInt k v
 | .inr x,v=>Value.isStrOf x v
def vK (w:World):Key→Int
 | .inl k=>hashInt k
 | .inr x=>hashStr w x
theorem dw:∀ {k:Key} {v:Value},dY k v=true→(∃ i t,k=Sum.inl i∧v=Value.int i t)∨(∃ x t,k=Sum.inr x∧v=Value.str x t)
 | .inl i,v,h=>by
  obtain ⟨t,e⟩:=Value.isInt_shape (k:=i) (v:=v) h
  exact .inl ⟨i,t,rfl,e⟩
 | .inr x,v,h=>by
  obtain ⟨t,e⟩:=Value.isStrOf_shape (x:=x) (v:=v) h
  exact .inr ⟨x,t,rfl,e⟩
theorem zm (i:Int) (t:Tok):dY (.inl i) (.int i t)=true:=by simp [dY,Value.isInt]
theorem zl (x:Str) (t:Tok):dY (.inr x) (.str x t)=true:=by simp [dY,Value.isStrOf]
theorem ua (a b:Int):decide ((Sum.inl a:Key)=Sum.inl b)=(a == b):=by
 by_cases e:a=b
 ·subst e; simp
 ·have h:¬ (Sum.inl a:Key)=Sum.inl b:=fun q=>e (Sum.inl.inj q)
  rw [decide_eq_false h]
  exact (beq_eq_false_iff_ne.mpr e).symm
theorem tY (a b:Str):decide ((Sum.inr a:Key)=Sum.inr b)=decide (a=b):=by
 by_cases e:a=b
 ·subst e; simp
 ·have h:¬ (Sum.inr a:Key)=Sum.inr b:=fun q=>e (Sum.inr.inj q)
  rw [decide_eq_false h,decide_eq_false e]
theorem t7 (a:Int) (b:Str):decide ((Sum.inl a:Key)=Sum.inr b)=false:=decide_eq_false (fun q=>nomatch q)
theorem tZ (a:Str) (b:Int):decide ((Sum.inr a:Key)=Sum.inl b)=false:=decide_eq_false (fun q=>nomatch q)
def bu (prog:Program) (w:World):PySem.KeyKind prog w Key where
 is:=dY
 hash:=vK w
 inj:=fun v a b ha hb=>by
  rcases dw ha with ⟨i,t,rfl,rfl⟩ | ⟨x,t,rfl,rfl⟩
  ·rcases dw hb with ⟨j,u,rfl,e⟩ | ⟨y,u,rfl,e⟩
   ·injection e with e1 _; rw [e1]
   ·exact nomatch e
  ·rcases dw hb with ⟨j,u,rfl,e⟩ | ⟨y,u,rfl,e⟩
   ·exact nomatch e
   ·injection e with e1 _; rw [e1]
 byValue:=fun k v h=>by
  rcases dw h with ⟨i,t,rfl,rfl⟩ | ⟨x,t,rfl,rfl⟩ <;> rfl
 pyHash:=fun hv h=>by
  rcases dw hv with ⟨i,t,rfl,rfl⟩ | ⟨x,t,rfl,rfl⟩
  ·exact wpAny_pyHash_int h
  ·exact wpAny_pyHash_str h
 eqBool:=fun hu hv h=>by
  rcases dw hu with ⟨i,t,rfl,rfl⟩ | ⟨x,t,rfl,rfl⟩
  ·rcases dw hv with ⟨j,u,rfl,rfl⟩ | ⟨y,u,rfl,rfl⟩
   ·rw [ua] at h; exact wpAny_eqBool_int h
   ·rw [t7] at h; exact SeqAt.EqAt.int_str i t y u _ _ _ _ h
  ·rcases dw hv with ⟨j,u,rfl,rfl⟩ | ⟨y,u,rfl,rfl⟩
   ·rw [tZ] at h; exact SeqAt.EqAt.str_int x t j u _ _ _ _ h
   ·rw [tY] at h; exact wpAny_eqBool_str h
 «strs»:=fun k x t v h=>by
  rcases dw h with ⟨i,u,rfl,e⟩ | ⟨y,u,rfl,e⟩
  ·exact nomatch e
  ·injection e with e1 _
   subst e1
   cases v <;> rfl
theorem ye (prog:Program) (w:World) (i:Int) (t:Tok):(bu prog w).is (.inl i) (.int i t)=true:=zm i t
theorem yd (prog:Program) (w:World) (x:Str) (t:Tok):(bu prog w).is (.inr x) (.str x t)=true:=zl x t
inductive V where
 | non | bl (b:Bool) | int (i:Int) | str (x:Str) | byt (b:Array UInt8) | flt (b:UInt64) | ref (a:Addr) | ty (n:String)
 deriving DecidableEq
def RelV:V→Value→Prop
 | .non,u=>u=Value.none
 | .bl b,u=>u=Value.bool b
 | .int i,u=>∃ t,u=Value.int i t
 | .str x,u=>∃ t,u=Value.str x t
 | .byt b,u=>∃ t,u=Value.bytes b t
 | .flt b,u=>∃ t,u=Value.float b t
 | .ref a,u=>u=Value.ref a
 | .ty n,u=>u=Value.type n
abbrev Vals:List V→List Value→Prop:=Paired RelV
theorem Vals.length {xs:List V} {us:List Value} (r:Vals xs us):xs.length=us.length:=Paired.length r
theorem Vals.get:∀ {xs:List V} {us:List Value} {i:Nat} {x:V},Vals xs us→xs[i]? = some x→∃ u,us[i]? = some u∧RelV x u
 | _,_,_,_,.nil,e=>by simp at e
 | _,_,0,_,.cons r _,e=>by simp at e; subst e; exact ⟨_,rfl,r⟩
 | _,_,i + 1,x,.cons _ t,e=>by
  obtain ⟨u,h1,h2⟩:=Vals.get (i:=i) (x:=x) t (by simpa using e)
  exact ⟨u,by simpa using h1,h2⟩
theorem Vals.set {x:V} {u:Value} (r:RelV x u):∀ {xs:List V} {us:List Value} (i:Nat),Vals xs us→Vals (xs.set i x) (us.set i u)
 | _,_,_,.nil=>.nil
 | _,_,0,.cons _ t=>.cons r t
 | _,_,i + 1,.cons q t=>.cons q (Vals.set r i t)
theorem Vals.append:∀ {xs ys:List V} {us ws:List Value},Vals xs us→Vals ys ws→Vals (xs++ys) (us++ws)
 | _,_,_,_,.nil,s=>s
 | _,_,_,_,.cons r t,s=>.cons r (Vals.append t s)
theorem Vals.take:∀ {xs:List V} {us:List Value} (n:Nat),Vals xs us→Vals (xs.take n) (us.take n)
 | _,_,0,_=>.nil
 | _,_,_ + 1,.nil=>.nil
 | _,_,n + 1,.cons r t=>.cons r (Vals.take n t)
theorem Vals.drop:∀ {xs:List V} {us:List Value} (n:Nat),Vals xs us→Vals (xs.drop n) (us.drop n)
 | _,_,0,r=>r
 | _,_,_ + 1,.nil=>.nil
 | _,_,n + 1,.cons _ t=>Vals.drop n t
def RelO:Option V→Option Value→Prop
 | some v,some u=>RelV v u
 | none,none=>True
 | _,_=>False
def KV {κ:Type}:List (κ×V)→List (κ×Value)→Prop:=Paired fun (p:κ×V) (q:κ×Value)=>p.1=q.1∧RelV p.2 q.2
def kV:Key→V
 | .inl i=>.int i
 | .inr x=>.str x
inductive HO where
  | lst (xs:List V)
  | tup (xs:List V)
  | dK (kvs:List (Key×V)) | dT (kvs:List (List Key×V))
  | set (S:Int→Bool) (n:Nat)
  | ins (C dx:Addr) (fs:List (Str×V))
  | own (x:Addr)
  | xd (fs:List (Str×V))
  | met (f x:Addr)
  | rng (lo hi:Int)
  | frz (o:Obj) (u:HO)
  | tbl (ps:Array Value)
  | ext (φ:Heap→Prop)
abbrev Hp:=Addr→Option HO
def upd (H:Hp) (a:Addr) (o:HO):Hp:=fun b=>if b=a then some o else H b
theorem aZ {H:Hp} {a:Addr} {o:HO}:upd H a o a=some o:=by unfold upd; rw [if_pos rfl]
theorem aK {H:Hp} {a b:Addr} {o:HO} (h:b≠a):upd H a o b=H b:=by unfold upd; rw [if_neg h]
theorem rT {H:Hp} {a:Addr} {o u:HO}:upd (upd H a o) a u=upd H a u:=by funext b; unfold upd; split <;> rfl
theorem Et {H:Hp} {a b:Addr} {o u:HO} (h:H a=some o) (h':H b=some u) (d:o≠u):a≠b:=by intro e; subst e; rw [h] at h'; exact d (Option.some.inj h')
theorem bN {H:Hp} {a b:Addr} {o:HO} (h:H a=some o) (h':H b=none):a≠b:=by intro e; subst e; rw [h] at h'; cases h'
section
variable (P:Program) (w:World)
def ObjOk (H:Hp) (h:Heap) (a:Addr):HO→Prop
 | .lst xs=>xs.length≤sizeLine∧∃ (its:List Value) (n:Nat),Vals xs its∧h.get? a=some { cls:=.type "list",data:=.seq its.toArray n }
 | .tup xs=>xs.length≤sizeLine∧∃ its:List Value,Vals xs its∧IsTup h a its.toArray
 | .dK kvs=>kvs.length≤sizeLine∧(a == sysModules)=false∧∃ vs,KV kvs vs∧h.DictOf (bu P w) a vs
 | .dT kvs=>kvs.length≤sizeLine∧(a == sysModules)=false∧∃ xs:List (List Key×Addr×Value),
   Paired (fun (p:List Key×V) (q:List Key×Addr×Value)=>p.1=q.1∧H q.2.1=some (.tup (p.1.map kV))∧RelV p.2 q.2.2) kvs xs ∧
   ∃ o es ep,h.get? a=some o∧o.ExactDict∧o.data=.dict es ep∧es.toList=xs.map (entryOfKey (tupleKind (bu P w)))∧(xs.map (·.1)).Nodup
 | .set S n=>h.SetOf (intKind P w) a S n
 | .ins C dx fs=>H dx=some (.own a)∧fs.length≤1000∧dx≠a∧h.get? a=some (PySem.W.instObj C dx) ∧
   ∃ mA,h.Ns1 dx mA∧(∀ f,RelO (fs.lookup f) (mA f))∧PySem.Within mA (fs.map (·.1))
 | .own _=>∃ o,h.get? a=some o
 | .xd fs=>∃ mA,h.Ns1 a mA∧∀ f,RelO (fs.lookup f) (mA f)
 | .rng lo hi=>∃ t u v,h.get? a=some { cls:=.type "range",data:=.fields #[.int lo t,.int hi u,.int 1 v] }
 | .frz o u=>h.get? a=some o∧ObjOk H h a u
 | .tbl ps=>h.get? a=some { cls:=.none,data:=.fields ps }
 | .met f x=>h.get? a=some (PySem.W.methodObj (.ref f) (.ref x))
 | .ext φ=>φ h∧(∃ o,h.get? a=some o)∧∀ h1 h2:Heap,φ h1→(∀ o,h1.get? a=some o→h2.get? a=some o)→φ h2
def HOk (H:Hp) (h:Heap):Prop:=∀ a o,H a=some o→ObjOk P w H h a o
end
section
variable {P:Program} {w:World} {H H':Hp} {h h':Heap} {a:Addr} {o:HO}
theorem ObjOk.lt (x:ObjOk P w H h a o):a < h.objs.size:=by
 cases o with
 | lst xs=>obtain ⟨_,_,_,_,e⟩:=x; exact Heap.lt_size e
 | tup xs=>obtain ⟨_,_,_,p⟩:=x; exact p.lt
 | dK kvs=>obtain ⟨_,_,_,_,o,_,_,e,_⟩:=x; exact Heap.lt_size e
 | dT kvs=>obtain ⟨_,_,_,_,o,_,_,e,_⟩:=x; exact Heap.lt_size e
 | set S n=>obtain ⟨o,_,_,_,e,_⟩:=x; exact Heap.lt_size e
 | ins C dx fs=>obtain ⟨_,_,_,e,_⟩:=x; exact Heap.lt_size e
 | own y=>obtain ⟨_,e⟩:=x; exact Heap.lt_size e
 | xd fs=>obtain ⟨_,⟨_,_,_,e,_⟩,_⟩:=x; exact Heap.lt_size e
 | rng lo hi=>obtain ⟨_,_,_,e⟩:=x; exact Heap.lt_size e
 | frz ob u=>obtain ⟨e,_⟩:=x; exact Heap.lt_size e
 | tbl ps=>exact Heap.lt_size (show h.get? a=some _ from x)
 | met f y=>exact Heap.lt_size (show h.get? a=some _ from x)
 | ext φ=>obtain ⟨_,⟨_,e⟩,_⟩:=x; exact Heap.lt_size e
theorem Paired.mapP {α β:Type} {F G:α→β→Prop}:∀ {l₁:List α} {l₂:List β},Paired F l₁ l₂→(∀ a b,F a b→G a b)→Paired G l₁ l₂
 | _,_,.nil,_=>.nil
 | _,_,.cons r t,f=>.cons (f _ _ r) (Paired.mapP t f)
theorem ObjOk.stay (x:ObjOk P w H h a o) (k:∀ b u,(b=a∨H b=some (.own a))→h.get? b=some u→h'.get? b=some u)
  (ho:∀ b,H b=some (.own a)→H' b=some (.own a)) (ht:∀ b xs,H b=some (.tup xs)→H' b=some (.tup xs)):ObjOk P w H' h' a o:=by
 induction o with
 | lst xs=>obtain ⟨z,its,n,r,e⟩:=x; exact ⟨z,its,n,r,k _ _ (.inl rfl) e⟩
 | tup xs=>obtain ⟨z,its,r,ob,e,c⟩:=x; exact ⟨z,its,r,ob,k _ _ (.inl rfl) e,c⟩
 | dK kvs=>obtain ⟨z,y,vs,r,ob,es,ep,e,c⟩:=x; exact ⟨z,y,vs,r,ob,es,ep,k _ _ (.inl rfl) e,c⟩
 | dT kvs=>
  obtain ⟨z,y,xs,r,ob,es,ep,e,c⟩:=x
  exact ⟨z,y,xs,Paired.mapP r fun p q z=>⟨z.1,ht _ _ z.2.1,z.2.2⟩,ob,es,ep,k _ _ (.inl rfl) e,c⟩
 | set S n=>obtain ⟨ob,es,ep,t,e,c⟩:=x; exact ⟨ob,es,ep,t,k _ _ (.inl rfl) e,c⟩
 | ins C dx fs=>
  obtain ⟨d,z,ne,e,mA,⟨od,es,ep,e2,c⟩,r⟩:=x
  exact ⟨ho _ d,z,ne,k _ _ (.inl rfl) e,mA,⟨od,es,ep,k _ _ (.inr d) e2,c⟩,r⟩
 | own y=>obtain ⟨ob,e⟩:=x; exact ⟨ob,k _ _ (.inl rfl) e⟩
 | xd fs=>obtain ⟨mA,⟨od,es,ep,e,c⟩,r⟩:=x; exact ⟨mA,⟨od,es,ep,k _ _ (.inl rfl) e,c⟩,r⟩
 | rng lo hi=>obtain ⟨t,u,v,e⟩:=x; exact ⟨t,u,v,k _ _ (.inl rfl) e⟩
 | frz ob u ih=>obtain ⟨e,q⟩:=x; exact ⟨k _ _ (.inl rfl) e,ih q⟩
 | tbl ps=>
  have e:h.get? a=some { cls:=.none,data:=.fields ps }:=x
  show h'.get? a=some { cls:=.none,data:=.fields ps }
  exact k a _ (.inl rfl) e
 | met f y=>
  have e:h.get? a=some (PySem.W.methodObj (.ref f) (.ref y)):=x
  show h'.get? a=some (PySem.W.methodObj (.ref f) (.ref y))
  exact k a _ (.inl rfl) e
 | ext φ=>obtain ⟨p,⟨o,e⟩,st⟩:=x; exact ⟨st _ _ p fun o q=>k _ _ (.inl rfl) q,⟨o,k _ _ (.inl rfl) e⟩,st⟩
theorem HOk.lt (x:HOk P w H h) (e:H a=some o):a < h.objs.size:=(x a o e).lt
theorem HOk.fresh (x:HOk P w H h) (e:h.objs.size≤a):H a=none:=by
 cases q:H a with
 | none=>rfl
 | some u=>exact absurd (Nat.lt_of_lt_of_le (x.lt q) e) (Nat.lt_irrefl _)
theorem HOk.kept (x:HOk P w H h) (k:∀ b u,h.get? b=some u→h'.get? b=some u):HOk P w H h':=fun a o e=>
 (x a o e).stay (fun b u _ q=>k b u q) (fun _ q=>q) fun _ _ q=>q
theorem HOk.laid (x:HOk P w H h) (k:∀ b u,h.get? b=some u→h'.get? b=some u) (hp:h.objs.size≤a) (new:ObjOk P w (upd H a o) h' a o):HOk P w (upd H a o) h':=fun b u e=>by
 have hn:=x.fresh hp
 by_cases hb:b=a
 ·subst hb; rw [aZ] at e; cases e; exact new
 ·rw [aK hb] at e
  exact (x b u e).stay (fun c v _ q=>k c v q) (fun c q=>by rw [aK (bN q hn)]; exact q) fun c xs q=>by rw [aK (bN q hn)]; exact q
end
def Rd (H:Hp) (a:Addr) (u:HO):Prop:=H a=some u∨∃ o,H a=some (.frz o u)
theorem Rd.ok {P:Program} {w:World} {H:Hp} {h:Heap} {a:Addr} {u:HO} (r:Rd H a u) (x:HOk P w H h):ObjOk P w H h a u:=by
 rcases r with r | ⟨o,r⟩
 ·exact x a u r
 ·obtain ⟨_,q⟩:=x a _ r
  exact q
def Mut:Option HO→Prop
 | some (.lst _)=>True
 | some (.dK _)=>True
 | some (.dT _)=>True
 | some (.set _ _)=>True
 | some (.ins _ _ _)=>True
 | some (.ext _)=>True
 | _=>False
section
variable {P:Program} {w:World} {H:Hp} {h h':Heap} {x e:Addr} {o':HO}
theorem HOk.write (ok:HOk P w H h) (mu:Mut (H x)) (he:e=x∨H e=some (.own x)) (k:∀ b u,b≠e→h.get? b=some u→h'.get? b=some u) (heo:∃ u,h'.get? e=some u)
  (new:ObjOk P w (upd H x o') h' x o'):HOk P w (upd H x o') h':=fun b u q=>by
 have nown:∀ c y,H c=some (.own y)→c≠x:=fun c y r z=>by subst z; rw [r] at mu; exact mu
 have ntup:∀ c xs,H c=some (.tup xs)→c≠x:=fun c xs r z=>by subst z; rw [r] at mu; exact mu
 by_cases hb:b=x
 ·subst hb; rw [aZ] at q; cases q; exact new
 ·rw [aK hb] at q
  by_cases hbe:b=e
  ·have q':H b=some (.own x):=by
    rcases he with z | z
    ·exact absurd (hbe.trans z) hb
    ·rw [hbe]; exact z
   rw [q] at q'; cases q'
   obtain ⟨v,hv⟩:=heo
   exact ⟨v,by rw [hbe]; exact hv⟩
  ·refine (ok b u q).stay (fun c v hc r=>k c v ?_ r) (fun c r=>by rw [aK (nown c b r)]; exact r) fun c xs r=>by rw [aK (ntup c xs r)]; exact r
   rcases hc with rfl | hc
   ·exact hbe
   ·rintro rfl
    rcases he with z | z
    ·exact nown c b hc z
    ·rw [hc] at z; cases z; exact hb rfl
end
structure Un (fs ex:List Addr) (H H':Hp) (h h':Heap):Prop where
 keep:∀ b o,h.get? b=some o→H b=none→b∉fs→b∉ex→h'.get? b=some o
 slot:∀ b o,h.get? b=some o→H b=none→b∈fs→b∉ex→∃ sl,h'.get? b=some { o with slots:=sl }
 free:∀ b o,h.get? b=some o→H b=none→b∉ex→H' b=none
 there:∀ b o,h.get? b=some o→b∉ex→∃ o',h'.get? b=some o'
 tups:∀ b xs,H b=some (.tup xs)→H' b=some (.tup xs)
 frzs:∀ b o u,H b=some (.frz o u)→H' b=some (.frz o u)
 tbls:∀ b ps,H b=some (.tbl ps)→∃ more,H' b=some (.tbl (ps++more))
section
variable {fs fs' ex ex':List Addr} {H H1 H2:Hp} {h h1 h2 h':Heap} {a x e:Addr} {o:HO}
theorem Un.any (u:Un fs ex H H1 h h1) {b:Addr} {ob:Obj} (q:h.get? b=some ob) (n:H b=none) (hx:b∉ex):∃ sl,h1.get? b=some { ob with slots:=sl }:=by
 by_cases hb:b∈fs
 ·exact u.slot b ob q n hb hx
 ·exact ⟨ob.slots,u.keep b ob q n hb hx⟩
theorem Un.kept (k:∀ b u,h.get? b=some u→h'.get? b=some u):Un fs ex H H h h':=⟨fun b ob q _ _ _=>k b ob q,fun b ob q _ _ _=>⟨ob.slots,k b ob q⟩,fun _ _ _ n _=>n,fun b ob q _=>⟨ob,k b ob q⟩,fun _ _ q=>q,fun _ _ _ q=>q,fun _ ps q=>⟨#[],by rw [q]; simp⟩⟩
theorem Un.refl:Un fs ex H H h h:=Un.kept fun _ _ q=>q
theorem Un.laid (k:∀ b u,h.get? b=some u→h'.get? b=some u) (hp:h.objs.size≤a) (hn:H a=none):Un fs ex H (upd H a o) h h' where
 keep:=fun b u q _ _ _=>k b u q
 slot:=fun b u q _ _ _=>⟨u.slots,k b u q⟩
 free:=fun b u q n _=>by rw [aK (Nat.ne_of_lt (Nat.lt_of_lt_of_le (Heap.lt_size q) hp))]; exact n
 there:=fun b u q _=>⟨u,k b u q⟩
 tups:=fun b xs q=>by rw [aK (bN q hn)]; exact q
 frzs:=fun b u xs q=>by rw [aK (bN q hn)]; exact q
 tbls:=fun b ps q=>⟨#[],by rw [aK (bN q hn),q]; simp⟩
theorem Un.write (mu:Mut (H x)) (he:e=x∨H e=some (.own x)) (k:∀ b u,b≠e→h.get? b=some u→h'.get? b=some u) (heo:∃ u,h'.get? e=some u):Un fs ex H (upd H x o) h h':=by
 have hx:∀ b,H b=none→b≠x:=fun b n z=>by subst z; rw [n] at mu; exact mu
 have hb:∀ b,H b=none→b≠e:=fun b n z=>by
  subst z
  rcases he with r | r
  ·exact hx b n r
  ·rw [n] at r; cases r
 have hm:∀ b u,H b=some u→¬ Mut (some u)→b≠x:=fun b u q nm z=>by subst z; rw [q] at mu; exact nm mu
 refine ⟨fun b u q n _ _=>k b u (hb b n) q,fun b u q n _ _=>⟨u.slots,k b u (hb b n) q⟩,fun b u q n _=>by rw [aK (hx b n)]; exact n,fun b u q _=>?_,
  fun b xs q=>by rw [aK (hm b _ q fun z=>z)]; exact q,fun b u xs q=>by rw [aK (hm b _ q fun z=>z)]; exact q,fun b ps q=>⟨#[],by rw [aK (hm b _ q fun z=>z),q]; simp⟩⟩
 by_cases hbe:b=e
 ·subst hbe; exact heo
 ·exact ⟨u,k b u hbe q⟩
end
def trk (h:Heap) (H:Hp):List Addr:=(List.range h.objs.size).filter fun a=>(H a).isSome
def fJ (h:Heap) (H:Hp):Heap:=PySem.W.hideAll h (trk h H)
theorem zu (h:Heap) (H:Hp):(fJ h H).objs.size=h.objs.size:=PySem.W.hideAll_size _ _
theorem Au {h:Heap} {H:Hp} {b:Addr} {o:Obj} (e:h.get? b=some o) (n:H b=none):(fJ h H).get? b=some o:=
 PySem.W.hideAll_get _ e fun hm=>by
  have q:(H b).isSome=true:=(List.mem_filter.mp hm).2
  rw [n] at q; simp at q
theorem Bx {h:Heap} {H:Hp} {b:Addr} {o:Obj} (e:(fJ h H).get? b=some o):h.get? b=some o∧H b=none:=by
 have e':h.get? b=some o:=PySem.W.of_hideAll (trk h H) e
 refine ⟨e',?_⟩
 cases q:H b with
 | none=>rfl
 | some x=>
  have hm:b∈trk h H:=List.mem_filter.mpr ⟨List.mem_range.mpr (Heap.lt_size e'),by simp [q]⟩
  have z:(fJ h H).get? b=none:=PySem.W.hideAll_none (trk h H) hm
  rw [z] at e; cases e
def B0 (g h:Heap) (L:Addr):List (Addr×Obj):=(List.range h.objs.size).filterMap fun a=>if a=L∨(g.get? a).isSome=true then none else (h.get? a).map fun o=>(a,o)
def rest (g h:Heap) (L d:Addr):List (Addr×Obj):=(B0 g h L).filter fun p=>decide (p.1≠d)
structure Mod (K:Frag) (mg:Str→Option Value) (base:Heap):Prop where
 kin:K.In base
 glob:base.Ns mainGlobals mg
 blt:∃ mb,base.Ns builtinsNs mb∧∀ x:Str,x≠"__name__"→mb x=bootBuiltins x
 nolimit:base.NoLimit
structure Cx where
 prog:Program
 w:World
 K:Frag
 mg:Str→Option Value
 base:Heap
 A:Around
 N:List Str
 s₀:Shared
 H₀:Hp
 env:Env
 outer:List Env
 stack:List Env
 ex:List Addr
 fn:Str→Bool
 calm:Bool
 pn:List (Addr×Obj)
 xe:Value→Shared→Prop
def frs (l:List Env):List Addr:=l.filterMap (·.frame)
abbrev Cx.fs (X:Cx):List Addr:=frs X.outer
def Vis (sc:Scope) (x:Str):Prop:=sc.names.lookup x=some .local∨sc.names.lookup x=some .cell∨sc.names.lookup x=some .free
def Loc (sc:Scope) (x:Str):Prop:=sc.names.lookup x=some .local∨sc.names.lookup x=some .cell
def Look (env:Env) (h:Heap) (m:Str→Option Value) (x:Str) (u:Value):Prop:=(env.kindOf x=some .local∧m x=some u)∨((env.kindOf x=some .cell∨env.kindOf x=some .free)∧∃ c,env.cells.lookup x=some c∧h.IsCell c (some u))
structure Cx.Ok (X:Cx):Prop where
 mod:Mod X.K X.mg X.base
 kind:X.env.scope.kind=.function
 glob:X.env.globals=mainGlobals
 blt:X.env.builtins=builtinsNs
 above:X.s₀.heap.objs.size≤X.env.locals
 inj:∀ x y c,X.env.cells.lookup x=some c→X.env.cells.lookup y=some c→x=y
 has:∀ x,(X.env.kindOf x=some .cell∨X.env.kindOf x=some .free)→∃ c,X.env.cells.lookup x=some c
 cab:∀ x c,X.fn x=true→X.env.cells.lookup x=some c→X.s₀.heap.objs.size≤c
 hd:X.calm=true→X.A.handled=none
 frames:X.A.frames=some X.stack
 stk:X.stack=X.outer∨(X.stack=X.env::X.outer∧X.env.frame=some X.env.locals)
 exf:∀ b∈X.ex,b≠X.env.locals∧∀ x c,X.env.cells.lookup x=some c→c≠b
 bs:∀ b o,X.base.get? b=some o→X.s₀.heap.get? b=some o∧X.H₀ b=none
 bsz:X.base.objs.size≤X.s₀.heap.objs.size
 noex:∀ b o,X.base.get? b=some o→b∉X.ex
 exfs:∀ b∈X.ex,b∉X.fs
 funs:X.s₀.heap.FunFrames X.base X.outer
 frf:∀ b∈X.fs,X.H₀ b=none
structure Inv (X:Cx) (pins:List (Addr×Obj)) (σ:List (Option V)) (H:Hp) (s:Shared):Prop where
 ok:X.Ok
 os:s.os=X.s₀.os
 bare:AllBare s.gens
 base:Un X.fs X.ex X.H₀ H X.s₀.heap s.heap
 loc:∃ m,s.heap.Ns X.env.locals m∧∀ (i:Nat) (x:Str) (v:V),X.N[i]? = some x→σ[i]? = some (some v)→Vis X.env.scope x→∃ u,RelV v u∧Look X.env s.heap m x u
 cell:∀ x c,X.env.cells.lookup x=some c→∃ v,s.heap.IsCell c v
 free:H X.env.locals=none
 freeC:∀ x c,X.env.cells.lookup x=some c→H c=none
 pin:∀ p∈X.pn++pins,s.heap.get? p.1=some p.2∧H p.1=none∧p.1≠X.env.locals∧p.1∉X.fs∧∀ v,p.2.data≠.cell v
 hok:HOk X.prog X.w H s.heap
 len:σ.length=X.N.length
section
variable {X:Cx} {pins:List (Addr×Obj)} {σ:List (Option V)} {H H':Hp} {s:Shared} {h':Heap}
theorem Cx.Ok.nofr (ok:X.Ok) {b:Addr} {o:Obj} (e:X.base.get? b=some o):b∉X.fs:=fun hb=>by
 have:=(ok.funs.mem hb).1
 rw [e] at this; cases this
theorem Inv.bs (I:Inv X pins σ H s):∀ b o,X.base.get? b=some o→s.heap.get? b=some o∧H b=none:=fun b o e=>
 ⟨I.base.keep b o (I.ok.bs b o e).1 (I.ok.bs b o e).2 (I.ok.nofr e) (I.ok.noex b o e),I.base.free b o (I.ok.bs b o e).1 (I.ok.bs b o e).2 (I.ok.noex b o e)⟩
theorem Inv.bk (I:Inv X pins σ H s):∀ b o,X.base.get? b=some o→s.heap.get? b=some o:=fun b o e=>(I.bs b o e).1
theorem Inv.mod (I:Inv X pins σ H s):Mod X.K X.mg X.base:=I.ok.mod
theorem Inv.kIn (I:Inv X pins σ H s):X.K.In s.heap:=I.ok.mod.kin.keeps I.bk
theorem Inv.lt (I:Inv X pins σ H s):X.env.locals < s.heap.objs.size:=let ⟨_,hn,_⟩:=I.loc; hn.lt
theorem Inv.sz (I:Inv X pins σ H s):X.s₀.heap.objs.size≤s.heap.objs.size:=Nat.le_trans I.ok.above (Nat.le_of_lt I.lt)
theorem Inv.nofs (I:Inv X pins σ H s) {a:Addr} (h:s.heap.objs.size≤a):a∉X.fs:=fun hb=>by
 obtain ⟨_,o,ho,_⟩:=I.ok.funs.mem hb
 exact absurd (Nat.lt_of_lt_of_le (Heap.lt_size ho) (Nat.le_trans I.sz h)) (Nat.lt_irrefl _)
theorem Inv.cne (I:Inv X pins σ H s):∀ x c,X.env.cells.lookup x=some c→c≠X.env.locals:=fun x c e z=>by
 obtain ⟨v,o,ho,hd⟩:=I.cell x c e
 obtain ⟨m,⟨o',es,ep,ho',hd',_⟩,_⟩:=I.loc
 rw [z,ho'] at ho; cases ho; rw [hd'] at hd; cases hd
theorem Inv.funs (I:Inv X pins σ H s):s.heap.FunFrames X.base X.outer:=by
 have all:∀ (l:List Env),(∀ b∈frs l,b∈X.fs)→X.s₀.heap.FunFrames X.base l→s.heap.FunFrames X.base l:=by
  intro l
  induction l with
  | nil=>intro _ _; trivial
  | cons env r ih=>
   intro hs hl
   obtain ⟨hk,⟨L,o,hf,hn,ho,hd⟩,hr⟩:=hl
   have hL:L∈X.fs:=hs L (by unfold frs; rw [List.filterMap_cons,hf]; exact List.mem_cons_self)
   obtain ⟨sl,e⟩:=I.base.slot L o ho (I.ok.frf L hL) hL fun z=>I.ok.exfs L z hL
   exact ⟨hk,⟨L,_,hf,hn,e,hd⟩,ih (fun b hb=>hs b (by unfold frs; rw [List.filterMap_cons,hf]; exact List.mem_cons_of_mem _ hb)) hr⟩
 exact all X.outer (fun _ hb=>hb) I.ok.funs
theorem Inv.stack (I:Inv X pins σ H s):s.heap.FunFrames X.base X.stack:=by
 rcases I.ok.stk with e | ⟨e,hf⟩
 ·rw [e]; exact I.funs
 ·rw [e]
  obtain ⟨m,hn,_⟩:=I.loc
  refine .cons (by rw [I.ok.kind]; decide) hf hn ?_ I.funs
  exact Heap.get?_none_of_le (Nat.le_trans I.ok.bsz I.ok.above)
theorem Inv.stkSub (I:Inv X pins σ H s):∀ b∈frs X.stack,b∈X.env.locals::X.fs:=fun b hb=>by
 rcases I.ok.stk with e | ⟨e,hf⟩
 ·rw [e] at hb; exact List.mem_cons_of_mem _ hb
 ·rw [e] at hb
  unfold frs at hb
  rw [List.filterMap_cons,hf] at hb
  exact hb
theorem Inv.stkFree (I:Inv X pins σ H s):∀ b∈frs X.stack,H b=none:=fun b hb=>by
 rcases List.mem_cons.mp (I.stkSub b hb) with e | hb
 ·rw [e]; exact I.free
 ·obtain ⟨_,o,ho,_⟩:=I.ok.funs.mem hb
  exact I.base.free b o ho (I.ok.frf b hb) fun z=>I.ok.exfs b z hb
theorem Inv.step {g':Array GenState} {t':Nat} {d':Drawn} {ch:List Addr} (I:Inv X pins σ H s)
  (hch:∀ b∈ch,(b∈X.ex∨X.s₀.heap.objs.size≤b)∧b≠X.env.locals∧(∀ x c,X.env.cells.lookup x=some c→c≠b)∧∀ p∈X.pn++pins,p.1≠b)
  (keep:∀ b o,b≠X.env.locals→b∉X.fs→b∉ch→s.heap.get? b=some o→H b=none→h'.get? b=some o)
  (slot:∀ b o,b≠X.env.locals→b∈X.fs→b∉ch→s.heap.get? b=some o→H b=none→∃ sl,h'.get? b=some { o with slots:=sl }) (free:∀ b o,b∉ch→s.heap.get? b=some o→H b=none→H' b=none)
  (there:∀ b o,b∉ch→s.heap.get? b=some o→∃ o',h'.get? b=some o')
  (tups:∀ b xs,H b=some (.tup xs)→H' b=some (.tup xs)) (frzs:∀ b o u,H b=some (.frz o u)→H' b=some (.frz o u)) (tbls:∀ b ps,H b=some (.tbl ps)→∃ more,H' b=some (.tbl (ps++more)))
  (ns:∀ m,s.heap.Ns X.env.locals m→h'.Ns X.env.locals m) (hok:HOk X.prog X.w H' h') (hg:AllBare g') :
  Inv X pins σ H' { s with heap:=h',gens:=g',drawn:=d',toks:=t' }:=by
 have neL:∀ b o,X.s₀.heap.get? b=some o→b≠X.env.locals:=fun b o e=>Nat.ne_of_lt (Nat.lt_of_lt_of_le (Heap.lt_size e) I.ok.above)
 have neC:∀ b o,X.s₀.heap.get? b=some o→b∉X.ex→b∉ch:=fun b o e hx hb=>by
  rcases (hch b hb).1 with z | z
  ·exact hx z
  ·exact absurd (Nat.lt_of_lt_of_le (Heap.lt_size e) z) (Nat.lt_irrefl _)
 have cellK:∀ x c,X.env.cells.lookup x=some c→∀ v,s.heap.IsCell c v→h'.IsCell c v:=fun x c e v ⟨o,ho,hd⟩=>by
  have nch:c∉ch:=fun z=>(hch c z).2.2.1 x c e rfl
  by_cases hc:c∈X.fs
  ·obtain ⟨sl,q⟩:=slot c o (I.cne x c e) hc nch ho (I.freeC x c e)
   exact ⟨_,q,hd⟩
  ·exact ⟨o,keep c o (I.cne x c e) hc nch ho (I.freeC x c e),hd⟩
 refine ⟨I.ok,I.os,hg,⟨fun b o e n hb hx=>?_,fun b o e n hb hx=>?_,fun b o e n hx=>?_,fun b o e hx=>?_,fun b xs e=>tups b xs (I.base.tups b xs e),fun b o xs e=>frzs b o xs (I.base.frzs b o xs e),fun b ps e=>?_⟩,?_,fun x c e=>?_,?_,fun x c e=>?_,fun p hp=>?_,hok,I.len⟩
 ·exact keep b o (neL b o e) hb (neC b o e hx) (I.base.keep b o e n hb hx) (I.base.free b o e n hx)
 ·obtain ⟨sl,e1⟩:=I.base.slot b o e n hb hx
  obtain ⟨sl',e2⟩:=slot b _ (neL b o e) hb (neC b o e hx) e1 (I.base.free b o e n hx)
  exact ⟨sl',e2⟩
 ·obtain ⟨o',e1⟩:=I.base.there b o e hx
  exact free b o' (neC b o e hx) e1 (I.base.free b o e n hx)
 ·obtain ⟨o',e1⟩:=I.base.there b o e hx
  exact there b o' (neC b o e hx) e1
 ·obtain ⟨m1,e1⟩:=I.base.tbls b ps e
  obtain ⟨m2,e2⟩:=tbls b _ e1
  exact ⟨m1++m2,by rw [e2,Array.append_assoc]⟩
 ·obtain ⟨m,hn,hl⟩:=I.loc
  refine ⟨m,ns m hn,fun i x v e1 e2 e3=>?_⟩
  obtain ⟨u,r,l⟩:=hl i x v e1 e2 e3
  refine ⟨u,r,?_⟩
  rcases l with l | ⟨k,c,e,z⟩
  ·exact .inl l
  ·exact .inr ⟨k,c,e,cellK x c e _ z⟩
 ·obtain ⟨v,z⟩:=I.cell x c e
  exact ⟨v,cellK x c e v z⟩
 ·obtain ⟨m,⟨o,_,_,ho,_⟩,_⟩:=I.loc
  exact free _ o (fun z=>(hch _ z).2.1 rfl) ho I.free
 ·obtain ⟨v,o,ho,hd⟩:=I.cell x c e
  exact free c o (fun z=>(hch c z).2.2.1 x c e rfl) ho (I.freeC x c e)
 ·obtain ⟨e,n,ne,nf,d⟩:=I.pin p hp
  have nch:p.1∉ch:=fun z=>(hch p.1 z).2.2.2 p hp rfl
  exact ⟨keep p.1 p.2 ne nf nch e n,free p.1 p.2 nch e n,ne,nf,d⟩
theorem Inv.un {t':Nat} (I:Inv X pins σ H s) (u:Un X.fs [] H H' s.heap h') (hok:HOk X.prog X.w H' h'):Inv X pins σ H' { s with heap:=h',toks:=t' }:=by
 obtain ⟨m,⟨o,es,ep,ho,r⟩,_⟩:=id I.loc
 obtain ⟨sl,hL⟩:=u.any ho I.free (by simp)
 exact I.step (g':=s.gens) (d':=s.drawn) (ch:=[]) (fun _ z=>nomatch z) (fun b o _ hb _ e n=>u.keep b o e n hb (by simp)) (fun b o _ hb _ e n=>u.slot b o e n hb (by simp)) (fun b o _ e n=>u.free b o e n (by simp)) (fun b o _ e=>u.there b o e (by simp)) u.tups u.frzs u.tbls (fun m' hm=>by
  obtain ⟨o',es',ep',ho',r'⟩:=hm
  rw [ho] at ho'; cases ho'
  exact ⟨_,es',ep',hL,r'⟩) hok I.bare
theorem Inv.call {g':Array GenState} {t':Nat} {d':Drawn} {ch:List Addr} (I:Inv X pins σ H s) (u:Un (frs X.stack) ch H H' s.heap h') (hok:HOk X.prog X.w H' h') (hg:AllBare g')
  (hch:∀ b∈ch,(b∈X.ex∨X.s₀.heap.objs.size≤b)∧b≠X.env.locals∧(∀ x c,X.env.cells.lookup x=some c→c≠b)∧∀ p∈X.pn++pins,p.1≠b) :
  Inv X pins σ H' { s with heap:=h',gens:=g',drawn:=d',toks:=t' }:=by
 obtain ⟨m,⟨o,es,ep,ho,r⟩,_⟩:=id I.loc
 obtain ⟨sl,hL⟩:=u.any ho I.free fun z=>(hch _ z).2.1 rfl
 exact I.step (ch:=ch) hch (fun b o hL hb hc e n=>u.keep b o e n (fun z=>(List.mem_cons.mp (I.stkSub b z)).elim hL hb) hc) (fun b o _ _ hc e n=>u.any e n hc) (fun b o hc e n=>u.free b o e n hc) (fun b o hc e=>u.there b o e hc) u.tups u.frzs u.tbls (fun m' hm=>by
  obtain ⟨o',es',ep',ho',r'⟩:=hm
  rw [ho] at ho'; cases ho'
  exact ⟨_,es',ep',hL,r'⟩) hok hg
theorem Inv.turned {t':Nat} {it:Addr} (I:Inv X pins σ H s) (k:∀ b o,b≠it→s.heap.get? b=some o→h'.get? b=some o) (hn:H it=none) (hL:it≠X.env.locals)
  (h1:it∈X.ex∨X.s₀.heap.objs.size≤it) (h2:∀ x c,X.env.cells.lookup x=some c→c≠it) (h3:∀ p∈X.pn++pins,p.1≠it):Inv X pins σ H { s with heap:=h',toks:=t' }:=by
 have nit:∀ b u,H b=some u→b≠it:=fun b u e z=>by rw [z,hn] at e; cases e
 refine I.step (g':=s.gens) (d':=s.drawn) (ch:=[it]) (fun b hb=>?_) (fun b o _ _ hc e _=>k b o (fun z=>hc (by simp [z])) e) (fun b o _ _ hc e _=>⟨o.slots,k b o (fun z=>hc (by simp [z])) e⟩) (fun _ _ _ _ n=>n)
  (fun b o hc e=>⟨o,k b o (fun z=>hc (by simp [z])) e⟩) (fun _ _ e=>e) (fun _ _ _ e=>e) (fun b ps e=>⟨#[],by rw [e]; simp⟩) (fun m hm=>?_) (fun b u e=>?_) I.bare
 ·have e:b=it:=by simpa using hb
  subst e
  exact ⟨h1,hL,h2,h3⟩
 ·obtain ⟨o,es,ep,ho,r⟩:=hm
  exact ⟨o,es,ep,k _ o (Ne.symm hL) ho,r⟩
 ·refine (I.hok b u e).stay (fun c v hc q=>k c v ?_ q) (fun _ q=>q) fun _ _ q=>q
  rcases hc with z | z
  ·rw [z]; exact nit b u e
  ·exact nit c _ z
theorem Inv.tok (I:Inv X pins σ H s) (t:Nat):Inv X pins σ H { s with toks:=t }:=I.un (h':=s.heap) (t':=t) Un.refl I.hok
theorem Inv.kept {t':Nat} (I:Inv X pins σ H s) (k:∀ b u,s.heap.get? b=some u→h'.get? b=some u):Inv X pins σ H { s with heap:=h',toks:=t' }:=I.un (Un.kept k) (I.hok.kept k)
theorem Inv.laid {a:Addr} {o:HO} {t':Nat} (I:Inv X pins σ H s) (k:∀ b u,s.heap.get? b=some u→h'.get? b=some u) (hp:s.heap.objs.size≤a) (new:ObjOk X.prog X.w (upd H a o) h' a o) :
  Inv X pins σ (upd H a o) { s with heap:=h',toks:=t' }:=I.un (Un.laid k hp (I.hok.fresh hp)) (I.hok.laid k hp new)
theorem Inv.write {x e:Addr} {o:HO} {t':Nat} (I:Inv X pins σ H s) (mu:Mut (H x)) (he:e=x∨H e=some (.own x)) (k:∀ b u,b≠e→s.heap.get? b=some u→h'.get? b=some u) (heo:∃ u,h'.get? e=some u)
  (new:ObjOk X.prog X.w (upd H x o) h' x o):Inv X pins σ (upd H x o) { s with heap:=h',toks:=t' }:=I.un (Un.write mu he k heo) (I.hok.write mu he k heo new)
theorem Inv.pins_of {pins':List (Addr×Obj)} (I:Inv X pins σ H s) (h:∀ p∈pins',s.heap.get? p.1=some p.2∧H p.1=none∧p.1≠X.env.locals∧p.1∉X.fs∧∀ v,p.2.data≠.cell v):Inv X pins' σ H s:=⟨I.ok,I.os,I.bare,I.base,I.loc,I.cell,I.free,I.freeC,fun p hp=>(List.mem_append.mp hp).elim (fun z=>I.pin p (List.mem_append_left _ z)) (h p),I.hok,I.len⟩
theorem mH {N:List Str} (hN:N.Nodup) {i j:Nat} {x:Str} (a:N[i]? = some x) (b:N[j]? = some x):i=j:=by
 obtain ⟨h1,e1⟩:=List.getElem?_eq_some_iff.mp a
 obtain ⟨h2,e2⟩:=List.getElem?_eq_some_iff.mp b
 exact (List.getElem_inj hN).mp (e1.trans e2.symm)
theorem pV {M:Model} {A:Around} {E:Value→Shared→Prop} {i:Nat} {x:Str} {v:V} {u:Value} {Q:Unit→Shared→Prop} (I:Inv X pins σ H s) (hN:X.N.Nodup) (hi:X.N[i]? = some x) (hx:Loc X.env.scope x) (r:RelV v u)
  (h:∀ s',Inv X pins (σ.set i (some v)) H s'→(∃ a,Heap.SameBut a s.heap s'.heap∧(a=X.env.locals∨X.env.cells.lookup x=some a))→Q () s') (hf:X.fn x=true∨X.env.scope.names.lookup x=some .local:=by first | exact .inl rfl | exact .inr rfl | assumption):wpAny M A (storeName X.env x u) Q E s:=by
 obtain ⟨m,hn,hl⟩:=id I.loc
 have hcls:(X.env.scope.kind == .class || (X.env.scope.kind == .module && X.env.locals != X.env.globals))=false:=by rw [I.ok.kind]; rfl
 have hiσ:i < σ.length:=by rw [I.len]; exact (List.getElem?_eq_some_iff.mp hi).1
 have cne:=I.cne
 have tracked:∀ {a:Addr} {h':Heap},(∃ o,s.heap.get? a=some o∧H a=none)→Heap.SameBut a s.heap h'→HOk X.prog X.w H h':=fun {a h'} ha hs b ob e=>by
  obtain ⟨_,_,hfree⟩:=ha
  refine (I.hok b ob e).stay (fun c w' hc q=>(hs.2 c ?_).trans q) (fun _ q=>q) fun _ _ q=>q
  rintro rfl
  rcases hc with rfl | hc
  ·rw [hfree] at e; cases e
  ·rw [hfree] at hc; cases hc
 rcases hx with hk | hk
 ·refine wpAny_storeName_local hk hn (fun h' hn' hs=>?_) hcls
  obtain ⟨oL,_,_,hoL,_⟩:=id hn
  refine h _ ⟨I.ok,I.os,I.bare,⟨fun b o e n hb hx=>?_,fun b o e n hb hx=>?_,I.base.free,fun b o e hx=>?_,I.base.tups,I.base.frzs,I.base.tbls⟩,⟨_,hn',fun j y v' e1 e2 e3=>?_⟩,fun y c e=>?_,I.free,I.freeC,fun p hp=>?_,tracked ⟨oL,hoL,I.free⟩ hs,by simpa using I.len⟩ ⟨_,hs,.inl rfl⟩
  ·exact (hs.2 b (Nat.ne_of_lt (Nat.lt_of_lt_of_le (Heap.lt_size e) I.ok.above))).trans (I.base.keep b o e n hb hx)
  ·obtain ⟨sl,e1⟩:=I.base.slot b o e n hb hx
   exact ⟨sl,(hs.2 b (Nat.ne_of_lt (Nat.lt_of_lt_of_le (Heap.lt_size e) I.ok.above))).trans e1⟩
  ·obtain ⟨o',e1⟩:=I.base.there b o e hx
   exact ⟨o',(hs.2 b (Nat.ne_of_lt (Nat.lt_of_lt_of_le (Heap.lt_size e) I.ok.above))).trans e1⟩
  ·by_cases hj:j=i
   ·subst hj
    rw [hi] at e1; cases e1
    rw [List.getElem?_set_self hiσ] at e2
    cases e2
    exact ⟨u,r,.inl ⟨hk,by simp⟩⟩
   ·rw [List.getElem?_set_ne (Ne.symm hj)] at e2
    obtain ⟨u',r',q⟩:=hl j y v' e1 e2 e3
    refine ⟨u',r',?_⟩
    rcases q with ⟨k,e⟩ | ⟨k,c,e,z⟩
    ·refine .inl ⟨k,?_⟩
     have:y≠x:=fun e=>hj (mH hN e1 (e ▸ hi))
     simp [this,e]
    ·exact .inr ⟨k,c,e,z.sameBut hs (cne y c e)⟩
  ·obtain ⟨w',z⟩:=I.cell y c e
   exact ⟨w',z.sameBut hs (cne y c e)⟩
  ·obtain ⟨e,n,ne,nf,d⟩:=I.pin p hp
   exact ⟨(hs.2 p.1 ne).trans e,n,ne,nf,d⟩
 ·have hfn:X.fn x=true:=by
   rcases hf with z | z
   ·exact z
   ·rw [z] at hk; cases hk
  obtain ⟨c,hc⟩:=I.ok.has x (.inl hk)
  obtain ⟨w',z⟩:=I.cell x c hc
  refine wpAny_storeName_cell I.ok.kind hk hc z (fun h' hc' hs=>?_)
  obtain ⟨oc,hoc,hocd⟩:=id z
  refine h { s with heap:=h' } ⟨I.ok,I.os,I.bare,⟨fun b o e n hb hx=>?_,fun b o e n hb hx=>?_,I.base.free,fun b o e hx=>?_,I.base.tups,I.base.frzs,I.base.tbls⟩,⟨m,hn.sameBut hs (Ne.symm (cne x c hc)),fun j y v' e1 e2 e3=>?_⟩,fun y c' e=>?_,I.free,I.freeC,fun p hp=>?_,tracked ⟨oc,hoc,I.freeC x c hc⟩ hs,by simpa using I.len⟩ ⟨c,hs,.inr hc⟩
  ·exact (hs.2 b (Nat.ne_of_lt (Nat.lt_of_lt_of_le (Heap.lt_size e) (I.ok.cab x c hfn hc)))).trans (I.base.keep b o e n hb hx)
  ·obtain ⟨sl,e1⟩:=I.base.slot b o e n hb hx
   exact ⟨sl,(hs.2 b (Nat.ne_of_lt (Nat.lt_of_lt_of_le (Heap.lt_size e) (I.ok.cab x c hfn hc)))).trans e1⟩
  ·obtain ⟨o',e1⟩:=I.base.there b o e hx
   exact ⟨o',(hs.2 b (Nat.ne_of_lt (Nat.lt_of_lt_of_le (Heap.lt_size e) (I.ok.cab x c hfn hc)))).trans e1⟩
  ·by_cases hj:j=i
   ·subst hj
    rw [hi] at e1; cases e1
    rw [List.getElem?_set_self hiσ] at e2
    cases e2
    exact ⟨u,r,.inr ⟨.inl hk,c,hc,hc'⟩⟩
   ·rw [List.getElem?_set_ne (Ne.symm hj)] at e2
    obtain ⟨u',r',q⟩:=hl j y v' e1 e2 e3
    refine ⟨u',r',?_⟩
    rcases q with q | ⟨k,c',e,z'⟩
    ·exact .inl q
    ·refine .inr ⟨k,c',e,z'.sameBut hs ?_⟩
     rintro rfl
     exact hj (mH hN e1 (I.ok.inj _ _ _ e hc ▸ hi))
  ·by_cases hcc:c'=c
   ·subst hcc; exact ⟨_,hc'⟩
   ·obtain ⟨w2,z2⟩:=I.cell y c' e
    exact ⟨w2,z2.sameBut hs hcc⟩
  ·obtain ⟨e,n,ne,nf,d⟩:=I.pin p hp
   refine ⟨(hs.2 p.1 ?_).trans e,n,ne,nf,d⟩
   intro q
   rw [q,hoc] at e
   have q':oc=p.2:=Option.some.inj e
   exact d w' (by rw [← q']; exact hocd)
theorem mD {M:Model} {A:Around} {E:Value→Shared→Prop} {i:Nat} {x:Str} {v:V} {u:Value} {Q:Unit→Shared→Prop} (I:Inv X pins σ H s) (hN:X.N.Nodup) (hi:X.N[i]? = some x) (hx:Loc X.env.scope x) (r:RelV v u)
  (h:∀ s',Inv X pins (σ.set i (some v)) H s'→Q () s') (hf:X.fn x=true∨X.env.scope.names.lookup x=some .local:=by first | exact .inl rfl | exact .inr rfl | assumption):wpAny M A (storeName X.env x u) Q E s:=pV I hN hi hx r (fun s' I' _=>h s' I') hf
theorem Inv.call' {s':Shared} {ch:List Addr} (I:Inv X pins σ H s) (ho:s'.os=s.os) (u:Un (frs X.stack) ch H H' s.heap s'.heap) (hok:HOk X.prog X.w H' s'.heap) (hg:AllBare s'.gens)
  (hch:∀ b∈ch,(b∈X.ex∨X.s₀.heap.objs.size≤b)∧b≠X.env.locals∧(∀ x c,X.env.cells.lookup x=some c→c≠b)∧∀ p∈X.pn++pins,p.1≠b):Inv X pins σ H' s':=by
 obtain ⟨h',g',d',t',o'⟩:=s'
 have e:o'=s.os:=ho
 subst e
 exact I.call (g':=g') (t':=t') (d':=d') u hok hg hch
end
abbrev XK:=Value→Option Addr→Hp→Prop
abbrev St:=List (Option V)
abbrev VK:=V→Hp→Prop
abbrev TE:=St→Hp→VK→Prop
abbrev TT:=St→Hp→(Bool→Hp→Prop)→Prop
abbrev TA:=St→Hp→(List V→Hp→Prop)→Prop
structure Ends where
 nx:St→Hp→Prop
 rt:VK
 bk:St→Hp→Prop:=fun _ _=>False
 ct:St→Hp→Prop:=fun _ _=>False
abbrev TS:=Ends→St→Hp→Prop
def EP (X:Cx) (pins:List (Addr×Obj)) (σ:St) (Q:VK) (u:Value) (s':Shared):Prop:=∃ v H',Inv X pins σ H' s'∧RelV v u∧Q v H'
def TP (X:Cx) (pins:List (Addr×Obj)) (σ:St) (Q:Bool→Hp→Prop) (b:Bool) (s':Shared):Prop:=∃ H',Inv X pins σ H' s'∧Q b H'
def AP (X:Cx) (pins:List (Addr×Obj)) (σ:St) (Q:List V→Hp→Prop) (us:List Value) (s':Shared):Prop:=∃ vs H',Inv X pins σ H' s'∧Vals vs us∧Q vs H'
def SP (X:Cx) (pins:List (Addr×Obj)) (D:Ends) (f:Flow) (s':Shared):Prop:=
 match f with
 | .next=>∃ σ' H',Inv X pins σ' H' s'∧D.nx σ' H'
 | .brk=>∃ σ' H',Inv X pins σ' H' s'∧D.bk σ' H'
 | .cont=>∃ σ' H',Inv X pins σ' H' s'∧D.ct σ' H'
 | .ret u=>∃ v σ' H',Inv X pins σ' H' s'∧RelV v u∧D.rt v H'
def PE (X:Cx) (e:Expr) (t:TE):Prop:=∀ (pins:List (Addr×Obj)) (s:Shared) (σ:St) (H:Hp) (Q:VK),Inv X pins σ H s→t σ H Q→wpAny (model X.prog X.w) X.A (eval e X.env) (EP X pins σ Q) X.xe s
def PT (X:Cx) (e:Expr) (t:TT):Prop:=∀ (pins:List (Addr×Obj)) (s:Shared) (σ:St) (H:Hp) (Q:Bool→Hp→Prop),Inv X pins σ H s→t σ H Q→wpAny (model X.prog X.w) X.A (isTrue e X.env (eval e X.env)) (TP X pins σ Q) X.xe s
def PW (X:Cx) (e:Expr) (t:TT):Prop:=∀ (whole:Sem Value) (pins:List (Addr×Obj)) (s:Shared) (σ:St) (H:Hp) (Q:Bool→Hp→Prop),Inv X pins σ H s→t σ H Q→wpAny (model X.prog X.w) X.A (isTrue e X.env whole) (TP X pins σ Q) X.xe s
theorem PW.pt {X:Cx} {e:Expr} {t:TT} (h:PW X e t):PT X e t:=h _
def PA (X:Cx) (es:List Expr) (t:TA):Prop:=∀ (pos:Pos) (pins:List (Addr×Obj)) (s:Shared) (σ:St) (H:Hp) (Q:List V→Hp→Prop),Inv X pins σ H s→t σ H Q→wpAny (model X.prog X.w) X.A (spliced (backTo pos (starEach es X.env))) (AP X pins σ Q) X.xe s
def PS (X:Cx) (st:Stmt) (t:TS):Prop:=∀ (pins:List (Addr×Obj)) (s:Shared) (σ:St) (H:Hp) (D:Ends),Inv X pins σ H s→t D σ H→wpAny (model X.prog X.w) X.A (exec st X.env) (SP X pins D) X.xe s
def PSs (X:Cx) (st:List Stmt) (t:TS):Prop:=∀ (pins:List (Addr×Obj)) (s:Shared) (σ:St) (H:Hp) (D:Ends),Inv X pins σ H s→t D σ H→wpAny (model X.prog X.w) X.A (execs st X.env) (SP X pins D) X.xe s
theorem thn {α:Type} {t:Sem α} {Q Q':α→Shared→Prop} {M:Model} {A:Around} {E:Value→Shared→Prop} {s:Shared} (h:wpAny M A t Q E s) (hQ:∀ a s,Q a s→Q' a s):wpAny M A t Q' E s:=wpAny_mono h hQ fun _ _ x=>x
section
variable {X:Cx}
def ou (i:Nat):TE:=fun σ H Q=>∃ v,σ[i]? = some (some v)∧Q v H
def tC (v:V):TE:=fun _ H Q=>Q v H
theorem CF {i:Nat} {x:Str} {pos:Pos} (hN:X.N[i]? = some x) (hv:Vis X.env.scope x) (hd:(x == ("__debug__" : Str))=false:=by decide) (hcd:(x == ("__classdict__" : Str))=false:=by decide):PE X (.Name x pos) (ou i):=by
 intro pins s σ H Q I h
 obtain ⟨v,e,h⟩:=h
 obtain ⟨m,hn,hl⟩:=I.loc
 obtain ⟨u,r,l⟩:=hl i x v hN e hv
 have fin:EP X pins σ Q u s:=⟨v,H,I,r,h⟩
 rcases l with ⟨hk,hm⟩ | ⟨hk,c,hc,hcell⟩
 ·exact wpAny_Name (wpAny_loadName_local I.ok.kind hk hn hm fin) hd
 ·rcases hk with hk | hk
  ·exact wpAny_Name (wpAny_loadName_cell I.ok.kind hk hc hcell fin) hd
  ·exact wpAny_Name (wpAny_loadName_free I.ok.kind hk hc hcell fin hcd) hd
theorem kR {i j pos}:PE X (.Constant (.int i) j pos) (tC (.int i)):=fun _ _ _ H _ I h=>wpAny_Constant_int ⟨.int i,H,I.tok _,⟨_,rfl⟩,h⟩
theorem Eg {b j pos}:PE X (.Constant (.bool b) j pos) (tC (.bl b)):=fun _ _ _ H _ I h=>Constant_bool ⟨.bl b,H,I,rfl,h⟩
theorem CJ {j pos}:PE X (.Constant .none j pos) (tC .non):=fun _ _ _ H _ I h=>Constant_none ⟨.non,H,I,rfl,h⟩
theorem CG {x j pos}:PE X (.Constant (.str x) j pos) (tC (.str x)):=fun _ _ _ H _ I h=>Calls.Constant_str ⟨.str x,H,I.tok _,⟨_,rfl⟩,h⟩
def Gl (X:Cx) (x:Str):Prop:=X.env.kindOf x=some .globalImplicit
theorem m4 {E:Value→Shared→Prop} {pins:List (Addr×Obj)} {s:Shared} {σ:St} {H:Hp} {x:Str} {u:Value} {pos:Pos} {Q:Value→Shared→Prop} (I:Inv X pins σ H s) (hg:Gl X x) (hm:X.mg x=some u) (h:Q u s)
  (hd:(x == ("__debug__" : Str))=false:=by decide):wpAny (model X.prog X.w) X.A (eval (.Name x pos) X.env) Q E s:=Calls.Name_function_global I.ok.kind hg (Calls.loadGlobal_global (by rw [I.ok.glob]; exact I.mod.glob.keeps I.bk) hm h) hd
theorem jy {E:Value→Shared→Prop} {pins:List (Addr×Obj)} {s:Shared} {σ:St} {H:Hp} {x:Str} {u:Value} {pos:Pos} {Q:Value→Shared→Prop} (I:Inv X pins σ H s) (hg:Gl X x) (hm:X.mg x=none) (hv:bootBuiltins x=some u) (h:Q u s)
  (hn:x≠"__name__":=by decide) (hd:(x == ("__debug__" : Str))=false:=by decide):wpAny (model X.prog X.w) X.A (eval (.Name x pos) X.env) Q E s:=by
 obtain ⟨mb,h1,h2⟩:=I.mod.blt
 exact Calls.Name_function_global I.ok.kind hg (Calls.loadGlobal_builtin (by rw [I.ok.glob]; exact I.mod.glob.keeps I.bk) hm (by rw [I.ok.blt]; exact h1.keeps I.bk) ((h2 x hn).trans hv) h) hd
theorem jo {x:Str} {v:V} {u:Value} {pos:Pos} (hg:Gl X x) (hm:X.mg x=some u) (r:RelV v u) (hd:(x == ("__debug__" : Str))=false:=by decide):PE X (.Name x pos) (tC v):=fun _ _ _ H _ I h=>m4 I hg hm ⟨v,H,I,r,h⟩ hd
theorem mR {x:Str} {v:V} {u:Value} {pos:Pos} (hg:Gl X x) (hm:X.mg x=none) (hv:bootBuiltins x=some u) (r:RelV v u) (hn:x≠"__name__":=by decide) (hd:(x == ("__debug__" : Str))=false:=by decide):PE X (.Name x pos) (tC v):=fun _ _ _ H _ I h=>jy I hg hm hv ⟨v,H,I,r,h⟩ hn hd
variable {a b:Expr} {ta tb:TE} {pos:Pos}
variable {tA tB':TT} {rest:List Expr}
def Fd (t u:TT):TT:=fun σ H Q=>t σ H fun c H1=>if c=true then u σ H1 Q else Q false H1
def tOr (t u:TT):TT:=fun σ H Q=>t σ H fun c H1=>if c=true then Q true H1 else u σ H1 Q
def E5 (t:TT):TT:=fun σ H Q=>t σ H fun c H1=>Q (!c) H1
theorem Bf (ha:PT X a tA):PW X (.BoolOp .And [a] pos) tA:=by
 intro wh pins s σ H Q I h
 refine isTrue_and (thn (ha pins s σ H Q I h) fun c s1 e=>?_)
 cases c with
 | true=>exact isTrue_and_nil e
 | false=>exact e
theorem Cu (ha:PT X a tA):PW X (.BoolOp .Or [a] pos) tA:=by
 intro wh pins s σ H Q I h
 refine isTrue_or (thn (ha pins s σ H Q I h) fun c s1 e=>?_)
 cases c with
 | false=>exact isTrue_or_nil e
 | true=>exact e
theorem Cv (ha:PT X a tA) (hb:PW X (.BoolOp .And (b::rest) pos) tB'):PW X (.BoolOp .And (a::b::rest) pos) (Fd tA tB'):=by
 intro wh pins s σ H Q I h
 refine isTrue_and (thn (ha pins s σ H _ I h) fun c s1 ⟨H1,I1,q1⟩=>?_)
 cases c with
 | true=>exact hb wh pins s1 σ H1 Q I1 q1
 | false=>exact ⟨H1,I1,q1⟩
theorem Eb (ha:PT X a tA) (hb:PW X (.BoolOp .Or (b::rest) pos) tB'):PW X (.BoolOp .Or (a::b::rest) pos) (tOr tA tB'):=by
 intro wh pins s σ H Q I h
 refine isTrue_or (thn (ha pins s σ H _ I h) fun c s1 ⟨H1,I1,q1⟩=>?_)
 cases c with
 | true=>exact ⟨H1,I1,q1⟩
 | false=>exact hb wh pins s1 σ H1 Q I1 q1
theorem Cw (ha:PT X a tA):PT X (.UnaryOp .Not a pos) (E5 tA):=by
 intro pins s σ H Q I h
 exact isTrue_not (ha pins s σ H (fun c H1=>Q (!c) H1) I h)
def D4 (ta tb:TE):TE:=fun σ H Q=>ta σ H fun x H1=>∃ c,x=.bl c∧if c=true then tb σ H1 Q else Q (.bl false) H1
def E4 (ta tb:TE):TE:=fun σ H Q=>ta σ H fun x H1=>∃ c,x=.bl c∧if c=true then Q (.bl true) H1 else tb σ H1 Q
def DV (ta:TE):TE:=fun σ H Q=>ta σ H fun x H1=>∃ c,x=.bl c∧Q (.bl (!c)) H1
theorem CH {op} {t:TE} (h:PE X a t):PE X (.BoolOp op [a] pos) t:=fun pins s σ H Q I hw=>BoolOp_one (h pins s σ H Q I hw)
theorem CM (ha:PE X a ta) (hb:PE X (.BoolOp .And (b::rest) pos) tb):PE X (.BoolOp .And (a::b::rest) pos) (D4 ta tb):=by
 intro pins s σ H Q I h
 refine BoolOp_and (thn (ha pins s σ H _ I h) fun v s1 ⟨x,H1,I1,r1,q1⟩=>?_)
 obtain ⟨c,rfl,q1⟩:=q1
 cases r1
 refine wpAny_truthy_bool ?_
 cases c with
 | true=>exact hb pins s1 σ H1 Q I1 q1
 | false=>exact ⟨.bl false,H1,I1,rfl,q1⟩
theorem Ef (ha:PE X a ta) (hb:PE X (.BoolOp .Or (b::rest) pos) tb):PE X (.BoolOp .Or (a::b::rest) pos) (E4 ta tb):=by
 intro pins s σ H Q I h
 refine BoolOp_or (thn (ha pins s σ H _ I h) fun v s1 ⟨x,H1,I1,r1,q1⟩=>?_)
 obtain ⟨c,rfl,q1⟩:=q1
 cases r1
 refine wpAny_truthy_bool ?_
 cases c with
 | false=>exact hb pins s1 σ H1 Q I1 q1
 | true=>exact ⟨.bl true,H1,I1,rfl,q1⟩
theorem CI (ha:PE X a ta):PE X (.UnaryOp .Not a pos) (DV ta):=by
 intro pins s σ H Q I h
 refine UnaryOp_ (thn (ha pins s σ H _ I h) fun v s1 ⟨x,H1,I1,r1,q1⟩=>?_)
 obtain ⟨c,rfl,q1⟩:=q1
 cases r1
 exact not_of (wpAny_truthy_bool ⟨.bl (!c),H1,I1,rfl,q1⟩)
def tIf (t:TT) (ta tb:TE):TE:=fun σ H Q=>t σ H fun c H1=>if c=true then ta σ H1 Q else tb σ H1 Q
theorem Ab {c:Expr} (hc:PT X c tA) (ha:PE X a ta) (hb:PE X b tb):PE X (.IfExp c a b pos) (tIf tA ta tb):=by
 intro pins s σ H Q I h
 refine wpAny_IfExp (thn (hc pins s σ H _ I h) fun d s1 ⟨H1,I1,q1⟩=>?_)
 cases d with
 | true=>exact ha pins s1 σ H1 Q I1 q1
 | false=>exact hb pins s1 σ H1 Q I1 q1
end
def SqL (K:Frag) (H:Hp) (a:Addr) (xs:List V):Prop:=
 Rd H a (.lst xs) ∨
  ∃ (o:Obj) (its:Array Value) (n:Nat),K.lookup a=some o∧o.cls=.type "list"∧o.dict=none∧o.data=.seq its n∧its.size≤sizeLine∧Vals xs its.toList
def SqT (K:Frag) (H:Hp) (a:Addr) (xs:List V):Prop:=
 Rd H a (.tup xs) ∨
  ∃ (o:Obj) (its:Array Value) (n:Nat),K.lookup a=some o∧o.cls=.type "tuple"∧o.data=.seq its n∧its.size≤sizeLine∧Vals xs its.toList
def FG:Value→Option V
 | .none=>some .non
 | .bool b=>some (.bl b)
 | .int i _=>some (.int i)
 | .str x _=>some (.str x)
 | .bytes b _=>some (.byt b)
 | .float b _=>some (.flt b)
 | .ref a=>some (.ref a)
 | .type n=>some (.ty n)
 | _=>none
theorem RelV.abs {x:V} {u:Value} (r:RelV x u):FG u=some x:=by
 cases x with
 | non=>cases r; rfl
 | bl _=>cases r; rfl
 | int _=>obtain ⟨t,rfl⟩:=r; rfl
 | str _=>obtain ⟨t,rfl⟩:=r; rfl
 | byt _=>obtain ⟨t,rfl⟩:=r; rfl
 | flt _=>obtain ⟨t,rfl⟩:=r; rfl
 | ref _=>cases r; rfl
 | ty _=>cases r; rfl
theorem RelV.inj {x y:V} {u:Value} (r:RelV x u) (q:RelV y u):x=y:=Option.some.inj (r.abs.symm.trans q.abs)
theorem Vals.inj:∀ {xs ys:List V} {us:List Value},Vals xs us→Vals ys us→xs=ys
 | _,_,_,.nil,.nil=>rfl
 | _,_,_,.cons r t,.cons r' t'=>by rw [r.inj r',Vals.inj t t']
section
variable {X:Cx} {pins:List (Addr×Obj)} {σ:St} {H:Hp} {s:Shared} {a:Addr} {xs ys:List V}
theorem SqL.of {K:Frag} (h:H a=some (.lst xs)):SqL K H a xs:=.inl (.inl h)
theorem SqT.of {K:Frag} (h:H a=some (.tup xs)):SqT K H a xs:=.inl (.inl h)
theorem Inv.list (I:Inv X pins σ H s) (h:SqL X.K H a xs):∃ its:List Value,Vals xs its∧PlainL s.heap a its.toArray∧xs.length≤sizeLine:=by
 rcases h with h | ⟨o,its,n,hk,hc,hd,hs,hz,r⟩
 ·obtain ⟨z,its,n,r,e⟩:=h.ok I.hok
  exact ⟨its,r,⟨_,n,e,rfl,rfl,rfl⟩,z⟩
 ·refine ⟨its.toList,r,⟨o,n,I.kIn a o hk,hc,hd,by simpa using hs⟩,?_⟩
  have e:=r.length
  simp only [Array.length_toList] at e
  omega
theorem Inv.tuple (I:Inv X pins σ H s) (h:SqT X.K H a xs):∃ its:List Value,Vals xs its∧IsTup s.heap a its.toArray∧xs.length≤sizeLine:=by
 rcases h with h | ⟨o,its,n,hk,hc,hs,hz,r⟩
 ·obtain ⟨z,its,r,p⟩:=h.ok I.hok
  exact ⟨its,r,p,z⟩
 ·refine ⟨its.toList,r,⟨o,I.kIn a o hk,hc,n,by simpa using hs⟩,?_⟩
  have e:=r.length
  simp only [Array.length_toList] at e
  omega
theorem Inv.list_inj (I:Inv X pins σ H s) (h:SqL X.K H a xs) (h':SqL X.K H a ys):xs=ys:=by
 obtain ⟨its,r,⟨o,n,e,_,_,d⟩,_⟩:=I.list h
 obtain ⟨its',r',⟨o',n',e',_,_,d'⟩,_⟩:=I.list h'
 rw [e] at e'; cases e'
 rw [d] at d'
 injection d' with d1 _
 have:its=its':=by simpa using congrArg Array.toList d1
 subst this
 exact r.inj r'
theorem Inv.tuple_inj (I:Inv X pins σ H s) (h:SqT X.K H a xs) (h':SqT X.K H a ys):xs=ys:=by
 obtain ⟨its,r,⟨o,e,_,n,d⟩,_⟩:=I.tuple h
 obtain ⟨its',r',⟨o',e',_,n',d'⟩,_⟩:=I.tuple h'
 rw [e] at e'; cases e'
 rw [d] at d'
 injection d' with d1 _
 have:its=its':=by simpa using congrArg Array.toList d1
 subst this
 exact r.inj r'
end
abbrev Cx.wish (X:Cx) (E:Value→Shared→Prop):Cx:={ X with xe:=E }
abbrev Cx.nox (X:Cx):Cx:=X.wish fun _ _=>False
theorem Cx.Ok.wish {X:Cx} (ok:X.Ok) (E:Value→Shared→Prop):(X.wish E).Ok:=⟨ok.mod,ok.kind,ok.glob,ok.blt,ok.above,ok.inj,ok.has,ok.cab,ok.hd,ok.frames,ok.stk,ok.exf,ok.bs,ok.bsz,ok.noex,ok.exfs,ok.funs,ok.frf⟩
theorem Cx.Ok.unwish {X:Cx} {E:Value→Shared→Prop} (ok:(X.wish E).Ok):X.Ok:=⟨ok.mod,ok.kind,ok.glob,ok.blt,ok.above,ok.inj,ok.has,ok.cab,ok.hd,ok.frames,ok.stk,ok.exf,ok.bs,ok.bsz,ok.noex,ok.exfs,ok.funs,ok.frf⟩
section
variable {X:Cx} {pins:List (Addr×Obj)} {σ:St} {H:Hp} {s:Shared} {E:Value→Shared→Prop}
theorem Inv.wish (I:Inv X pins σ H s) (E:Value→Shared→Prop):Inv (X.wish E) pins σ H s:=⟨I.ok.wish E,I.os,I.bare,I.base,I.loc,I.cell,I.free,I.freeC,I.pin,I.hok,I.len⟩
theorem Inv.unwish (I:Inv (X.wish E) pins σ H s):Inv X pins σ H s:=⟨I.ok.unwish,I.os,I.bare,I.base,I.loc,I.cell,I.free,I.freeC,I.pin,I.hok,I.len⟩
theorem SP.unwish {D:Ends} {f:Flow} {s':Shared} (h:SP (X.wish E) pins D f s'):SP X pins D f s':=by
 cases f with
 | next=>obtain ⟨σ',H',I,q⟩:=h; exact ⟨σ',H',I.unwish,q⟩
 | brk=>obtain ⟨σ',H',I,q⟩:=h; exact ⟨σ',H',I.unwish,q⟩
 | cont=>obtain ⟨σ',H',I,q⟩:=h; exact ⟨σ',H',I.unwish,q⟩
 | ret u=>obtain ⟨v,σ',H',I,r,q⟩:=h; exact ⟨v,σ',H',I.unwish,r,q⟩
theorem PSs.nox {st:List Stmt} {t:TS} (h:PSs X.nox st t):PSs X st t:=fun pins s σ H D I hw=>
 wpAny_mono (h pins s σ H D (I.wish _) hw) (fun _ _ q=>q.unwish) fun _ _ z=>False.elim z
end
section
variable {X:Cx} {st:Stmt} {rest:List Stmt} {t u:TS} {e:Expr} {te:TE} {pos:Pos}
def DY:TS:=fun D σ H=>D.nx σ H
def E2 (t u:TS):TS:=fun D σ H=>t { D with nx:=u D } σ H
theorem si:PSs X [] DY:=fun _ _ σ H _ I h=>wpAny_execs_nil ⟨σ,H,I,h⟩
theorem gK (h1:PS X st t) (h2:PSs X rest u):PSs X (st::rest) (E2 t u):=by
 intro pins s σ H D I h
 refine wpAny_execs_cons (thn (h1 pins s σ H { D with nx:=u D } I h) fun f s1 q=>?_)
 cases f with
 | next=>
  obtain ⟨σ',H',I',q⟩:=q
  exact h2 pins s1 σ' H' D I' q
 | ret v=>exact q
 | brk=>exact q
 | cont=>exact q
theorem Bk (h1:PS X st t):PSs X [st] t:=by
 intro pins s σ H D I h
 refine wpAny_execs_cons (thn (h1 pins s σ H D I h) fun f s1 q=>?_)
 cases f with
 | next=>exact wpAny_execs_nil q
 | ret v=>exact q
 | brk=>exact q
 | cont=>exact q
theorem Inv.quiet {pins:List (Addr×Obj)} {σ:St} {H:Hp} {s:Shared} (I:Inv X pins σ H s):interactive X.env=false:=by simp [interactive,I.ok.kind]
def D3 (te:TE):TS:=fun D σ H=>te σ H fun _ H1=>D.nx σ H1
theorem jn (he:PE X e te) (hs:swapsWith e none pos.line X.env=pure false:=by rfl):PS X (.Expr e pos) (D3 te):=by
 intro pins s σ H D I h
 exact wpAny_Expr_any (thn (he pins s σ H _ I h) fun v s1 ⟨x,H1,I1,r1,q1⟩=>⟨σ,H1,I1,q1⟩) I.quiet hs
def E3 (te:TE):TS:=fun D σ H=>te σ H D.rt
theorem nM (he:PE X e te):PS X (.Return (some e) pos) (E3 te):=by
 intro pins s σ H D I h
 exact wpAny_Return_some (thn (he pins s σ H _ I h) fun v s1 ⟨x,H1,I1,r1,q1⟩=>⟨x,σ,H1,I1,r1,q1⟩)
def E7 (c:TT) (t u:TS):TS:=fun D σ H=>c σ H fun b H1=>if b=true then t D σ H1 else u D σ H1
theorem uH {c:Expr} {a b:List Stmt} {tc:TT} (hc:PT X c tc) (ha:PSs X a t) (hb:PSs X b u):PS X (.If c a b pos) (E7 tc t u):=by
 intro pins s σ H D I h
 refine wpAny_If (thn (hc pins s σ H _ I h) fun d s1 ⟨H1,I1,q1⟩=>?_)
 cases d with
 | true=>exact ha pins s1 σ H1 D I1 q1
 | false=>exact hb pins s1 σ H1 D I1 q1
end
abbrev TG:=V→St→Hp→(St→Hp→Prop)→Prop
abbrev TGs:=List V→St→Hp→(St→Hp→Prop)→Prop
def PG (X:Cx) (target:Expr) (t:TG):Prop:=
 ∀ (pins:List (Addr×Obj)) (s:Shared) (σ:St) (H:Hp) (v:V) (u:Value) (Q:St→Hp→Prop),Inv X pins σ H s→RelV v u→t v σ H Q →
  wpAny (model X.prog X.w) X.A (assign target X.env u) (fun _ s'=>∃ σ' H',Inv X pins σ' H' s'∧Q σ' H') X.xe s
def PGs (X:Cx) (ts:List Expr) (t:TGs):Prop:=
 ∀ (pins:List (Addr×Obj)) (s:Shared) (σ:St) (H:Hp) (vs:List V) (us:List Value) (Q:St→Hp→Prop),Inv X pins σ H s→Vals vs us→t vs σ H Q →
  wpAny (model X.prog X.w) X.A (assignInOrder ((assignEach ts X.env).map (·.2)) us) (fun _ s'=>∃ σ' H',Inv X pins σ' H' s'∧Q σ' H') X.xe s
abbrev oK:=V→V→V→Hp→(Hp→Prop)→Prop
def vS (X:Cx) (t:oK):Prop:=
 ∀ (pins:List (Addr×Obj)) (s:Shared) (σ:St) (H:Hp) (o i v:V) (ov iv u:Value) (Q:Hp→Prop),Inv X pins σ H s→RelV o ov→RelV i iv→RelV v u→t o i v H Q →
  wpAny (model X.prog X.w) X.A (setItem ov iv u) (fun _ s'=>∃ H',Inv X pins σ H' s'∧Q H') X.xe s
section
variable {X:Cx} {pos:Pos}
def uZ (i:Nat):TG:=fun v σ H Q=>Q (σ.set i (some v)) H
theorem mQ {i:Nat} {x:Str} (hN:X.N.Nodup) (hi:X.N[i]? = some x) (hx:Loc X.env.scope x) (hf:X.fn x=true∨X.env.scope.names.lookup x=some .local:=by first | exact .inl rfl | exact .inr rfl | assumption):PG X (.Name x pos) (uZ i):=by
 intro pins s σ H v u Q I r h
 exact wpAny_assign_Name (mD I hN hi hx r (fun s' I'=>⟨_,H,I',h⟩) hf)
def Fx:TGs:=fun vs σ H Q=>vs=[]∧Q σ H
def EH (t:TG) (u:TGs):TGs:=fun vs σ H Q=>∃ v r,vs=v::r∧t v σ H fun σ' H'=>u r σ' H' Q
theorem Bp:PGs X [] Fx:=by
 intro pins s σ H vs us Q I r h
 obtain ⟨e,h⟩:=h
 subst e
 cases r
 exact assignInOrder_nil ⟨σ,H,I,h⟩
theorem qV {e:Expr} {es:List Expr} {t:TG} {u:TGs} (h1:PG X e t) (h2:PGs X es u)
  (hs:(assignEach (e::es) X.env).map (·.2)=assign e X.env::(assignEach es X.env).map (·.2):=by rfl):PGs X (e::es) (EH t u):=by
 intro pins s σ H vs us Q I r h
 obtain ⟨v,vr,e1,h⟩:=h
 subst e1
 cases r with
 | cons r rr=>
  rw [hs]
  refine assignInOrder_cons (thn (h1 pins s σ H _ _ _ I r h) fun _ s1 ⟨σ1,H1,I1,q1⟩=>?_)
  exact h2 pins s1 σ1 H1 _ _ Q I1 rr q1
def Fv (K:Frag) (n:Nat) (t:TGs):TG:=fun v σ H Q=>∃ a xs,v=.ref a∧SqT K H a xs∧xs.length=n∧t xs σ H Q
theorem CC {es:List Expr} {k:Nat} {t:TGs} {n:Nat} (hc:X.calm=true) (h:PGs X es t)
  (hn:(assignEach es X.env).length=n:=by rfl) (hst:(assignEach es X.env).findIdx? (·.1)=none:=by rfl):PG X (.Tuple es k pos) (Fv X.K n t):=by
 intro pins s σ H v u Q I r hw
 obtain ⟨a,xs,e1,hq,hl,hw⟩:=hw
 subst e1
 cases r
 obtain ⟨its,rv,ht,hz⟩:=I.tuple hq
 refine assign_Tuple_tuple (I.ok.hd hc) ht (by simp [hn,← hl,rv.length]) hst fun h' hx=>?_
 have I1:Inv X pins σ H { s with heap:=h' }:=I.kept (t':=s.toks) fun b o e=>hx b o (Nat.ne_of_lt (Heap.lt_size e)) e
 exact h pins _ σ H xs _ Q I1 (by simpa using rv) hw
def Fw (to ti:TE) (t:oK):TG:=fun v σ H Q=>to σ H fun o H1=>ti σ H1 fun i H2=>t o i v H2 fun H3=>Q σ H3
theorem CD {o i:Expr} {to ti:TE} {t:oK} (ho:PE X o to) (hi:PE X i ti) (hs:vS X t)
  (ha:∀ v,assign (.Subscript o i pos) X.env v=(do
   let ov ← holding [v] (eval o X.env)
   let iv ← holding [v,ov] (eval i X.env)
   standAt pos
   holding [v,ov,iv] (setItem ov iv v)
   release [v,ov,iv] []):=by intro _; rfl):PG X (.Subscript o i pos) (Fw to ti t):=by
 intro pins s σ H v u Q I r h
 rw [ha]
 refine wpAny_bind (wpAny_holding (thn (ho pins s σ H _ I h) fun ov s1 ⟨x,H1,I1,r1,q1⟩=>?_))
 refine wpAny_bind (wpAny_holding (thn (hi pins s1 σ H1 _ I1 q1) fun iv s2 ⟨y,H2,I2,r2,q2⟩=>?_))
 refine wpAny_bind (wpAny_standAt (wpAny_bind (wpAny_holding (thn (hs pins s2 σ H2 x y v ov iv u _ I2 r1 r2 r q2) fun _ s3 ⟨H3,I3,q3⟩=>?_))))
 exact wpAny_release ⟨σ,H3,I3,q3⟩
def vq (te:TE) (g:TG):TS:=fun D σ H=>te σ H fun x H1=>g x σ H1 D.nx
theorem CA {tg e:Expr} {te:TE} {g:TG} (he:PE X e te) (hg:PG X tg g) (hs:swapsWithSole [tg] e pos.line X.env=pure false:=by rfl) (hw:swappedStores [tg] e X.env=pure none:=by rfl)
  (h1:(assignEach [tg] X.env).map (·.2)=[assign tg X.env]:=by rfl):PS X (.Assign [tg] e pos) (vq te g):=by
 intro pins s σ H D I h
 refine wpAny_Assign_stores (thn (he pins s σ H _ I h) fun v s1 ⟨x,H1,I1,r1,q1⟩=>?_) hs hw
 rw [h1]
 exact thn (hg pins s1 σ H1 x v _ I1 r1 q1) fun _ s2 q=>q
theorem fY {i:Nat} {x:Str} {e:Expr} {te:TE} {pos':Pos} (hN:X.N.Nodup) (hi:X.N[i]? = some x) (hx:Loc X.env.scope x) (he:PE X e te) (hs:swapsWith e (some (.Name x pos')) pos.line X.env=pure false:=by rfl) (hf:X.fn x=true∨X.env.scope.names.lookup x=some .local:=by first | exact .inl rfl | exact .inr rfl | assumption) :
  PS X (.Assign [.Name x pos'] e pos) (vq te (uZ i)):=by
 intro pins s σ H D I h
 refine wpAny_Assign_Name (thn (he pins s σ H _ I h) fun v s1 ⟨y,H1,I1,r1,q1⟩=>?_) hs
 exact mD I1 hN hi hx r1 (fun s2 I2=>⟨_,H1,I2,q1⟩) hf
def Cj (c:TT) (tb:TS):TS:=fun D σ H=>∃ W:Nat→St→Hp→Prop,(∃ m,W m σ H)∧∀ m σ H,W m σ H →
 c σ H fun b H1=>if b=true then ∃ N:St→Hp→Prop,(∀ σ' H',N σ' H'→∃ m',m' < m∧W m' σ' H')∧tb { D with nx:=N,ct:=N,bk:=D.nx } σ H1 else D.nx σ H1
theorem z4 {c:Expr} {body:List Stmt} {tc:TT} {tb:TS} (hp:PassesOwn (model X.prog X.w) X.A X.env X.xe) (hc:PT X c tc) (hb:PSs X body tb):PS X (.While c body [] pos) (Cj tc tb):=by
 intro pins s σ H D I h
 obtain ⟨W,⟨m0,w0⟩,turn⟩:=h
 refine wpAny_While (codeAny_whileLoop (fun n s'=>∃ σ' H',Inv X pins σ' H' s'∧W n σ' H') ?_ m0 ⟨σ,H,I,w0⟩)
 rintro n s1 ⟨σ1,H1,I1,w1⟩
 refine wpAny_passesOwn hp (thn (hc pins s1 σ1 H1 _ I1 (turn n σ1 H1 w1)) fun b s2 ⟨H2,I2,q2⟩=>?_)
 cases b with
 | true=>
  obtain ⟨N,hN,q2⟩:=q2
  rw [if_pos rfl]
  refine wpAny_passesOwn hp (thn (hb pins s2 σ1 H2 _ I2 q2) fun f s3 q3=>?_)
  cases f with
  | next=>
   obtain ⟨σ3,H3,I3,n3⟩:=q3
   obtain ⟨m',hm,w3⟩:=hN σ3 H3 n3
   exact ⟨m',hm,σ3,H3,I3,w3⟩
  | cont=>
   obtain ⟨σ3,H3,I3,n3⟩:=q3
   obtain ⟨m',hm,w3⟩:=hN σ3 H3 n3
   exact ⟨m',hm,σ3,H3,I3,w3⟩
  | brk=>exact q3
  | ret v=>exact q3
 | false=>
  rw [if_neg Bool.false_ne_true]
  exact wpAny_execs_nil ⟨σ1,H2,I2,q2⟩
end
structure It where
 go:Nat→Hp→Prop
 yld:Nat→Hp→V→Hp→Prop
 stop:Nat→Hp→Prop
def c8 (X:Cx) (pins:List (Addr×Obj)) (H:Hp) (b:Addr):Prop:=H b=none∧b≠X.env.locals∧b∉X.fs∧(b∈X.ex∨X.s₀.heap.objs.size≤b)∧(∀ x c,X.env.cells.lookup x=some c→c≠b)∧∀ p∈X.pn++pins,p.1≠b
theorem Inv.fpOk {X:Cx} {pins:List (Addr×Obj)} {σ:St} {H H':Hp} {s:Shared} {b:Addr} (I:Inv X pins σ H s) (hb:s.heap.objs.size≤b) (hn:H' b=none):c8 X pins H' b:=by
 refine ⟨hn,Nat.ne_of_gt (Nat.lt_of_lt_of_le I.lt hb),I.nofs hb,.inr (Nat.le_trans I.sz hb),fun x c e z=>?_,fun p hp z=>?_⟩
 ·obtain ⟨v,q⟩:=I.cell x c e
  exact absurd (Nat.lt_of_lt_of_le q.lt (by rw [z]; exact hb)) (Nat.lt_irrefl _)
 ·exact absurd (Nat.lt_of_lt_of_le (Heap.lt_size (I.pin p hp).1) (by rw [z]; exact hb)) (Nat.lt_irrefl _)
structure Turn (P:Program) (w:World) (K:Frag) (tg:Expr) (J:It) (fp:List Addr) (it:Addr) (tn:Nat→Heap→Prop):Prop where
 mem:it∈fp
 obj:∀ i h,tn i h→∀ b∈fp,∃ o,h.get? b=some o∧∀ v,o.data≠.cell v
 keep:∀ i h h',tn i h→(∀ b∈fp,∀ o,h.get? b=some o→h'.get? b=some o)→tn i h'
 item:∀ (X:Cx),X.prog=P→X.w=w→X.K=K→X.calm=true→∀ (i:Nat) (pins:List (Addr×Obj)) (s:Shared) (σ:St) (H:Hp) (E:Value→Shared→Prop),Inv X pins σ H s→(∀ b∈fp,c8 X pins H b)→tn i s.heap→J.go i H →
  wpAny (model P w) X.A (pyNext (.ref it)) (fun r s1=>∃ u,r=some u ∧
   wpAny (model P w) X.A (letOwnedTupleGo tg (.ref it) u) (fun _ s2=>∃ x H',Inv X pins σ H' s2∧RelV x u∧J.yld i H x H'∧tn (i + 1) s2.heap∧∀ b∈fp,H' b=none) E s1) E s
 done:∀ (X:Cx),X.prog=P→X.w=w→X.K=K→X.calm=true→∀ (i:Nat) (pins:List (Addr×Obj)) (s:Shared) (σ:St) (H:Hp) (E:Value→Shared→Prop),Inv X pins σ H s→(∀ b∈fp,c8 X pins H b)→tn i s.heap→J.stop i H →
  wpAny (model P w) X.A (pyNext (.ref it)) (fun r s1=>r=none∧Inv X pins σ H s1) E s
 self:∀ (A:Around) (i:Nat) (s:Shared) (Q:Value→Shared→Prop) (E:Value→Shared→Prop),tn i s.heap→Q (.ref it) s→wpAny (model P w) A (pyIter (.ref it)) Q E s
abbrev TI:=St→Hp→(It→Hp→Prop)→Prop
def PIE (X:Cx) (pins:List (Addr×Obj)) (σ:St) (tg:Expr) (R:It→Hp→Prop) (itv:Value) (s2:Shared):Prop:=∃ (it:Addr) (fp:List Addr) (tn:Nat→Heap→Prop) (J:It) (H':Hp),itv=.ref it∧Inv X pins σ H' s2∧Turn X.prog X.w X.K tg J fp it tn∧tn 0 s2.heap∧(∀ b∈fp,c8 X pins H' b)∧R J H'
def PI (X:Cx) (tg iter:Expr) (wi:TI):Prop:=
 ∀ (pins:List (Addr×Obj)) (s:Shared) (σ:St) (H:Hp) (R:It→Hp→Prop),Inv X pins σ H s→wi σ H R →
  wpAny (model X.prog X.w) X.A (eval iter X.env) (fun v s1=>wpAny (model X.prog X.w) X.A (pyIter v) (PIE X pins σ tg R) X.xe s1) X.xe s
theorem jJ {M:Model} {A:Around} {E:Value→Shared→Prop} {s:Shared} {tg:Expr} {it:Addr} {u:Value} {o:Obj} {n:String} {vs:Array Value} {Q:Unit→Shared→Prop} (ho:s.heap.get? it=some o) (hc:o.cls=.type n) (hd:o.data=.fields vs)
  (hn:["enumerate","zip","dict_itemiterator","dict_reverseitemiterator","odict_iterator","itertools.zip_longest","itertools.pairwise"].contains n=false) (hQ:Q () s):wpAny M A (letOwnedTupleGo tg (.ref it) u) Q E s:=by
 unfold letOwnedTupleGo
 cases tg <;> first
  | exact wpAny_pure hQ
  | (cases u <;> first
    | exact wpAny_pure hQ
    | (refine wpAny_bind (wpAny_load ho ?_)
       rw [hc,hd]
       show wpAny M A (if (["enumerate","zip","dict_itemiterator","dict_reverseitemiterator","odict_iterator","itertools.zip_longest","itertools.pairwise"].contains n && vs[0]? == some (rawInt _))=true then _ else _) Q E s
       rw [if_neg (by intro h; rw [hn,Bool.false_and] at h; cases h)]
       exact wpAny_pure hQ))
def Itl (K:Frag) (a:Addr):It:=⟨fun i H=>∃ xs x,SqL K H a xs∧xs[i]? = some x,fun i H x H'=>H'=H∧∀ xs,SqL K H a xs→xs[i]? = some x,fun i H=>∃ xs,SqL K H a xs∧xs.length≤i⟩
def Itt (K:Frag) (a:Addr):It:=⟨fun i H=>∃ xs x,SqT K H a xs∧xs[i]? = some x,fun i H x H'=>H'=H∧∀ xs,SqT K H a xs→xs[i]? = some x,fun i H=>∃ xs,SqT K H a xs∧xs.length≤i⟩
def Itr (lo:Int) (n:Nat):It:=⟨fun i _=>i < n,fun i H x H'=>H'=H∧x=.int (lo + i),fun i _=>n≤i⟩
theorem yQ {P:Program} {w:World} {K:Frag} {tg:Expr} (a it:Addr):Turn P w K tg (Itl K a) [it] it (fun i h=>h.IsListIter it a i) where
 mem:=by simp
 obj:=fun i h st b hb=>by
  have e:b=it:=by simpa using hb
  subst e
  obtain ⟨o,e,c,d⟩:=st
  exact ⟨o,e,fun v z=>by rw [d] at z; cases z⟩
 keep:=fun i h h' st k=>st.at fun o e=>k it (by simp) o e
 item:=by
  intro X hP hw hK hc i pins s σ H E I hf st hg
  subst hP hw hK
  obtain ⟨xs,x,hq,hx⟩:=hg
  obtain ⟨its,rv,p,hz⟩:=I.list hq
  obtain ⟨u,hu,ru⟩:=rv.get hx
  obtain ⟨f0,f1,f2,f3,f4,f5⟩:=hf it (by simp)
  refine wpAny_pyNext_list_item st p.isList (x:=u) (by simpa using hu) fun h' st' sb=>?_
  have I1:Inv X pins σ H { s with heap:=h' }:=I.turned (t':=s.toks) (fun b o hb e=>(sb.2 b hb).trans e) f0 f1 f3 f4 f5
  obtain ⟨o,e,c,d⟩:=id st'
  exact ⟨u,rfl,jJ (s:={ s with heap:=h' }) e c d (by decide) ⟨x,H,I1,ru,⟨rfl,fun ys hy=>by rw [I.list_inj hy hq]; exact hx⟩,st',fun b hb=>(hf b hb).1⟩⟩
 done:=by
  intro X hP hw hK hc i pins s σ H E I hf st hg
  subst hP hw hK
  obtain ⟨xs,hq,hx⟩:=hg
  obtain ⟨its,rv,p,hz⟩:=I.list hq
  obtain ⟨f0,f1,f2,f3,f4,f5⟩:=hf it (by simp)
  have hl:=rv.length
  exact wpAny_pyNext_list_end (I.ok.hd hc) st p.isList (by simp; omega) fun h' eb=>⟨rfl,I.turned (t':=s.toks) (fun b o hb e=>eb b o hb e) f0 f1 f3 f4 f5⟩
 self:=fun _ _ _ _ _ st h=>wpAny_pyIter_listiter st h
theorem yk {P:Program} {w:World} {K:Frag} {tg:Expr} (a it:Addr):Turn P w K tg (Itt K a) [it] it (fun i h=>h.IsTupleIter it a i) where
 mem:=by simp
 obj:=fun i h st b hb=>by
  have e:b=it:=by simpa using hb
  subst e
  obtain ⟨o,e,c,d⟩:=st
  exact ⟨o,e,fun v z=>by rw [d] at z; cases z⟩
 keep:=fun i h h' st k=>st.at fun o e=>k it (by simp) o e
 item:=by
  intro X hP hw hK hc i pins s σ H E I hf st hg
  subst hP hw hK
  obtain ⟨xs,x,hq,hx⟩:=hg
  obtain ⟨its,rv,p,hz⟩:=I.tuple hq
  obtain ⟨u,hu,ru⟩:=rv.get hx
  obtain ⟨f0,f1,f2,f3,f4,f5⟩:=hf it (by simp)
  refine wpAny_pyNext_tuple_item st (show s.heap.IsTuple a its.toArray from p) (x:=u) (by simpa using hu) fun h' st' sb=>?_
  have I1:Inv X pins σ H { s with heap:=h' }:=I.turned (t':=s.toks) (fun b o hb e=>(sb.2 b hb).trans e) f0 f1 f3 f4 f5
  obtain ⟨o,e,c,d⟩:=id st'
  exact ⟨u,rfl,jJ (s:={ s with heap:=h' }) e c d (by decide) ⟨x,H,I1,ru,⟨rfl,fun ys hy=>by rw [I.tuple_inj hy hq]; exact hx⟩,st',fun b hb=>(hf b hb).1⟩⟩
 done:=by
  intro X hP hw hK hc i pins s σ H E I hf st hg
  subst hP hw hK
  obtain ⟨xs,hq,hx⟩:=hg
  obtain ⟨its,rv,p,hz⟩:=I.tuple hq
  obtain ⟨f0,f1,f2,f3,f4,f5⟩:=hf it (by simp)
  have hl:=rv.length
  exact wpAny_pyNext_tuple_end (I.ok.hd hc) st (show s.heap.IsTuple a its.toArray from p) (by simp; omega) fun h' eb=>⟨rfl,I.turned (t':=s.toks) (fun b o hb e=>eb b o hb e) f0 f1 f3 f4 f5⟩
 self:=fun _ _ _ _ _ st h=>wpAny_pyIter_tupleiter st h
theorem yl {P:Program} {w:World} {K:Frag} {tg:Expr} (it:Addr) (lo:Int) (n:Nat):Turn P w K tg (Itr lo n) [it] it (fun i h=>IsRangeIter h it (lo + (i:Nat) * 1) ((n:Int) - (i:Nat)) 1) where
 mem:=by simp
 obj:=fun i h st b hb=>by
  have e:b=it:=by simpa using hb
  subst e
  exact ⟨_,st,fun v z=>by
   have z':Data.fields _=Data.cell v:=z
   cases z'⟩
 keep:=fun i h h' st k=>k it (by simp) _ st
 item:=by
  intro X hP hw hK hc i pins s σ H E I hf st hg
  subst hP hw hK
  obtain ⟨f0,f1,f2,f3,f4,f5⟩:=hf it (by simp)
  have W:=Walks.range (prog:=X.prog) (w:=X.w) (I.ok.hd hc) it lo 1 n
  refine W.item i s _ _ hg st fun v h' tk hv st' kk=>?_
  obtain ⟨t,rfl⟩:=hv
  have I1:Inv X pins σ H { s with heap:=h',toks:=tk }:=I.turned (fun b o hb e=>kk b o (by simpa using hb) e) f0 f1 f3 f4 f5
  refine ⟨_,rfl,jJ (s:={ s with heap:=h',toks:=tk }) (n:="range_iterator") st' rfl rfl (by decide) ⟨.int (lo + i),H,I1,⟨t,?_⟩,⟨rfl,rfl⟩,st',fun b hb=>(hf b hb).1⟩⟩
  rw [Int.mul_one]
 done:=by
  intro X hP hw hK hc i pins s σ H E I hf st hg
  subst hP hw hK
  obtain ⟨f0,f1,f2,f3,f4,f5⟩:=hf it (by simp)
  exact wpAny_pyNext_range_end (I.ok.hd hc) st (by have:n≤i:=hg; omega) fun h' eb=>⟨rfl,I.turned (t':=s.toks) (fun b o hb e=>eb b o hb e) f0 f1 f3 f4 f5⟩
 self:=fun _ _ _ _ _ st h=>wpAny_pyIter_rangeiter st h
section
variable {X:Cx} {tg:Expr}
theorem zY {pins:List (Addr×Obj)} {σ:St} {H:Hp} {s:Shared} {R:It→Hp→Prop} {E:Value→Shared→Prop} {lo hi:Int} {t u v:Tok} {tk:Nat} (I:Inv X pins σ H s) (h1 : -(2 ^ 62)≤lo) (h2:lo < 2 ^ 62) (h3 : -(2 ^ 62)≤hi) (h4:hi < 2 ^ 62)
  (q:R (Itr lo (hi - lo).toNat) H):wpAny (model X.prog X.w) X.A (pyIter (.ref s.heap.objs.size)) (PIE X pins σ tg R) E { s with heap:=s.heap.push { cls:=.type "range",data:=.fields #[.int lo t,.int hi u,.int 1 v] },toks:=tk }:=by
 refine wpAny_pyIter_range (IsRange.new ..) (small_one h1 h2 h3 h4) ?_
 have I1:Inv X pins σ H { s with heap:=s.heap.push { cls:=.type "range",data:=.fields #[.int lo t,.int hi u,.int 1 v] },toks:=tk }:=I.kept fun b o e=>Heap.get?_push_of_some _ e
 refine ⟨(s.heap.push { cls:=.type "range",data:=.fields #[.int lo t,.int hi u,.int 1 v] }).objs.size,[(s.heap.push { cls:=.type "range",data:=.fields #[.int lo t,.int hi u,.int 1 v] }).objs.size],_,_,H,rfl,
  I1.kept (t':=tk) fun b o e=>Heap.get?_push_of_some _ e,yl _ lo (hi - lo).toNat,?_,fun b hb=>?_,q⟩
 ·have e1:lo + ((0:Nat):Int) * 1=lo:=by simp
  have e2:(((hi - lo).toNat:Nat):Int) - ((0:Nat):Int)=Builtin.Range.rangeSize lo hi 1:=by rw [rangeSize_one]; split <;> omega
  show IsRangeIter _ _ (lo + ((0:Nat):Int) * 1) ((((hi - lo).toNat:Nat):Int) - ((0:Nat):Int)) 1
  rw [e1,e2]
  exact Heap.get?_push_size _ rfl
 ·have e:b=(s.heap.push { cls:=.type "range",data:=.fields #[.int lo t,.int hi u,.int 1 v] }).objs.size:=by simpa using hb
  subst e
  exact I1.fpOk (Nat.le_refl _) (I1.hok.fresh (Nat.le_refl _))
def EF (ta:TA):TI:=fun σ H R=>ta σ H fun vs H1=>∃ j:Int,vs=[.int j]∧-(2 ^ 62)≤j∧j < 2 ^ 62∧R (Itr 0 j.toNat) H1
theorem y4 {a:Expr} {ta:TA} {p pos:Pos} (hg:Gl X "range") (hm:X.mg "range" = none) (ha:PA X [a] ta) (hs:starEach [a] X.env=[(false,eval a X.env)]:=by rfl):PI X tg (.Call (.Name "range" p) [a] [] pos) (EF ta):=by
 intro pins s σ H R I h
 refine Call_ (jy I hg hm boot_range (PyProof.Rows.callWith_type1 (thn (ha pos pins s σ H _ I h) fun us s1 ⟨vs,H1,I1,r1,q1⟩=>?_) hs rfl))
 obtain ⟨j,e,q1,q2,q⟩:=q1
 subst e
 cases r1 with
 | cons r rr=>
  cases rr
  obtain ⟨t,rfl⟩:=r
  exact call_range_1 (zY I1 (by omega) (by omega) q1 q2 (by simpa using q))
def E9 (wi:TI) (g:TG) (tb:TS):TS:=fun D σ H=>wi σ H fun J H1=>∃ W:Nat→Nat→St→Hp→Prop,(∃ m,W 0 m σ H1)∧∀ i m σ H,W i m σ H →
 (J.stop i H∧D.nx σ H)∨(J.go i H∧∃ N:St→Hp→Prop,(∀ σ' H',N σ' H'→∃ m',m' < m∧W (i + 1) m' σ' H')∧∀ x H',J.yld i H x H'→g x σ H' fun σ2 H2=>tb { D with nx:=N,ct:=N,bk:=D.nx } σ2 H2)
def fZ (fp:List Addr) (h:Heap):List (Addr×Obj):=fp.filterMap fun b=>(h.get? b).map fun o=>(b,o)
theorem j3 {fp:List Addr} {h:Heap} {b:Addr} {o:Obj} (hb:b∈fp) (e:h.get? b=some o):(b,o)∈fZ fp h:=List.mem_filterMap.mpr ⟨b,hb,by rw [e]; rfl⟩
theorem zb {fp:List Addr} {h:Heap} {p:Addr×Obj} (hp:p∈fZ fp h):p.1∈fp∧h.get? p.1=some p.2:=by
 obtain ⟨b,hb,e⟩:=List.mem_filterMap.mp hp
 cases q:h.get? b with
 | none=>rw [q] at e; cases e
 | some o=>
  rw [q] at e
  have e':(b,o)=p:=Option.some.inj e
  subst e'
  exact ⟨hb,q⟩
theorem Inv.pinned {pins:List (Addr×Obj)} {σ:St} {H:Hp} {s:Shared} {fp:List Addr} (I:Inv X pins σ H s) (hf:∀ b∈fp,c8 X pins H b) (ho:∀ b∈fp,∃ o,s.heap.get? b=some o∧∀ v,o.data≠.cell v):Inv X (pins++fZ fp s.heap) σ H s:=
 I.pins_of fun p hp=>(List.mem_append.mp hp).elim (fun z=>I.pin p (List.mem_append_right _ z)) fun z=>by
  obtain ⟨hb,e⟩:=zb z
  obtain ⟨f0,f1,f2,_⟩:=hf p.1 hb
  obtain ⟨o,e',d⟩:=ho p.1 hb
  rw [e] at e'; cases e'
  exact ⟨e,f0,f1,f2,d⟩
theorem Inv.unpinned {pins pl:List (Addr×Obj)} {σ:St} {H:Hp} {s:Shared} (I:Inv X (pins++pl) σ H s):Inv X pins σ H s:=I.pins_of fun p hp=>I.pin p (List.mem_append_right _ (List.mem_append_left _ hp))
theorem tN {iter:Expr} {body:List Stmt} {wi:TI} {g:TG} {tb:TS} {pos:Pos} (hp:PassesOwn (model X.prog X.w) X.A X.env X.xe) (hc:X.calm=true) (hi:PI X tg iter wi) (hg:PG X tg g) (hb:PSs X body tb)
  (hs:∀ x,foldedSetIterable iter X.env x=pure x:=by intro _; rfl):PS X (.For tg iter body [] pos) (E9 wi g tb):=by
 intro pins s σ H D I h
 refine wpAny_For (thn (hi pins s σ H _ I h) fun v s1 h1=>thn h1 fun itv s2 h2=>?_) hs
 obtain ⟨it,fp,tn,J,H2,e,I2,T,st2,f2,W,⟨m0,w0⟩,turn⟩:=h2
 subst e
 have stat:∀ {H':Hp},(∀ b∈fp,H' b=none)→∀ b∈fp,c8 X pins H' b:=fun hn b hb=>⟨hn b hb,(f2 b hb).2⟩
 refine codeAny_forLoop_any (fun n s'=>∃ i σ' H',Inv X pins σ' H' s'∧tn i s'.heap∧(∀ b∈fp,H' b=none)∧W i n σ' H') ?_ m0 ⟨0,σ,H2,I2,st2,fun b hb=>(f2 b hb).1,w0⟩
 rintro n s3 ⟨i,σ3,H3,I3,st3,fr3,w3⟩
 rcases turn i n σ3 H3 w3 with ⟨stop,qn⟩ | ⟨go,N,hN,step⟩
 ·refine wpAny_passesOwn hp (thn (T.done X rfl rfl rfl hc i pins s3 σ3 H3 X.xe I3 (stat fr3) st3 stop) fun r s4 ⟨hr,I4⟩=>?_)
  subst hr
  exact wpAny_execs_nil ⟨σ3,H3,I4,qn⟩
 ·refine wpAny_passesOwn hp (thn (T.item X rfl rfl rfl hc i pins s3 σ3 H3 X.xe I3 (stat fr3) st3 go) fun r s4 ⟨u,hr,h4⟩=>?_)
  subst hr
  refine wpAny_passesOwn hp (thn h4 fun _ s5 ⟨x,H5,I5,r5,y5,st5,fr5⟩=>?_)
  have I5':=I5.pinned (stat fr5) (T.obj _ _ st5)
  refine wpAny_passesOwn hp (thn (hg _ s5 σ3 H5 x u _ I5' r5 (step x H5 y5)) fun _ s6 ⟨σ6,H6,I6,q6⟩=>?_)
  refine wpAny_passesOwn hp (thn (hb _ s6 σ6 H6 _ I6 q6) fun f s7 q7=>?_)
  have again:∀ {σ7:St} {H7:Hp},Inv X (pins++fZ fp s5.heap) σ7 H7 s7→N σ7 H7→∃ m,m < n∧∃ i σ' H',Inv X pins σ' H' s7∧tn i s7.heap∧(∀ b∈fp,H' b=none)∧W i m σ' H':=fun {σ7 H7} I7 n7=>by
   obtain ⟨m',hm,w7⟩:=hN σ7 H7 n7
   refine ⟨m',hm,i + 1,σ7,H7,I7.unpinned,T.keep _ _ _ st5 fun b hb o e=>(I7.pin (b,o) (List.mem_append_right _ (List.mem_append_right _ (j3 hb e)))).1,fun b hb=>?_,w7⟩
   obtain ⟨o,e,d⟩:=T.obj _ _ st5 b hb
   exact (I7.pin (b,o) (List.mem_append_right _ (List.mem_append_right _ (j3 hb e)))).2.1
  cases f with
  | next=>obtain ⟨σ7,H7,I7,n7⟩:=q7; exact again I7 n7
  | cont=>obtain ⟨σ7,H7,I7,n7⟩:=q7; exact again I7 n7
  | brk=>obtain ⟨σ7,H7,I7,q7⟩:=q7; exact ⟨σ7,H7,I7.unpinned,q7⟩
  | ret v=>obtain ⟨x7,σ7,H7,I7,r7,q7⟩:=q7; exact ⟨x7,σ7,H7,I7.unpinned,r7,q7⟩
end
abbrev R2:=V→V→Hp→VK→Prop
def OpR (X:Cx) (f:Value→Value→Sem Value) (r:R2):Prop:=
 ∀ (pins:List (Addr×Obj)) (s:Shared) (σ:St) (H:Hp) (x y:V) (v u:Value) (Q:VK),Inv X pins σ H s→RelV x v→RelV y u→r x y H Q →
  wpAny (model X.prog X.w) X.A (f v u) (EP X pins σ Q) X.xe s
def UnR (X:Cx) (f:Value→Sem Value) (r:V→Hp→VK→Prop):Prop:=
 ∀ (pins:List (Addr×Obj)) (s:Shared) (σ:St) (H:Hp) (x:V) (v:Value) (Q:VK),Inv X pins σ H s→RelV x v→r x H Q →
  wpAny (model X.prog X.w) X.A (f v) (EP X pins σ Q) X.xe s
def CallR (X:Cx) (f:Value) (r:List V→Hp→VK→Prop):Prop:=
 ∀ (pins:List (Addr×Obj)) (s:Shared) (σ:St) (H:Hp) (xs:List V) (us:List Value) (Q:VK),Inv X pins σ H s→Vals xs us→r xs H Q →
  wpAny (model X.prog X.w) X.A (call f us) (EP X pins σ Q) X.xe s
def FH (X:Cx) (r:V→Hp→(Bool→Hp→Prop)→Prop):Prop:=
 ∀ (pins:List (Addr×Obj)) (s:Shared) (σ:St) (H:Hp) (x:V) (v:Value) (Q:Bool→Hp→Prop),Inv X pins σ H s→RelV x v→r x H Q →
  wpAny (model X.prog X.w) X.A (truthy v) (TP X pins σ Q) X.xe s
def tOp (r:R2) (ta tb:TE):TE:=fun σ H Q=>ta σ H fun x H1=>tb σ H1 fun y H2=>r x y H2 Q
def tUn (r:V→Hp→VK→Prop) (ta:TE):TE:=fun σ H Q=>ta σ H fun x H1=>r x H1 Q
def rI (C:Int→Int→Prop) (g:Int→Int→V):R2:=fun x y H Q=>∃ i j,x=.int i∧y=.int j∧C i j∧Q (g i j) H
def rI0 (g:Int→Int→V):R2:=fun x y H Q=>∃ i j,x=.int i∧y=.int j∧Q (g i j) H
def rU (g:Int→V):V→Hp→VK→Prop:=fun x H Q=>∃ i,x=.int i∧Q (g i) H
section
variable {X:Cx} {a b c:Expr} {ta tb tc:TE} {pos:Pos}
theorem oH (ha:PE X a ta) (hb:PE X b tb) {pins:List (Addr×Obj)} {s:Shared} {σ:St} {H:Hp} {R:V→V→Hp→Prop} (I:Inv X pins σ H s)
  (h:ta σ H fun x H1=>tb σ H1 fun y H2=>R x y H2) {Q:Value→Shared→Prop} {f:Value→Value→Sem Value}
  (hf:∀ v u s2 x y H2,Inv X pins σ H2 s2→RelV x v→RelV y u→R x y H2→wpAny (model X.prog X.w) X.A (f v u) Q X.xe s2) :
  wpAny (model X.prog X.w) X.A (eval a X.env) (fun v s₁=>wpAny (model X.prog X.w) X.A (eval b X.env) (fun u s₂=>wpAny (model X.prog X.w) X.A (f v u) Q X.xe s₂) X.xe s₁) X.xe s:=by
 refine thn (ha pins s σ H _ I h) fun v s1 ⟨x,H1,I1,r1,q1⟩=>?_
 refine thn (hb pins s1 σ H1 _ I1 q1) fun u s2 ⟨y,H2,I2,r2,q2⟩=>?_
 exact hf v u s2 x y H2 I2 r1 r2 q2
theorem uI {op:Operator} {r:R2} (ho:OpR X (binaryOp op) r) (ha:PE X a ta) (hb:PE X b tb):PE X (.BinOp a op b pos) (tOp r ta tb):=by
 intro pins s σ H Q I h
 exact wpAny_BinOp (oH ha hb I h fun v u s2 x y H2 I2 rx ry q=>ho pins s2 σ H2 x y v u Q I2 rx ry q)
theorem Ee {op:UnaryOp} {r:V→Hp→VK→Prop} (ho:UnR X (unaryOp op) r) (ha:PE X a ta):PE X (.UnaryOp op a pos) (tUn r ta):=by
 intro pins s σ H Q I h
 exact UnaryOp_ (thn (ha pins s σ H _ I h) fun v s1 ⟨x,H1,I1,r1,q1⟩=>ho pins s1 σ H1 x v Q I1 r1 q1)
theorem opI {f:Value→Value→Sem Value} {C:Int→Int→Prop} {g:Int→Int→Int}
  (rule:∀ (i j:Int) (t u:Tok) (s:Shared) (Q:Value→Shared→Prop) (E:Value→Shared→Prop),C i j→Q (.int (g i j) s.toks) { s with toks:=s.toks + 1 }→wpAny (model X.prog X.w) X.A (f (.int i t) (.int j u)) Q E s) :
  OpR X f (rI C fun i j=>.int (g i j)):=by
 intro pins s σ H x y v u Q I rx ry h
 obtain ⟨i,j,rfl,rfl,hc,q⟩:=h
 obtain ⟨t,rfl⟩:=rx
 obtain ⟨t',rfl⟩:=ry
 exact rule i j t t' s _ _ hc ⟨.int (g i j),H,I.tok _,⟨_,rfl⟩,q⟩
theorem vC {f:Value→Value→Sem Value} {g:Int→Int→Int}
  (rule:∀ (i j:Int) (t u:Tok) (s:Shared) (Q:Value→Shared→Prop) (E:Value→Shared→Prop),Q (.int (g i j) s.toks) { s with toks:=s.toks + 1 }→wpAny (model X.prog X.w) X.A (f (.int i t) (.int j u)) Q E s) :
  OpR X f (rI0 fun i j=>.int (g i j)):=by
 intro pins s σ H x y v u Q I rx ry h
 obtain ⟨i,j,rfl,rfl,q⟩:=h
 obtain ⟨t,rfl⟩:=rx
 obtain ⟨t',rfl⟩:=ry
 exact rule i j t t' s _ _ ⟨.int (g i j),H,I.tok _,⟨_,rfl⟩,q⟩
theorem lT {f:Value→Value→Sem Value} {g:Int→Int→Bool}
  (rule:∀ (i j:Int) (t u:Tok) (s:Shared) (Q:Value→Shared→Prop) (E:Value→Shared→Prop),Q (.bool (g i j)) s→wpAny (model X.prog X.w) X.A (f (.int i t) (.int j u)) Q E s) :
  OpR X f (rI0 fun i j=>.bl (g i j)):=by
 intro pins s σ H x y v u Q I rx ry h
 obtain ⟨i,j,rfl,rfl,q⟩:=h
 obtain ⟨t,rfl⟩:=rx
 obtain ⟨t',rfl⟩:=ry
 exact rule i j t t' s _ _ ⟨.bl (g i j),H,I,rfl,q⟩
def FK (i j:Int):Prop:=0≤j∧j≤1000000∧i.natAbs < 2 ^ 64
def CMul (i j:Int):Prop:=(-(2 ^ 64) < i∧i < 2 ^ 64)∨(-(2 ^ 64) < j∧j < 2 ^ 64)
theorem CMul.ok {i j:Int} (h:CMul i j):IntMulOk i j:=by
 rcases h with ⟨h1,h2⟩ | ⟨h1,h2⟩
 ·exact .of_left (intBits_le_64 h1 h2)
 ·exact .of_right (intBits_le_64 h1 h2)
theorem op_add:OpR X (binaryOp .Add) (rI0 fun i j=>.int (i + j)):=vC fun _ _ _ _ _ _ _ q=>add_int q
theorem CN:OpR X (binaryOp .Sub) (rI0 fun i j=>.int (i - j)):=vC fun _ _ _ _ _ _ _ q=>sub_int q
theorem op_mul:OpR X (binaryOp .Mult) (rI CMul fun i j=>.int (i * j)):=opI fun _ _ _ _ _ _ _ hc q=>mul_int q hc.ok
theorem CQ:OpR X (binaryOp .Mod) (rI (fun _ j=>0 < j) fun i j=>.int (i % j)):=opI fun i j _ _ _ _ _ hc q=>by
 have h1:(0:Int) < j:=hc
 exact mod_int' (by omega) (by rw [Int.fmod_eq_emod_of_nonneg i (by omega)]; exact q)
theorem CO:OpR X (binaryOp .Pow) (rI FK fun i j=>.int (i ^ j.toNat)):=opI fun _ _ _ _ _ _ _ hc q=>pow_int_small hc.1 hc.2.1 hc.2.2 q
theorem unI {f:Value→Sem Value} {g:Int→Int}
  (rule:∀ (i:Int) (t:Tok) (s:Shared) (Q:Value→Shared→Prop) (E:Value→Shared→Prop),Q (.int (g i) s.toks) { s with toks:=s.toks + 1 }→wpAny (model X.prog X.w) X.A (f (.int i t)) Q E s) :
  UnR X f (rU fun i=>.int (g i)):=by
 intro pins s σ H x v Q I rx h
 obtain ⟨i,rfl,q⟩:=h
 obtain ⟨t,rfl⟩:=rx
 exact rule i t s _ _ ⟨.int (g i),H,I.tok _,⟨_,rfl⟩,q⟩
theorem Cf:UnR X (unaryOp .USub) (rU fun i=>.int (-i)):=unI fun _ _ _ _ _ q=>neg_int q
end
def ow:V→V→Bool
 | .non,.non=>true | .non,.int _=>true | .int _,.non=>true | .non,.bl _=>true | .bl _,.non=>true | .non,.str _=>true | .str _,.non=>true
 | .int _,.int _=>true | .bl _,.bl _=>true | .str _,.str _=>true | .byt _,.byt _=>true
 | .int _,.str _=>true | .str _,.int _=>true | .bl _,.str _=>true | .str _,.bl _=>true
 | _,_=>false
def rEq:R2:=fun x y H Q=>ow x y=true∧Q (.bl (decide (x=y))) H
def rNe:R2:=fun x y H Q=>ow x y=true∧Q (.bl (!decide (x=y))) H
theorem sR {i j:Int}:decide (V.int i=V.int j)=(i == j):=by
 rw [Bool.eq_iff_iff]
 simp
theorem ul {i j:Bool}:decide (V.bl i=V.bl j)=(i == j):=by
 rw [Bool.eq_iff_iff]
 simp
theorem sQ {i j:Str}:decide (V.str i=V.str j)=(i == j):=by
 rw [Bool.eq_iff_iff]
 simp
theorem sS {i j:Array UInt8}:decide (V.byt i=V.byt j)=(i.toList == j.toList):=by
 rw [Bool.eq_iff_iff]
 cases i
 cases j
 simp
section
variable {X:Cx} {a b c:Expr} {ta tb tc:TE} {pos:Pos}
theorem a9 {pins:List (Addr×Obj)} {σ:St} {H:Hp} {s:Shared} {Q:VK} {k k':Bool} (I:Inv X pins σ H s) (q:Q (.bl k) H) (e:k=k'):EP X pins σ Q (.bool k') s:=by
 subst e
 exact ⟨.bl k,H,I,rfl,q⟩
theorem En:OpR X (compareOp .Eq) rEq:=by
 intro pins s σ H x y v u Q I rx ry h
 obtain ⟨hs,q⟩:=h
 cases x with
 | non=>
  cases rx
  cases y with
  | non=>cases ry; exact PySem.EqNone.eq_none_none (a9 I q (by simp))
  | bl j=>cases ry; exact PySem.EqNone.eq_none_bool (a9 I q (by simp))
  | int j=>obtain ⟨t',rfl⟩:=ry; exact PySem.EqNone.eq_none_int (a9 I q (by simp))
  | str j=>obtain ⟨t',rfl⟩:=ry; exact PySem.EqNone.eq_none_str (a9 I q (by simp))
  | _=>exact absurd (show false=true from hs) Bool.false_ne_true
 | bl i=>
  cases rx
  cases y with
  | non=>cases ry; exact PySem.EqNone.eq_bool_none (a9 I q (by simp))
  | bl j=>cases ry; exact eq_bool (a9 I q ul)
  | str j=>obtain ⟨t',rfl⟩:=ry; exact PySem.EqMixed.eq_bool_str (a9 I q (by simp))
  | _=>exact absurd (show false=true from hs) Bool.false_ne_true
 | int i=>
  obtain ⟨t,rfl⟩:=rx
  cases y with
  | non=>cases ry; exact PySem.EqNone.eq_int_none (a9 I q (by simp))
  | int j=>obtain ⟨t',rfl⟩:=ry; exact eq_int (a9 I q sR)
  | str j=>obtain ⟨t',rfl⟩:=ry; exact PySem.EqMixed.eq_int_str (a9 I q (by simp))
  | _=>exact absurd (show false=true from hs) Bool.false_ne_true
 | str i=>
  obtain ⟨t,rfl⟩:=rx
  cases y with
  | non=>cases ry; exact PySem.EqNone.eq_str_none (a9 I q (by simp))
  | bl j=>cases ry; exact PySem.EqMixed.eq_str_bool (a9 I q (by simp))
  | int j=>obtain ⟨t',rfl⟩:=ry; exact PySem.EqMixed.eq_str_int (a9 I q (by simp))
  | str j=>obtain ⟨t',rfl⟩:=ry; exact eq_str (a9 I q sQ)
  | _=>exact absurd (show false=true from hs) Bool.false_ne_true
 | byt i=>
  obtain ⟨t,rfl⟩:=rx
  cases y with
  | byt j=>obtain ⟨t',rfl⟩:=ry; exact PySem.W.eq_bytes (a9 I q sS)
  | _=>exact absurd (show false=true from hs) Bool.false_ne_true
 | _=>cases y <;> exact absurd (show false=true from hs) Bool.false_ne_true
theorem Ei:OpR X (compareOp .NotEq) rNe:=by
 intro pins s σ H x y v u Q I rx ry h
 obtain ⟨hs,q⟩:=h
 cases x with
 | non=>
  cases rx
  cases y with
  | non=>cases ry; exact PySem.EqNone.ne_none_none (a9 I q (by simp))
  | bl j=>cases ry; exact PySem.EqNone.ne_none_bool (a9 I q (by simp))
  | int j=>obtain ⟨t',rfl⟩:=ry; exact PySem.EqNone.ne_none_int (a9 I q (by simp))
  | str j=>obtain ⟨t',rfl⟩:=ry; exact PySem.EqNone.ne_none_str (a9 I q (by simp))
  | _=>exact absurd (show false=true from hs) Bool.false_ne_true
 | bl i=>
  cases rx
  cases y with
  | non=>cases ry; exact PySem.EqNone.ne_bool_none (a9 I q (by simp))
  | bl j=>cases ry; exact ne_bool (a9 I q (congrArg not ul))
  | str j=>obtain ⟨t',rfl⟩:=ry; exact PySem.EqMixed.ne_bool_str (a9 I q (by simp))
  | _=>exact absurd (show false=true from hs) Bool.false_ne_true
 | int i=>
  obtain ⟨t,rfl⟩:=rx
  cases y with
  | non=>cases ry; exact PySem.EqNone.ne_int_none (a9 I q (by simp))
  | int j=>obtain ⟨t',rfl⟩:=ry; exact ne_int (a9 I q (congrArg not sR))
  | str j=>obtain ⟨t',rfl⟩:=ry; exact PySem.EqMixed.ne_int_str (a9 I q (by simp))
  | _=>exact absurd (show false=true from hs) Bool.false_ne_true
 | str i=>
  obtain ⟨t,rfl⟩:=rx
  cases y with
  | non=>cases ry; exact PySem.EqNone.ne_str_none (a9 I q (by simp))
  | bl j=>cases ry; exact PySem.EqMixed.ne_str_bool (a9 I q (by simp))
  | int j=>obtain ⟨t',rfl⟩:=ry; exact PySem.EqMixed.ne_str_int (a9 I q (by simp))
  | str j=>obtain ⟨t',rfl⟩:=ry; exact ne_str (a9 I q (congrArg not sQ))
  | _=>exact absurd (show false=true from hs) Bool.false_ne_true
 | byt i=>
  obtain ⟨t,rfl⟩:=rx
  cases y with
  | byt j=>obtain ⟨t',rfl⟩:=ry; exact PySem.W.ne_bytes (a9 I q (congrArg not sS))
  | _=>exact absurd (show false=true from hs) Bool.false_ne_true
 | _=>cases y <;> exact absurd (show false=true from hs) Bool.false_ne_true
theorem Ej:OpR X (compareOp .Lt) (rI0 fun i j=>.bl (decide (i < j))):=lT fun _ _ _ _ _ _ _ q=>lt_int q
theorem Ek:OpR X (compareOp .LtE) (rI0 fun i j=>.bl (decide (i≤j))):=lT fun _ _ _ _ _ _ _ q=>le_int q
theorem El:OpR X (compareOp .Gt) (rI0 fun i j=>.bl (decide (j < i))):=lT fun _ _ _ _ _ _ _ q=>gt_int q
theorem Em:OpR X (compareOp .GtE) (rI0 fun i j=>.bl (decide (j≤i))):=lT fun _ _ _ _ _ _ _ q=>ge_int q
theorem op_in_str:OpR X (compareOp .In) (fun x y H Q=>∃ i j,x=.str i∧y=.str j∧Q (.bl (!(Builtin.Str.occurrences j i 0 j.length 1).isEmpty)) H):=by
 intro pins s σ H x y v u Q I rx ry h
 obtain ⟨i,j,rfl,rfl,q⟩:=h
 obtain ⟨t,rfl⟩:=rx
 obtain ⟨t',rfl⟩:=ry
 exact in_str (a9 I q rfl)
theorem CT:OpR X (compareOp .Is) (fun x y H Q=>y=.non∧Q (.bl (decide (x=.non))) H):=by
 intro pins s σ H x y v u Q I rx ry h
 obtain ⟨rfl,q⟩:=h
 cases ry
 refine is_none_gen (a9 I q ?_)
 cases x <;> first
  | (cases rx; rfl)
  | (obtain ⟨t,rfl⟩:=rx; rfl)
theorem op_notN:OpR X (compareOp .IsNot) (fun x y H Q=>y=.non∧Q (.bl (!decide (x=.non))) H):=by
 intro pins s σ H x y v u Q I rx ry h
 obtain ⟨rfl,q⟩:=h
 cases ry
 refine isnot_none_gen (a9 I q ?_)
 cases x <;> first
  | (cases rx; rfl)
  | (obtain ⟨t,rfl⟩:=rx; rfl)
theorem op_notin_str:OpR X (compareOp .NotIn) (fun x y H Q=>∃ i j,x=.str i∧y=.str j∧Q (.bl (!(!(Builtin.Str.occurrences j i 0 j.length 1).isEmpty))) H):=by
 intro pins s σ H x y v u Q I rx ry h
 obtain ⟨i,j,rfl,rfl,q⟩:=h
 obtain ⟨t,rfl⟩:=rx
 obtain ⟨t',rfl⟩:=ry
 exact notIn_str (a9 I q rfl)
theorem OpR.or {f:Value→Value→Sem Value} {r r':R2} (h:OpR X f r) (h':OpR X f r'):OpR X f (fun x y H Q=>r x y H Q∨r' x y H Q):=by
 intro pins s σ H x y v u Q I rx ry q
 rcases q with q | q
 ·exact h pins s σ H x y v u Q I rx ry q
 ·exact h' pins s σ H x y v u Q I rx ry q
theorem nQ (b:Expr) {op:CmpOp} (h:op≠.In:=by decide) (h2:op≠.NotIn:=by decide):behindInMarks op b=false:=by
 have e1:(op == CmpOp.In)=false:=by cases op <;> first | rfl | exact absurd rfl h
 have e2:(op == CmpOp.NotIn)=false:=by cases op <;> first | rfl | exact absurd rfl h2
 cases b <;> simp [behindInMarks,e1,e2]
theorem sj {op:CmpOp} {r:R2} (ho:OpR X (compareOp op) r) (ha:PE X a ta) (hb:PE X b tb) (hm:behindInMarks op b=false):PE X (.Compare a [op] [b] pos) (tOp r ta tb):=by
 intro pins s σ H Q I h
 exact wpAny_Compare1 (oH ha hb I h fun v u s2 x y H2 I2 rx ry q=>ho pins s2 σ H2 x y v u Q I2 rx ry q) hm
def DR (t:TE):TT:=fun σ H Q=>t σ H fun x H'=>∃ k,x=.bl k∧Q k H'
theorem Bj {op:CmpOp} {r:R2} (ho:OpR X (compareOp op) r) (ha:PE X a ta) (hb:PE X b tb) (hm:behindInMarks op b=false):PT X (.Compare a [op] [b] pos) (DR (tOp r ta tb)):=by
 intro pins s σ H Q I h
 refine wpAny_isTrue_Compare1 (thn (ha pins s σ H _ I h) fun v s1 ⟨x,H1,I1,r1,q1⟩=>thn (hb pins s1 σ H1 _ I1 q1) fun u s2 ⟨y,H2,I2,r2,q2⟩=>
  thn (ho pins s2 σ H2 x y v u _ I2 r1 r2 q2) fun c s3 ⟨z,H3,I3,r3,k,e,q3⟩=>?_) hm
 subst e
 cases r3
 exact wpAny_truthy_bool ⟨H3,I3,q3⟩
def tD (r r':R2) (ta tb tc:TE):TE:=fun σ H Q=>ta σ H fun x H1=>tb σ H1 fun y H2=>r x y H2 fun z H3=>∃ k,z=.bl k ∧
 (if k=true then tc σ H3 fun w' H4=>r' y w' H4 Q else Q (.bl false) H3)
theorem Ac {op op':CmpOp} {r r':R2} (ho:OpR X (compareOp op) r) (ho':OpR X (compareOp op') r') (ha:PE X a ta) (hb:PE X b tb) (hc:PE X c tc)
  (hm:lastMarks [op,op'] [b,c]=false:=by with_unfolding_all rfl):PE X (.Compare a [op,op'] [b,c] pos) (tD r r' ta tb tc):=by
 intro pins s σ H Q I h
 refine Compare_chain (thn (ha pins s σ H _ I h) fun v s1 ⟨x,H1,I1,r1,q1⟩=>chain_link (thn (hb pins s1 σ H1 _ I1 q1) fun u s2 ⟨y,H2,I2,r2,q2⟩=>
  thn (ho pins s2 σ H2 x y v u _ I2 r1 r2 q2) fun d s3 ⟨z,H3,I3,r3,k,e,q3⟩=>?_)) hm
 subst e
 cases r3
 refine wpAny_truthy_bool ?_
 cases k with
 | false=>exact ite_ff ⟨.bl false,H3,I3,rfl,q3⟩
 | true=>exact ite_tt (chain_last (thn (hc pins s3 σ H3 _ I3 q3) fun w' s4 ⟨z',H4,I4,r4,q4⟩=>ho' pins s4 σ H4 y z' u w' Q I4 r2 r4 q4))
def oJ (K:Frag) (x:V) (H:Hp) (k:Bool):Prop:=
 match x with
 | .non=>k=false
 | .bl b=>k=b
 | .int i=>k=(i != 0)
 | .str y=>y.length≤sizeLine∧k=((y.length:Int) != 0)
 | .byt y=>y.size≤sizeLine∧k=((y.size:Int) != 0)
 | .ref p=>(∃ xs,SqL K H p xs∧k = !xs.isEmpty)∨(∃ xs,SqT K H p xs∧k = !xs.isEmpty)∨∃ kvs,H p=some (.dK kvs)∧k = !kvs.isEmpty
 | _=>False
theorem yI {κ:Type} {kvs:List (κ×V)} {vs:List (κ×Value)} (r:KV kvs vs):(!vs.isEmpty) = !kvs.isEmpty:=by cases r <;> rfl
theorem pC {xs:List V} {its:List Value} (r:Vals xs its):(!its.toArray.isEmpty) = !xs.isEmpty:=by cases r <;> simp
theorem gO:(sizeLine:Nat) < 2 ^ 63:=by rw [sizeLine_eq]; decide
theorem Cg:FH X (fun x H Q=>∃ k,oJ X.K x H k∧Q k H):=by
 intro pins s σ H x v Q I rx h
 obtain ⟨k,e,q⟩:=h
 have hl:=gO
 have hs:sizeLine=16777216:=sizeLine_eq
 cases x with
 | non=>
  cases rx
  have e':k=false:=e
  subst e'
  exact truthy_none ⟨H,I,q⟩
 | bl b=>
  cases rx
  have e':k=b:=e
  subst e'
  exact wpAny_truthy_bool ⟨H,I,q⟩
 | int i=>
  obtain ⟨t,rfl⟩:=rx
  have e':k=(i != 0):=e
  subst e'
  exact PySem.P.truthy_int ⟨H,I,q⟩
 | str y=>
  obtain ⟨t,rfl⟩:=rx
  obtain ⟨hy,e'⟩:y.length≤sizeLine∧k=((y.length:Int) != 0):=e
  subst e'
  exact PySem.P.truthy_str (by omega) ⟨H,I.tok _,q⟩
 | byt y=>
  obtain ⟨t,rfl⟩:=rx
  obtain ⟨hy,e'⟩:y.size≤sizeLine∧k=((y.size:Int) != 0):=e
  subst e'
  exact PySem.W.truthy_bytes (by omega) ⟨H,I.tok _,q⟩
 | ref p=>
  cases rx
  have e':(∃ xs,SqL X.K H p xs∧k = !xs.isEmpty)∨(∃ xs,SqT X.K H p xs∧k = !xs.isEmpty)∨∃ kvs,H p=some (.dK kvs)∧k = !kvs.isEmpty:=e
  rcases e' with ⟨xs,hx,e'⟩ | ⟨xs,hx,e'⟩ | ⟨kvs,hx,e'⟩
  ·subst e'
   obtain ⟨its,r,pl,hz⟩:=I.list hx
   have hlen:=r.length
   exact wpAny_truthy_list pl.isList (by simp only [List.size_toArray]; omega) ⟨H,I.tok _,by rw [pC r]; exact q⟩
  ·subst e'
   obtain ⟨its,r,pl,hz⟩:=I.tuple hx
   have hlen:=r.length
   exact truthy_tuple pl (by simp only [List.size_toArray]; omega) ⟨H,I.tok _,by rw [pC r]; exact q⟩
  ·subst e'
   obtain ⟨hz,hS,vs,r,m⟩:kvs.length≤sizeLine∧(p == sysModules)=false∧∃ vs,KV kvs vs∧s.heap.DictOf (bu X.prog X.w) p vs:=I.hok p _ hx
   have hlen:kvs.length=vs.length:=Paired.length r
   exact wpAny_truthy_dict hS m (by omega) ⟨H,I.tok _,by rw [yI r]; exact q⟩
 | _=>exact (show False from e).elim
theorem z0 (ha:PE X a ta) (he:∀ whole,isTrue a X.env whole=(do let v ← whole; standAt a.pos; holding [v] (truthy v))) :
  PT X a (fun σ H Q=>ta σ H fun x H'=>∃ k,oJ X.K x H' k∧Q k H'):=by
 intro pins s σ H Q I h
 exact isTrue_plain (thn (ha pins s σ H _ I h) fun v s1 ⟨x,H1,I1,r1,q1⟩=>Cg pins s1 σ H1 x v Q I1 r1 q1) (he _)
theorem op_add_str:OpR X (binaryOp .Add) (fun x y H Q=>∃ i j,x=.str i∧y=.str j∧i.length + j.length≤sizeLine∧Q (.str (i++j)) H):=by
 intro pins s σ H x y v u Q I rx ry h
 obtain ⟨i,j,rfl,rfl,hz,q⟩:=h
 obtain ⟨t,rfl⟩:=rx
 obtain ⟨t',rfl⟩:=ry
 exact add_str (fun t' tk=>⟨.str (i++j),H,I.tok _,⟨_,rfl⟩,q⟩) hz
theorem vals1 {x:V} {us:List Value} (r:Vals [x] us):∃ u,us=[u]∧RelV x u:=by
 cases r with
 | cons r1 r2=>cases r2; exact ⟨_,rfl,r1⟩
theorem vals2 {x y:V} {us:List Value} (r:Vals [x,y] us):∃ u w',us=[u,w']∧RelV x u∧RelV y w':=by
 cases r with
 | cons r1 r2=>
  cases r2 with
  | cons r3 r4=>cases r4; exact ⟨_,_,rfl,r1,r3⟩
theorem AV:CallR X (.builtin "abs") (fun xs H Q=>∃ i,xs=[.int i]∧Q (.int (if i < 0 then -i else i)) H):=by
 intro pins s σ H xs us Q I r h
 obtain ⟨i,rfl,q⟩:=h
 obtain ⟨u,rfl,t,rfl⟩:=vals1 r
 exact call_abs_int fun u tk=>⟨.int (if i < 0 then -i else i),H,I.tok _,⟨_,rfl⟩,q⟩
theorem call_int1:CallR X (.type "int") (fun xs H Q=>(∃ i,xs=[.int i]∧Q (.int i) H)∨∃ k,xs=[.bl k]∧Q (.int (if k then 1 else 0)) H):=by
 intro pins s σ H xs us Q I r h
 rcases h with ⟨i,rfl,q⟩ | ⟨k,rfl,q⟩
 ·obtain ⟨u,rfl,t,rfl⟩:=vals1 r
  exact call_int_int ⟨.int i,H,I,⟨_,rfl⟩,q⟩
 ·obtain ⟨u,rfl,r1⟩:=vals1 r
  cases r1
  exact call_int_bool ⟨.int (if k then 1 else 0),H,I.tok _,⟨_,rfl⟩,q⟩
theorem call_str_int:CallR X (.type "str") (fun xs H Q=>∃ i,xs=[.int i]∧i.natAbs.log2 < 1920∧Q (.str (toString i)) H):=by
 intro pins s σ H xs us Q I r h
 obtain ⟨i,rfl,hz,q⟩:=h
 obtain ⟨u,rfl,t,rfl⟩:=vals1 r
 exact PySem.P.str_of_int hz ⟨.str _,H,I.tok _,⟨_,rfl⟩,q⟩
end
structure ObjM (h:Heap) (x dx C:Addr) (mA:Str→Option Value):Prop where
 obj:h.get? x=some (PySem.W.instObj C dx)
 ns:h.Ns1 dx mA
 ne:dx≠x
theorem zg {h:Heap} {dx:Addr} {mA:Str→Option Value} (n:h.Ns1 dx mA):∃ od,h.get? dx=some od∧∀ name,PySem.W.lookIn name od=some (mA name):=by
 obtain ⟨o,es,ep,ho,hd,hk,_,hm⟩:=n
 refine ⟨o,ho,fun name=>?_⟩
 have e:=hm name
 unfold nsFind findBy at e
 rw [← Array.find?_toList] at e
 unfold PySem.W.lookIn
 rw [hd]
 dsimp only
 split
 ·rename_i y q
  rw [q] at e
  exact congrArg some e
 ·rename_i q
  rw [q] at e
  have a:es.toList.any (·.refKey)=false:=by
   rw [List.any_eq_false]
   intro y hy
   obtain ⟨z,t,hkey⟩:=hk y (Array.mem_toList_iff.mp hy)
   simp [DictEntry.refKey,hkey]
  have a':¬ es.toList.any (·.refKey)=true:=by rw [a]; exact Bool.false_ne_true
  rw [if_neg a']
  exact congrArg some e
theorem ObjM.look {h:Heap} {x dx C:Addr} {mA:Str→Option Value} (I:ObjM h x dx C mA):∃ od,PySem.W.InstAt h x (PySem.W.instObj C dx) C (some od)∧∀ name,PySem.W.lookIn name od=some (mA name):=
 let ⟨od,ho,hl⟩:=zg I.ns
 ⟨od,⟨I.obj,rfl,rfl,ho⟩,hl⟩
section
variable {prog:Program} {w:World} {A:Around} {E:Value→Shared→Prop} {s:Shared} {K:Frag} {x dx C f:Addr} {mA:Str→Option Value} {name:Str} {v:Value}
theorem get_map {expr:Bool} {Q:Value→Shared→Prop} (X:K.In s.heap) (I:ObjM s.heap x dx C mA) (hg:PySem.W.plainGet K C name=true) (hh:PySem.W.hasDictIn K C=true)
  (ha:PySem.W.findIn K (.ref C) name=some none) (hv:mA name=some v) (hv':PySem.W.handedIn v=true) (h:Q v { s with toks:=s.toks + 1 }) :
  wpAny (model prog w) A (getAttr (.ref x) name expr) Q E s:=by
 obtain ⟨od,J,hl⟩:=I.look
 exact PySem.W.get_value X J (PySem.W.plainGet_of hg).1 (PySem.W.findObj_own hh ha rfl (by rw [hl,hv])) hv' h
theorem Av {pl:Sem Bool} {Q:Value×List Value→Shared→Prop} (X:K.In s.heap) (I:ObjM s.heap x dx C mA) (hg:PySem.W.plainGet K C name=true)
  (hf:PySem.W.findIn K (.ref C) name=some (some (.ref f))) (ht:PySem.W.isFn K (.ref f)=true) (hv:mA name=none) (h:Q (.ref f,[.ref x]) s) :
  wpAny (model prog w) A (getMethod (.ref x) name pl) Q E s:=by
 obtain ⟨od,J,hl⟩:=I.look
 exact PySem.W.method_fn X J (PySem.W.plainGet_of hg).1 (PySem.W.plainGet_of hg).2 hf (beq_iff_eq.mp ht) (by show (PySem.W.lookIn name od).map (·.isSome)=some false; rw [hl,hv]; rfl) h
theorem A8 {ns:List Str} {Q:Unit→Shared→Prop} (X:K.In s.heap) (I:ObjM s.heap x dx C mA)
  (hs:PySem.W.findIn K (.ref C) "__setattr__" = some (some (.builtin "object.__setattr__"))) (hp:PySem.W.plainOver K C=true) (ht:PySem.W.takerIn K C name=some none) (hh:PySem.W.hasDictIn K C=true)
  (hw:PySem.Within mA ns) (hsz:ns.length≤sizeLine)
  (h:∀ h',ObjM h' x dx C (fun y=>if y=name then some v else mA y)→Heap.SameBut dx s.heap h'→Q () { s with heap:=h',toks:=s.toks + 2 }) :
  wpAny (model prog w) A (setAttr (.ref x) name v) Q E s:=by
 obtain ⟨od,J,hl⟩:=I.look
 refine PySem.W.set_plain X J hs (PySem.W.osa_open (s:={ s with toks:=s.toks + 1 }) (r:=none) X J hp ht fun b=>?_)
 obtain ⟨cd,hc,hd'⟩:=PySem.W.any_some hh
 have hx:s.heap.get? x=some ⟨.ref C,some dx,.plain,#[]⟩:=I.obj
 refine wpAny_bind (wpAny_pure (wpAny_bind (wpAny_bind (wpAny_loadPart hx (wpAny_bind (PySem.W.Looks.here (s:={ s with toks:=s.toks + 1 }) (PySem.W.looks_clsIn X hc) ?_))))))
 rw [hd']
 refine wpAny_pure (a:=some dx) (wpAny_bind (wpAny_pure (wpAny_bind ?_)))
 refine wpAny_nsSet1 (s:={ s with toks:=s.toks + 1 }) I.ns fun h' hn2 hs2=>?_
 obtain ⟨oD,esD,epD,hoD,hdD,hcD⟩:=hn2.count (PySem.Within.cons name v hw)
 refine wpAny_bind (wpAny_lookBehind hoD (by rw [hdD]; exact pastItsLine_dict (Nat.le_trans hcD (by rw [List.length_cons]; omega))) ?_)
 exact wpAny_pure (h _ ⟨(hs2.2 _ (Ne.symm I.ne)).trans I.obj,hn2,I.ne⟩ hs2)
theorem Ao {R:Result→Shared→Prop} {vs:List Value} {kw:List (Str×Value)} (X:K.In s.heap) (hm:PySem.W.makesIn K C=true)
  (hi:PySem.W.findIn K (.ref C) "__init__" = some (some (.ref f))) (hf:PySem.W.typeIn K (.ref f)=some (.type "function"))
  (h:codeAny (model prog w) (A.under (.builtin "type.__call__" ⟨.ref C::vs,kw⟩)) (.call (.ref f) ⟨.ref (s.heap.objs.size + 1)::vs,kw⟩) (PySem.W.InitBack (s.heap.objs.size + 1) R)
   { s with heap:=(s.heap.push PySem.W.emptyDict).push (PySem.W.instObj C s.heap.objs.size) }) :
  codeAny (model prog w) A (.call (.ref C) ⟨vs,kw⟩) R s:=by
 obtain ⟨hh,g,d,t,os⟩:=s
 exact PySem.W.make_core (PySem.W.makes_of X hm) (PySem.W.looks_findIn X hi) (fun self=>PySem.W.bind_fn X self hf) (.inl rfl) h
end
def cc (f:Str) (v:V):List (Str×V)→List (Str×V)
 | []=>[(f,v)]
 | (g,x)::r=>if g=f then (g,v)::r else (g,x)::cc f v r
theorem oR (f g:Str) (v:V):∀ fs:List (Str×V),(cc f v fs).lookup g=if g=f then some v else fs.lookup g
 | []=>by
  show List.lookup g [(f,v)]=_
  by_cases h:g=f
  ·have hb:(g == f)=true:=beq_iff_eq.mpr h
   simp only [List.lookup,hb,if_pos h]
  ·have hb:(g == f)=false:=beq_eq_false_iff_ne.mpr h
   simp only [List.lookup,hb,if_neg h]
 | (k,x)::r=>by
  have ih:=oR f g v r
  rw [show cc f v ((k,x)::r)=(if k=f then (k,v)::r else (k,x)::cc f v r) from rfl]
  by_cases hk:k=f
  ·rw [if_pos hk]
   by_cases h:g=k
   ·have hb:(g == k)=true:=beq_iff_eq.mpr h
    simp only [List.lookup,hb,if_pos (h.trans hk)]
   ·have hb:(g == k)=false:=beq_eq_false_iff_ne.mpr h
    simp only [List.lookup,hb,if_neg (fun e:g=f=>h (e.trans hk.symm))]
  ·rw [if_neg hk]
   by_cases h:g=k
   ·have hb:(g == k)=true:=beq_iff_eq.mpr h
    simp only [List.lookup,hb,if_neg (fun e:g=f=>hk (h.symm.trans e))]
   ·have hb:(g == k)=false:=beq_eq_false_iff_ne.mpr h
    simp only [List.lookup,hb]
    exact ih
theorem ml (f:Str) (v:V):∀ fs:List (Str×V),f∈(cc f v fs).map (·.1)∧∀ g,g∈fs.map (·.1)→g∈(cc f v fs).map (·.1)
 | []=>⟨by simp [cc],fun g h=>by simp at h⟩
 | (k,x)::r=>by
  obtain ⟨i1,i2⟩:=ml f v r
  rw [show cc f v ((k,x)::r)=(if k=f then (k,v)::r else (k,x)::cc f v r) from rfl]
  by_cases hk:k=f
  ·rw [if_pos hk]
   subst hk
   exact ⟨by simp,fun g h=>by simpa using h⟩
  ·rw [if_neg hk]
   refine ⟨?_,fun g h=>?_⟩
   ·rw [List.map_cons]
    exact List.mem_cons_of_mem _ i1
   ·rw [List.map_cons] at h ⊢
    rcases List.mem_cons.mp h with e | e
    ·exact List.mem_cons.mpr (.inl e)
    ·exact List.mem_cons_of_mem _ (i2 g e)
theorem oU (f:Str) (v:V):∀ fs:List (Str×V),(cc f v fs).length≤fs.length + 1
 | []=>by simp [cc]
 | (k,x)::r=>by
  have ih:=oU f v r
  rw [show cc f v ((k,x)::r)=(if k=f then (k,v)::r else (k,x)::cc f v r) from rfl]
  by_cases hk:k=f
  ·rw [if_pos hk,List.length_cons,List.length_cons]; omega
  ·rw [if_neg hk,List.length_cons,List.length_cons]; omega
theorem RelO.some_of {v:V} {o:Option Value} (r:RelO (some v) o):∃ u,o=some u∧RelV v u:=by
 cases o with
 | none=>exact (show False from r).elim
 | some u=>exact ⟨u,rfl,r⟩
theorem RelO.none_of {o:Option Value} (r:RelO none o):o=none:=by
 cases o with
 | none=>rfl
 | some u=>exact (show False from r).elim
theorem zw {v:V} {u:Value} (r:RelV v u):PySem.W.handedIn u=true:=by
 cases v with
 | non=>cases (show u=Value.none from r); rfl
 | bl b=>cases (show u=Value.bool b from r); rfl
 | int i=>obtain ⟨t,e⟩:=(show ∃ t,u=Value.int i t from r); cases e; rfl
 | str x=>obtain ⟨t,e⟩:=(show ∃ t,u=Value.str x t from r); cases e; rfl
 | byt b=>obtain ⟨t,e⟩:=(show ∃ t,u=Value.bytes b t from r); cases e; rfl
 | flt b=>obtain ⟨t,e⟩:=(show ∃ t,u=Value.float b t from r); cases e; rfl
 | ref a=>cases (show u=Value.ref a from r); rfl
 | ty n=>cases (show u=Value.type n from r); rfl
section
variable {P:Program} {w:World} {H H':Hp} {h h':Heap} {a C dx:Addr} {fs fs':List (Str×V)}
theorem kB (hok:HOk P w H h) (e:H a=some (.ins C dx fs)):∃ mA,ObjM h a dx C mA∧(∀ f,RelO (fs.lookup f) (mA f))∧PySem.Within mA (fs.map (·.1))∧fs.length≤1000∧H dx=some (.own a):=by
 obtain ⟨d,z,ne,ob,mA,n,r,q⟩:=(show ObjOk P w H h a (.ins C dx fs) from hok a _ e)
 exact ⟨mA,⟨ob,n,ne⟩,r,q,z,d⟩
end
structure Cls (K:Frag) (C:Addr):Prop where
 pg:PySem.W.plainGet K C Str.empty=true
 hd:PySem.W.hasDictIn K C=true
 po:PySem.W.plainOver K C=true
 sa:PySem.W.findIn K (.ref C) "__setattr__" = some (some (.builtin "object.__setattr__"))
theorem Cls.get {K:Frag} {C:Addr} (c:Cls K C) (f:Str):PySem.W.plainGet K C f=true:=c.pg
def NoAttr (K:Frag) (C:Addr) (f:Str):Prop:=PySem.W.findIn K (.ref C) f=some none
theorem NoAttr.taker {K:Frag} {C:Addr} {f:Str} (n:NoAttr K C f):PySem.W.takerIn K C f=some none:=by
 unfold PySem.W.takerIn
 rw [show PySem.W.findIn K (.ref C) f=some none from n]
 rfl
structure Con (K:Frag) (C:Addr) (f:Str) (v:V) (u:Value):Prop where
 at_:PySem.W.findIn K (.ref C) f=some (some u)
 rel:RelV v u
 get:PySem.W.specialIn K u "__get__" = some none
 cp:PySem.W.copiedNames.contains f=false
structure Meth (K:Frag) (C:Addr) (m:Str) (f:Addr):Prop where
 at_:PySem.W.findIn K (.ref C) m=some (some (.ref f))
 fn:PySem.W.isFn K (.ref f)=true
 kp:PySem.W.keepIn K (.ref f)=true
section
variable {X:Cx} {pins:List (Addr×Obj)} {σ:St} {H:Hp} {s:Shared} {a C dx:Addr} {fs:List (Str×V)} {f:Str} {v:V} {A:Around} {E:Value→Shared→Prop}
theorem yJ {b:Bool} {Q:Value→Shared→Prop} (I:Inv X pins σ H s) (e:H a=some (.ins C dx fs)) (c:Cls X.K C) (n:NoAttr X.K C f) (l:fs.lookup f=some v)
  (h:∀ u s',Inv X pins σ H s'→RelV v u→Q u s'):wpAny (model X.prog X.w) A (getAttr (.ref a) f b) Q E s:=by
 obtain ⟨mA,O,r,_,_,_⟩:=kB I.hok e
 obtain ⟨u,hu,ru⟩:=RelO.some_of (v:=v) (o:=mA f) (by rw [← l]; exact r f)
 exact get_map I.kIn O (c.get f) c.hd n hu (zw ru) (h u _ (I.tok _) ru)
theorem pF {m:Str} {g:Addr} {pl:Sem Bool} {Q:Value×List Value→Shared→Prop} (I:Inv X pins σ H s) (e:H a=some (.ins C dx fs)) (c:Cls X.K C) (k:Meth X.K C m g) (l:fs.lookup m=none)
  (h:Q (.ref g,[.ref a]) s):wpAny (model X.prog X.w) A (getMethod (.ref a) m pl) Q E s:=by
 obtain ⟨mA,O,r,_,_,_⟩:=kB I.hok e
 have hn:mA m=none:=RelO.none_of (by rw [← l]; exact r m)
 exact Av I.kIn O (c.get m) k.at_ k.fn hn h
theorem yq {y:V} {u:Value} {Q:Unit→Shared→Prop} (I:Inv X pins σ H s) (e:H a=some (.ins C dx fs)) (c:Cls X.K C) (n:NoAttr X.K C f) (hl:fs.length < 1000) (ry:RelV y u)
  (h:∀ s',Inv X pins σ (upd H a (.ins C dx (cc f y fs))) s'→Q () s'):wpAny (model X.prog X.w) A (setAttr (.ref a) f u) Q E s:=by
 obtain ⟨mA,O,r,wi,_,ho⟩:=kB I.hok e
 have hz:(fs.map (·.1)).length≤sizeLine:=by rw [List.length_map,sizeLine_eq]; omega
 refine A8 I.kIn O c.sa c.po n.taker c.hd wi hz fun h' O' sb=>h _ ?_
 have hd:∃ o,h'.get? dx=some o:=let ⟨o,_,_,e',_⟩:=O'.ns; ⟨o,e'⟩
 refine I.write (x:=a) (e:=dx) (by rw [e]; exact True.intro) (.inr ho) (fun b q hb z=>(sb.2 b hb).trans z) hd ?_
 refine ⟨by rw [aK O.ne]; exact ho,?_,O.ne,O'.obj,_,O'.ns,fun g=>?_,fun g hg=>?_⟩
 ·have:=oU f y fs; omega
 ·show RelO ((cc f y fs).lookup g) (if g=f then some u else mA g)
  rw [oR]
  by_cases q:g=f
  ·rw [if_pos q,if_pos q]; exact ry
  ·rw [if_neg q,if_neg q]; exact r g
 ·by_cases q:g=f
  ·rw [q]; exact (ml f y fs).1
  ·refine (ml f y fs).2 g (wi g fun z=>hg ?_)
   show (if g=f then some u else mA g)=none
   rw [if_neg q]; exact z
theorem Inv.made (I:Inv X pins σ H s):Inv X pins σ (upd (upd H s.heap.objs.size (.own (s.heap.objs.size + 1))) (s.heap.objs.size + 1) (.ins C s.heap.objs.size []))
  { s with heap:=(s.heap.push PySem.W.emptyDict).push (PySem.W.instObj C s.heap.objs.size) }:=by
 have e1:(s.heap.push PySem.W.emptyDict).get? s.heap.objs.size=some PySem.W.emptyDict:=Heap.get?_push_size s.heap rfl
 have e2:((s.heap.push PySem.W.emptyDict).push (PySem.W.instObj C s.heap.objs.size)).get? (s.heap.objs.size + 1)=some (PySem.W.instObj C s.heap.objs.size):=by
  have:=Heap.get?_push_size (s.heap.push PySem.W.emptyDict) (o:=PySem.W.instObj C s.heap.objs.size) rfl
  rwa [Heap.size_push] at this
 have e3:(s.heap.push PySem.W.emptyDict).Ns s.heap.objs.size (fun _=>none):=⟨PySem.W.emptyDict,#[],_,e1,rfl,(fun e he=>absurd he (by simp)),fun _=>rfl⟩
 have I1:=I.laid (a:=s.heap.objs.size) (o:=.own (s.heap.objs.size + 1)) (h':=s.heap.push PySem.W.emptyDict) (t':=s.toks) (fun b u q=>Heap.get?_push_of_some _ q) (Nat.le_refl _) ⟨_,e1⟩
 refine I1.laid (a:=s.heap.objs.size + 1) (o:=.ins C s.heap.objs.size []) (t':=s.toks) (fun b u q=>Heap.get?_push_of_some _ q) (Nat.le_of_eq (Heap.size_push _ _)) ?_
 have ne:s.heap.objs.size≠s.heap.objs.size + 1:=Nat.ne_of_lt (Nat.lt_succ_self _)
 refine ⟨by rw [aK ne,aZ],Nat.zero_le _,ne,e2,fun _=>none,(Heap.Ns1.of_empty e3).at fun o q=>Heap.get?_push_of_some _ q,fun _=>True.intro,fun y hy=>absurd rfl hy⟩
theorem BY {prog:Program} {w:World} {env:Env} {e:Expr} {f:Str} {pos:Pos} {s:Shared} {Q:Value→Shared→Prop} (hb:attributeBase e f env (eval e env)=eval e env)
  (h:wpAny (model prog w) A (eval e env) (fun o s₁=>wpAny (model prog w) A (getAttr o f true) Q E s₁) E s):wpAny (model prog w) A (eval (.Attribute e f pos) env) Q E s:=Attribute_any_ h (by rw [arm_eval_Attribute,hb])
end
def Fb (K:Frag) (ta:TE) (f:Str):TE:=fun σ H Q=>ta σ H fun x H1=>∃ a C dx fs v,x=.ref a∧H1 a=some (.ins C dx fs)∧Cls K C∧NoAttr K C f∧fs.lookup f=some v∧Q v H1
def Ff (K:Frag) (ta tv:TE) (f:Str):TS:=fun D σ H=>tv σ H fun y H1=>ta σ H1 fun x H2=>∃ a C dx fs,x=.ref a∧H2 a=some (.ins C dx fs)∧Cls K C∧NoAttr K C f∧fs.length < 1000 ∧
 D.nx σ (upd H2 a (.ins C dx (cc f y fs)))
section
variable {X:Cx} {o e value:Expr} {f:Str} {pos pos' tpos:Pos} {ta tv:TE}
theorem CL (he:PE X e ta) (hb:attributeBase e f X.env (eval e X.env)=eval e X.env):PE X (.Attribute e f pos) (Fb X.K ta f):=by
 intro pins s σ H Q I h
 refine BY hb (thn (he pins s σ H _ I h) fun u s1 ⟨x,H1,I1,rx,a,C,dx,fs,v,ex,ea,c,n,l,q⟩=>?_)
 subst ex
 obtain rfl:u=Value.ref a:=rx
 exact yJ I1 ea c n l fun u' s2 I2 ru=>⟨v,H1,I2,ru,q⟩
theorem Cz (ha:PE X o ta) (hv:PE X value tv) (hs:swapsWith value (some (.Attribute o f pos')) pos.line X.env=pure false):PS X (.Assign [.Attribute o f pos'] value pos) (Ff X.K ta tv f):=by
 intro pins s σ H D I h
 refine plainObj_wpAny_Assign_Attribute (thn (hv pins s σ H _ I h) fun u s1 ⟨y,H1,I1,ry,q⟩=>thn (ha pins s1 σ H1 _ I1 q) fun ov s2 ⟨x,H2,I2,rx,a,C,dx,fs,ex,ea,c,n,l,q2⟩=>?_) hs
 subst ex
 obtain rfl:ov=Value.ref a:=rx
 exact yq I2 ea c n l ry fun s3 I3=>⟨σ,_,I3,q2⟩
end
section
variable {X:Cx} {pins:List (Addr×Obj)} {σ:St} {H:Hp} {s:Shared} {A:Around} {E:Value→Shared→Prop} {Q:Value→Shared→Prop} {c:Value} {b:Bool}
inductive TyOf (K:Frag) (H:Hp):V→Value→Prop where
 | non:TyOf K H .non (.type "NoneType")
 | bl (x:Bool):TyOf K H (.bl x) (.type "bool")
 | int (i:Int):TyOf K H (.int i) (.type "int")
 | str (x:Str):TyOf K H (.str x) (.type "str")
 | flt (x:UInt64):TyOf K H (.flt x) (.type "float")
 | lst {a:Addr} {xs:List V} (e:H a=some (.lst xs)):TyOf K H (.ref a) (.type "list")
 | frz {a:Addr} {o:Obj} {xs:List V} (e:H a=some (.frz o (.lst xs))):TyOf K H (.ref a) (.type "list")
 | tup {a:Addr} {xs:List V} (e:H a=some (.tup xs)):TyOf K H (.ref a) (.type "tuple")
 | dK {a:Addr} {kvs:List (Key×V)} (e:H a=some (.dK kvs)):TyOf K H (.ref a) (.type "dict")
 | dT {a:Addr} {kvs:List (List Key×V)} (e:H a=some (.dT kvs)):TyOf K H (.ref a) (.type "dict")
 | ins {a C dx:Addr} {fs:List (Str×V)} (e:H a=some (.ins C dx fs)) (cl:Cls K C) (ha:PySem.W.findIn K (.ref C) "__class__" = some (some (.builtin "object.__class__")))
   (hn:PySem.W.specialIn K (.builtin "object.__class__") "__get__" = some (some (.builtin "getset_descriptor.__get__"))) (htk:PySem.W.takesIn K (.builtin "object.__class__")=some true)
   (hm:PySem.W.mroIn K C (.type "object")=some true):TyOf K H (.ref a) (.ref C)
theorem j7 {x:V} {u t:Value} (I:Inv X pins σ H s) (rx:RelV x u) (ty:TyOf X.K H x t) (e:PySem.W.kitOne X.K t c=some b) (h:∀ tk,Q (.bool b) { s with toks:=tk }) :
  wpAny (model X.prog X.w) A (call (.builtin "isinstance") [u,c]) Q E s:=by
 cases ty with
 | non=>cases (show u=Value.none from rx); exact PySem.W.kia_one PySem.W.kitx_none I.kIn True.intro e (fun z=>nomatch z) h
 | bl y=>cases (show u=Value.bool y from rx); exact PySem.W.kia_one PySem.W.kitx_bool I.kIn True.intro e (fun z=>nomatch z) h
 | int i=>obtain ⟨t,q⟩:=(show ∃ t,u=Value.int i t from rx); cases q; exact PySem.W.kia_one PySem.W.kitx_int I.kIn True.intro e (fun z=>nomatch z) h
 | str y=>obtain ⟨t,q⟩:=(show ∃ t,u=Value.str y t from rx); cases q; exact PySem.W.kia_one PySem.W.kitx_str I.kIn True.intro e (fun z=>nomatch z) h
 | flt y=>obtain ⟨t,q⟩:=(show ∃ t,u=Value.float y t from rx); cases q; exact PySem.W.kia_one PySem.W.kitx_float I.kIn True.intro e (fun z=>nomatch z) h
 | @lst a xs ea=>
  cases (show u=Value.ref a from rx)
  obtain ⟨_,_,n,_,h1⟩:=(show ObjOk X.prog X.w H s.heap a (.lst xs) from I.hok a _ ea)
  exact PySem.W.kia_one PySem.W.kitx_list I.kIn ⟨_,h1,rfl⟩ e (fun z=>nomatch z) h
 | @frz a ob xs ea=>
  cases (show u=Value.ref a from rx)
  obtain ⟨_,_,_,n,_,h1⟩:=(show ObjOk X.prog X.w H s.heap a (.frz ob (.lst xs)) from I.hok a _ ea)
  exact PySem.W.kia_one PySem.W.kitx_list I.kIn ⟨_,h1,rfl⟩ e (fun z=>nomatch z) h
 | @tup a xs ea=>
  cases (show u=Value.ref a from rx)
  obtain ⟨_,_,_,p⟩:=(show ObjOk X.prog X.w H s.heap a (.tup xs) from I.hok a _ ea)
  obtain ⟨o,h1,h2,_⟩:=p
  exact PySem.W.kia_one PySem.W.kitx_tuple I.kIn ⟨o,h1,h2⟩ e (fun z=>nomatch z) h
 | @dK a kvs ea=>
  cases (show u=Value.ref a from rx)
  obtain ⟨_,_,vs,_,p⟩:=(show ObjOk X.prog X.w H s.heap a (.dK kvs) from I.hok a _ ea)
  obtain ⟨o,es,ep,h1,h2,_⟩:=p
  exact PySem.W.kia_one PySem.W.kitx_dict I.kIn ⟨o,h1,h2.1⟩ e (fun z=>nomatch z) h
 | @dT a kvs ea=>
  cases (show u=Value.ref a from rx)
  obtain ⟨_,_,xs,_,o,es,ep,h1,h2,_⟩:=(show ObjOk X.prog X.w H s.heap a (.dT kvs) from I.hok a _ ea)
  exact PySem.W.kia_one PySem.W.kitx_dict I.kIn ⟨o,h1,h2.1⟩ e (fun z=>nomatch z) h
 | @ins a C dx fs ea cl ha hn htk hm=>
  cases (show u=Value.ref a from rx)
  obtain ⟨mA,O,_⟩:=kB I.hok ea
  obtain ⟨od,J,_⟩:=O.look
  exact PySem.W.kia_one (PySem.W.kitx_own (cl.get _) cl.hd ha hn htk hm) I.kIn J e (fun z=>nomatch z) h
end
structure Room (k:Nat) (A:Around):Prop where
 hd:A.handled=none
 dp:A.depth + 3 * k + 5 < recursionLimit
 un:A.units + 16 * k + 200 < cLine
 gd:A.guards=some []
theorem Room.mono {j k:Nat} {A:Around} (r:Room k A) (h:j≤k):Room j A:=⟨r.hd,by have:=r.dp; omega,by have:=r.un; omega,r.gd⟩
theorem Room.deeper {k:Nat} {A:Around} (r:Room (k + 1) A) (env:Env):Room k (A.deeper env):=⟨r.hd,by have:=r.dp; show A.depth + 1 + 3 * k + 5 < _; omega,by have:=r.un; show A.units + 3 + 16 * k + 200 < _; omega,r.gd⟩
theorem yH {A:Around} {C:Addr} {us:List Value} {kw:List (Str×Value)}:(A.under (.builtin "type.__call__" ⟨.ref C::us,kw⟩)).depth=A.depth + 1:=by first | rfl | simp [Around.under,Code.weight,Code.isCreation,Code.isGuard,Code.isCaller,Code.frames,Code.isFrame,guardIds]
theorem yG {A:Around} {C:Addr} {us:List Value} {kw:List (Str×Value)}:(A.under (.builtin "type.__call__" ⟨.ref C::us,kw⟩)).units=A.units + 1:=by first | rfl | simp [Around.under,Code.cUnits,Code.frames,Code.isFrame]
theorem Room.make {k:Nat} {A:Around} (r:Room (k + 1) A) (C:Addr) (us:List Value) (kw:List (Str×Value)):Room k (A.under (.builtin "type.__call__" ⟨.ref C::us,kw⟩)):=⟨r.hd,by have:=r.dp; rw [yH]; omega,by have:=r.un; rw [yG]; omega,by first | exact r.gd | (simpa [Around.under,Code.isGuard,guardIds] using r.gd)⟩
theorem Room.depth {k:Nat} {A:Around} (r:Room k A):A.depth < recursionLimit:=by have:=r.dp; omega
def lQ:TA:=fun _ H Q=>Q [] H
def n9 (ta:TE) (tr:TA):TA:=fun σ H Q=>ta σ H fun x H1=>tr σ H1 fun xs H2=>Q (x::xs) H2
section
variable {X:Cx} {e:Expr} {es:List Expr} {te:TE} {t:TA} {pos:Pos}
theorem cj:PA X [] lQ:=fun _ _ _ _ H Q I h=>Calls.spliced_nil ⟨[],H,I,.nil,h⟩
theorem bF (ha:PE X e te) (hr:PA X es t) (hs:starEach (e::es) X.env=(false,eval e X.env)::starEach es X.env:=by rfl):PA X (e::es) (n9 te t):=by
 intro pos pins s σ H Q I h
 rw [hs]
 show wpAny _ _ (spliced ((false,eval e X.env)::backTo pos (starEach es X.env))) _ _ s
 refine Calls.spliced_cons (thn (ha pins s σ H _ I h) fun u s1 ⟨x,H1,I1,r1,q1⟩=>?_)
 exact thn (hr pos pins s1 σ H1 _ I1 q1) fun us s2 ⟨xs,H2,I2,r2,q2⟩=>⟨x::xs,H2,I2,.cons r1 r2,q2⟩
def E1 (t:TA):TE:=fun σ H Q=>t σ H fun xs H1=>xs.length≤sizeLine∧∀ p,H1 p=none→Q (.ref p) (upd H1 p (.tup xs))
def E6 (t:TA):TE:=fun σ H Q=>t σ H fun xs H1=>xs.length≤sizeLine∧∀ p,H1 p=none→Q (.ref p) (upd H1 p (.lst xs))
theorem nN {x1} (h:PA X es t):PE X (.Tuple es x1 pos) (E1 t):=by
 intro pins s σ H Q I hq
 refine wpAny_Tuple_spliced (thn (h pos pins s σ H _ I hq) fun us s1 ⟨xs,H1,I1,r,z,q⟩=>⟨by rw [← r.length]; exact z,?_⟩)
 have hf:H1 s1.heap.objs.size=none:=I1.hok.fresh (Nat.le_refl _)
 refine ⟨.ref s1.heap.objs.size,upd H1 s1.heap.objs.size (.tup xs),I1.laid (t':=s1.toks) (fun b u e=>Heap.get?_push_of_some _ e) (Nat.le_refl _) ?_,rfl,q _ hf⟩
 exact ⟨z,us,r,⟨_,Heap.get?_push_size _ rfl,rfl,_,rfl⟩⟩
theorem nP (h:PA X es t):PE X (.List es pos) (E6 t):=by
 intro pins s σ H Q I hq
 refine wpAny_List_spliced (thn (h pos pins s σ H _ I hq) fun us s1 ⟨xs,H1,I1,r,z,q⟩=>⟨by rw [← r.length]; exact z,?_⟩)
 have hf:H1 s1.heap.objs.size=none:=I1.hok.fresh (Nat.le_refl _)
 refine ⟨.ref s1.heap.objs.size,upd H1 s1.heap.objs.size (.lst xs),I1.laid (t':=s1.toks) (fun b u e=>Heap.get?_push_of_some _ e) (Nat.le_refl _) ?_,rfl,q _ hf⟩
 exact ⟨z,us,0,r,Heap.get?_push_size _ rfl⟩
end
abbrev Sp:=List V→Hp→VK→XK→Prop
abbrev CXT:=List Env→Hp→Shared→XK→Value→Shared→Prop
structure Env0 (P:Program) (w:World) (K:Frag) (mg:Str→Option Value) (base:Heap) (A:Around) (outer:List Env) (s:Shared) (H:Hp):Prop where
 frames:A.frames=some outer
 mod:Mod K mg base
 bs:∀ b o,base.get? b=some o→s.heap.get? b=some o∧H b=none
 bsz:base.objs.size≤s.heap.objs.size
 funs:s.heap.FunFrames base outer
 frf:∀ b∈frs outer,H b=none
 hok:HOk P w H s.heap
 bare:AllBare s.gens
def CE (outer:List Env) (P:Program) (w:World) (H:Hp) (s:Shared) (Q:VK) (u:Value) (s':Shared):Prop:=∃ v H',s'.os=s.os∧AllBare s'.gens∧Un (frs outer) [] H H' s.heap s'.heap∧HOk P w H' s'.heap∧RelV v u∧Q v H'
def CR (CX:CXT) (outer:List Env) (P:Program) (w:World) (H:Hp) (s:Shared) (Q:VK) (E:XK) (r:Result) (s':Shared):Prop:=
 match r with
 | .ok (.ret u)=>CE outer P w H s Q u s'
 | .ok _=>False
 | .error e=>CX outer H s E e s'
structure FnOk (P:Program) (w:World) (K:Frag) (mg:Str→Option Value) (base:Heap) (CX:CXT) (k:Nat) (f:Addr) (fd:FuncData) (ps:List Str) (sp:Sp):Prop where
 len:∀ vs H Q E,sp vs H Q E→vs.length=ps.length
 run:∀ (A:Around) (outer:List Env) (s:Shared) (H:Hp) (args:Args) (us:List Value) (vs:List V) (Q:VK) (E:XK),Room k A→Env0 P w K mg base A outer s H→BindsTo s fd args (ps.zip us)→Vals vs us→sp vs H Q E →
  codeAny (model P w) A (.call (.ref f) args) (CR CX outer P w H s Q E) s
theorem Env0.make {P:Program} {w:World} {K:Frag} {mg:Str→Option Value} {base:Heap} {A:Around} {outer:List Env} {s:Shared} {H:Hp} (e:Env0 P w K mg base A outer s H) (C:Addr) (us:List Value) (kw:List (Str×Value)) :
  Env0 P w K mg base (A.under (.builtin "type.__call__" ⟨.ref C::us,kw⟩)) outer s H:=⟨by first | exact e.frames | (simpa [Around.under,Code.envs,Code.isFrame,pushEnvs] using e.frames),e.mod,e.bs,e.bsz,e.funs,e.frf,e.hok,e.bare⟩
section
variable {X:Cx} {pins:List (Addr×Obj)} {σ:St} {H:Hp} {s s':Shared}
theorem Inv.env0 (I:Inv X pins σ H s):Env0 X.prog X.w X.K X.mg X.base X.A X.stack s H:=⟨I.ok.frames,I.ok.mod,I.bs,Nat.le_trans I.ok.bsz I.sz,I.stack,I.stkFree,I.hok,I.bare⟩
theorem Inv.after {Q:VK} {u:Value} (I:Inv X pins σ H s) (h:CE X.stack X.prog X.w H s Q u s'):EP X pins σ Q u s':=by
 obtain ⟨v,H',os,bare,un,hok,r,q⟩:=h
 obtain ⟨hh,g,d,t,os'⟩:=s'
 obtain rfl:os'=s.os:=os
 exact ⟨v,H',I.call (h':=hh) (g':=g) (d':=d) (t':=t) (ch:=[]) un hok bare (fun b z=>absurd z (by simp)),r,q⟩
end
def uD (sp:Sp) (dvs:List V) (E:XK) (t:TA):TE:=fun σ H Q=>t σ H fun vs H1=>sp (vs++dvs) H1 Q E
def n8 (C:Addr) (m:Str) (sp:Sp) (dvs:List V) (E:XK) (ta:TE) (t:TA):TE:=fun σ H Q=>ta σ H fun x H1=>∃ a dx fs,x=.ref a∧H1 a=some (.ins C dx fs)∧fs.lookup m=none ∧
 t σ H1 fun vs H2=>sp (x::(vs++dvs)) H2 Q E
def DZ (C:Addr) (sp:Sp) (dvs:List V) (E:XK) (t:TA):TE:=fun σ H Q=>t σ H fun vs H1=>∀ x dx,H1 x=none→H1 dx=none→dx≠x →
 sp (.ref x::(vs++dvs)) (upd (upd H1 dx (.own x)) x (.ins C dx [])) (fun v H2=>v=.non∧Q (.ref x) H2) E
def Binds (K:Frag) (fd:FuncData) (ps:List Str) (ds:List Value):Prop:=∀ (s:Shared) (us:List Value),K.In s.heap→(us++ds).length=ps.length→BindsTo s fd ⟨us,[]⟩ (ps.zip (us++ds))
theorem Binds.all {K:Frag} {fd:FuncData} {ps:List Str} (h:∀ us:List Value,us.length=ps.length→bindArgs fd ⟨us,[]⟩=pure (ps.zip us)):Binds K fd ps []:=fun s us _ hl=>by
 rw [List.append_nil] at hl ⊢
 exact .of_eq (h us hl)
def gT (CX:CXT) (X:Cx) (E:XK):Prop:=∀ (pins:List (Addr×Obj)) (σ:St) (H:Hp) (s:Shared) (e:Value) (s':Shared),Inv X pins σ H s→CX X.stack H s E e s'→X.xe e s'
section
variable {X:Cx} {CX:CXT} {k:Nat} {f C:Addr} {fd:FuncData} {ps:List Str} {sp:Sp} {dvs:List V} {ds:List Value} {E:XK} {x m:Str} {p pos apos:Pos} {e o:Expr} {es:List Expr} {ta:TE} {t:TA}
theorem nJ {pins:List (Addr×Obj)} {σ:St} {H:Hp} {s:Shared} {Q:VK} {us:List Value} {vs:List V} (F:FnOk X.prog X.w X.K X.mg X.base CX k f fd ps sp) (hr:Room k X.A) (hb:Binds X.K fd ps ds) (hd:Vals dvs ds) (hx:gT CX X E)
  (I:Inv X pins σ H s) (r:Vals vs us) (h:sp (vs++dvs) H Q E):wpAny (model X.prog X.w) X.A (call (.ref f) us) (EP X pins σ Q) X.xe s:=by
 have r2:Vals (vs++dvs) (us++ds):=r.append hd
 have hl:(us++ds).length=ps.length:=by rw [← r2.length]; exact F.len _ _ _ _ h
 refine wpAny_call (codeAny_mono (F.run X.A X.stack s H ⟨us,[]⟩ (us++ds) (vs++dvs) Q E hr I.env0 (hb s us I.kIn hl) r2 h) fun r s' hq=>?_)
 cases r with
 | error e=>exact hx pins σ H s e s' I hq
 | ok fl=>
  cases fl with
  | ret u=>exact I.after hq
  | next=>exact False.elim hq
  | brk=>exact False.elim hq
  | cont=>exact False.elim hq
theorem Bt (F:FnOk X.prog X.w X.K X.mg X.base CX k f fd ps sp) (hr:Room k X.A) (hg:Gl X x) (hm:X.mg x=some (.ref f)) (hk:PySem.W.keepIn X.K (.ref f)=true) (hb:Binds X.K fd ps ds) (hd:Vals dvs ds) (hx:gT CX X E)
  (ha:PA X (e::es) t) (hdb:(x == ("__debug__" : Str))=false:=by decide) (he:starEach (e::es) X.env=(false,eval e X.env)::starEach es X.env:=by rfl) (hpl:(backTo pos (starEach es X.env)).any (·.1)=false:=by rfl) :
  PE X (.Call (.Name x p) (e::es) [] pos) (uD sp dvs E t):=by
 intro pins s σ H Q I h
 refine wpAny_Call_Name_kw (m4 I hg hm ?_ hdb)
 refine PySem.W.callWith_K (h₀:=X.base) I.ok.mod.kin hk (thn (ha pos pins s σ H _ I h) fun us s1 ⟨vs,H1,I1,r,q⟩=>⟨I1.kIn,?_⟩) he hpl
 exact nJ F hr hb hd hx I1 r q
theorem Bq {pl:Sem Bool} (he:PE X o ta) (c:Cls X.K C) (hm:Meth X.K C m f) (F:FnOk X.prog X.w X.K X.mg X.base CX k f fd ps sp) (hr:Room k X.A) (hb:Binds X.K fd ps ds) (hd:Vals dvs ds) (hx:gT CX X E) (ha:PA X (e::es) t)
  (hst:starEach (e::es) X.env=(false,eval e X.env)::starEach es X.env:=by rfl) (hpl:(backTo pos (starEach es X.env)).any (·.1)=false:=by rfl)
  (ht:eval (.Call (.Attribute o m apos) (e::es) [] pos) X.env=(do
   let ov ← eval o X.env
   standAt apos.atName
   let (f,first) ← holding [ov] (getMethod ov m pl)
   callWith pos f first (backTo pos (starEach (e::es) X.env)) (backToKw pos (keywordEach [] X.env))):=by rfl) :
  PE X (.Call (.Attribute o m apos) (e::es) [] pos) (n8 C m sp dvs E ta t):=by
 intro pins s σ H Q I h
 refine PySem.W.methodCall_KW (pl:=pl) (thn (he pins s σ H _ I h) fun u s1 ⟨x,H1,I1,rx,a,dx,fs,ex,ea,l,q⟩=>?_) ht
 subst ex
 obtain rfl:u=Value.ref a:=rx
 refine pF I1 ea c hm l ?_
 refine PySem.W.callWith_K (first:=[.ref a]) (h₀:=X.base) I.ok.mod.kin hm.kp (thn (ha pos pins s1 σ H1 _ I1 q) fun us s2 ⟨vs,H2,I2,r,q2⟩=>⟨I2.kIn,?_⟩) hst hpl
 exact nJ (us:=.ref a::us) (vs:=.ref a::vs) F hr hb hd hx I2 (.cons rfl r) q2
theorem Aa {pl:Sem Bool} (he:PE X o ta) (c:Cls X.K C) (hm:Meth X.K C m f) (F:FnOk X.prog X.w X.K X.mg X.base CX k f fd ps sp) (hr:Room k X.A) (hb:Binds X.K fd ps ds) (hd:Vals dvs ds) (hx:gT CX X E)
  (ht:eval (.Call (.Attribute o m apos) [] [] pos) X.env=(do
   let ov ← eval o X.env
   standAt apos.atName
   let (f,first) ← holding [ov] (getMethod ov m pl)
   callWith pos f first (backTo pos (starEach [] X.env)) (backToKw pos (keywordEach [] X.env))):=by rfl) :
  PE X (.Call (.Attribute o m apos) [] [] pos) (n8 C m sp dvs E ta lQ):=by
 intro pins s σ H Q I h
 refine PySem.W.methodCall_KW (pl:=pl) (thn (he pins s σ H _ I h) fun u s1 ⟨x,H1,I1,rx,a,dx,fs,ex,ea,l,q⟩=>?_) ht
 subst ex
 obtain rfl:u=Value.ref a:=rx
 refine pF I1 ea c hm l ?_
 exact PySem.W.callWith_K0 (first:=[.ref a]) I1.kIn hm.kp (nJ (us:=[.ref a]) (vs:=[.ref a]) F hr hb hd hx I1 (.cons rfl .nil) q)
structure Mk (K:Frag) (C f:Addr):Prop where
 makes:PySem.W.makesIn K C=true
 init:PySem.W.findIn K (.ref C) "__init__" = some (some (.ref f))
 fn:PySem.W.isFn K (.ref f)=true
 kp:PySem.W.keepIn K (.ref C)=true
theorem zV {pins:List (Addr×Obj)} {σ:St} {H:Hp} {s:Shared} {Q:VK} {us:List Value} {vs:List V} (M:Mk X.K C f) (F:FnOk X.prog X.w X.K X.mg X.base CX k f fd ps sp) (hr:Room (k + 1) X.A) (hb:Binds X.K fd ps ds) (hd:Vals dvs ds)
  (hx:gT CX X E) (I:Inv X pins σ H s) (r:Vals vs us)
  (h:∀ x dx,H x=none→H dx=none→dx≠x→sp (.ref x::(vs++dvs)) (upd (upd H dx (.own x)) x (.ins C dx [])) (fun v H2=>v=.non∧Q (.ref x) H2) E) :
  wpAny (model X.prog X.w) X.A (call (.ref C) us) (EP X pins σ Q) X.xe s:=by
 have hq:=h (s.heap.objs.size + 1) s.heap.objs.size (I.hok.fresh (Nat.le_succ _)) (I.hok.fresh (Nat.le_refl _)) (Nat.ne_of_lt (Nat.lt_succ_self _))
 have I2:=Inv.made (C:=C) I
 have r2:Vals (V.ref (s.heap.objs.size + 1)::(vs++dvs)) (Value.ref (s.heap.objs.size + 1)::(us++ds)):=.cons rfl (r.append hd)
 have hl:(Value.ref (s.heap.objs.size + 1)::us++ds).length=ps.length:=by
  have e:=r2.length
  rw [F.len _ _ _ _ hq] at e
  exact e.symm
 refine wpAny_call (Ao (f:=f) I.kIn M.makes M.init (beq_iff_eq.mp M.fn) (codeAny_mono (F.run _ X.stack _ _ ⟨Value.ref (s.heap.objs.size + 1)::us,[]⟩ (Value.ref (s.heap.objs.size + 1)::(us++ds)) _ _ E (hr.make C us [])
  (I2.env0.make C us []) (hb _ (Value.ref (s.heap.objs.size + 1)::us) I2.kIn hl) r2 hq) fun r s' hq'=>?_))
 cases r with
 | error e=>exact hx pins σ _ _ e s' I2 hq'
 | ok fl=>
  cases fl with
  | ret u=>
   obtain ⟨v,H',I3,rv,ev,q3⟩:=I2.after hq'
   subst ev
   exact ⟨rv,⟨V.ref (s.heap.objs.size + 1),H',I3,rfl,q3⟩⟩
  | next=>exact False.elim hq'
  | brk=>exact False.elim hq'
  | cont=>exact False.elim hq'
theorem Br (M:Mk X.K C f) (F:FnOk X.prog X.w X.K X.mg X.base CX k f fd ps sp) (hr:Room (k + 1) X.A) (hg:Gl X x) (hm:X.mg x=some (.ref C)) (hb:Binds X.K fd ps ds) (hd:Vals dvs ds) (hx:gT CX X E)
  (ha:PA X (e::es) t) (hdb:(x == ("__debug__" : Str))=false:=by decide) (he:starEach (e::es) X.env=(false,eval e X.env)::starEach es X.env:=by rfl) (hpl:(backTo pos (starEach es X.env)).any (·.1)=false:=by rfl) :
  PE X (.Call (.Name x p) (e::es) [] pos) (DZ C sp dvs E t):=by
 intro pins s σ H Q I h
 refine wpAny_Call_Name_kw (m4 I hg hm ?_ hdb)
 refine PySem.W.callWith_K (h₀:=X.base) I.ok.mod.kin M.kp (thn (ha pos pins s σ H _ I h) fun us s1 ⟨vs,H1,I1,r,q⟩=>⟨I1.kIn,?_⟩) he hpl
 exact zV M F hr hb hd hx I1 r q
end
section
variable {X:Cx} {CX:CXT} {k:Nat} {f C:Addr} {fd:FuncData} {ps ks:List Str} {sp:Sp} {E:XK} {x m:Str} {p pos apos kpos:Pos} {e o:Expr} {es:List Expr} {kws:List Keyword} {te ta:TE} {t tk:TA} {nm:Option Str}
structure KBinds (K:Frag) (fd:FuncData) (ps ks:List Str) (g:List Value→List Value→List Value) (gV:List V→List V→List V):Prop where
 to:∀ (s:Shared) (us ws:List Value),K.In s.heap→(g us ws).length=ps.length→BindsTo s fd ⟨us,ks.zip ws⟩ (ps.zip (g us ws))
 rel:∀ {vs:List V} {us:List Value} {zs:List V} {ws:List Value},Vals vs us→Vals zs ws→Vals (gV vs zs) (g us ws)
variable {g:List Value→List Value→List Value} {gV:List V→List V→List V}
end
structure FnScope (N P:List Str) (sc:Scope):Prop where
 kind:sc.kind=.function
 co:sc.isCoroutine=false
 gen:sc.isGenerator=false
 nd:N.Nodup
 pre:N.take P.length=P
 par:∀ x∈P,sc.names.lookup x=some .local∨sc.names.lookup x=some .cell
 nofree:∀ y∈sc.names,y.2≠.free
theorem qB {kindOf:Str→Option NameKind} {x:Str}:∀ {binds:List (Str×Value)} {m:Str→Option Value},(∀ v,(x,v)∉binds)→bindL kindOf binds m x=m x
 | [],_,_=>rfl
 | (n,v)::r,m,h=>by
  unfold bindL
  rw [qB fun w hw=>h w (List.mem_cons_of_mem _ hw)]
  split
  ·have:x≠n:=by rintro rfl; exact h v List.mem_cons_self
   simp [this]
  ·rfl
theorem qE {kindOf:Str→Option NameKind} {x:Str}:∀ {binds:List (Str×Value)} {m:Str→Option Value},(∀ v,(x,v)∉binds)→bindC kindOf binds m x=m x
 | [],_,_=>rfl
 | (n,v)::r,m,h=>by
  unfold bindC
  rw [qE fun w hw=>h w (List.mem_cons_of_mem _ hw)]
  split
  ·rfl
  ·have:x≠n:=by rintro rfl; exact h v List.mem_cons_self
   simp [this]
theorem qD {kindOf:Str→Option NameKind} {x:Str} {v:Value}:∀ {P:List Str} {vs:List Value} {i:Nat} {m:Str→Option Value},P.Nodup→P[i]? = some x→vs[i]? = some v→kindOf x=some .local →
  bindL kindOf (P.zip vs) m x=some v
 | [],_,_,_,_,h,_,_=>by simp at h
 | _::_,[],_,_,_,_,h,_=>by simp at h
 | p::P,w::vs,0,m,nd,h1,h2,hk=>by
  simp at h1 h2; subst h1; subst h2
  show bindL kindOf ((p,w)::P.zip vs) m p=_
  unfold bindL
  rw [qB fun v hv=>(List.nodup_cons.mp nd).1 (List.of_mem_zip hv).1,if_pos hk]
  simp
 | p::P,w::vs,i + 1,m,nd,h1,h2,hk=>by
  show bindL kindOf ((p,w)::P.zip vs) m x=_
  unfold bindL
  exact qD (i:=i) (List.nodup_cons.mp nd).2 (by simpa using h1) (by simpa using h2) hk
theorem qF {kindOf:Str→Option NameKind} {x:Str} {v:Value}:∀ {P:List Str} {vs:List Value} {i:Nat} {m:Str→Option Value},P.Nodup→P[i]? = some x→vs[i]? = some v→kindOf x≠some .local →
  bindC kindOf (P.zip vs) m x=some v
 | [],_,_,_,_,h,_,_=>by simp at h
 | _::_,[],_,_,_,_,h,_=>by simp at h
 | p::P,w::vs,0,m,nd,h1,h2,hk=>by
  simp at h1 h2; subst h1; subst h2
  show bindC kindOf ((p,w)::P.zip vs) m p=_
  unfold bindC
  rw [qE fun v hv=>(List.nodup_cons.mp nd).1 (List.of_mem_zip hv).1,if_neg hk]
  simp
 | p::P,w::vs,i + 1,m,nd,h1,h2,hk=>by
  show bindC kindOf ((p,w)::P.zip vs) m x=_
  unfold bindC
  exact qF (i:=i) (List.nodup_cons.mp nd).2 (by simpa using h1) (by simpa using h2) hk
def start (N:List Str) (vs:List V):St:=vs.map some++List.replicate (N.length - vs.length) none
def gs (CX:CXT) (P:Program) (w:World) (K:Frag) (mg:Str→Option Value) (base:Heap) (N:List Str) (qual:Str) (scope:Scope) (f:Addr) (cd:Value) (A:Around) (outer:List Env) (s:Shared) (H:Hp) (E:XK):Cx where
 prog:=P
 w:=w
 K:=K
 mg:=mg
 base:=base
 A:=A.deeper (envOfC qual scope s.heap.objs.size f cd)
 N:=N
 s₀:=s
 H₀:=H
 env:=envOfC qual scope s.heap.objs.size f cd
 outer:=outer
 stack:=envOfC qual scope s.heap.objs.size f cd::outer
 ex:=[]
 calm:=true
 fn:=fun _=>true
 pn:=[]
 xe:=fun e s'=>wpAny (model P w) (A.deeper (envOfC qual scope s.heap.objs.size f cd)) (leaving (envOfC qual scope s.heap.objs.size f cd) e) (fun _ s''=>CX outer H s E e s'') (fun e' s''=>CX outer H s E e' s'') s'
theorem rM {sc:Scope} {n:Nat} {x:Str} (h:sc.names.lookup x=some .cell):∃ c,(cellsFrom n sc.names []).lookup x=some c:=by
 have q:=PySem.W.cellsFrom_some sc.names n [] (.inl h)
 exact Option.isSome_iff_exists.mp q
theorem zr {CX:CXT} {P:Program} {w:World} {K:Frag} {mg:Str→Option Value} {base:Heap} {N ps:List Str} {qual:Str} {scope:Scope} {f:Addr} {cd:Value} {A:Around} {outer:List Env} {s s1:Shared} {H:Hp} {E:XK} {us:List Value} {vs:List V}
  (S:FnScope N ps scope) (hd:A.handled=none) (e0:Env0 P w K mg base A outer s H) (hl:vs.length=ps.length) (r:Vals vs us)
  (x:InCallC s s.heap.objs.size (bindL (envOfC qual scope s.heap.objs.size f cd).kindOf (ps.zip us) fun _=>none) (cellsFrom (s.heap.objs.size + 1) scope.names []) (bindC (envOfC qual scope s.heap.objs.size f cd).kindOf (ps.zip us) fun _=>none) s1) :
  Inv (gs CX P w K mg base N qual scope f cd A outer s H E) [] (start N vs) H s1:=by
 have hpl:ps.length≤N.length:=by have:=congrArg List.length S.pre; rw [List.length_take] at this; omega
 obtain ⟨h1,tk,rfl,hk⟩:=x.done
 have noA:∀ b:Addr,b∉(gs CX P w K mg base N qual scope f cd A outer s H E).ex:=fun b z=>absurd (show b∈([]:List Addr) from z) (by simp)
 refine ⟨⟨e0.mod,S.kind,rfl,rfl,Nat.le_refl _,fun y z c h1 h2=>?_,fun y hy=>?_,fun y c _ h=>?_,fun _=>hd,Around.frames_deeper e0.frames,.inr ⟨rfl,rfl⟩,fun b z=>absurd z (noA b),e0.bs,e0.bsz,fun b _ _=>noA b,fun b z=>absurd z (noA b),e0.funs,e0.frf⟩,
  rfl,e0.bare,Un.kept hk,⟨_,x.toInCall.ns,fun i y v h1 h2 h3=>?_⟩,fun y c h=>⟨_,x.cell y c h⟩,e0.hok.fresh (Nat.le_refl _),fun y c h=>?_,fun p hp=>absurd (show p∈([]:List (Addr×Obj)) from hp) (by simp),e0.hok.kept hk,?_⟩
 ·exact name_of_addr x.apart (PySem.mem_of_lookup h1) (PySem.mem_of_lookup h2)
 ·have hy:scope.names.lookup y=some .cell∨scope.names.lookup y=some .free:=hy
  rcases hy with hy | hy
  ·exact rM hy
  ·exact absurd rfl (S.nofree _ (PySem.mem_of_lookup hy))
 ·exact Nat.le_of_lt (x.above y c (PySem.mem_of_lookup h))
 ·have hi:i < vs.length:=by
   unfold start at h2
   by_cases hi:i < vs.length
   ·exact hi
   ·rw [List.getElem?_append_right (by simpa using hi)] at h2
    rw [List.getElem?_replicate] at h2
    split at h2 <;> cases h2
  have ha:vs[i]? = some v:=by
   unfold start at h2
   rw [List.getElem?_append_left (by simpa using hi),List.getElem?_map] at h2
   cases e:vs[i]? with
   | none=>rw [e] at h2; cases h2
   | some a=>rw [e] at h2; cases h2; rfl
  obtain ⟨u,hu,rv⟩:=r.get ha
  have hp:ps[i]? = some y:=by
   rw [← S.pre,List.getElem?_take_of_lt (by omega)]; exact h1
  have ndP:ps.Nodup:=by rw [← S.pre]; exact S.nd.sublist (List.take_sublist _ _)
  refine ⟨u,rv,?_⟩
  rcases S.par y (List.mem_of_getElem? hp) with k | k
  ·exact .inl ⟨k,qD ndP hp hu k⟩
  ·obtain ⟨c,e⟩:=rM (n:=s.heap.objs.size + 1) k
   refine .inr ⟨.inl k,c,e,?_⟩
   have q:=x.cell y c e
   rw [qF ndP hp hu (by show scope.names.lookup y≠_; rw [k]; decide)] at q
   exact q
 ·exact e0.hok.fresh (Nat.le_of_lt (x.above y c (PySem.mem_of_lookup h)))
 ·unfold start
  show _=N.length
  rw [List.length_append,List.length_map,List.length_replicate]
  omega
theorem EI {CX:CXT} {P:Program} {w:World} {K:Frag} {mg:Str→Option Value} {base:Heap} {k:Nat} {f:Addr} {name qual:Str} {params:Arguments} {body:List Stmt} {scope:Scope} {dV kV doc pm cdv ct oc:Value} {an od:Option Addr}
  {osl:Array (Option Value)} {N ps:List Str} {sp:Sp} (lk:K.lookup f=some ⟨oc,od,.func (PySem.W.fnOf name qual params body scope dV kV doc pm an cdv ct),osl⟩) (hcd:PySem.W.codeIn K cdv qual=true) (S:FnScope N ps scope)
  (len:∀ vs H Q E,sp vs H Q E→vs.length=ps.length)
  (hbody:∀ (A:Around) (outer:List Env) (s:Shared) (H:Hp) (vs:List V) (Q:VK) (E:XK),Room k (A.deeper (envOfC qual scope s.heap.objs.size f cdv))→sp vs H Q E →
   ∃ t,PSs (gs CX P w K mg base N qual scope f cdv A outer s H E) body t∧t { nx:=fun _ H'=>Q .non H',rt:=Q } (start N vs) H) :
  FnOk P w K mg base CX (k + 1) f (PySem.W.fnOf name qual params body scope dV kV doc pm an cdv ct) ps sp:=by
 refine ⟨len,fun A outer s H args us vs Q E hr e0 hb r hsp=>?_⟩
 have hl:=len _ _ _ _ hsp
 have KX:K.In s.heap:=e0.mod.kin.keeps fun b o e=>(e0.bs b o e).1
 have lim:s.heap.NoLimit:=e0.mod.nolimit.keeps fun b o e=>(e0.bs b o e).1
 have hkind:∀ y∈ps.zip us,scope.names.lookup y.1=some .local∨(scope.names.lookup y.1=some .cell∧((cellsFrom (s.heap.objs.size + 1) scope.names []).lookup y.1).isSome=true):=fun ⟨n,v⟩ hy=>by
  rcases S.par n (List.of_mem_zip hy).1 with q | q
  ·exact .inl q
  ·exact .inr ⟨q,PySem.W.cellsFrom_some _ _ _ (.inl q)⟩
 refine codeAny_call_function hr.depth (KX _ _ lk) rfl S.co S.gen rfl (PySem.W.codeRec_of KX hcd) (hb _ _ _ _ ?_)
 refine wpAny_newFunctionEnv_cells S.kind hkind fun env he s1 x=>?_
 subst he
 refine ⟨lim.keeps x.toInCall.keep,codeAny_func ?_⟩
 obtain ⟨t,ht,hq⟩:=hbody A outer s H vs Q E (hr.deeper _) hsp
 have I:Inv (gs CX P w K mg base N qual scope f cdv A outer s H E) [] (start N vs) H s1:=zr S hr.hd e0 hl r x
 refine wpAny_mono (ht [] s1 (start N vs) H _ I hq) (fun fl s' hs=>?_) fun e s' hs=>hs
 have fin:∀ {σ':St} {H':Hp} {v:V} {u:Value},Inv (gs CX P w K mg base N qual scope f cdv A outer s H E) [] σ' H' s'→RelV v u→Q v H'→CE outer P w H s Q u s':=
  fun {σ' H' v u} J rv q=>⟨v,H',J.os,J.bare,J.base,J.hok,rv,q⟩
 cases fl with
 | ret u=>
  obtain ⟨v,σ',H',J,rv,q⟩:=hs
  exact fin J rv q
 | next=>
  obtain ⟨σ',H',J,q⟩:=hs
  exact fin (v:=V.non) (u:=Value.none) J rfl q
 | brk=>
  obtain ⟨_,_,_,q⟩:=hs
  exact False.elim q
 | cont=>
  obtain ⟨_,_,_,q⟩:=hs
  exact False.elim q
section
variable {X:Cx} {x:Str} {p pos:Pos} {e:Expr} {es:List Expr} {t:TA} {id T:String} {r:List V→Hp→VK→Prop}
def tCB (r:List V→Hp→VK→Prop) (t:TA):TE:=fun σ H Q=>t σ H fun vs H1=>r vs H1 Q
theorem mF (hc:CallR X (.builtin id) r) (hg:Gl X x) (hm:X.mg x=none) (hv:bootBuiltins x=some (.builtin id)) (ha:PA X (e::es) t) (hn:x≠"__name__":=by decide) (hdb:(x == ("__debug__" : Str))=false:=by decide)
  (he:starEach (e::es) X.env=(false,eval e X.env)::starEach es X.env:=by rfl) (hpl:(backTo pos (starEach es X.env)).any (·.1)=false:=by rfl):PE X (.Call (.Name x p) (e::es) [] pos) (tCB r t):=by
 intro pins s σ H Q I h
 refine wpAny_Call_Name_kw (jy I hg hm hv ?_ hn hdb)
 exact PyProof.Rows.callWith_builtin1 (thn (ha pos pins s σ H _ I h) fun us s1 ⟨vs,H1,I1,r1,q1⟩=>hc pins s1 σ H1 vs us Q I1 r1 q1) he hpl
theorem qa (hc:CallR X (.type T) r) (hg:Gl X x) (hm:X.mg x=none) (hv:bootBuiltins x=some (.type T)) (ha:PA X (e::es) t) (hn:x≠"__name__":=by decide) (hdb:(x == ("__debug__" : Str))=false:=by decide)
  (he:starEach (e::es) X.env=(false,eval e X.env)::starEach es X.env:=by rfl) (hpl:(backTo pos (starEach es X.env)).any (·.1)=false:=by rfl):PE X (.Call (.Name x p) (e::es) [] pos) (tCB r t):=by
 intro pins s σ H Q I h
 refine wpAny_Call_Name_kw (jy I hg hm hv ?_ hn hdb)
 exact PyProof.Rows.callWith_type1 (thn (ha pos pins s σ H _ I h) fun us s1 ⟨vs,H1,I1,r1,q1⟩=>hc pins s1 σ H1 vs us Q I1 r1 q1) he hpl
end
end L2
namespace HT
open PySem PyProof.Rows
section
open PySem.SeqAt
open PySem.AutoSeq1 (wpAny_loadPart')
open PySem.MeetsSeq PySem.MeetsSeq2 PySem.MeetsSeq3
end
section
variable {prog:Program} {w:World} {A:Around} {E:Value→Shared→Prop} {s:Shared}
theorem BW {t b:Addr} {vs ws:List Value} {Q:Value→Shared→Prop} (ht:IsTup s.heap t vs.toArray) (hb:IsTup s.heap b ws.toArray) (hv:vs≠[])
  (h1:ws=[]→Q (.ref t) s) (h2:ws≠[]→Q (.ref s.heap.objs.size) { s with heap:=s.heap.push { cls:=.type "tuple",data:=.seq (vs++ws).toArray } })
  (hsz:vs.length + ws.length≤sizeLine):wpAny (model prog w) A (binaryOp .Add (.ref t) (.ref b)) Q E s:=by
 obtain ⟨⟨cls,dd,data,sl⟩,ho,hc,n,hd⟩:=id ht
 obtain ⟨⟨cls2,dd2,data2,sl2⟩,ho2,hc2,n2,hd2⟩:=id hb
 simp only at hc hd hc2 hd2
 subst hc hd hc2 hd2
 have e:vs.toArray++ws.toArray=(vs++ws).toArray:=by simp
 by_cases hw:ws=[]
 ·exact concat_meets ⟨_,ho,rfl⟩ ⟨_,ho2,rfl⟩ noFill_tuple_add seq_tuple_add PySem.F.slot_tuple_add PySem.F.entry_tuple_add (PySem.F.args_tuple_add_2 _ _)
   (tuple_addW1 t b vs.toArray ws.toArray n n2 dd dd2 sl sl2 (by simpa using hv) (by simp [hw])) ⟨ho,ho2,h1 hw⟩
 ·refine concat_meets ⟨_,ho,rfl⟩ ⟨_,ho2,rfl⟩ noFill_tuple_add seq_tuple_add PySem.F.slot_tuple_add PySem.F.entry_tuple_add (PySem.F.args_tuple_add_2 _ _)
   (tuple_addW2 t b vs.toArray ws.toArray n n2 dd dd2 sl sl2 (by simpa using hv) (by simpa using hw) (by rw [List.size_toArray,List.size_toArray]; exact hsz)) ⟨ho,ho2,?_⟩
  rw [e]
  exact h2 hw
def sIx (n d:Nat):Option Int→Nat
 | none=>d
 | some v=>if v < 0 then (v + (n:Int)).toNat else min v.toNat n
theorem qQ (n d:Nat):sIx n d none=d:=rfl
theorem r9 (n d k:Nat):sIx n d (some (k:Int))=min k n:=by
 show (if (k:Int) < 0 then ((k:Int) + (n:Int)).toNat else min (k:Int).toNat n)=min k n
 rw [if_neg (by omega),Int.toNat_natCast]
theorem Cs (n d:Nat) (hd:d≤n) (o:Option Int):sIx n d o≤n:=by
 cases o with
 | none=>exact hd
 | some v=>
  show (if v < 0 then (v + (n:Int)).toNat else min v.toNat n)≤n
  by_cases hv:v < 0
  ·rw [if_pos hv]; omega
  ·rw [if_neg hv]; exact Nat.min_le_right _ _
theorem sY (v:Int) (n d:Nat):(if v < 0 then max (v + (n:Int)) 0 else min v (n:Int))=((sIx n d (some v):Nat):Int):=by
 show (if v < 0 then max (v + (n:Int)) 0 else min v (n:Int))=(((if v < 0 then (v + (n:Int)).toNat else min v.toNat n):Nat):Int)
 by_cases hv:v < 0
 ·simp only [if_pos hv]; omega
 ·simp only [if_neg hv]; omega
theorem yO (lo hi:Option Int) (n:Nat):Builtin.Slice.sliceAdjust lo hi 1 (n:Int)=(((sIx n 0 lo:Nat):Int),((sIx n n hi:Nat):Int)):=by
 have h1:¬ ((1:Int) < 0):=by omega
 unfold Builtin.Slice.sliceAdjust
 simp only [h1,if_false]
 refine Prod.ext ?_ ?_
 ·cases lo with
  | none=>rfl
  | some v=>exact sY v n 0
 ·cases hi with
  | none=>rfl
  | some v=>exact sY v n n
theorem yv (i j:Nat):Builtin.Slice.slicePlaces (i:Int) (j:Int) 1=j - i:=by
 unfold Builtin.Slice.slicePlaces
 have h1:(1:Int) > 0:=by omega
 simp only [h1,if_true,Int.ediv_one]
 split <;> omega
theorem pj {v:Value} {o:Option Int} {Q:Option Int→Shared→Prop} (p:IsPart v o) (h:Q o s):wpAny (model prog w) A (Builtin.Slice.slicePartIndex v) Q E s:=by
 cases p with
 | none=>exact slicePart_none h
 | int i t=>exact slicePart_int h
theorem oO {sl:Addr} {vl vu:Value} {lo hi:Option Int} {n:Nat} {Q:Int×Int×Nat→Shared→Prop} (hs:s.heap.IsSliceOf sl vl vu .none) (pl:IsPart vl lo) (pu:IsPart vu hi)
  (h:Q (((sIx n 0 lo:Nat):Int),1,sIx n n hi - sIx n 0 lo) s):wpAny (model prog w) A (Builtin.Slice.sliceApplied (.ref sl) (pure (n:Int))) Q E s:=by
 obtain ⟨os,hos,hcs,hds⟩:=id hs
 unfold Builtin.Slice.sliceApplied Builtin.Slice.sliceFields
 refine wpAny_bind (wpAny_bind (wpAny_field hos hds (x:=vl) rfl (wpAny_bind (wpAny_field hos hds (x:=vu) rfl (wpAny_bind (wpAny_field hos hds (x:=.none) rfl (wpAny_pure ?_)))))))
 refine wpAny_bind (slicePart_none ?_)
 show wpAny _ _ (if ((1:Int) == 0)=true then _ else _) _ _ s
 rw [if_neg (by decide)]
 refine wpAny_bind (pj pl (wpAny_bind (pj pu (wpAny_bind (wpAny_pure ?_)))))
 show wpAny _ _ (match Builtin.Slice.sliceAdjust lo hi 1 (n:Int) with | (lo,hi)=>pure (lo,(1:Int),Builtin.Slice.slicePlaces lo hi 1)) _ _ s
 rw [yO lo hi n]
 show wpAny _ _ (pure (((sIx n 0 lo:Nat):Int),(1:Int),Builtin.Slice.slicePlaces ((sIx n 0 lo:Nat):Int) ((sIx n n hi:Nat):Int) 1)) _ _ s
 rw [yv]
 exact wpAny_pure h
theorem z6 (xs:Array Value) (i k:Nat):((List.range k).filterMap fun (m:Nat)=>xs[((i:Int) + (m:Int) * 1).toNat]?).toArray=((xs.toList.drop i).take k).toArray:=by
 have e:(fun (m:Nat)=>xs[((i:Int) + (m:Int) * 1).toNat]?)=fun m=>xs[i + m]?:=by
  funext m
  have:((i:Int) + (m:Int) * 1).toNat=i + m:=by omega
  rw [this]
 rw [e]
 have:=pick_run xs i k
 rw [List.filterMap_map] at this
 have e2:((fun x=>xs[x]?) ∘ fun x=>i + x)=fun m=>xs[i + m]?:=rfl
 rw [e2] at this
 rw [this]
theorem vZ {t sl:Addr} {items:Array Value} {vl vu:Value} {lo hi:Option Int} {Q:Value→Shared→Prop} (ht:IsTup s.heap t items) (hs:s.heap.IsSliceOf sl vl vu .none) (pl:IsPart vl lo) (pu:IsPart vu hi)
  (hw:¬ (sIx items.size 0 lo=0∧sIx items.size items.size hi=items.size))
  (h:Q (.ref s.heap.objs.size) { s with heap:=s.heap.push { cls:=.type "tuple",data:=.seq ((items.toList.drop (sIx items.size 0 lo)).take (sIx items.size items.size hi - sIx items.size 0 lo)).toArray } })
  (hsz:items.size≤sizeLine):wpAny (model prog w) A (getItem (.ref t) (.ref sl)) Q E s:=by
 have htake:sizeOk (.seq ((items.toList.drop (sIx items.size 0 lo)).take (sIx items.size items.size hi - sIx items.size 0 lo)).toArray):=by
  show ((items.toList.drop (sIx items.size 0 lo)).take (sIx items.size items.size hi - sIx items.size 0 lo)).toArray.size≤sizeLine
  rw [List.size_toArray,List.length_take,List.length_drop,Array.length_toList]
  omega
 have hj:sIx items.size items.size hi≤items.size:=Cs _ _ (Nat.le_refl _) hi
 obtain ⟨os,hos,hcs,hds⟩:=id hs
 have hTs:s.TypeIs (.ref sl) "slice":=⟨os,hos,hcs⟩
 unfold getItem
 try with_reducible refine wpAny_holding ?_
 first | refine wpAny_bind (wpAny_pure ?_) | skip
 refine wpAny_bind (wpAny_sequenceKey ht.typeIs (by decide) ?_)
 refine wpAny_bind (wpAny_callSpecial?_slot (name:=Str.ofString "__getitem__") ht.typeIs PyProof.Rows.slot_tuple_getitem
  (wpAny_call_entry PyProof.Rows.slot_tuple_getitem ht.typeIs entry_tuple_getitem ?_ (args_tuple_getitem _ _)))
 show wpAny _ _ (Builtin.Tuple.tupleItemsOf (.ref t) >>= _) _ _ s
 refine wpAny_bind (tupleItemsOf_ ht ?_)
 refine wpAny_bind (wpAny_typeOf hTs ?_)
 rw [if_pos (by decide)]
 refine wpAny_bind (oO hs pl pu ?_)
 have hno:¬ ((((sIx items.size 0 lo:Nat):Int) == 0 && (1:Int) == 1 && (sIx items.size items.size hi - sIx items.size 0 lo) == items.size)=true):=by
  intro q
  rw [Bool.and_eq_true,Bool.and_eq_true] at q
  have q1:((sIx items.size 0 lo:Nat):Int)=0:=eq_of_beq q.1.1
  have q2:sIx items.size items.size hi - sIx items.size 0 lo=items.size:=eq_of_beq q.2
  exact hw ⟨by omega,by omega⟩
 show wpAny _ _ (if (((sIx items.size 0 lo:Nat):Int) == 0 && (1:Int) == 1 && (sIx items.size items.size hi - sIx items.size 0 lo) == items.size)=true then _ else _) _ _ s
 rw [if_neg hno,z6]
 first
  | exact wpAny_bind (m:=Builtin.Tuple.tupleExact _) (wpAny_newObj_type (wpAny_pure ⟨_,rfl,wpAny_pure h⟩) htake)
  | exact wpAny_bind (m:=Builtin.Tuple.tupleExact _) (wpAny_newObj_type (wpAny_bind (wpAny_pure (wpAny_pure ⟨_,rfl,wpAny_pure h⟩))) htake)
  | exact wpAny_bind (wpAny_bind (m:=Builtin.Tuple.tupleExact _) (wpAny_newObj_type (wpAny_pure (wpAny_pure ⟨_,rfl,wpAny_pure h⟩)) htake))
  | exact wpAny_bind (wpAny_bind (m:=Builtin.Tuple.tupleExact _) (wpAny_newObj_type (wpAny_pure ⟨_,rfl,wpAny_pure h⟩) htake))
end
end HT
namespace L2
open PySem PySem.Spec PyProof.Rows
abbrev TO:=St→Hp→(Option Int→Hp→Prop)→Prop
def PO (X:Cx) (e:Option Expr) (t:TO):Prop:=
 ∀ (pins:List (Addr×Obj)) (s:Shared) (σ:St) (H:Hp) (Q:Option Int→Hp→Prop),Inv X pins σ H s→t σ H Q →
  wpAny (model X.prog X.w) X.A (evalPart e X.env) (fun u s'=>∃ o H',Inv X pins σ H' s'∧IsPart u o∧Q o H') X.xe s
def A6:TO:=fun _ H Q=>Q none H
def DU (t:TE):TO:=fun σ H Q=>t σ H fun x H1=>∃ i,x=.int i∧Q (some i) H1
section
variable {X:Cx} {e:Expr} {te:TE} {lo hi:Option Expr} {tl th:TO} {pos p2:Pos}
theorem Bo:PO X none A6:=by
 intro pins s σ H Q I h
 rw [evalPart_none]
 exact wpAny_pure ⟨none,H,I,.none,h⟩
theorem Bn (h:PE X e te):PO X (some e) (DU te):=by
 intro pins s σ H Q I hw
 rw [evalPart_some]
 refine thn (h pins s σ H _ I hw) fun u s1 ⟨x,H1,I1,r1,q1⟩=>?_
 obtain ⟨i,rfl,q⟩:=q1
 obtain ⟨t,rfl⟩:=r1
 exact ⟨some i,H1,I1,.int i t,q⟩
def SlR (X:Cx) (r:V→Option Int→Option Int→Hp→VK→Prop):Prop:=
 ∀ (pins:List (Addr×Obj)) (s:Shared) (σ:St) (H:Hp) (x:V) (v vl vu:Value) (lo hi:Option Int) (sl:Addr) (Q:VK),Inv X pins σ H s→RelV x v→s.heap.IsSliceOf sl vl vu .none→IsPart vl lo→IsPart vu hi→r x lo hi H Q →
  ∃ T id,typeLookup (.type T) "__getitem__" = pure (some (.builtin id))∧s.TypeIs v T∧wpAny (model X.prog X.w) X.A (getItem v (.ref sl)) (EP X pins σ Q) X.xe s
theorem SlR.or {r r':V→Option Int→Option Int→Hp→VK→Prop} (h:SlR X r) (h':SlR X r'):SlR X (fun x lo hi H Q=>r x lo hi H Q∨r' x lo hi H Q):=by
 intro pins s σ H x v vl vu lo hi sl Q I rx hs pl pu q
 rcases q with q | q
 ·exact h pins s σ H x v vl vu lo hi sl Q I rx hs pl pu q
 ·exact h' pins s σ H x v vl vu lo hi sl Q I rx hs pl pu q
def tSl (r:V→Option Int→Option Int→Hp→VK→Prop) (te:TE) (tl th:TO):TE:=fun σ H Q=>te σ H fun x H1=>tl σ H1 fun l H2=>th σ H2 fun u H3=>r x l u H3 Q
theorem z9 {r:V→Option Int→Option Int→Hp→VK→Prop} (hr:SlR X r) (he:PE X e te) (hl:PO X lo tl) (hu:PO X hi th):PE X (.Subscript e (.Slice lo hi none p2) pos) (tSl r te tl th):=by
 intro pins s σ H Q I h
 refine Subscript_ (thn (he pins s σ H _ I h) fun v s1 ⟨x,H1,I1,r1,q1⟩=>?_)
 refine wpAny_Slice (thn (hl pins s1 σ H1 _ I1 q1) fun vl s2 ⟨l,H2,I2,pl,q2⟩=>thn (hu pins s2 σ H2 _ I2 q2) fun vu s3 ⟨u,H3,I3,pu,q3⟩=>?_)
 rw [evalPart_none]
 refine wpAny_pure ?_
 have I4:Inv X pins σ H3 { s3 with heap:=s3.heap.push { cls:=.type "slice",data:=.fields #[vl,vu,.none] } }:=I3.kept (t':=s3.toks) fun b ob q=>Heap.get?_push_of_some _ q
 obtain ⟨T,id,hT,ht,hg⟩:=hr pins { s3 with heap:=s3.heap.push { cls:=.type "slice",data:=.fields #[vl,vu,.none] } } σ H3 x v vl vu l u s3.heap.objs.size Q I4 r1 (Heap.IsSliceOf.new ..) pl pu q3
 show wpAny (model X.prog X.w) X.A (subscriptTail e (.Slice lo hi none p2) v (.ref s3.heap.objs.size)) (EP X pins σ Q) X.xe { s3 with heap:=s3.heap.push { cls:=.type "slice",data:=.fields #[vl,vu,.none] } }
 exact tail_any (ops:=[.ref s3.heap.objs.size,v]) ht hT hg (by with_unfolding_all rfl)
def fL (xs:List V) (lo hi:Option Int):List V:=(xs.drop (HT.sIx xs.length 0 lo)).take (HT.sIx xs.length xs.length hi - HT.sIx xs.length 0 lo)
theorem oX (xs:List V) (lo hi:Option Int):(fL xs lo hi).length≤xs.length:=by
 unfold fL
 rw [List.length_take,List.length_drop]
 omega
def Fh (K:Frag):V→Option Int→Option Int→Hp→VK→Prop:=fun x lo hi H Q=>∃ a xs,x=.ref a∧SqT K H a xs ∧
 ¬ (HT.sIx xs.length 0 lo=0∧HT.sIx xs.length xs.length hi=xs.length)∧∀ p,H p=none→Q (.ref p) (upd H p (.tup (fL xs lo hi)))
theorem Cq:SlR X (Fh X.K):=by
 intro pins s σ H x v vl vu lo hi sl Q I rx hs pl pu h
 obtain ⟨a,xs,rfl,hx,hw,q⟩:=h
 cases rx
 obtain ⟨its,r,ht,hz⟩:=I.tuple hx
 have hlen:its.toArray.size=xs.length:=by rw [List.size_toArray]; exact r.length.symm
 refine ⟨"tuple",_,PyProof.Rows.slot_tuple_getitem.lookup,ht.typeIs,?_⟩
 refine HT.vZ ht hs pl pu (by rw [hlen]; exact hw) ?_ (by rw [hlen]; exact hz)
 rw [hlen]
 refine ⟨.ref s.heap.objs.size,_,I.laid (t':=s.toks) (o:=.tup (fL xs lo hi)) (fun b ob q=>Heap.get?_push_of_some _ q) (Nat.le_refl _) ?_,rfl,q _ (I.hok.fresh (Nat.le_refl _))⟩
 exact ⟨Nat.le_trans (oX xs lo hi) hz,_,(r.drop (HT.sIx xs.length 0 lo)).take (HT.sIx xs.length xs.length hi - HT.sIx xs.length 0 lo),IsTup.new _ _⟩
def D9 (K:Frag):R2:=fun x y H Q=>∃ a b xs ys,x=.ref a∧y=.ref b∧SqT K H a xs∧SqT K H b ys∧xs≠[]∧xs.length + ys.length≤sizeLine ∧
 (ys=[]→Q (.ref a) H)∧(ys≠[]→∀ p,H p=none→Q (.ref p) (upd H p (.tup (xs++ys))))
theorem Vals.nil_iff {xs:List V} {us:List Value} (r:Vals xs us):us=[]↔xs=[]:=by
 cases r with
 | nil=>simp
 | cons _ _=>simp
theorem Bw:OpR X (binaryOp .Add) (D9 X.K):=by
 intro pins s σ H x y v u Q I rx ry h
 obtain ⟨a,b,xs,ys,rfl,rfl,ha,hb,hx,hz,q1,q2⟩:=h
 cases rx
 cases ry
 obtain ⟨its,r1,p1,_⟩:=I.tuple ha
 obtain ⟨its2,r2,p2,_⟩:=I.tuple hb
 refine HT.BW p1 p2 (fun z=>hx (r1.nil_iff.mp z)) (fun z=>⟨.ref a,H,I,rfl,q1 (r2.nil_iff.mp z)⟩) (fun z=>?_) (by rw [← r1.length,← r2.length]; exact hz)
 refine ⟨.ref s.heap.objs.size,_,I.laid (t':=s.toks) (o:=.tup (xs++ys)) (fun b ob q=>Heap.get?_push_of_some _ q) (Nat.le_refl _) ?_,rfl,q2 (fun w=>z (r2.nil_iff.mpr w)) _ (I.hok.fresh (Nat.le_refl _))⟩
 exact ⟨by rw [List.length_append]; exact hz,_,r1.append r2,IsTup.new _ _⟩
end
def ixN (n:Nat) (i:Int):Option Nat:=if 0≤i then (if i < n then some i.toNat else none) else if -(n:Int)≤i then some (i + n).toNat else none
def atI {α:Type} (xs:List α) (i:Int):Option α:=(ixN xs.length i).bind fun j=>xs[j]?
theorem sG {n:Nat} {i:Int} {j:Nat} (h:ixN n i=some j):seqIndex? i n=some j∧j < n∧-(n:Int)≤i∧i < n:=by
 unfold ixN at h
 by_cases h0:0≤i
 ·rw [if_pos h0] at h
  by_cases h1:i < n
  ·rw [if_pos h1] at h
   have e:i.toNat=j:=Option.some.inj h
   exact ⟨by rw [seqIndex_of h0 h1,e],by omega,by omega,h1⟩
  ·rw [if_neg h1] at h; cases h
 ·rw [if_neg h0] at h
  by_cases h1 : -(n:Int)≤i
  ·rw [if_pos h1] at h
   have e:(i + n).toNat=j:=Option.some.inj h
   exact ⟨by rw [seqIndex_neg (by omega) h1,e],by omega,h1,by omega⟩
  ·rw [if_neg h1] at h; cases h
theorem nj {α:Type} {xs:List α} {i:Int} {v:α} (h:atI xs i=some v):∃ j,seqIndex? i xs.length=some j∧xs[j]? = some v∧j < xs.length∧-(xs.length:Int)≤i∧i < xs.length:=by
 unfold atI at h
 cases e:ixN xs.length i with
 | none=>rw [e] at h; cases h
 | some j=>
  rw [e] at h
  obtain ⟨h1,h2,h3,h4⟩:=sG e
  exact ⟨j,h1,h,h2,h3,h4⟩
theorem kP {α:Type} {xs:List α} {j:Nat} {v:α} (h:xs[j]? = some v):atI xs (j:Int)=some v:=by
 have hj:j < xs.length:=(List.getElem?_eq_some_iff.mp h).1
 have e:ixN xs.length (j:Int)=some j:=by
  unfold ixN
  rw [if_pos (by omega),if_pos (by omega)]; simp
 unfold atI; rw [e]; exact h
def nr (b:Expr):Prop:=∀ o i,subscripted b false o i=operate [o,i] (getItem o i)
def IxR (X:Cx) (r:R2):Prop:=
 ∀ (value slice:Expr) (pins:List (Addr×Obj)) (s:Shared) (σ:St) (H:Hp) (x y:V) (v u:Value) (Q:VK),Inv X pins σ H s→RelV x v→RelV y u→r x y H Q →
  subscripted slice false v u=operate [v,u] (getItem v u)→wpAny (model X.prog X.w) X.A (subscriptTail value slice v u) (EP X pins σ Q) X.xe s
def MtR (X:Cx) (id:String) (r:V→List V→Hp→VK→Prop):Prop:=
 ∀ (pins:List (Addr×Obj)) (s:Shared) (σ:St) (H:Hp) (x:V) (xs:List V) (v:Value) (us:List Value) (Q:VK),Inv X pins σ H s→RelV x v→Vals xs us→r x xs H Q →
  wpAny (model X.prog X.w) X.A (call (.builtin id) (v::us)) (EP X pins σ Q) X.xe s
section
variable {X:Cx} {a b:Expr} {ta tb:TE} {pos:Pos}
theorem IxR.or {r r':R2} (h:IxR X r) (h':IxR X r'):IxR X (fun x y H Q=>r x y H Q∨r' x y H Q):=by
 intro value slice pins s σ H x y v u Q I rx ry q hs
 rcases q with q | q
 ·exact h value slice pins s σ H x y v u Q I rx ry q hs
 ·exact h' value slice pins s σ H x y v u Q I rx ry q hs
theorem MtR.or {id:String} {r r':V→List V→Hp→VK→Prop} (h:MtR X id r) (h':MtR X id r'):MtR X id (fun x xs H Q=>r x xs H Q∨r' x xs H Q):=by
 intro pins s σ H x xs v us Q I rx rs q
 rcases q with q | q
 ·exact h pins s σ H x xs v us Q I rx rs q
 ·exact h' pins s σ H x xs v us Q I rx rs q
theorem lu {r:R2} (hr:IxR X r) (ha:PE X a ta) (hb:PE X b tb) (hs:nr b):PE X (.Subscript a b pos) (tOp r ta tb):=by
 intro pins s σ H Q I h
 exact Subscript_ (oH ha hb I h fun v u s2 x y H2 I2 rx ry q=>hr a b pins s2 σ H2 x y v u Q I2 rx ry q (hs _ _))
def vA (K:Frag):R2:=fun x y H Q=>∃ p xs i v,x=.ref p∧y=.int i∧SqL K H p xs∧atI xs i=some v∧Q v H
def vy (K:Frag):R2:=fun x y H Q=>∃ p xs i v,x=.ref p∧y=.int i∧SqT K H p xs∧atI xs i=some v∧Q v H
def vz:R2:=fun x y H Q=>∃ z i c,x=.str z∧y=.int i∧z.length≤sizeLine∧atI z.cps.toList i=some c∧Q (.str ⟨#[c]⟩) H
theorem ix_list:IxR X (vA X.K):=by
 intro value slice pins s σ H x y v u Q I rx ry h hs
 obtain ⟨p,xs,i,z,rfl,rfl,hq,he,q⟩:=h
 cases rx
 obtain ⟨t,rfl⟩:=ry
 obtain ⟨its,r,pl,hz⟩:=I.list hq
 obtain ⟨j,h1,h2,h3,h4,h5⟩:=nj he
 obtain ⟨w,ew,rw'⟩:=r.get h2
 have hl:=r.length
 have hn:=gO
 have fin:EP X pins σ Q w s:=⟨z,H,I,rw',q⟩
 by_cases h0:0≤i
 ·have hj:i.toNat=j:=by
   rw [seqIndex_of h0 h5] at h1
   exact Option.some.inj h1
  exact item_listR pl.isList h0 (by omega) (by rw [hj]; simpa using ew) fin hs
 ·have hj:(i + (its.toArray.size:Int)).toNat=j:=by
   rw [seqIndex_neg (by omega) h4] at h1
   rw [List.size_toArray,← hl]
   exact Option.some.inj h1
  exact subscriptTail_builtinR (x:=w) pl.isList.typeIs slot_list_getitem.lookup
   (wpAny_getItem_list_neg (Q:=fun r s'=>r=w∧EP X pins σ Q r s') pl.isList (by omega) (by rw [List.size_toArray] <;> omega) (by omega) (by rw [hj]; simpa using ew) ⟨rfl,fin⟩) hs
theorem ix_tup:IxR X (vy X.K):=by
 intro value slice pins s σ H x y v u Q I rx ry h hs
 obtain ⟨p,xs,i,z,rfl,rfl,hq,he,q⟩:=h
 cases rx
 obtain ⟨t,rfl⟩:=ry
 obtain ⟨its,r,pl,hz⟩:=I.tuple hq
 obtain ⟨j,h1,h2,h3,h4,h5⟩:=nj he
 obtain ⟨w,ew,rw'⟩:=r.get h2
 have hl:=r.length
 have hn:=gO
 have fin:EP X pins σ Q w s:=⟨z,H,I,rw',q⟩
 exact subscriptTail_builtinR (x:=w) pl.typeIs slot_tuple_getitem.lookup
  (getItem_tuple (j:=j) (Q:=fun r s'=>r=w∧EP X pins σ Q r s') pl (by omega) (by omega) (by rw [List.size_toArray,← hl]; exact h1) (by simpa using ew) ⟨rfl,fin⟩) hs
theorem C5:IxR X vz:=by
 intro value slice pins s σ H x y v u Q I rx ry h hs
 obtain ⟨z,i,c,rfl,rfl,hz,he,q⟩:=h
 obtain ⟨t,rfl⟩:=rx
 obtain ⟨t',rfl⟩:=ry
 obtain ⟨j,h1,h2,h3,h4,h5⟩:=nj he
 have hl:z.cps.toList.length=z.length:=by simp [Str.length]
 rw [hl] at h1 h4 h5
 have hn:=gO
 exact tail_any (typeIs_str s z t) slot_str_getitem.lookup (getItem_str (c:=c) (by
  have e1:decide (i < -(2 ^ 63:Int))=false:=decide_eq_false (by omega)
  have e2:decide (i≥2 ^ 63)=false:=decide_eq_false (by omega)
  rw [e1,e2,Bool.or_false]) (by rw [h1]; simpa using h2) ⟨.str ⟨#[c]⟩,H,I.tok _,⟨_,rfl⟩,q⟩) hs
def rIx (K:Frag):R2:=fun x y H Q=>vA K x y H Q∨vy K x y H Q∨vz x y H Q
theorem nT:IxR X (rIx X.K):=ix_list.or (ix_tup.or C5)
theorem yF (its:List Value) (n j:Nat) (u:Value):Obj.mapSeq (·.setIfInBounds j u) { cls:=.type "list",data:=.seq its.toArray n } = { cls:=.type "list",data:=.seq (its.set j u).toArray n }:=by simp [Obj.mapSeq]
theorem Inv.lst {pins:List (Addr×Obj)} {σ:St} {H:Hp} {s:Shared} {p:Addr} {xs:List V} (I:Inv X pins σ H s) (h:H p=some (.lst xs)) :
  ∃ (its:List Value) (n:Nat),Vals xs its∧s.heap.get? p=some { cls:=.type "list",data:=.seq its.toArray n }∧xs.length≤sizeLine:=by
 obtain ⟨z,its,n,r,e⟩:=I.hok p _ h
 exact ⟨its,n,r,e,z⟩
theorem Inv.lstUpd {pins:List (Addr×Obj)} {σ:St} {H:Hp} {s:Shared} {p:Addr} {xs ys:List V} {its its':List Value} {n n':Nat} {f:Obj→Obj} (I:Inv X pins σ H s) (h:H p=some (.lst xs))
  (ho:s.heap.get? p=some { cls:=.type "list",data:=.seq its.toArray n }) (hf:f { cls:=.type "list",data:=.seq its.toArray n } = { cls:=.type "list",data:=.seq its'.toArray n' }) (r:Vals ys its') (hz:ys.length≤sizeLine) (t:Nat) :
  Inv X pins σ (upd H p (.lst ys)) { s with heap:=s.heap.update p f,toks:=t }:=by
 have e:(s.heap.update p f).get? p=some { cls:=.type "list",data:=.seq its'.toArray n' }:=by
  rw [Heap.get?_update_self f ho (by rw [hf] <;> rfl),hf]
 refine I.write (x:=p) (e:=p) (by rw [h]; trivial) (.inl rfl) (fun b u hb q=>(Heap.get?_update_other _ _ (Ne.symm hb)).trans q) ⟨_,e⟩ ?_
 exact ⟨hz,its',n',r,e⟩
def D8:V→V→V→Hp→(Hp→Prop)→Prop:=fun o i v H Q=>∃ p xs k j,o=.ref p∧i=.int k∧H p=some (.lst xs)∧ixN xs.length k=some j∧Q (upd H p (.lst (xs.set j v)))
theorem set_list:vS X D8:=by
 intro pins s σ H o i v ov iv u Q I ro ri rv h
 obtain ⟨p,xs,k,j,rfl,rfl,hp,hj,q⟩:=h
 cases ro
 obtain ⟨t,rfl⟩:=ri
 obtain ⟨its,n,r,ho,hz⟩:=I.lst hp
 obtain ⟨h1,h2,h3,h4⟩:=sG hj
 have hl:=r.length
 have hn:=gO
 have I':Inv X pins σ (upd H p (.lst (xs.set j v))) { s with heap:=s.heap.update p (Obj.mapSeq (·.setIfInBounds j u)) }:=
  I.lstUpd hp ho (yF its n j u) (r.set rv j) (by rw [List.length_set]; exact hz) s.toks
 by_cases h0:0≤k
 ·have hk:k.toNat=j:=by
   rw [seqIndex_of h0 h4] at h1
   exact Option.some.inj h1
  exact PySem.W.ki_setAt ho h0 (by omega) (by rw [List.size_toArray,← hl]; exact h4) (by rw [hk]; exact ⟨_,I',q⟩)
 ·have hk:(k + (its.toArray.size:Int)).toNat=j:=by
   rw [seqIndex_neg (by omega) h3] at h1
   rw [List.size_toArray,← hl]
   exact Option.some.inj h1
  exact PySem.W.ki_setBack ho (by omega) (by rw [List.size_toArray,← hl]; exact h3) (by omega) (by rw [hk]; exact ⟨_,I',q⟩)
theorem xi (lo hi:Option Int) (n:Nat):(sliceBounds lo hi none n).1=((HT.sIx n 0 lo:Nat):Int)∧(sliceBounds lo hi none n).2.1=((HT.sIx n n hi:Nat):Int)∧(sliceBounds lo hi none n).2.2=1:=by
 refine ⟨?_,?_,rfl⟩
 ·cases lo with
  | none=>simp [sliceBounds,HT.sIx]
  | some i=>
   simp only [sliceBounds,HT.sIx,Option.getD_none,show (1:Int) > 0 by decide,if_true]
   by_cases h:i < 0
   ·simp only [h,if_true] <;> omega
   ·simp only [h,if_false] <;> omega
 ·cases hi with
  | none=>simp [sliceBounds,HT.sIx]
  | some i=>
   simp only [sliceBounds,HT.sIx,Option.getD_none,show (1:Int) > 0 by decide,if_true]
   by_cases h:i < 0
   ·simp only [h,if_true] <;> omega
   ·simp only [h,if_false] <;> omega
theorem wM (its:List Value) (lo hi:Option Int):slicePick its.toArray lo hi none=((its.drop (HT.sIx its.length 0 lo)).take (HT.sIx its.length its.length hi - HT.sIx its.length 0 lo)).toArray:=by
 obtain ⟨h1,h2,h3⟩:=xi lo hi its.toArray.size
 unfold slicePick
 rw [h1,h2,h3]
 simp only [sliceRange_one,pick_run,List.size_toArray] <;> rfl
def Fj (K:Frag):V→Option Int→Option Int→Hp→VK→Prop:=fun x lo hi H Q=>∃ a xs,x=.ref a∧SqL K H a xs∧∀ p,H p=none→Q (.ref p) (upd H p (.lst (fL xs lo hi)))
theorem sl_list:SlR X (Fj X.K):=by
 intro pins s σ H x v vl vu lo hi sl Q I rx hs pl pu h
 obtain ⟨a,xs,rfl,hx,q⟩:=h
 cases rx
 obtain ⟨its,r,ht,hz⟩:=I.list hx
 have hlen:=r.length
 refine ⟨"list",_,slot_list_getitem.lookup,ht.isList.typeIs,?_⟩
 refine wpAny_getItem_list_slice ht.isList hs pl pu .none (by simp) ?_ (by rw [List.size_toArray] <;> omega)
 rw [wM,← hlen]
 refine ⟨.ref s.heap.objs.size,_,I.laid (t':=s.toks) (o:=.lst (fL xs lo hi)) (fun b ob q=>Heap.get?_push_of_some _ q) (Nat.le_refl _) ?_,rfl,q _ (I.hok.fresh (Nat.le_refl _))⟩
 exact ⟨Nat.le_trans (oX xs lo hi) hz,_,0,(r.drop (HT.sIx xs.length 0 lo)).take (HT.sIx xs.length xs.length hi - HT.sIx xs.length 0 lo),Heap.get?_push_size _ rfl⟩
def eL:V→Bool
 | .non=>true
 | .bl _=>true
 | .int _=>true
 | .str _=>true
 | _=>false
def eqV:V→V→Bool
 | .non,.non=>true
 | .bl a,.bl b=>a == b
 | .bl a,.int b=>(if a then 1 else 0) == b
 | .int a,.bl b=>a == (if b then 1 else 0)
 | .int a,.int b=>a == b
 | .str a,.str b=>a == b
 | _,_=>false
theorem Dm {A:Around} {s:Shared} {y x:V} {u v:Value} (ry:RelV y u) (rx:RelV x v) (fy:eL y=true) (fx:eL x=true):SeqAt.EqAt A s u v (eqV y x):=by
 cases y with
 | non=>
  cases ry
  cases x with
  | non=>cases rx; exact SeqAt.EqAt.same _
  | bl b=>cases rx; exact SeqAt.EqAt.none_bool b
  | int b=>obtain ⟨t,rfl⟩:=rx; exact SeqAt.EqAt.none_int b t
  | str b=>obtain ⟨t,rfl⟩:=rx; exact SeqAt.EqAt.none_str b t
  | _=>exact absurd (show false=true from fx) Bool.false_ne_true
 | bl a=>
  cases ry
  cases x with
  | non=>cases rx; exact SeqAt.EqAt.bool_none a
  | bl b=>cases rx; exact SeqAt.EqAt.bool_bool a b
  | int b=>obtain ⟨t,rfl⟩:=rx; exact SeqAt.EqAt.bool_int a b t
  | str b=>obtain ⟨t,rfl⟩:=rx; exact SeqAt.EqAt.bool_str a b t
  | _=>exact absurd (show false=true from fx) Bool.false_ne_true
 | int a=>
  obtain ⟨t',rfl⟩:=ry
  cases x with
  | non=>cases rx; exact SeqAt.EqAt.int_none a t'
  | bl b=>cases rx; exact SeqAt.EqAt.int_bool a t' b
  | int b=>obtain ⟨t,rfl⟩:=rx; exact SeqAt.EqAt.int_int a t' b t
  | str b=>obtain ⟨t,rfl⟩:=rx; exact SeqAt.EqAt.int_str a t' b t
  | _=>exact absurd (show false=true from fx) Bool.false_ne_true
 | str a=>
  obtain ⟨t',rfl⟩:=ry
  cases x with
  | non=>cases rx; exact SeqAt.EqAt.str_none a t'
  | bl b=>cases rx; exact SeqAt.EqAt.str_bool a t' b
  | int b=>obtain ⟨t,rfl⟩:=rx; exact SeqAt.EqAt.str_int a t' b t
  | str b=>obtain ⟨t,rfl⟩:=rx; exact SeqAt.EqAt.str_str a t' b t
  | _=>exact absurd (show false=true from fx) Bool.false_ne_true
 | _=>exact absurd (show false=true from fy) Bool.false_ne_true
def eqU (x:V) (u:Value):Bool:=match u with
 | .none=>eqV .non x
 | .bool b=>eqV (.bl b) x
 | .int i _=>eqV (.int i) x
 | .str z _=>eqV (.str z) x
 | _=>false
theorem ug {x y:V} {u:Value} (r:RelV y u) (f:eL y=true):eqU x u=eqV y x:=by
 cases y with
 | non=>cases r; rfl
 | bl b=>cases r; rfl
 | int i=>obtain ⟨t,rfl⟩:=r; rfl
 | str z=>obtain ⟨t,rfl⟩:=r; rfl
 | _=>exact absurd (show false=true from f) Bool.false_ne_true
theorem js {x:V}:∀ {xs:List V} {us:List Value},Vals xs us→xs.all eL=true→us.any (eqU x)=xs.any fun y=>eqV y x
 | _,_,.nil,_=>rfl
 | y::xs,u::us,.cons r t,f=>by
  rw [List.all_cons,Bool.and_eq_true] at f
  rw [List.any_cons,List.any_cons,ug r f.1,js t f.2]
theorem jh {A:Around} {s:Shared} {x:V} {v:Value} (rx:RelV x v) (fx:eL x=true):∀ {xs:List V} {us:List Value},Vals xs us→xs.all eL=true→∀ u∈us,SeqAt.EqAt A s u v (eqU x u)
 | _,_,.nil,_=>fun u hu=>by cases hu
 | y::xs,u::us,.cons r t,f=>fun u' hu=>by
  rw [List.all_cons,Bool.and_eq_true] at f
  rcases List.mem_cons.mp hu with rfl | hu
  ·rw [ug r f.1]; exact Dm r rx f.1 fx
  ·exact jh rx fx t f.2 u' hu
def inV (x:V) (xs:List V):Bool:=xs.any fun y=>eqV y x
def rIn (K:Frag) (neg:Bool):R2:=fun x y H Q=>∃ p xs,y=.ref p∧(SqL K H p xs∨SqT K H p xs)∧eL x=true∧xs.all eL=true∧Q (.bl (if neg then !inV x xs else inV x xs)) H
theorem qc:OpR X (compareOp .In) (rIn X.K false):=by
 intro pins s σ H x y v u Q I rx ry h
 obtain ⟨p,xs,rfl,hq,fx,fs,q⟩:=h
 cases ry
 rcases hq with hq | hq
 ·obtain ⟨its,r,pl,hz⟩:=I.list hq
  refine SeqAt.in_listAt (eqU x) pl.isList (fun w hw=>jh rx fx r fs w (by simpa using hw)) ⟨.bl _,H,I,rfl,?_⟩
  rw [show its.toArray.any (eqU x)=its.any (eqU x) by simp,js r fs]
  exact q
 ·obtain ⟨its,r,pl,hz⟩:=I.tuple hq
  refine SeqAt.in_tupleAt (eqU x) pl (fun w hw=>jh rx fx r fs w (by simpa using hw)) ⟨.bl _,H,I,rfl,?_⟩
  rw [show its.toArray.any (eqU x)=its.any (eqU x) by simp,js r fs]
  exact q
theorem xp:OpR X (compareOp .NotIn) (rIn X.K true):=by
 intro pins s σ H x y v u Q I rx ry h
 obtain ⟨p,xs,rfl,hq,fx,fs,q⟩:=h
 cases ry
 rcases hq with hq | hq
 ·obtain ⟨its,r,pl,hz⟩:=I.list hq
  refine SeqAt.notIn_listAt (eqU x) pl.isList (fun w hw=>jh rx fx r fs w (by simpa using hw)) ⟨.bl _,H,I,rfl,?_⟩
  rw [show its.toArray.any (eqU x)=its.any (eqU x) by simp,js r fs]
  exact q
 ·obtain ⟨its,r,pl,hz⟩:=I.tuple hq
  refine SeqAt.notIn_tupleAt (eqU x) pl (fun w hw=>jh rx fx r fs w (by simpa using hw)) ⟨.bl _,H,I,rfl,?_⟩
  rw [show its.toArray.any (eqU x)=its.any (eqU x) by simp,js r fs]
  exact q
theorem call_len_seq:CallR X (.builtin "len") (fun xs H Q=>∃ p ys,xs=[.ref p]∧(SqL X.K H p ys∨SqT X.K H p ys)∧Q (.int ys.length) H):=by
 intro pins s σ H xs us Q I r h
 obtain ⟨p,ys,rfl,hq,q⟩:=h
 obtain ⟨u,rfl,rx⟩:=vals1 r
 cases rx
 have hn:=gO
 rcases hq with hq | hq
 ·obtain ⟨its,r',pl,hz⟩:=I.list hq
  have hlen:=r'.length
  exact Calls.call_len_list pl.isList (by simp only [List.size_toArray] <;> omega) ⟨.int ys.length,H,I.tok _,⟨s.toks + 1,by rw [List.size_toArray,hlen]⟩,q⟩
 ·obtain ⟨its,r',pl,hz⟩:=I.tuple hq
  have hlen:=r'.length
  exact len_tuple pl (by simp only [List.size_toArray] <;> omega) ⟨.int ys.length,H,I.tok _,⟨s.toks + 1,by rw [List.size_toArray,hlen]⟩,q⟩
theorem call_len_str:CallR X (.builtin "len") (fun xs H Q=>∃ z,xs=[.str z]∧z.length≤sizeLine∧Q (.int z.length) H):=by
 intro pins s σ H xs us Q I r h
 obtain ⟨z,rfl,hz,q⟩:=h
 obtain ⟨u,rfl,t,rfl⟩:=vals1 r
 have hn:=gO
 exact len_str (by omega) ⟨.int z.length,H,I.tok _,⟨_,rfl⟩,q⟩
theorem CallR.or {f:Value} {r r':List V→Hp→VK→Prop} (h:CallR X f r) (h':CallR X f r'):CallR X f (fun xs H Q=>r xs H Q∨r' xs H Q):=by
 intro pins s σ H xs us Q I rs q
 rcases q with q | q
 ·exact h pins s σ H xs us Q I rs q
 ·exact h' pins s σ H xs us Q I rs q
theorem call_list_of:CallR X (.type "list") (fun xs H Q=>∃ p ys,xs=[.ref p]∧(SqL X.K H p ys∨SqT X.K H p ys)∧∀ l,H l=none→Q (.ref l) (upd H l (.lst ys))):=by
 intro pins s σ H xs us Q I r h
 obtain ⟨p,ys,rfl,hq,q⟩:=h
 obtain ⟨u,rfl,rx⟩:=vals1 r
 cases rx
 have fin:∀ (its:List Value),Vals ys its→ys.length≤sizeLine→∀ (h':Heap) (c':Nat),(∀ b o',s.heap.get? b=some o'→h'.get? b=some o') →
   h'.get? s.heap.objs.size=some { cls:=.type "list",dict:=none,data:=.seq its.toArray c',slots:=#[] }→EP X pins σ Q (.ref s.heap.objs.size) { s with heap:=h' }:=fun its r' hz h' c' kp e=>
  ⟨.ref s.heap.objs.size,_,I.laid (t':=s.toks) kp (Nat.le_refl _) (show ObjOk X.prog X.w _ h' _ (.lst ys) from ⟨hz,its,c',r',e⟩),rfl,q _ (I.hok.fresh (Nat.le_refl _))⟩
 rcases hq with hq | hq
 ·obtain ⟨its,r',pl,hz⟩:=I.list hq
  have hlen:=r'.length
  obtain ⟨o,ho,hc,n,hd⟩:=pl.isList
  exact call_list_seq p (.inl rfl) ho hc hd (fun h' c' kp e=>fin its r' hz h' c' kp e) (by simp only [List.size_toArray] <;> omega)
 ·obtain ⟨its,r',pl,hz⟩:=I.tuple hq
  have hlen:=r'.length
  obtain ⟨o,ho,hc,n,hd⟩:=pl
  exact call_list_seq p (.inr rfl) ho hc hd (fun h' c' kp e=>fin its r' hz h' c' kp e) (by simp only [List.size_toArray] <;> omega)
theorem xg:CallR X (.type "tuple") (fun xs H Q=>∃ p ys,xs=[.ref p]∧((SqL X.K H p ys∧∀ l,H l=none→Q (.ref l) (upd H l (.tup ys)))∨(SqT X.K H p ys∧Q (.ref p) H))):=by
 intro pins s σ H xs us Q I r h
 obtain ⟨p,ys,rfl,h⟩:=h
 obtain ⟨u,rfl,rx⟩:=vals1 r
 cases rx
 rcases h with ⟨hq,q⟩ | ⟨hq,q⟩
 ·obtain ⟨its,r',pl,hz⟩:=I.list hq
  have hlen:=r'.length
  refine call_tuple_list pl.isList (fun h' kp=>?_) (by simp only [List.size_toArray] <;> omega)
  have I1:Inv X pins σ H { s with heap:=h' }:=I.kept (t':=s.toks) kp
  have I2:Inv X pins σ (upd H h'.objs.size (.tup ys)) { s with heap:=h'.push { cls:=.type "tuple",data:=.seq its.toArray } }:=
   I1.laid (t':=s.toks) (fun b o e=>Heap.get?_push_of_some _ e) (Nat.le_refl _) (show ObjOk X.prog X.w _ _ _ (.tup ys) from ⟨hz,its,r',IsTup.new _ _⟩)
  exact ⟨.ref h'.objs.size,_,I2,rfl,q _ (I1.hok.fresh (Nat.le_refl _))⟩
 ·obtain ⟨its,r',pl,hz⟩:=I.tuple hq
  exact call_tuple_same pl ⟨.ref p,H,I,rfl,q⟩
def tyV (K:Frag) (T:String) (x:V) (H:Hp):Prop:=match x with
 | .str _=>T = "str"
 | .int _=>T = "int"
 | .ref p=>(T = "list"∧∃ xs,SqL K H p xs)∨(T = "tuple"∧∃ o,K.lookup p=some o∧o.cls=.type "tuple"∧o.dict=none) ∨
   (T = "dict"∧((∃ kvs,H p=some (.dK kvs))∨∃ kvs,H p=some (.dT kvs)))∨(T = "set"∧∃ S n,H p=some (.set S n))
 | _=>False
theorem tw {pins:List (Addr×Obj)} {σ:St} {H:Hp} {s:Shared} {T:String} {x:V} {v:Value} (I:Inv X pins σ H s) (r:RelV x v) (ty:tyV X.K T x H) :
  s.TypeIs v T∧∀ a,v=.ref a→∃ ob,s.heap.get? a=some ob∧ob.dict=none:=by
 cases x with
 | str z=>
  obtain ⟨t,rfl⟩:=r
  cases (show T = "str" from ty)
  exact ⟨typeIs_str s z t,fun _ e=>nomatch e⟩
 | int i=>
  obtain ⟨t,rfl⟩:=r
  cases (show T = "int" from ty)
  exact ⟨typeIs_int s i t,fun _ e=>nomatch e⟩
 | ref p=>
  cases r
  rcases ty with ⟨rfl,xs,hq⟩ | ⟨rfl,o,hk,hc,hd⟩ | ⟨rfl,hk⟩ | ⟨rfl,S,n,hk⟩
  ·obtain ⟨its,_,pl,_⟩:=I.list hq
   refine ⟨pl.isList.typeIs,fun a e=>?_⟩
   cases e
   obtain ⟨o,n,e,c,hd,_⟩:=pl
   exact ⟨o,e,hd⟩
  ·refine ⟨⟨o,I.kIn p o hk,hc⟩,fun a e=>?_⟩
   cases e
   exact ⟨o,I.kIn _ o hk,hd⟩
  ·have z:∃ o,s.heap.get? p=some o∧o.ExactDict:=by
    rcases hk with ⟨kvs,hk⟩ | ⟨kvs,hk⟩
    ·obtain ⟨_,_,_,_,o,_,_,e,ex,_⟩:=I.hok p _ hk
     exact ⟨o,e,ex⟩
    ·obtain ⟨_,_,_,_,o,_,_,e,ex,_⟩:=I.hok p _ hk
     exact ⟨o,e,ex⟩
   obtain ⟨o,e,ex⟩:=z
   refine ⟨⟨o,e,ex.1⟩,fun a e2=>?_⟩
   cases e2
   exact ⟨o,e,ex.2.1⟩
  ·obtain ⟨o,_,_,_,e,ex,_⟩:=I.hok p _ hk
   refine ⟨⟨o,e,ex.1⟩,fun a e2=>?_⟩
   cases e2
   exact ⟨o,e,ex.2.1⟩
 | _=>exact False.elim ty
def Fc (K:Frag) (T:String) (r:V→List V→Hp→VK→Prop) (to:TE):TE:=fun σ H Q=>to σ H fun x H1=>tyV K T x H1∧r x [] H1 Q
def tBM (K:Frag) (T:String) (r:V→List V→Hp→VK→Prop) (to:TE) (t:TA):TE:=fun σ H Q=>to σ H fun x H1=>tyV K T x H1∧t σ H1 fun xs H2=>r x xs H2 Q
variable {o e:Expr} {es:List Expr} {to:TE} {t:TA} {name:Str} {apos cpos:Pos} {T id:String} {r:V→List V→Hp→VK→Prop}
theorem tQ (pa:PlainAttrs T) (slot:Slot T name id) (hty:typeOf (.builtin id)=pure (.type "method_descriptor")) (hm:MtR X id r) (ho:PE X o to)
  (hbase:attributeBase o name X.env (eval o X.env)=eval o X.env:=by rfl) (hline:(apos.endLine == cpos.line)=true:=by rfl):PE X (.Call (.Attribute o name apos) [] [] cpos) (Fc X.K T r to):=by
 intro pins s σ H Q I h
 refine wpAny_Call_method0_late hbase hline (thn (ho pins s σ H _ I h) fun v s1 ⟨x,H1,I1,r1,ty,q1⟩=>?_)
 obtain ⟨h1,h2⟩:=tw I1 r1 ty
 exact ⟨T,id,pa,slot,hty,h1,h2,Calls.callWith_builtin rfl (PySem.evalArgs_none (hm pins s1 σ H1 x [] v [] Q I1 r1 .nil q1))⟩
theorem gh (pa:PlainAttrs T) (slot:Slot T name id) (hty:typeOf (.builtin id)=pure (.type "method_descriptor")) (hm:MtR X id r) (ho:PE X o to) (ha:PA X (e::es) t)
  (hbase:attributeBase o name X.env (eval o X.env)=eval o X.env:=by rfl)
  (hfew:((backTo cpos (starEach (e::es) X.env)).all (fun x=>!x.1) && (backToKw cpos (keywordEach [] X.env)).all (fun x=>x.1.isSome)
   && decide ((e::es).length + ([]:List Keyword).length + (if ([]:List Keyword).isEmpty then 0 else 1) < 30))=true:=by rfl)
  (hline:(apos.endLine == cpos.line)=true:=by rfl) (hs:starEach (e::es) X.env=(false,eval e X.env)::starEach es X.env:=by rfl) (hplain:(backTo cpos (starEach es X.env)).any (·.1)=false:=by rfl) :
  PE X (.Call (.Attribute o name apos) (e::es) [] cpos) (tBM X.K T r to t):=by
 intro pins s σ H Q I h
 refine wpAny_Call_method_late hbase hfew hline rfl (thn (ho pins s σ H _ I h) fun v s1 ⟨x,H1,I1,r1,ty,q1⟩=>?_)
 obtain ⟨h1,h2⟩:=tw I1 r1 ty
 refine ⟨T,id,pa,slot,hty,h1,h2,?_⟩
 have hA:=ha cpos pins s1 σ H1 _ I1 q1
 rw [hs] at hA ⊢
 refine Calls.callWith_builtin (by show (false || (backTo cpos (starEach es X.env)).any (·.1))=false; rw [hplain] <;> rfl) (Calls.evalArgs_plain ?_)
 exact thn hA fun us s2 ⟨vs,H2,I2,r2,q2⟩=>hm pins s2 σ H2 x vs v us Q I2 r1 r2 q2
end
def MtM (X:Cx) (id:String) (r:V→List V→Hp→VK→Prop):Prop:=
 ∀ (pins:List (Addr×Obj)) (s:Shared) (σ:St) (H:Hp) (x:V) (xs:List V) (v:Value) (us:List Value) (Q:VK),Inv X pins σ H s→RelV x v→Vals xs us→r x xs H Q →
  wpAny (model X.prog X.w) X.A (call (.builtin id) (v::us)) (EP X pins σ Q) X.xe s
theorem Vals.one:∀ {x:V} {us:List Value},Vals [x] us→∃ u,us=[u]∧RelV x u
 | _,_,.cons r .nil=>⟨_,rfl,r⟩
theorem Vals.zero:∀ {us:List Value},Vals [] us→us=[]
 | _,.nil=>rfl
theorem Vals.reverse {xs:List V} {us:List Value} (h:Vals xs us):Vals xs.reverse us.reverse:=by
 induction h with
 | nil=>exact .nil
 | cons r t ih=>rw [List.reverse_cons,List.reverse_cons]; exact Vals.append ih (.cons r .nil)
theorem Vals.rep {xs:List V} {us:List Value} (h:Vals xs us):∀ k:Nat,Vals (List.replicate k xs).flatten (List.replicate k us).flatten
 | 0=>.nil
 | k + 1=>by
  rw [List.replicate_succ,List.replicate_succ,List.flatten_cons,List.flatten_cons]
  exact Vals.append h (Vals.rep h k)
theorem foldl_rep (its:List Value):∀ (k:Nat) (acc:List Value),
  List.foldl (fun x1 x2=>x1++x2) acc.toArray (List.replicate k its.toArray)=(acc++(List.replicate k its).flatten).toArray
 | 0,acc=>by simp
 | k + 1,acc=>by
  have e:acc.toArray++its.toArray=(acc++its).toArray:=by simp
  have e2:(acc++its)++(List.replicate k its).flatten=acc++(List.replicate (k + 1) its).flatten:=by
   rw [List.replicate_succ,List.flatten_cons,List.append_assoc]
  rw [← e2,← foldl_rep its k (acc++its),← e,List.replicate_succ,List.foldl_cons]
section
variable {X:Cx} {pins:List (Addr×Obj)} {σ:St} {H:Hp} {s:Shared} {l b:Addr} {xs ys zs:List V}
theorem Inv.lset {its its':List Value} {n:Nat} {f:Array Value→Array Value} {t':Nat} (I:Inv X pins σ H s) (hH:H l=some (.lst xs))
  (e:s.heap.get? l=some { cls:=.type "list",data:=.seq its.toArray n }) (hf:f its.toArray=its'.toArray) (hv:Vals ys its') (hz:ys.length≤sizeLine) :
  Inv X pins σ (upd H l (.lst ys)) { s with heap:=s.heap.update l (Obj.mapSeq f),toks:=t' }:=by
 have q:=PySem.IsL.update e f
 rw [hf] at q
 refine I.write (x:=l) (e:=l) (by rw [hH]; exact trivial) (.inl rfl) (fun b' u hb hu=>(Heap.get?_update_other s.heap (Obj.mapSeq f) (Ne.symm hb)).trans hu) ⟨_,q⟩ ?_
 exact ⟨hz,its',_,hv,q⟩
theorem Inv.lnew {its:List Value} {t':Nat} (I:Inv X pins σ H s) (hv:Vals ys its) (hz:ys.length≤sizeLine) :
  Inv X pins σ (upd H s.heap.objs.size (.lst ys)) { s with heap:=s.heap.push { cls:=.type "list",data:=.seq its.toArray },toks:=t' }:=I.laid (fun _ _ q=>Heap.get?_push_of_some _ q) (Nat.le_refl _) ⟨hz,its,0,hv,Heap.get?_push_size _ rfl⟩
theorem Inv.fresh (I:Inv X pins σ H s):H s.heap.objs.size=none:=I.hok.fresh (Nat.le_refl _)
theorem Inv.lstM (I:Inv X pins σ H s) (hH:H l=some (.lst xs)):xs.length≤sizeLine∧∃ (its:List Value) (n:Nat),Vals xs its∧xs.length=its.length∧s.heap.get? l=some { cls:=.type "list",data:=.seq its.toArray n }:=by
 obtain ⟨z,its,n,r,e⟩:=I.hok l _ hH
 exact ⟨z,its,n,r,r.length,e⟩
theorem Ag {n:Nat} (h:n≤sizeLine):Builtin.List.listTooLong n=false:=by
 unfold Builtin.List.listTooLong
 exact decide_eq_false (by omega)
end
section
variable {X:Cx}
def Be:V→List V→Hp→VK→Prop:=fun x vs H Q=>∃ l xs y,x=.ref l∧vs=[y]∧H l=some (.lst xs)∧xs.length < sizeLine∧Q .non (upd H l (.lst (xs++[y])))
theorem zf:MtM X "list.append" Be:=by
 intro pins s σ H x vs v us Q I rx rv h
 obtain ⟨l,xs,y,rfl,rfl,hH,hz,q⟩:=h
 cases rx
 obtain ⟨u,rfl,ru⟩:=rv.one
 obtain ⟨z,its,n,r,hl,e⟩:=I.lstM hH
 refine call_meets F.slot_list_append ⟨_,e,rfl⟩ F.entry_list_append (F.args_list_append_2 _ _) (PySem.list_append l its.toArray n u (by rw [List.size_toArray]; omega)) ⟨e,?_⟩
 refine ⟨.non,_,I.lset (its':=its++[u]) hH e (by simp) (r.append (.cons ru .nil)) ?_,rfl,q⟩
 rw [List.length_append,List.length_singleton]
 omega
theorem len_rep {α:Type} (xs:List α) (k:Nat):(List.replicate k xs).flatten.length=k * xs.length:=by
 induction k with
 | zero=>simp
 | succ k ih=>rw [List.replicate_succ,List.flatten_cons,List.length_append,ih,Nat.succ_mul,Nat.add_comm]
end
section
variable {prog:Program} {w:World} {A:Around} {E:Value→Shared→Prop} {s:Shared}
end
section
variable {X:Cx}
end
section
variable {κ:Type} [DecidableEq κ]
def bo (kvs:List (κ×V)) (k:κ):Option V:=(kvs.find? fun kv=>decide (kv.1=k)).map (·.2)
def putK (kvs:List (κ×V)) (k:κ) (v:V):List (κ×V):=if (kvs.any fun kv=>decide (kv.1=k))=true then kvs.map (fun kv=>if kv.1=k then (kv.1,v) else kv) else kvs++[(k,v)]
theorem mz {p:κ×V} {r:List (κ×V)} {k:κ} (e:p.1=k):bo (p::r) k=some p.2:=by simp [bo,List.find?_cons,e]
theorem mB {p:κ×V} {r:List (κ×V)} {k:κ} (e:¬ p.1=k):bo (p::r) k=bo r k:=by simp [bo,List.find?_cons,e]
theorem mC (k:κ):∀ kvs:List (κ×V),(kvs.any fun kv=>decide (kv.1=k))=(bo kvs k).isSome
 | []=>rfl
 | p::r=>by
  rw [List.any_cons]
  by_cases e:p.1=k
  ·simp only [mz e,decide_eq_true e,Bool.true_or,Option.isSome_some]
  ·rw [mB e,decide_eq_false e,Bool.false_or]; exact mC k r
theorem oS (kvs:List (κ×V)) (k:κ) (v:V):(putK kvs k v).length≤kvs.length + 1:=by
 unfold putK
 split
 ·rw [List.length_map]; omega
 ·rw [List.length_append,List.length_cons,List.length_nil]; omega
theorem zZ {kvs:List (κ×V)} {k:κ} (v:V) (h:bo kvs k=none):putK kvs k v=kvs++[(k,v)]:=by
 unfold putK
 rw [mC,h]
 exact if_neg (by decide)
theorem RelO.isSome_eq {o:Option V} {u:Option Value} (r:RelO o u):o.isSome=u.isSome:=by
 cases o with
 | none=>cases u with
  | none=>rfl
  | some _=>exact (show False from r).elim
 | some _=>cases u with
  | none=>exact (show False from r).elim
  | some _=>rfl
theorem KV.val {kvs:List (κ×V)} {vs:List (κ×Value)} (r:KV kvs vs) (k:κ):RelO (bo kvs k) (valueAt vs k):=by
 unfold KV at r
 induction r with
 | nil=>exact True.intro
 | @cons p q ps qs h t ih=>
  obtain ⟨h1,h2⟩:=h
  by_cases e:p.1=k
  ·have e':q.1=k:=h1.symm.trans e
   have b:valueAt (q::qs) k=some q.2:=by simp [valueAt,List.find?_cons,e']
   rw [mz e,b]; exact h2
  ·have e':¬ q.1=k:=fun z=>e (h1.trans z)
   have b:valueAt (q::qs) k=valueAt qs k:=by simp [valueAt,List.find?_cons,e']
   rw [mB e,b]; exact ih
theorem KV.any {kvs:List (κ×V)} {vs:List (κ×Value)} (r:KV kvs vs) (k:κ):(kvs.any fun kv=>decide (kv.1=k))=vs.any fun kv=>decide (kv.1=k):=by
 unfold KV at r
 induction r with
 | nil=>rfl
 | cons h t ih=>rw [List.any_cons,List.any_cons,ih,h.1]
theorem KV.repl {kvs:List (κ×V)} {vs:List (κ×Value)} (r:KV kvs vs) (k:κ) {y:V} {u:Value} (ry:RelV y u) :
  KV (kvs.map fun kv=>if kv.1=k then (kv.1,y) else kv) (vs.map fun kv=>if kv.1=k then (kv.1,u) else kv):=by
 unfold KV at r ⊢
 induction r with
 | nil=>exact .nil
 | @cons p q ps qs h t ih=>
  rw [List.map_cons,List.map_cons]
  refine .cons ?_ ih
  obtain ⟨h1,h2⟩:=h
  by_cases e:p.1=k
  ·rw [if_pos e,if_pos (h1.symm.trans e)]; exact ⟨h1,ry⟩
  ·rw [if_neg e,if_neg (fun z=>e (h1.trans z))]; exact ⟨h1,h2⟩
theorem KV.put {kvs:List (κ×V)} {vs:List (κ×Value)} (r:KV kvs vs) (k:κ) {y:V} {u:Value} (ry:RelV y u):KV (putK kvs k y) (stored vs k u):=by
 unfold putK stored
 rw [r.any k]
 by_cases e:(vs.any fun kv=>decide (kv.1=k))=true
 ·rw [if_pos e,if_pos e]; exact r.repl k ry
 ·rw [if_neg e,if_neg e]; exact Paired.snoc r ⟨rfl,ry⟩
theorem KV.keys {kvs:List (κ×V)} {vs:List (κ×Value)} (r:KV kvs vs):kvs.map (·.1)=vs.map (·.1):=by
 unfold KV at r
 induction r with
 | nil=>rfl
 | cons h t ih=>rw [List.map_cons,List.map_cons,ih,h.1]
theorem KV.length {kvs:List (κ×V)} {vs:List (κ×Value)} (r:KV kvs vs):kvs.length=vs.length:=Paired.length r
end
theorem lE {P:Program} {w:World} {k:Key} {u:Value} (r:RelV (kV k) u):(bu P w).is k u=true:=by
 cases k with
 | inl i=>obtain ⟨t,e⟩:=(show ∃ t,u=Value.int i t from r); subst e; exact ye P w i t
 | inr x=>obtain ⟨t,e⟩:=(show ∃ t,u=Value.str x t from r); subst e; exact yd P w x t
theorem qk {P:Program} {w:World}:∀ {ks:List Key} {us:List Value},Vals (ks.map kV) us→ItemsAre (bu P w) ks us
 | [],_,r=>by rw [List.map_nil] at r; cases r; exact .nil
 | k::ks,_,r=>by
  rw [List.map_cons] at r
  cases r with
  | cons h t=>exact .cons (lE h) (qk t)
abbrev KT (H:Hp):List (List Key×V)→List (List Key×Addr×Value)→Prop:=Paired fun p q=>p.1=q.1∧H q.2.1=some (.tup (p.1.map kV))∧RelV p.2 q.2.2
theorem KT.val {H:Hp} {kvs:List (List Key×V)} {xs:List (List Key×Addr×Value)} (r:KT H kvs xs) (k:List Key):RelO (bo kvs k) ((atKey xs k).map (·.2)):=by
 induction r with
 | nil=>exact True.intro
 | @cons p q ps qs h t ih=>
  obtain ⟨h1,_,h2⟩:=h
  by_cases e:p.1=k
  ·have e':q.1=k:=h1.symm.trans e
   have b:atKey (q::qs) k=some q.2:=by simp [atKey,List.find?_cons,e']
   rw [mz e,b]; exact h2
  ·have e':¬ q.1=k:=fun z=>e (h1.trans z)
   have b:atKey (q::qs) k=atKey qs k:=by simp [atKey,List.find?_cons,e']
   rw [mB e,b]; exact ih
theorem KT.repl {H:Hp} {kvs:List (List Key×V)} {xs:List (List Key×Addr×Value)} (r:KT H kvs xs) (k:List Key) {y:V} {u:Value} (ry:RelV y u) :
  KT H (kvs.map fun kv=>if kv.1=k then (kv.1,y) else kv) (xs.map (putAt k u)):=by
 induction r with
 | nil=>exact .nil
 | @cons p q ps qs h t ih=>
  rw [List.map_cons,List.map_cons]
  refine .cons ?_ ih
  obtain ⟨h1,h2,h3⟩:=h
  unfold putAt
  by_cases e:p.1=k
  ·rw [if_pos e,if_pos (h1.symm.trans e)]; exact ⟨h1,h2,ry⟩
  ·rw [if_neg e,if_neg (fun z=>e (h1.trans z))]; exact ⟨h1,h2,h3⟩
theorem KT.put {H:Hp} {kvs:List (List Key×V)} {xs:List (List Key×Addr×Value)} (r:KT H kvs xs) (k:List Key) {b:Addr} {y:V} {u:Value} (hb:H b=some (.tup (k.map kV))) (ry:RelV y u) :
  KT H (putK kvs k y) (storedH xs k b u):=by
 have e:(kvs.any fun kv=>decide (kv.1=k))=(atKey xs k).isSome:=by
  rw [mC,(r.val k).isSome_eq,Option.isSome_map]
 unfold putK storedH
 rw [e]
 by_cases q:(atKey xs k).isSome=true
 ·rw [if_pos q,if_pos q]; exact r.repl k ry
 ·rw [if_neg q,if_neg q]; exact Paired.snoc r ⟨rfl,hb,ry⟩
theorem KT.keeps {H H':Hp} {kvs:List (List Key×V)} {xs:List (List Key×Addr×Value)} (r:KT H kvs xs) (ht:∀ b ys,H b=some (.tup ys)→H' b=some (.tup ys)):KT H' kvs xs:=Paired.mapP r fun _ _ z=>⟨z.1,ht _ _ z.2.1,z.2.2⟩
section
variable {P:Program} {w:World} {H:Hp} {h:Heap} {a:Addr}
theorem uG {u:HO} (ok:HOk P w H h) (e:Rd H a u):ObjOk P w H h a u:=e.ok ok
theorem eO {kvs:List (Key×V)} (ok:HOk P w H h) (e:Rd H a (.dK kvs)):kvs.length≤sizeLine∧(a == sysModules)=false∧∃ vs,KV kvs vs∧h.DictOf (bu P w) a vs:=show ObjOk P w H h a (.dK kvs) from uG ok e
theorem u6 {kvs:List (Key×V)} (ok:HOk P w H h) (e:H a=some (.dK kvs)):kvs.length≤sizeLine∧(a == sysModules)=false∧∃ vs,KV kvs vs∧h.DictOf (bu P w) a vs:=eO ok (.inl e)
theorem kW {ks:List Key} (ok:HOk P w H h) (e:H a=some (.tup (ks.map kV))):(tupleKind (bu P w)).is h ks a:=by
 obtain ⟨_,its,r,o,h1,h2,n,h3⟩:=(show ObjOk P w H h a (.tup (ks.map kV)) from ok a _ e)
 exact ⟨o,its.toArray,n,h1,h2,h3,by simpa using qk r⟩
theorem lG {kvs:List (List Key×V)} (ok:HOk P w H h) (e:Rd H a (.dT kvs)):kvs.length≤sizeLine∧(a == sysModules)=false ∧
  ∃ xs,KT H kvs xs∧h.DictOfH (tupleKind (bu P w)) a xs:=by
 obtain ⟨z,y,xs,r,o,es,ep,h1,h2,h3,h4,h5⟩:=(show ObjOk P w H h a (.dT kvs) from uG ok e)
 refine ⟨z,y,xs,r,o,es,ep,h1,h2,h3,h4,fun x hx=>?_,h5⟩
 have all:∀ {l:List (List Key×V)} {m:List (List Key×Addr×Value)},KT H l m→∀ x∈m,(tupleKind (bu P w)).is h x.1 x.2.1:=by
  intro l m q
  induction q with
  | nil=>intro x hx; exact nomatch hx
  | @cons p q ps qs hq t ih=>
   intro x hx
   rcases List.mem_cons.mp hx with e | hx
   ·subst e
    exact kW ok (by rw [← hq.1]; exact hq.2.1)
   ·exact ih x hx
 exact all r x hx
theorem EL {kvs:List (List Key×V)} (ok:HOk P w H h) (e:H a=some (.dT kvs)):kvs.length≤sizeLine∧(a == sysModules)=false ∧
  ∃ xs,KT H kvs xs∧h.DictOfH (tupleKind (bu P w)) a xs:=lG ok (.inl e)
end
def DGet (H:Hp) (a:Addr) (y:V) (r:Option V):Prop:=(∃ kvs k,Rd H a (.dK kvs)∧y=kV k∧r=bo kvs k)∨∃ kvs k b,Rd H a (.dT kvs)∧y=.ref b∧H b=some (.tup (k.map kV))∧r=bo kvs k
def DPut (H:Hp) (a:Addr) (y v:V) (H':Hp):Prop:=
 (∃ kvs k,H a=some (.dK kvs)∧y=kV k∧kvs.length < sizeLine∧H'=upd H a (.dK (putK kvs k v))) ∨
 ∃ kvs k b,H a=some (.dT kvs)∧y=.ref b∧H b=some (.tup (k.map kV))∧kvs.length < sizeLine∧H'=upd H a (.dT (putK kvs k v))
theorem DPut.k {H:Hp} {a:Addr} {kvs:List (Key×V)} {k:Key} {v:V} (e:H a=some (.dK kvs)) (hl:kvs.length < sizeLine):DPut H a (kV k) v (upd H a (.dK (putK kvs k v))):=.inl ⟨kvs,k,e,rfl,hl,rfl⟩
section
variable {X:Cx} {pins:List (Addr×Obj)} {σ:St} {H:Hp} {s:Shared} {a:Addr} {y v:V} {u r:Value} {o:Option V} {A:Around} {E:Value→Shared→Prop}
theorem Inv.big (I:Inv X pins σ H s):sysModules < s.heap.objs.size:=by
 have h:mainGlobals < s.heap.objs.size:=(I.mod.glob.keeps I.bk).lt
 exact Nat.lt_trans (by decide) h
theorem zH {Q:Value→Shared→Prop} (hu:A.units + 1 < cLine) (I:Inv X pins σ H s) (g:DGet H a y (some v)) (ry:RelV y u) (h:∀ w' s',Inv X pins σ H s'→RelV v w'→Q w' s') :
  wpAny (model X.prog X.w) A (getItem (.ref a) u) Q E s:=by
 rcases g with ⟨kvs,k,e,ey,l⟩ | ⟨kvs,k,b,e,ey,eb,l⟩
 ·subst ey
  obtain ⟨z,hd,vs,rel,dd⟩:=eO I.hok e
  obtain ⟨w',hw,rw'⟩:=RelO.some_of (v:=v) (o:=valueAt vs k) (by rw [l]; exact rel.val k)
  exact wpAny_getItem_of (lE ry) dd.mapOf hw (h w' _ (I.tok _) rw')
 ·subst ey
  cases (show u=Value.ref b from ry)
  obtain ⟨z,hd,xs,rel,dd⟩:=lG I.hok e
  obtain ⟨w',hw,rw'⟩:=RelO.some_of (v:=v) (o:=(atKey xs k).map (·.2)) (by rw [l]; exact rel.val k)
  obtain ⟨p,hp,hp2⟩:=Option.map_eq_some_iff.mp hw
  refine wpAny_getItem_heap (tupleKind_room_in1 hu) (kW I.hok eb) dd hp ?_
  rw [hp2]
  exact h w' _ (I.tok _) rw'
theorem FB {Q:Value→Shared→Prop} (hu:A.units + 1 < cLine) (I:Inv X pins σ H s) (g:DGet H a y o) (ry:RelV y u) (h:∀ s',Inv X pins σ H s'→Q (.bool o.isSome) s') :
  wpAny (model X.prog X.w) A (compareOp .In u (.ref a)) Q E s:=by
 rcases g with ⟨kvs,k,e,ey,l⟩ | ⟨kvs,k,b,e,ey,eb,l⟩
 ·subst ey
  obtain ⟨z,hd,vs,rel,dd⟩:=eO I.hok e
  refine wpAny_in_of (lE ry) hd dd.mapOf ?_
  rw [← (rel.val k).isSome_eq,← l]
  exact h _ (I.tok _)
 ·subst ey
  cases (show u=Value.ref b from ry)
  obtain ⟨z,hd,xs,rel,dd⟩:=lG I.hok e
  refine wpAny_in_heap (tupleKind_room_in1 hu) (kW I.hok eb) hd dd ?_
  have q:=(rel.val k).isSome_eq
  rw [Option.isSome_map] at q
  rw [← q,← l]
  exact h _ (I.tok _)
theorem ng {h':Heap} {t':Nat} {ob:HO} (I:Inv X pins σ H s) (mu:Mut (H a)) (hs:Heap.SameBut a s.heap h') (he:∃ q,h'.get? a=some q) (new:ObjOk X.prog X.w (upd H a ob) h' a ob) :
  Inv X pins σ (upd H a ob) { s with heap:=h',toks:=t' }:=I.write (x:=a) (e:=a) mu (.inl rfl) (fun b q hb z=>(hs.2 b hb).trans z) he new
theorem nX {P:Program} {w:World} {H':Hp} {h':Heap} {kvs:List (Key×V)} {vs:List (Key×Value)} (z:kvs.length≤sizeLine) (hd:(a == sysModules)=false) (rel:KV kvs vs) (dd:h'.DictOf (bu P w) a vs) :
  ObjOk P w H' h' a (.dK kvs):=⟨z,hd,vs,rel,dd⟩
theorem zG {H':Hp} {Q:Unit→Shared→Prop} (hu:A.units + 1 < cLine) (I:Inv X pins σ H s) (g:DPut H a y v H') (ry:RelV y u) (rv:RelV v r) (h:∀ s',Inv X pins σ H' s'→Q () s') :
  wpAny (model X.prog X.w) A (setItem (.ref a) u r) Q E s:=by
 rcases g with ⟨kvs,k,e,ey,l,eH⟩ | ⟨kvs,k,b,e,ey,eb,l,eH⟩
 ·subst ey eH
  obtain ⟨z,hd,vs,rel,dd⟩:=u6 I.hok e
  have hz:vs.length≤sizeLine:=by rw [← rel.length]; exact z
  have hl:(putK kvs k v).length≤sizeLine:=by have:=oS kvs k v; omega
  refine wpAny_setItem_pairs (hsz:=hz) (lE ry) dd fun h' dd' hs=>h _ ?_
  have he:∃ q,h'.get? a=some q:=let ⟨q,_,_,hq,_⟩:=dd'; ⟨q,hq⟩
  exact ng I (by rw [e]; exact True.intro) hs he (nX hl hd (rel.put k rv) dd')
 ·subst ey eH
  cases (show u=Value.ref b from ry)
  obtain ⟨z,hd,xs,rel,dd⟩:=EL I.hok e
  have hz:xs.length≤sizeLine:=by rw [← Paired.length rel]; exact z
  have hl:(putK kvs k v).length≤sizeLine:=by have:=oS kvs k v; omega
  refine wpAny_setItem_heap (hsz:=hz) (tupleKind_room_in1 hu) (kW I.hok eb) dd fun h' dd' hs=>h _ ?_
  obtain ⟨q,es,ep,hq,h2,h3,h4,_,h5⟩:=dd'
  refine ng I (by rw [e]; exact True.intro) hs ⟨q,hq⟩ ⟨hl,hd,_,(rel.put k eb rv).keeps fun c ys ec=>?_,q,es,ep,hq,h2,h3,h4,h5⟩
  rw [aK (Et ec e (fun z=>nomatch z))]
  exact ec
end
section
variable {X:Cx} {pins:List (Addr×Obj)} {σ:St} {H:Hp} {s:Shared} {a:Addr} {kvs:List (Key×V)} {k:Key} {u:Value} {A:Around} {E:Value→Shared→Prop}
theorem EQ {Q:Value→Shared→Prop} (I:Inv X pins σ H s) (e:Rd H a (.dK kvs)) (h:∀ t s',Inv X pins σ H s'→Q (.int kvs.length t) s'):wpAny (model X.prog X.w) A (call (.builtin "len") [.ref a]) Q E s:=by
 obtain ⟨z,hd,vs,rel,dd⟩:=eO I.hok e
 refine call_len_dict hd dd (by rw [← rel.length]; rw [sizeLine_eq] at z; omega) ?_
 rw [← rel.length]
 exact h _ _ (I.tok _)
end
theorem oW {X:Cx} {pins:List (Addr×Obj)} {σ:St} {H:Hp} {s:Shared} {a:Addr} {y:V} {o:Option V} (I:Inv X pins σ H s) (g:DGet H a y o):s.TypeIs (.ref a) "dict":=by
 rcases g with ⟨kvs,k,e,_,_⟩ | ⟨kvs,k,b,e,_,_,_⟩
 ·obtain ⟨_,_,vs,_,dd⟩:=eO I.hok e
  exact dd.typeIs
 ·obtain ⟨_,_,xs,_,dd⟩:=lG I.hok e
  exact dd.typeIs
def D6 (td ty tv:TE):TS:=fun D σ H=>tv σ H fun v H1=>td σ H1 fun x H2=>ty σ H2 fun y H3=>∃ a H4,x=.ref a∧DPut H3 a y v H4∧D.nx σ H4
section
variable {X:Cx} {o i e value:Expr} {pos pos' tpos:Pos} {td ty tv:TE}
theorem Bm (hu:X.A.units + 1 < cLine) (ho:PE X o td) (hi:PE X i ty) (hv:PE X value tv) (hs:swapsWith value (some (.Subscript o i pos')) pos.line X.env=pure false) :
  PS X (.Assign [.Subscript o i pos'] value pos) (D6 td ty tv):=by
 intro pins s σ H D I h
 refine wpAny_Assign_Subscript (thn (hv pins s σ H _ I h) fun r s1 ⟨v,H1,I1,rv,q1⟩=>thn (ho pins s1 σ H1 _ I1 q1) fun u s2 ⟨x,H2,I2,rx,q2⟩=>thn (hi pins s2 σ H2 _ I2 q2) fun iv s3 ⟨y,H3,I3,ry,a,H4,ex,g,q3⟩=>?_) hs
 subst ex
 obtain rfl:u=Value.ref a:=rx
 exact zG hu I3 g ry rv fun s4 I4=>⟨σ,H4,I4,q3⟩
end
theorem AH {P:Program} {w:World} {H:Hp} (h:Heap) (hb:sysModules < h.objs.size):ObjOk P w H (h.push { cls:=.type "dict",data:=.dict #[] }) h.objs.size (.dK []):=⟨Nat.zero_le _,beq_eq_false_iff_ne.mpr (Ne.symm (Nat.ne_of_lt hb)),[],.nil,Heap.DictOf.new h⟩
def Ck:TE:=fun _ H Q=>∀ p,H p=none→Q (.ref p) (upd H p (.dK []))
section
variable {X:Cx} {pos:Pos}
theorem qW:PE X (.Dict [] [] pos) Ck:=fun pins s σ H Q I h=>
 wpAny_Dict_empty ⟨.ref s.heap.objs.size,_,I.laid (a:=s.heap.objs.size) (o:=.dK []) (t':=s.toks) (fun _ _ q=>Heap.get?_push_of_some _ q) (Nat.le_refl _) (AH s.heap I.big),rfl,h _ (I.hok.fresh (Nat.le_refl _))⟩
end
def ny:List (TE×TE)→St→Hp→(List (V×V)→Hp→Prop)→Prop
 | [],_,H,Q=>Q [] H
 | (tk,tv)::r,σ,H,Q=>tk σ H fun x H1=>tv σ H1 fun y H2=>ny r σ H2 fun ps H3=>Q ((x,y)::ps) H3
abbrev VV:List (V×V)→List (Value×Value)→Prop:=Paired fun p q=>RelV p.1 q.1∧RelV p.2 q.2
def PPs (X:Cx) (pos:Pos) (keys:List (Option Expr)) (values:List Expr) (trs:List (TE×TE)):Prop:=
 ∀ (pins:List (Addr×Obj)) (s:Shared) (σ:St) (H:Hp) (Q:List (V×V)→Hp→Prop),Inv X pins σ H s→ny trs σ H Q →
  wpAny (model X.prog X.w) X.A (evalPairs (pairTrees keys values X.env pos)) (fun vs s'=>∃ ps H',Inv X pins σ H' s'∧VV ps vs∧Q ps H') X.xe s
structure M1 (X:Cx) (o:Expr) (m:Str) (apos:Pos) (e:Expr) (cpos:Pos):Prop where
 base:attributeBase o m X.env (eval o X.env)=eval o X.env
 few:((backTo cpos (starEach [e] X.env)).all (fun x=>!x.1) && (backToKw cpos (keywordEach [] X.env)).all (fun x=>x.1.isSome)
  && decide (([e]:List Expr).length + ([]:List Keyword).length + (if ([]:List Keyword).isEmpty then 0 else 1) < 30))=true
 line:(apos.endLine == cpos.line)=true
 trees:backTo cpos (starEach [e] X.env)=[(false,eval e X.env)]
structure M2 (X:Cx) (o:Expr) (m:Str) (apos:Pos) (e f:Expr) (cpos:Pos):Prop where
 base:attributeBase o m X.env (eval o X.env)=eval o X.env
 few:((backTo cpos (starEach [e,f] X.env)).all (fun x=>!x.1) && (backToKw cpos (keywordEach [] X.env)).all (fun x=>x.1.isSome)
  && decide (([e,f]:List Expr).length + ([]:List Keyword).length + (if ([]:List Keyword).isEmpty then 0 else 1) < 30))=true
 line:(apos.endLine == cpos.line)=true
 trees:backTo cpos (starEach [e,f] X.env)=[(false,eval e X.env),(false,eval f X.env)]
section
variable {X:Cx} {pins:List (Addr×Obj)} {σ:St} {H:Hp} {s:Shared} {a:Addr} {y d:V} {u r:Value} {o:Option V} {A:Around} {E:Value→Shared→Prop}
end
section
variable {X:Cx} {o e f:Expr} {apos cpos:Pos} {td ty tx:TE}
end
section
variable {X:Cx} {pins:List (Addr×Obj)} {σ:St} {H:Hp} {s:Shared} {a:Addr} {kvs:List (Key×V)} {A:Around} {E:Value→Shared→Prop}
theorem AN {Q:Value→Shared→Prop} (I:Inv X pins σ H s) (e:Rd H a (.dK kvs)) (h:∀ p s',H p=none→Inv X pins σ (upd H p (.dK kvs)) s'→Q (.ref p) s'):wpAny (model X.prog X.w) A (call (.type "dict") [.ref a]) Q E s:=by
 obtain ⟨z,hd,vs,rel,dd⟩:=eO I.hok e
 refine kt_call_dict hd dd (by rw [← rel.length]; exact z) fun h' dd' hs=>?_
 refine h _ _ (I.hok.fresh (Nat.le_refl _)) (I.laid (a:=s.heap.objs.size) (o:=.dK kvs) (t':=s.toks) (fun b q hq=>?_) (Nat.le_refl _) (nX z (beq_eq_false_iff_ne.mpr (Ne.symm (Nat.ne_of_lt I.big))) rel dd'))
 exact (hs.2 b (Nat.ne_of_lt (Heap.lt_size hq))).trans (Heap.get?_push_of_some _ hq)
end
section
variable {X:Cx} {pins:List (Addr×Obj)} {σ:St} {H:Hp} {s:Shared} {a:Addr} {y:V} {u:Value} {A:Around} {E:Value→Shared→Prop}
end
end L2
namespace Att
open PySem PySem.W PySem.Calls PyProof.Rows
theorem wy {P:Params} {h:Heap}:∀ (ns:List Int) (vs:List Value),WellAll P h vs (ns.map WData.int)→IntsAre vs ns:=by
 intro ns
 induction ns with
 | nil=>
  intro vs w
  rw [List.map_nil] at w
  cases w
  exact .nil
 | cons n ns ih=>
  intro vs w
  rw [List.map_cons] at w
  cases w with
  | cons a b=>
   cases a
   exact .cons _ _ (ih _ b)
theorem yX {l:OpenLaw} {n:Nat} (hn:l.most=some n) {P:Params} {h:Heap} {args:List WData} {vals:List Value}
  (hpre:l.row.toRowW.claim.pre args=true) (hwl:WellAll P h vals args) :
  ∃ a vs ns,vals=[Value.ref a]∧args=[WData.list (ns.map WData.int)]∧h.get? a=some { cls:=.type "list",data:=.seq vs.toArray }∧IntsAre vs ns∧ns.length≤n:=by
 have hsh:WShape.hasAll [] args [.list .int]=true:=(pre_splitW hpre).1
 have hc:l.pre.holds [] { args:=args } = true:=(pre_splitW hpre).2
 obtain ⟨d,r,rfl,h1,h2⟩:=hasAllW_cons hsh
 obtain rfl:=hasAllW_nil h2
 obtain ⟨xs,rfl,h3⟩:=hasW_list h1
 obtain ⟨ns,rfl⟩:=items_int h3
 have hlen:ns.length≤n:=by
  unfold OpenLaw.pre at hc
  have h4:(WTm.not (.lt (.lit (.int (n:Int))) (.len (.arg 0)))).holds [] { args:=[.list (ns.map .int)] } = true:=by
   have h4:=(holds_andW hc).1
   rw [hn] at h4
   exact h4
  have h5:=condW_of h4 (w_not (w_lt w_lit (w_len_list (w_arg rfl))))
  rw [List.length_map] at h5
  refine Nat.le_of_not_lt fun q=>?_
  have q':(n:Int) < ((ns.length:Nat):Int):=by omega
  first
   | (rw [decide_eq_true q'] at h5; exact absurd h5 (by decide))
   | (simp at h5; omega)
 cases hwl with
 | cons w1 w2=>
  cases w2
  cases w1 with
  | list ho hall=>exact ⟨_,_,ns,rfl,rfl,ho,wy ns _ hall,hlen⟩
theorem y3 (l:OpenLaw) (args:List WData):l.row.toRowW.claim.post args (.bool true) args=true:=
 postW_of (r:=l.row.toRowW) (X:=(true == true))
  (show WShape.has [] (.bool true) .bool=true by first | rfl | decide | simp [WShape.has,WShape.arms,WShape.armsAll])
  (show (WTm.eq .res (.lit (.bool true))).value [] { args:=args,res:=some (.bool true),after:=args } = some (.bool (true == true)) from w_eq_bool (w_res rfl) w_lit) rfl
theorem yi {l:OpenLaw} {n:Nat} {q:Program} {loose:List Str} {XP:(Str→Option Value)→Heap→Prop} {YP:World→Heap→Prop} {d:DefRec}
  (hn:l.most=some n) (hdf:d.params.defaults=[])
  (call:∀ (w:World) (s₀ s₁:Shared) (mg mb:Str→Option Value) (fa:Addr) (o:Obj) (pm cd doc:Value) (a:Addr) (vs:List Value) (ns:List Int),
   Ground q loose [] XP w s₀ mg mb s₁.heap→YP w s₁.heap →
   s₁.heap.get? fa=some o→o.data=.func (docDef d.name d.params d.body d.scope pm cd doc)→s₁.heap.CodeRec cd d.name→mg d.name=some (.ref fa) →
   s₁.heap.get? a=some { cls:=.type "list",data:=.seq vs.toArray }→IntsAre vs ns→ns.length≤n→s₁.gens = #[] →
   codeAny (model l.prog w) callerA (.call (.ref fa) ⟨[.ref a],[]⟩) (fun r s'=>r=.ok (.ret (.bool true))∧OldK s₁.heap s'.heap∧s'.os=s₁.os∧AllBare s'.gens) s₁) :
  WalkO q loose XP YP l.row.toRowW d [] (fun f vs=>PySem.call f vs):=by
 intro w s₀ s₁ mg mb G Y fa o pm cd doc dV kV ho hd hcd hD hmg hg args vals as hpre hlay hrd hwl hlo
 obtain rfl:dV=.none:=Dflts.none hD hdf
 obtain rfl:kV=.none:=Dflts.noKw hD
 obtain ⟨a,vs,ns,rfl,rfl,hobj,hints,hlen⟩:=yX hn hpre hwl
 refine enter_call (codeAny_mono (call w s₀ s₁ mg mb fa o pm cd doc a vs ns G Y ho (fd_plain hd) hcd hmg hobj hints hlen hg) fun r s' hq=>?_)
 obtain ⟨rfl,h2,h3,h4⟩:=hq
 exact ⟨.inl ⟨.bool true,.bool true,[],rfl,fun _=>rfl,.bool true,y3 l _,fun _=>⟨List.Pairwise.nil,fun _ hm=>(nomatch hm)⟩⟩,h2,h3,h4⟩
section
variable {prog:Program} {w:World} {A:Around} {E:Value→Shared→Prop} {s:Shared} {K:Frag}
end
end Att
namespace L2
open PySem PySem.Spec PyProof.Rows
theorem pR:∀ {vs:List Value} {ns:List Int},IntsAre vs ns→Vals (ns.map V.int) vs
 | _,_,.nil=>.nil
 | _,_,.cons n t h=>.cons ⟨t,rfl⟩ (pR h)
def oM (H:Hp):Prop:=∀ b,H b=none∨∃ o xs,H b=some (.frz o (.lst xs))
theorem Ar {P:Program} {w:World} {K:Frag} {mg mb:Str→Option Value} {CX:CXT} {k:Nat} {fa a:Addr} {fd:FuncData} {x:Str} {sp:Sp} {s₁:Shared} {vs:List Value} {ns:List Int}
  (KX:K.In s₁.heap) (hns:s₁.heap.Ns mainGlobals mg) (hb:s₁.heap.Ns builtinsNs mb) (hbb:∀ x:Str,x≠"__name__"→mb x=bootBuiltins x) (hlim:s₁.heap.NoLimit) (hg:s₁.gens = #[])
  (ha:s₁.heap.get? a=some { cls:=.type "list",data:=.seq vs.toArray }) (hi:IntsAre vs ns) (hl:ns.length≤sizeLine) (hr:Room k callerA)
  (F:∀ base:Heap,K.In base→base.Ns mainGlobals mg→FnOk P w K mg base CX k fa fd [x] sp) (hbind:∀ (s:Shared) (u:Value),BindsTo s fd ⟨[u],[]⟩ [(x,u)])
  (hsp:∀ H:Hp,oM H→SqL K H a (ns.map V.int)→sp [.ref a] H (fun v _=>v=.bl true) fun _ _ _=>False)
  (hCX:∀ H e s',CX [] H s₁ (fun _ _ _=>False) e s'→False) :
  codeAny (model P w) callerA (.call (.ref fa) ⟨[.ref a],[]⟩) (fun r s'=>r=.ok (.ret (.bool true))∧OldK s₁.heap s'.heap∧s'.os=s₁.os∧AllBare s'.gens) s₁:=by
 have rv:=pR hi
 have lenV:=hi.length
 have core:∀ H:Hp,oM H→SqL K H a (ns.map V.int)→HOk P w H s₁.heap→(∀ b,H b≠none→b=a)→(H a≠none→K.lookup a=none) →
   codeAny (model P w) callerA (.call (.ref fa) ⟨[.ref a],[]⟩) (fun r s'=>r=.ok (.ret (.bool true))∧OldK s₁.heap s'.heap∧s'.os=s₁.os∧AllBare s'.gens) s₁:=by
  intro H hO hS hok hA hK
  have base_of:∀ {b:Addr} {o:Obj},s₁.heap.get? b=some o→H b=none→(fJ s₁.heap H).get? b=some o:=fun e n=>Au e n
  have noA:∀ {b:Addr} {o:Obj} {es:Array DictEntry} {ep:Nat},s₁.heap.get? b=some o→o.data=.dict es ep→H b=none:=fun {b o es ep} e d=>by
   cases q:H b with
   | none=>rfl
   | some u=>
    have e':b=a:=hA b (by rw [q]; simp)
    subst e'
    rw [ha] at e; cases e
    have d':Data.seq vs.toArray _=Data.dict es ep:=d
    cases d'
  have nsK:∀ {b:Addr} {m:Str→Option Value},s₁.heap.Ns b m→(fJ s₁.heap H).Ns b m:=fun {b m} ⟨o,es,ep,e,d,r⟩=>⟨o,es,ep,base_of e (noA e d),d,r⟩
  have hKb:K.In (fJ s₁.heap H):=fun b o e=>base_of (KX b o e) (by
   cases q:H b with
   | none=>rfl
   | some u=>
    have e':b=a:=hA b (by rw [q]; simp)
    subst e'
    rw [hK (by rw [q]; simp)] at e; cases e)
  have hM:Mod K mg (fJ s₁.heap H):=⟨hKb,nsK hns,⟨mb,nsK hb,hbb⟩,let ⟨mc,h1,h2⟩:=hlim; ⟨mc,nsK h1,h2⟩⟩
  have e0:Env0 P w K mg (fJ s₁.heap H) callerA [] s₁ H:=⟨rfl,hM,fun b o e=>Bx e,Nat.le_of_eq (zu _ _),trivial,fun b hb=>absurd (show b∈([]:List Addr) from hb) (by simp),hok,.of_eq hg⟩
  refine codeAny_mono ((F _ hKb (nsK hns)).run callerA [] s₁ H ⟨[.ref a],[]⟩ [.ref a] [.ref a] _ _ hr e0 (hbind s₁ (.ref a)) (.cons rfl .nil) (hsp H hO hS)) fun r s' h=>?_
  cases r with
  | error e=>exact (hCX H e s' h).elim
  | ok fl=>
   cases fl with
   | next=>exact False.elim h
   | brk=>exact False.elim h
   | cont=>exact False.elim h
   | ret u=>
    obtain ⟨v,H',os,bare,un,hok',r',q⟩:=h
    have q':v=.bl true:=q
    subst q'
    obtain rfl:u=Value.bool true:=r'
    refine ⟨rfl,OldK.of_keep fun b o e=>?_,os,bare⟩
    cases q:H b with
    | none=>exact un.keep b o e q (by intro z; exact absurd (show b∈([]:List Addr) from z) (by simp)) (by simp)
    | some u=>
     rcases hO b with z | ⟨ob,xs,z⟩
     ·rw [q] at z; cases z
     ·have z2:=un.frzs b ob _ z
      obtain ⟨e1,_⟩:=hok b _ z
      obtain ⟨e2,_⟩:=hok' b _ z2
      rw [e] at e1; cases e1
      exact e2
 cases hk:K.lookup a with
 | some o=>
  have e:=KX a o hk
  rw [ha] at e
  cases e
  refine core (fun _=>none) (fun _=>.inl rfl) (.inr ⟨_,vs.toArray,_,hk,rfl,rfl,rfl,by rw [List.size_toArray,lenV]; exact hl,by simpa using rv⟩) (fun b u z=>by have z':(none:Option HO)=some u:=z; cases z') (fun b z=>absurd rfl z) fun z=>absurd rfl z
 | none=>
  refine core (fun b=>if b=a then some (.frz { cls:=.type "list",data:=.seq vs.toArray } (.lst (ns.map V.int))) else none) (fun b=>?_) (.inl (.inr ⟨{ cls:=.type "list",data:=.seq vs.toArray },if_pos rfl⟩)) (fun b u z=>?_) (fun b z=>?_) fun _=>hk
  ·by_cases hb:b=a
   ·exact .inr ⟨_,_,if_pos hb⟩
   ·exact .inl (if_neg hb)
  ·by_cases hb:b=a
   ·have z':=(if_pos hb).symm.trans z
    cases z'
    subst hb
    exact ⟨ha,by rw [List.length_map]; exact hl,vs,_,rv,ha⟩
   ·have z':=(if_neg hb).symm.trans z
    cases z'
  ·by_cases hb:b=a
   ·exact hb
   ·exact absurd (if_neg hb) z
theorem A4 {l:PySem.W.OpenLaw} {n k:Nat} {q:Program} {loose:List Str} {XP:(Str→Option Value)→Heap→Prop} {YP:World→Heap→Prop} {d:DefRec} {K:Params→Frag} {CX:World→CXT} {sp:World→Sp} {x:Str}
  (hn:l.most=some n) (hn2:n≤sizeLine) (hdf:d.params.defaults=[]) (hr:Room k callerA)
  (hY:∀ (w:World) (h:Heap),YP w h→(K w.params).In h)
  (F:∀ (w:World) (mg:Str→Option Value) (fa:Addr) (h:Heap),(K w.params).In h→h.Ns mainGlobals mg→mg d.name=some (.ref fa) →
   ∃ fd:FuncData,(∀ (s:Shared) (u:Value),BindsTo s fd ⟨[u],[]⟩ [(x,u)]) ∧
    ∀ base:Heap,(K w.params).In base→base.Ns mainGlobals mg→FnOk l.prog w (K w.params) mg base (CX w) k fa fd [x] (sp w))
  (hsp:∀ (w:World) (H:Hp) (a:Addr) (ns:List Int),ns.length≤n→oM H→SqL (K w.params) H a (ns.map V.int)→sp w [.ref a] H (fun v _=>v=.bl true) fun _ _ _=>False)
  (hCX:∀ (w:World) (H:Hp) (s:Shared) (e:Value) (s':Shared),CX w [] H s (fun _ _ _=>False) e s'→False) :
  PySem.W.WalkO q loose XP YP l.row.toRowW d [] (fun f vs=>PySem.call f vs):=by
 refine Att.yi hn hdf fun w s₀ s₁ mg mb fa o pm cd doc a vs ns G Y ho hd hcd hmg hobj hints hlen hg=>?_
 have KX:=hY w _ Y
 obtain ⟨fd,hb,hF⟩:=F w mg fa _ KX G.T.g hmg
 exact Ar KX G.T.g G.T.b G.T.builtins G.T.nolimit hg hobj hints (Nat.le_trans hlen hn2) hr hF hb (fun H hO hS=>hsp w H a ns hlen hO hS) fun H e s'=>hCX w H s₁ e s'
def dD (s:Stmt):Arguments:=match s with
 | .FunctionDef _ a _ _ _ _ _ _ _ _=>a
 | _=>{ posonlyargs:=[],args:=[],vararg:=none,kwonlyargs:=[],kw_defaults:=[],kwarg:=none,defaults:=[] }
def cG (s:Stmt):List Stmt:=match s with
 | .FunctionDef _ _ b _ _ _ _ _ _ _=>b
 | _=>[]
def aE (s:Stmt):Scope:=match s with
 | .FunctionDef _ _ _ _ _ _ sc _ _ _=>sc
 | _=>{ kind:=.function,names:=[],isGenerator:=false,isCoroutine:=false }
abbrev CX0:CXT:=fun _ _ _ _ _ _=>False
abbrev E0:XK:=fun _ _ _=>False
theorem ly {X:Cx}:gT CX0 X E0:=fun _ _ _ _ _ _ _ h=>h.elim
structure Fun (K:Frag) (x qual:Str) (st:Stmt) (f:Addr) (fd:FuncData):Prop where
 ex:∃ (oc:Value) (od:Option Addr) (kV doc pm:Value) (an:Option Addr) (cdv ct:Value) (osl:Array (Option Value)),
  fd=PySem.W.fnOf x qual (dD st) (cG st) (aE st) .none kV doc pm an cdv ct∧K.lookup f=some ⟨oc,od,.func fd,osl⟩∧PySem.W.codeIn K cdv qual=true
 kp:PySem.W.keepIn K (.ref f)=true
section
variable {P:Program} {w:World} {K:Frag} {mg:Str→Option Value} {base:Heap}
theorem Fun.ok {x qual:Str} {st:Stmt} {f:Addr} {fd:FuncData} {N ps:List Str} {k:Nat} {sp:Sp} (F:Fun K x qual st f fd) (S:FnScope N ps (aE st)) (len:∀ vs H Q E,sp vs H Q E→vs.length=ps.length)
  (hbody:∀ (cdv:Value) (A:Around) (outer:List Env) (s:Shared) (H:Hp) (vs:List V) (Q:VK) (E:XK),Room k (A.deeper (envOfC qual (aE st) s.heap.objs.size f cdv))→sp vs H Q E →
   ∃ t,PSs (gs CX0 P w K mg base N qual (aE st) f cdv A outer s H E).nox (cG st) t∧t { nx:=fun _ H'=>Q .non H',rt:=Q } (start N vs) H):FnOk P w K mg base CX0 (k + 1) f fd ps sp:=by
 obtain ⟨oc,od,kV,doc,pm,an,cdv,ct,osl,rfl,lk,hcd⟩:=F.ex
 refine EI lk hcd S len fun A outer s H vs Q E hr hsp=>?_
 obtain ⟨t,h,q⟩:=hbody cdv A outer s H vs Q E hr hsp
 exact ⟨t,h.nox,q⟩
theorem Fun.binds {x qual:Str} {st:Stmt} {f:Addr} {fd:FuncData} {ps:List Str} (F:Fun K x qual st f fd)
  (h:∀ (kV doc pm:Value) (an:Option Addr) (cdv ct:Value) (us:List Value),us.length=ps.length→bindArgs (PySem.W.fnOf x qual (dD st) (cG st) (aE st) .none kV doc pm an cdv ct) ⟨us,[]⟩=pure (ps.zip us)):Binds K fd ps []:=by
 obtain ⟨oc,od,kV,doc,pm,an,cdv,ct,osl,rfl,lk,hcd⟩:=F.ex
 exact .all (h kV doc pm an cdv ct)
theorem kY {x qual:Str} {st:Stmt} {f:Addr} {oc:Value} {od an:Option Addr} {osl:Array (Option Value)} {kV doc pm cdv ct:Value} (l:K.lookup f=some ⟨oc,od,.func (PySem.W.fnOf x qual (dD st) (cG st) (aE st) .none kV doc pm an cdv ct),osl⟩)
  (c:PySem.W.codeIn K cdv qual=true) (k:PySem.W.keepIn K (.ref f)=true):Fun K x qual st f (PySem.W.fnOf x qual (dD st) (cG st) (aE st) .none kV doc pm an cdv ct):=⟨⟨oc,od,kV,doc,pm,an,cdv,ct,osl,rfl,l,c⟩,k⟩
end
section
variable {X:Cx}
theorem pv (i:Nat) {x:Str} {pos:Pos} (hN:X.N[i]? = some x:=by rfl) (hv:Vis X.env.scope x:=by first | exact Or.inl rfl | exact Or.inr (Or.inl rfl) | exact Or.inr (Or.inr rfl)) (hd:(x == ("__debug__" : Str))=false:=by decide)
  (hcd:(x == ("__classdict__" : Str))=false:=by decide):PE X (.Name x pos) (ou i):=CF hN hv hd hcd
end
theorem eS {A B:Prop} (h:B):if false=true then A else B:=by
 rw [if_neg Bool.false_ne_true]
 exact h
theorem eR {A B:Prop} (h:A):if true=true then A else B:=by
 rw [if_pos rfl]
 exact h
end L2
set_option maxHeartbeats 4000000
namespace K1
open PySem
def has (signs x:Str):Bool:=x.cps.toList.all fun c=>decide (c∈signs.cps.toList)
def LET:Str:="abcdefghijklmnopqrstuvwxyz"
def TXT:Str:="abcdefghijklmnopqrstuvwxyz0123456789-"
def single:PyData→Bool
 | .int i=>decide ((if i < 0 then -i else i)≤10 ^ 18)
 | .str x=>decide (x.length≤20) && has TXT x
 | _=>false
def aF:Nat→PyData→Bool
 | 0,.tuple _=>false
 | n + 1,.tuple ds=>decide (ds.length≤8) && ds.all (aF n)
 | _,d=>single d
def aD:Nat→PyData→Int
 | n + 1,.tuple ds=>1 + (ds.map (aD n)).sum
 | _,_=>1
def lsz:Nat→PyData→Int
 | n + 1,.tuple ds=>if ds.length > 8 then 100 else 1 + (ds.map (lsz n)).sum
 | _,d=>if single d=true then 1 else 100
def isName:PyData→Bool
 | .str x=>decide (1≤x.length) && decide (x.length≤8) && has LET x
 | _=>false
def aT (d:PyData):Bool:=aF 4 d && decide (aD 4 d≤40)
theorem tH {α:Type} (f:α→Int) (h:∀ a,1≤f a):∀ l:List α,(l.length:Int)≤(l.map f).sum
 | []=>by simp
 | a::r=>by
  have:=tH f h r
  have:=h a
  simp only [List.map_cons,List.sum_cons,List.length_cons]
  omega
def tdp:Nat→PyData→Bool
 | 0,.tuple _=>false
 | n + 1,.tuple ds=>ds.all (tdp n)
 | _,_=>true
theorem qA:∀ (n:Nat) (d:PyData),aF n d=true→tdp n d=true
 | 0,d,h=>by cases d <;> first | rfl | cases h
 | n + 1,d,h=>by
  cases d with
  | tuple ds=>
   have e:aF (n + 1) (.tuple ds)=(decide (ds.length≤8) && ds.all (aF n)):=rfl
   rw [e,Bool.and_eq_true] at h
   show ds.all (tdp n)=true
   exact List.all_eq_true.mpr fun x hx=>qA n x (List.all_eq_true.mp h.2 x hx)
  | _=>rfl
def jq (best:Int):List Int→Int
 | []=>best
 | n::r=>jq (if n > best then n else best) r
def hJ (d:Int):List Int→Int
 | []=>d
 | n::r=>jq n r
def a8:Nat→PyData→Int
 | n + 1,.tuple ds=>1 + hJ 0 (ds.map (a8 n))
 | _,_=>0
def uO (acc:Int):List Int→Int
 | []=>acc
 | n::r=>uO (if 1 + n > acc then 1 + n else acc) r
def ldp:Nat→PyData→Int
 | n + 1,.tuple ds=>uO 1 (ds.map (ldp n))
 | _,_=>0
end K1
namespace L2
open PySem
def bR (env:Env):List (Str×NameKind)→List (Str×Addr)→List (Str×Addr)
 | [],acc=>acc
 | (n,k)::r,acc=>bR env r (if (k == .free)=true then (n,(env.cells.lookup n).getD 0)::acc else acc)
theorem mx {env:Env}:∀ (l:List (Str×NameKind)) (acc:List (Str×Addr)),(∀ x∈l,x.2=.free→∃ c,env.cells.lookup x.1=some c) →
  (forIn l acc (fun x r=>match x with
   | (name,kind)=>if (kind == NameKind.free)=true then (do
     let c ← cellOf env name
     pure (ForInStep.yield ((name,c)::r))) else pure (ForInStep.yield r)):Sem (List (Str×Addr)))=pure (bR env l acc)
 | [],acc,_=>rfl
 | (n,k)::r,acc,h=>by
  rw [List.forIn_cons]
  have hr:∀ x∈r,x.2=.free→∃ c,env.cells.lookup x.1=some c:=fun x hx=>h x (List.mem_cons_of_mem _ hx)
  cases hk:(k == NameKind.free) with
  | false=>
   have ih:=mx r acc hr
   have e:bR env ((n,k)::r) acc=bR env r acc:=by simp [bR,hk]
   rw [e]
   dsimp only
   rw [if_neg (by rw [hk]; exact Bool.false_ne_true)]
   exact ih
  | true=>
   obtain ⟨c,hc⟩:=h (n,k) List.mem_cons_self (by simpa using hk)
   have ih:=mx r ((n,c)::acc) hr
   have hc':env.cells.lookup n=some c:=hc
   have e:bR env ((n,k)::r) acc=bR env r ((n,c)::acc):=by simp [bR,hk,hc']
   have e2:cellOf env n=pure c:=by unfold cellOf; rw [hc']
   rw [e]
   dsimp only
   rw [if_pos hk,e2]
   exact ih
theorem pL {scope:Scope} {env:Env} (h:∀ x∈scope.names,x.2=.free→∃ c,env.cells.lookup x.1=some c):closureFor scope env=pure (bR env scope.names []):=by
 have q:=mx (env:=env) scope.names [] h
 unfold closureFor
 exact congrArg (fun t=>t >>= fun z=>pure z) q
theorem oY {env:Env}:∀ (l:List (Str×NameKind)) (acc:List (Str×Addr)) (x:Str) (c:Addr),(∀ y d,acc.lookup y=some d→env.cells.lookup y=some d) →
  (∀ y∈l,y.2=.free→∃ c,env.cells.lookup y.1=some c)→(bR env l acc).lookup x=some c→env.cells.lookup x=some c
 | [],acc,x,c,ha,_,e=>ha x c e
 | (n,k)::r,acc,x,c,ha,h,e=>by
  have hr:∀ x∈r,x.2=.free→∃ c,env.cells.lookup x.1=some c:=fun x hx=>h x (List.mem_cons_of_mem _ hx)
  refine oY r _ x c ?_ hr e
  intro y d q
  cases hk:(k == NameKind.free) with
  | false=>rw [hk,if_neg Bool.false_ne_true] at q; exact ha y d q
  | true=>
   rw [hk,if_pos rfl] at q
   obtain ⟨c',hc⟩:=h (n,k) List.mem_cons_self (by simpa using hk)
   have hc':env.cells.lookup n=some c':=hc
   rw [List.lookup_cons] at q
   by_cases z:y=n
   ·subst z
    simp [hc'] at q
    rw [hc',q]
   ·have z':(y == n)=false:=beq_eq_false_iff_ne.mpr z
    rw [z'] at q
    exact ha y d q
theorem pN {env:Env}:∀ (l:List (Str×NameKind)) (acc:List (Str×Addr)) (x:Str),(acc.lookup x).isSome=true→((bR env l acc).lookup x).isSome=true
 | [],_,_,h=>h
 | (n,k)::r,acc,x,h=>by
  refine pN r _ x ?_
  cases hk:(k == NameKind.free) with
  | false=>rw [if_neg Bool.false_ne_true]; exact h
  | true=>
   rw [if_pos rfl,List.lookup_cons]
   cases z:(x == n) with
   | true=>rfl
   | false=>exact h
theorem pM {env:Env}:∀ (l:List (Str×NameKind)) (acc:List (Str×Addr)) (x:Str),(x,NameKind.free)∈l→((bR env l acc).lookup x).isSome=true
 | [],_,_,h=>absurd h (by simp)
 | (n,k)::r,acc,x,h=>by
  rcases List.mem_cons.mp h with e | e
  ·cases e
   refine pN r _ _ ?_
   rw [if_pos (by decide),List.lookup_cons]
   simp
  ·exact pM r _ x e
open PySem PySem.Spec PyProof.Rows
structure CS (osc:Scope) (N:List Str) (x:Str) (scope:Scope) (N':List Str):Prop where
 kind:scope.kind=.function
 nocell:∀ y∈scope.names,y.2≠.cell
 names:∀ y∈scope.names,y.2=.local→scope.names.lookup y.1=some .local
 hx:scope.names.lookup x=some .local
 only:∀ y∈scope.names,y.2=.local→y.1=x∨y.1 = ".0"
 free:∀ y∈scope.names,y.2=.free→osc.names.lookup y.1=some .cell∨osc.names.lookup y.1=some .free
 nd:(x::N').Nodup
 n0:(".0" : Str)∉N'
 len:N'.length=N.length
 rel:∀ p∈N'.zip N,p.1=p.2∨∀ q∈scope.names,q.1≠p.1
theorem CS.at {osc:Scope} {N N':List Str} {x:Str} {scope:Scope} (S:CS osc N x scope N') {j:Nat} {y:Str} (h:N'[j]? = some y):N[j]? = some y∨∀ q∈scope.names,q.1≠y:=by
 have hl:j < N'.length:=(List.getElem?_eq_some_iff.mp h).1
 have hl2:j < N.length:=by rw [← S.len]; exact hl
 have m:(N'.zip N)[j]? = some (y,N[j]):=by
  rw [List.getElem?_zip_eq_some]
  exact ⟨h,List.getElem?_eq_getElem hl2⟩
 rcases S.rel _ (List.mem_of_getElem? m) with z | z
 ·left
  rw [List.getElem?_eq_getElem hl2]
  exact congrArg some z.symm
 ·exact .inr z
theorem rc {c:Str×NameKind→Bool}:∀ {names:List (Str×NameKind)} {y:Str} {k':NameKind},
  (names.map fun p=>if (p.2 == NameKind.free && c p)=true then (p.1,NameKind.cell) else (p.1,p.2)).lookup y=some k'→∃ k,(y,k)∈names∧(k'=k∨(k=.free∧k'=.cell))
 | [],_,_,h=>by simp at h
 | (n,k)::r,y,k',h=>by
  rw [List.map_cons] at h
  by_cases hy:y=n
  ·subst hy
   cases hc:(k == NameKind.free && c (y,k)) with
   | false=>
    simp only [hc,Bool.false_eq_true,if_false,List.lookup_cons,beq_self_eq_true] at h
    cases h
    exact ⟨k,List.mem_cons_self,.inl rfl⟩
   | true=>
    simp only [hc,if_true,List.lookup_cons,beq_self_eq_true] at h
    cases h
    have e:k=.free:=by
     have:=(Bool.and_eq_true _ _).mp hc
     simpa using this.1
    exact ⟨k,List.mem_cons_self,.inr ⟨e,rfl⟩⟩
  ·have hb:(y == n)=false:=beq_eq_false_iff_ne.mpr hy
   have h':(r.map fun p=>if (p.2 == NameKind.free && c p)=true then (p.1,NameKind.cell) else (p.1,p.2)).lookup y=some k':=by
    cases hc:(k == NameKind.free && c (n,k)) with
    | false=>simp only [hc,Bool.false_eq_true,if_false,List.lookup_cons,hb] at h; exact h
    | true=>simp only [hc,if_true,List.lookup_cons,hb] at h; exact h
   obtain ⟨k2,m,e⟩:=rc h'
   exact ⟨k2,List.mem_cons_of_mem _ m,e⟩
theorem l4 {scope:Scope} {env:Env} {y:Str} {k':NameKind} (h:(relabel scope env).names.lookup y=some k'):∃ k,(y,k)∈scope.names∧(k'=k∨(k=.free∧k'=.cell)):=by
 refine rc (c:=fun p=>env.scope.kind == .function && env.kindOf p.1 == some .cell) ?_
 rw [← h]
 unfold relabel
 congr 1
 refine List.map_congr_left fun p _=>?_
 obtain ⟨n,k⟩:=p
 simp only [Bool.and_assoc]
abbrev bQ (X:Cx) (x:Str) (scope:Scope) (C:Addr) (s0:Shared) (H0:Hp) (ex:List Addr) (N':List Str):Cx where
 prog:=X.prog
 w:=X.w
 K:=X.K
 mg:=X.mg
 base:=X.base
 A:=X.A
 N:=x::N'
 s₀:=s0
 H₀:=H0
 env:=compEnvC scope (bR X.env scope.names []) C X.env
 outer:=X.stack
 stack:=X.stack
 ex:=ex
 fn:=fun _=>false
 calm:=X.calm
 pn:=[]
 xe:=fun _ _=>False
section
variable {X:Cx} {pins:List (Addr×Obj)} {σ:St} {H:Hp} {s:Shared} {x:Str} {scope:Scope} {N':List Str}
theorem mJ (I:Inv X pins σ H s) (S:CS X.env.scope X.N x scope N'):∀ y∈scope.names,y.2=.free→∃ c,X.env.cells.lookup y.1=some c:=fun y hy e=>
 I.ok.has y.1 (S.free y hy e)
theorem qy (I:Inv X pins σ H s) (S:CS X.env.scope X.N x scope N') {y:Str} {c:Addr} (e:(bR X.env scope.names []).lookup y=some c):X.env.cells.lookup y=some c:=oY scope.names [] y c (fun _ _ z=>by simp at z) (mJ I S) e
theorem rL (I:Inv X pins σ H s) (S:CS X.env.scope X.N x scope N') {y:Str} (e:(y,NameKind.free)∈scope.names):∃ c,(bR X.env scope.names []).lookup y=some c∧X.env.cells.lookup y=some c:=by
 obtain ⟨c,hc⟩:=Option.isSome_iff_exists.mp (pM (env:=X.env) scope.names [] y e)
 exact ⟨c,hc,qy I S hc⟩
theorem pJ {fp:List Addr} {h':Heap} {m:Str→Option Value} {tk:Nat} {oD oC:Obj} (I:Inv X pins σ H s) (S:CS X.env.scope X.N x scope N') (hf:∀ b∈fp,c8 X pins H b) (ho:∀ b∈fp,∃ o,s.heap.get? b=some o)
  (hns:h'.Ns (s.heap.push oD).objs.size m) (hsb:Heap.SameBut (s.heap.push oD).objs.size ((s.heap.push oD).push oC) h') :
  Inv (bQ X x scope (s.heap.push oD).objs.size { s with heap:=s.heap.push oD } H (s.heap.objs.size::fp) N') [] (none::σ) H { s with heap:=h',toks:=tk }:=by
 have I3:Inv X pins σ H { s with heap:=s.heap.push oD,toks:=s.toks }:=I.kept fun b o e=>Heap.get?_push_of_some _ e
 have hC:(s.heap.push oD).objs.size=s.heap.objs.size + 1:=Heap.size_push ..
 have up3:∀ b o,(s.heap.push oD).get? b=some o→h'.get? b=some o:=fun b o e=>
  (hsb.2 b (Nat.ne_of_lt (Heap.lt_size e))).trans (Heap.get?_push_of_some _ e)
 have up:∀ b o,s.heap.get? b=some o→h'.get? b=some o:=fun b o e=>up3 b o (Heap.get?_push_of_some _ e)
 have cl:=fun {y c} e=>qy (y:=y) (c:=c) I S e
 have clt:∀ y c,X.env.cells.lookup y=some c→c < s.heap.objs.size:=fun y c e=>let ⟨v,q⟩:=I.cell y c e; q.lt
 have inner:∀ {y:Str} {k':NameKind},(relabel scope X.env).names.lookup y=some k'→(k'=.cell∨k'=.free)→(y,NameKind.free)∈scope.names:=fun {y k'} e hk=>by
  obtain ⟨k,mem,r⟩:=l4 e
  rcases r with r | ⟨r,_⟩
  ·rcases hk with z | z
   ·exact absurd (r.symm.trans z) (S.nocell _ mem)
   ·rw [← r.symm.trans z]; exact mem
  ·rw [← r]; exact mem
 have ok:(bQ X x scope (s.heap.push oD).objs.size { s with heap:=s.heap.push oD } H (s.heap.objs.size::fp) N').Ok:=by
  refine ⟨I.ok.mod,S.kind,I.ok.glob,I.ok.blt,Nat.le_refl _,fun y z c e1 e2=>I.ok.inj y z c (cl e1) (cl e2),fun y hk=>?_,fun y c e=>(nomatch e),I.ok.hd,I.ok.frames,.inl rfl,fun b hb=>?_,fun b o e=>?_,
   Nat.le_trans (Nat.le_trans I.ok.bsz I.sz) (by show s.heap.objs.size≤(s.heap.push oD).objs.size; omega),fun b o e hb=>?_,fun b hb z=>?_,I3.stack,I.stkFree⟩
  ·have mem:(y,NameKind.free)∈scope.names:=by
    rcases hk with z | z
    ·exact inner z (.inl rfl)
    ·exact inner z (.inr rfl)
   obtain ⟨c,hc,_⟩:=rL I S mem
   exact ⟨c,hc⟩
  ·rcases List.mem_cons.mp hb with e | e
   ·subst e
    exact ⟨by show s.heap.objs.size≠(s.heap.push oD).objs.size; omega,fun y c e=>Nat.ne_of_lt (clt y c (cl e))⟩
   ·obtain ⟨o,q⟩:=ho b e
    have q2:=Heap.lt_size q
    exact ⟨by show b≠(s.heap.push oD).objs.size; rw [hC]; exact Nat.ne_of_lt (Nat.lt_succ_of_lt q2),fun y c e'=>(hf b e).2.2.2.2.1 y c (cl e')⟩
  ·exact ⟨Heap.get?_push_of_some _ (I.bs b o e).1,(I.bs b o e).2⟩
  ·rcases List.mem_cons.mp hb with z | z
   ·have q2:=Heap.lt_size (I.bs b o e).1
    rw [z] at q2
    exact Nat.lt_irrefl _ q2
   ·rcases (hf b z).2.2.2.1 with q | q
    ·exact I.ok.noex b o e q
    ·have q2:=Heap.lt_size (I.ok.bs b o e).1
     exact Nat.lt_irrefl _ (Nat.lt_of_lt_of_le q2 q)
  ·have z':=I.stkSub b z
   rcases List.mem_cons.mp hb with e | e
   ·subst e
    rcases List.mem_cons.mp z' with q | q
    ·have q2:=I.lt
     rw [← q] at q2
     exact Nat.lt_irrefl _ q2
    ·exact I.nofs (Nat.le_refl _) q
   ·rcases List.mem_cons.mp z' with q | q
    ·exact (hf b e).2.1 q
    ·exact (hf b e).2.2.1 q
 obtain ⟨mo,hno,hlo⟩:=I.loc
 refine ⟨ok,rfl,I.bare,Un.kept up3,⟨m,hns,fun i y v e1 e2 e3=>?_⟩,fun y c e=>?_,I.hok.fresh (by show s.heap.objs.size≤(s.heap.push oD).objs.size; omega),fun y c e=>I.freeC y c (cl e),fun p hp=>absurd hp (by simp),I.hok.kept up,?_⟩
 ·cases i with
  | zero=>simp at e2
  | succ j=>
   have e1n:N'[j]? = some y:=by simpa using e1
   have vis:∃ k,(y,k)∈scope.names:=by
    rcases (show Vis (relabel scope X.env) y from e3) with z | z | z <;> exact let ⟨k,mem,_⟩:=l4 z; ⟨k,mem⟩
   have e1':X.N[j]? = some y:=by
    rcases S.at e1n with z | z
    ·exact z
    ·obtain ⟨k,mem⟩:=vis
     exact absurd rfl (z _ mem)
   have e2':σ[j]? = some (some v):=by simpa using e2
   have yx:y≠x:=fun z=>by
    have nd:=S.nd
    rw [List.nodup_cons] at nd
    refine nd.1 ?_
    rw [← z]
    exact List.mem_of_getElem? e1n
   have kin:((relabel scope X.env).names.lookup y=some .cell∨(relabel scope X.env).names.lookup y=some .free):=by
    rcases (show Vis (relabel scope X.env) y from e3) with z | z | z
    ·obtain ⟨k,mem,r⟩:=l4 z
     rcases r with r | ⟨_,r⟩
     ·rcases S.only _ mem r.symm with z2 | z2
      ·exact absurd z2 yx
      ·exact absurd (List.mem_of_getElem? e1n) (by rw [show y=(".0" : Str) from z2]; exact S.n0)
     ·cases r
    ·exact .inl z
    ·exact .inr z
   have mem:(y,NameKind.free)∈scope.names:=by
    rcases kin with z | z
    ·exact inner z (.inl rfl)
    ·exact inner z (.inr rfl)
   have vo:Vis X.env.scope y:=by
    rcases S.free _ mem rfl with z | z
    ·exact .inr (.inl z)
    ·exact .inr (.inr z)
   obtain ⟨u,ru,lk⟩:=hlo j y v e1' e2' vo
   refine ⟨u,ru,.inr ⟨kin,?_⟩⟩
   obtain ⟨c,hc,hc'⟩:=rL I S mem
   refine ⟨c,hc,?_⟩
   rcases lk with ⟨z,_⟩ | ⟨_,c2,z2,q⟩
   ·exfalso
    have z':X.env.scope.names.lookup y=some .local:=z
    rcases S.free _ mem rfl with r | r <;> (rw [z'] at r; cases r)
   ·rw [hc'] at z2
    cases z2
    obtain ⟨o,q1,q2⟩:=q
    exact ⟨o,up _ _ q1,q2⟩
 ·obtain ⟨v,o,q1,q2⟩:=I.cell y c (cl e)
  exact ⟨v,o,up _ _ q1,q2⟩
 ·have:=I.len
  simp [this,S.len]
theorem pI {fp:List Addr} {σ':St} {pins':List (Addr×Obj)} {H1:Hp} {s1:Shared} {h':Heap} {C:Addr} {oD:Obj} {ys:List V} (I:Inv X pins σ H s) (hf:∀ b∈fp,c8 X pins H b)
  (hCd:C=(s.heap.push oD).objs.size) (J:Inv (bQ X x scope C { s with heap:=s.heap.push oD } H (s.heap.objs.size::fp) N') pins' σ' H1 s1) (hsb:Heap.SameBut C s1.heap h') (hD0:H1 s.heap.objs.size=none)
  (new:∃ its n,Vals ys its∧s1.heap.get? s.heap.objs.size=some { cls:=.type "list",data:=.seq its.toArray n }) (hz:ys.length≤sizeLine) :
  Inv X pins σ (upd H1 s.heap.objs.size (.lst ys)) { s1 with heap:=h' }:=by
 have hC:C=s.heap.objs.size + 1:=by rw [hCd]; exact Heap.size_push ..
 have nD:∀ b o,s.heap.get? b=some o→b≠s.heap.objs.size:=fun b o e=>Nat.ne_of_lt (Heap.lt_size e)
 have nC:∀ b o,s.heap.get? b=some o→b≠C:=fun b o e=>by rw [hC]; exact Nat.ne_of_lt (Nat.lt_succ_of_lt (Heap.lt_size e))
 have up:∀ b o,s.heap.get? b=some o→(s.heap.push oD).get? b=some o:=fun b o e=>Heap.get?_push_of_some _ e
 have nx:∀ b,b∉fp→b≠s.heap.objs.size→b∉s.heap.objs.size::fp:=fun b h1 h2 z=>(List.mem_cons.mp z).elim h2 h1
 have hDC:s.heap.objs.size≠C:=by rw [hC]; exact Nat.ne_of_lt (Nat.lt_succ_self _)
 have tr:∀ b u,H1 b=some u→b≠s.heap.objs.size:=fun b u e z=>by rw [z,hD0] at e; cases e
 have trC:∀ b u,H1 b=some u→b≠C:=fun b u e z=>by
  have:=J.free
  rw [z] at e
  have q:H1 C=none:=J.free
  rw [q] at e; cases e
 obtain ⟨its,n,rv,eD⟩:=new
 have B:Un (frs X.stack) (s.heap.objs.size::fp) H H1 (s.heap.push oD) s1.heap:=J.base
 refine I.call' (s':={ s1 with heap:=h' }) (ch:=fp) J.os ⟨fun b o e q h1 h2=>?_,fun b o e q h1 h2=>?_,fun b o e q h2=>?_,fun b o e h2=>?_,fun b xs e=>?_,fun b o u e=>?_,fun b ps e=>?_⟩ (fun b u e=>?_) J.bare fun b hb=>?_
 ·exact (hsb.2 b (nC b o e)).trans (B.keep b o (up b o e) q h1 (nx b h2 (nD b o e)))
 ·obtain ⟨sl,z⟩:=B.slot b o (up b o e) q h1 (nx b h2 (nD b o e))
  exact ⟨sl,(hsb.2 b (nC b o e)).trans z⟩
 ·rw [aK (nD b o e)]
  exact B.free b o (up b o e) q (nx b h2 (nD b o e))
 ·obtain ⟨o',z⟩:=B.there b o (up b o e) (nx b h2 (nD b o e))
  exact ⟨o',(hsb.2 b (nC b o e)).trans z⟩
 ·have z:=B.tups b xs e
  rw [aK (tr b _ z)]; exact z
 ·have z:=B.frzs b o u e
  rw [aK (tr b _ z)]; exact z
 ·obtain ⟨more,z⟩:=B.tbls b ps e
  exact ⟨more,by rw [aK (tr b _ z)]; exact z⟩
 ·by_cases hb:b=s.heap.objs.size
  ·subst hb
   rw [aZ] at e
   cases e
   exact ⟨hz,its,n,rv,(hsb.2 _ hDC).trans eD⟩
  ·rw [aK hb] at e
   refine (J.hok b u e).stay (fun c v hc q=>(hsb.2 c ?_).trans q) (fun c q=>by rw [aK (tr c _ q)]; exact q) fun c xs q=>by rw [aK (tr c _ q)]; exact q
   rcases hc with z | z
   ·rw [z]; exact trC b u e
   ·exact trC c _ z
 ·obtain ⟨_,f1,_,f3,f4,f5⟩:=hf b hb
  exact ⟨f3,f1,f4,f5⟩
end
def PTs (X:Cx) (ifs:List Expr) (t:TT):Prop:=
 ∀ (pins:List (Addr×Obj)) (s:Shared) (σ:St) (H:Hp) (Q:Bool→Hp→Prop) (E:Value→Shared→Prop),Inv X pins σ H s→t σ H Q →
  wpAny (model X.prog X.w) X.A (forIn ifs true fun c r=>if r=true then do
   let ok ← isTrue c X.env (eval c X.env)
   pure (ForInStep.yield ok) else pure (ForInStep.yield r)) (TP X pins σ Q) E s
theorem Bh {X:Cx}:PTs X [] (fun _ H Q=>Q true H):=fun _ _ _ H _ _ I h=>wpAny_tests_nil ⟨H,I,h⟩
def lL (σ:St) (J:It) (tt:TT) (te:TE) (W:Nat→Nat→List V→Hp→Prop) (D:List V→Hp→Prop):Prop:=∀ i m ys H,W i m ys H →
 (J.stop i H∧ys.length≤sizeLine∧D ys H)∨(J.go i H∧ys.length < sizeLine∧∃ N:List V→Hp→Prop,(∀ ys' H',N ys' H'→∃ m',m' < m∧W (i + 1) m' ys' H')∧∀ v H',J.yld i H v H'→tt (some v::σ) H' fun b H2=>
  if b=true then te (some v::σ) H2 fun y H3=>N (ys++[y]) H3 else N ys H2)
section
variable {X:Cx} {pins:List (Addr×Obj)} {σ:St} {H:Hp} {s:Shared} {x:Str} {scope:Scope} {N':List Str}
theorem qw {fp:List Addr} {it C:Addr} {tn:Nat→Heap→Prop} {J:It} {oD:Obj} {elt iter:Expr} {ifs:List Expr} {px pos:Pos} {te:TE} {tt:TT} {W:Nat→Nat→List V→Hp→Prop} {Dn:List V→Hp→Prop}
  {R:Result→Shared→Prop} {σ':St} {s4:Shared} {m0:Nat} (hcalm:X.calm=true) (S:CS X.env.scope X.N x scope N') (hf:∀ b∈fp,c8 X pins H b) (ho:∀ b∈fp,∃ o,s.heap.get? b=some o) (hCd:C=(s.heap.push oD).objs.size)
  (T:Turn X.prog X.w X.K (.Name x px) J fp it tn) (I4:Inv (bQ X x scope C { s with heap:=s.heap.push oD } H (s.heap.objs.size::fp) N') [] (none::σ) H s4) (st4:tn 0 s4.heap) (hD4:s4.heap.get? s.heap.objs.size=some { cls:=.type "list",data:=.seq #[] 0 })
  (hDn:H s.heap.objs.size=none) (hte:PE (bQ X x scope C { s with heap:=s.heap.push oD } H (s.heap.objs.size::fp) N') elt te) (htt:PTs (bQ X x scope C { s with heap:=s.heap.push oD } H (s.heap.objs.size::fp) N') ifs tt)
  (w0:W 0 m0 [] H) (turn:lL σ J tt te W Dn)
  (hR:∀ s1 H1 σ1 ys its n,Inv (bQ X x scope C { s with heap:=s.heap.push oD } H (s.heap.objs.size::fp) N') [] σ1 H1 s1→H1 s.heap.objs.size=none→Vals ys its→s1.heap.get? s.heap.objs.size=some { cls:=.type "list",data:=.seq its.toArray n }→ys.length≤sizeLine→Dn ys H1→R (.ok .next) s1) :
  codeAny (model X.prog X.w) X.A (.compLoop (.ListComp elt [⟨.Name x px,iter,ifs,0⟩] scope pos) 0 (.ref it) (.ref s.heap.objs.size) (compEnvC scope (bR X.env scope.names []) C X.env)) R s4:=by
 have hC:C=s.heap.objs.size + 1:=by rw [hCd]; exact Heap.size_push ..
 generalize hX:bQ X x scope C { s with heap:=s.heap.push oD } H (s.heap.objs.size::fp) N'=X' at *
 have xP:X'.prog=X.prog:=by rw [← hX]
 have xW:X'.w=X.w:=by rw [← hX]
 have xK:X'.K=X.K:=by rw [← hX]
 have xA:X'.A=X.A:=by rw [← hX]
 have xE:X'.env=compEnvC scope (bR X.env scope.names []) C X.env:=by rw [← hX]
 have xC:X'.calm=true:=by rw [← hX]; exact hcalm
 have xex:X'.ex=s.heap.objs.size::fp:=by rw [← hX]
 have xpn:X'.pn=[]:=by rw [← hX]
 have xxe:X'.xe=fun _ _=>False:=by rw [← hX]
 have xN:X'.N=x::N':=by rw [← hX]
 have xL:X'.env.locals=C:=by rw [xE]; rfl
 have xloc:X'.env.scope.names.lookup x=some .local:=by rw [xE]; exact lookup_relabel_local S.hx
 have lt:∀ b∈fp,b < s.heap.objs.size:=fun b hb=>let ⟨_,e⟩:=ho b hb; Heap.lt_size e
 have fpk:∀ {pl:List (Addr×Obj)} {H':Hp},(∀ p∈pl,p.1=s.heap.objs.size)→(∀ b∈fp,H' b=none)→∀ b∈fp,c8 X' pl H' b:=fun {pl H'} hp hn b hb=>by
  have okk:=I4.ok
  have hm:b∈X'.ex:=by rw [xex]; exact List.mem_cons_of_mem _ hb
  refine ⟨hn b hb,(okk.exf b hm).1,okk.exfs b hm,.inl hm,(okk.exf b hm).2,fun p hpl z=>?_⟩
  rw [xpn] at hpl
  have q1:=hp p (by simpa using hpl)
  have q2:=lt b hb
  rw [← z,q1] at q2
  exact Nat.lt_irrefl _ q2
 have dok:∀ {pl:List (Addr×Obj)} {H':Hp},(∀ p∈pl,p.1∈fp)→H' s.heap.objs.size=none→c8 X' pl H' s.heap.objs.size:=fun {pl H'} hp hn=>by
  have okk:=I4.ok
  have hm:s.heap.objs.size∈X'.ex:=by rw [xex]; exact List.mem_cons_self
  refine ⟨hn,(okk.exf _ hm).1,okk.exfs _ hm,.inl hm,(okk.exf _ hm).2,fun p hpl z=>?_⟩
  rw [xpn] at hpl
  have q2:=lt p.1 (hp p (by simpa using hpl))
  rw [z] at q2
  exact Nat.lt_irrefl _ q2
 refine codeAny_compLoop_tests (I:=fun m s'=>∃ i σx H' ys its n,Inv X' [] (σx::σ) H' s'∧tn i s'.heap∧(∀ b∈fp,H' b=none)∧H' s.heap.objs.size=none∧Vals ys its∧s'.heap.get? s.heap.objs.size=some { cls:=.type "list",data:=.seq its.toArray n }∧W i m ys H') ?_ m0
  ⟨0,none,H,[],[],0,I4,st4,fun b hb=>(hf b hb).1,hDn,.nil,hD4,w0⟩
 rintro m s5 ⟨i,σx,H5,ys,its,n,I5,st5,fr5,d5,rv,e5,w5⟩
 have I5d:Inv X' ([]++fZ [s.heap.objs.size] s5.heap) (σx::σ) H5 s5:=I5.pinned (fun b hb=>by
   have e:b=s.heap.objs.size:=by simpa using hb
   rw [e]; exact dok (fun p hp=>absurd hp (by simp)) d5) fun b hb=>by
   have e:b=s.heap.objs.size:=by simpa using hb
   rw [e]; exact ⟨_,e5,fun v z=>by cases z⟩
 have pD:([]++fZ [s.heap.objs.size] s5.heap:List (Addr×Obj))=[(s.heap.objs.size,{ cls:=.type "list",data:=.seq its.toArray n })]:=by
  simp [fZ,e5]
 rw [pD] at I5d
 have p1:∀ p∈[(s.heap.objs.size,({ cls:=.type "list",data:=.seq its.toArray n }:Obj))],p.1=s.heap.objs.size:=fun p hp=>by
  have e:p=(s.heap.objs.size,{ cls:=.type "list",data:=.seq its.toArray n }):=by simpa using hp
  rw [e]
 have hsz:its.length=ys.length:=rv.length.symm
 rcases turn i m ys H5 w5 with ⟨stop,hz,dn⟩ | ⟨go,hz,N,hN,step⟩
 ·have q:=T.done X' xP xW xK xC i _ s5 (σx::σ) H5 (notedBy (model X.prog X.w) X.A (compEnvC scope (bR X.env scope.names []) C X.env) fun e s'=>R (.error e) s') I5d (fpk p1 fr5) st5 stop
  rw [xA] at q
  refine wpAny_mono q (fun r s6 z=>?_) fun _ _ z=>z
  obtain ⟨rfl,I6⟩:=z
  refine hR s6 H5 (σx::σ) ys its n ?_ d5 rv (I6.pin _ (List.mem_append_right _ (List.mem_singleton.mpr rfl))).1 hz dn
  exact I6.pins_of fun p hp=>absurd hp (by simp)
 ·have q:=T.item X' xP xW xK xC i _ s5 (σx::σ) H5 (notedBy (model X.prog X.w) X.A (compEnvC scope (bR X.env scope.names []) C X.env) fun e s'=>R (.error e) s') I5d (fpk p1 fr5) st5 go
  rw [xA] at q
  refine wpAny_mono q (fun r s6 z=>?_) fun _ _ z=>z
  obtain ⟨u,rfl,z⟩:=z
  dsimp only
  have z':wpAny (model X.prog X.w) X.A (pure ()) _ _ s6:=z
  refine wpAny_bind (m:=pure ()) (f:=fun _=>assign (.Name x px) (compEnvC scope (bR X.env scope.names []) C X.env) u) (wpAny_mono z' (fun _ s7 z=>?_) fun _ _ z=>z)
  obtain ⟨v,H7,I7,rv7,y7,st7,fr7⟩:=z
  have I7p:=I7.pinned (fpk p1 fr7) (T.obj _ _ st7)
  rw [← xE]
  have nd:X'.N.Nodup:=by rw [xN]; exact S.nd
  have hi0:X'.N[0]? = some x:=by rw [xN]; rfl
  refine wpAny_assign_Name (mD (E:=notedBy (model X.prog X.w) X.A X'.env fun e s'=>R (.error e) s') (i:=0) I7p nd hi0 (.inl xloc) rv7 (fun s8 I8=>?_) (.inr xloc))
  have I8':Inv X' _ (some v::σ) H7 s8:=I8
  have t8:=htt _ s8 (some v::σ) H7 _ (notedBy (model X.prog X.w) X.A X'.env fun e s'=>R (.error e) s') I8' (step v H7 y7)
  rw [xP,xW,xA] at t8
  refine wpAny_mono t8 (fun ok s9 z=>?_) fun _ _ z=>z
  obtain ⟨H9,I9,q9⟩:=z
  have back:∀ {s':Shared} {H':Hp} {σ2:St},Inv X' ([(s.heap.objs.size,({ cls:=.type "list",data:=.seq its.toArray n }:Obj))]++fZ fp s7.heap) σ2 H' s' →
    tn (i + 1) s'.heap∧(∀ b∈fp,H' b=none)∧H' s.heap.objs.size=none∧s'.heap.get? s.heap.objs.size=some { cls:=.type "list",data:=.seq its.toArray n }∧Inv X' [] σ2 H' s':=fun {s' H' σ2} I'=>by
   refine ⟨T.keep _ _ _ st7 fun b hb o e=>(I'.pin (b,o) (List.mem_append_right _ (List.mem_append_right _ (j3 hb e)))).1,fun b hb=>?_,?_,?_,I'.pins_of fun p hp=>absurd hp (by simp)⟩
   ·obtain ⟨o,e,_⟩:=T.obj _ _ st7 b hb
    exact (I'.pin (b,o) (List.mem_append_right _ (List.mem_append_right _ (j3 hb e)))).2.1
   ·exact (I'.pin (s.heap.objs.size,_) (List.mem_append_right _ (List.mem_append_left _ (List.mem_singleton.mpr rfl)))).2.1
   ·exact (I'.pin (s.heap.objs.size,_) (List.mem_append_right _ (List.mem_append_left _ (List.mem_singleton.mpr rfl)))).1
  cases ok with
  | false=>
   simp only [Bool.false_eq_true,if_false] at q9 ⊢
   obtain ⟨m',hm,w9⟩:=hN _ _ q9
   obtain ⟨a1,a2,a3,a4,a5⟩:=back I9
   exact ⟨m',hm,i + 1,some v,H9,ys,its,n,a5,a1,a2,a3,rv,a4,w9⟩
  | true=>
   simp only [if_true] at q9 ⊢
   have t9:=hte _ s9 (some v::σ) H9 _ I9 q9
   rw [xP,xW,xA,xxe] at t9
   refine wpAny_mono t9 (fun u2 s10 z=>?_) fun _ _ z=>z.elim
   obtain ⟨y,H10,I10,r10,q10⟩:=z
   obtain ⟨m',hm,w10⟩:=hN _ _ q10
   obtain ⟨a1,a2,a3,a4,a5⟩:=back I10
   refine wpAny_list_append_plain ⟨n,a4⟩ (fun h' pl sb=>?_) (by rw [List.size_toArray]; omega)
   obtain ⟨n',e'⟩:=pl
   have D0:=dok (pl:=[]) (fun p hp=>absurd hp (by simp)) a3
   refine ⟨m',hm,i + 1,some v,H10,ys++[y],its++[u2],n',a5.turned (t':=s10.toks) (fun b o hb e=>(sb.2 b hb).trans e) D0.1 D0.2.1 D0.2.2.2.1 D0.2.2.2.2.1 D0.2.2.2.2.2,?_,a2,a3,rv.append (.cons r10 .nil),by simpa using e',w10⟩
   exact T.keep _ _ _ a1 fun b hb o e=>(sb.2 b (Nat.ne_of_lt (lt b hb))).trans e
end
section
variable {X:Cx} {x:Str} {scope:Scope} {N':List Str} {elt iter:Expr} {ifs:List Expr} {px pos:Pos} {wi:TI} {te:TE} {tt:TT}
def uC (wi:TI) (tt:TT) (te:TE):TE:=fun σ H Q=>wi σ H fun J H1=>∃ W:Nat→Nat→List V→Hp→Prop,(∃ m,W 0 m [] H1)∧lL σ J tt te W fun ys H=>∀ p,H p=none→Q (.ref p) (upd H p (.lst ys))
theorem Bs (hc:X.calm=true) (S:CS X.env.scope X.N x scope N') (hi:PI X (.Name x px) iter wi) (he:∀ C s0 H0 ex,PE (bQ X x scope C s0 H0 ex N') elt te)
  (ht:∀ C s0 H0 ex,PTs (bQ X x scope C s0 H0 ex N') ifs tt) (hs:∀ v,foldedSetIterable iter X.env v=pure v:=by intro _; rfl):PE X (.ListComp elt [⟨.Name x px,iter,ifs,0⟩] scope pos) (uC wi tt te):=by
 intro pins s σ H Q I h
 rw [eval_ListComp]
 refine wpAny_comprehension_free (use:=none) rfl hs (pL (mJ I S)) S.kind S.names (thn (hi pins s σ H _ I h) fun v s1 h1=>thn h1 fun itv s2 h2=>?_)
 obtain ⟨it,fp,tn,J,H2,rfl,I2,T,st2,f2,W,⟨m0,w0⟩,turn⟩:=h2
 have ho:∀ b∈fp,∃ o,s2.heap.get? b=some o:=fun b hb=>let ⟨o,e,_⟩:=T.obj _ _ st2 b hb; ⟨o,e⟩
 refine wpAny_newObj_type (wpAny_newFunctionEnv S.nocell (by intro y hy; simp at hy) (fun h' hns hsb=>?_) S.kind)
 have I4:=pJ (x:=x) (scope:=scope) (tk:=s2.toks + ([]:List (Str×Value)).length) I2 S f2 ho hns hsb
 have up3:∀ b o,(s2.heap.push { cls:=.type "list",dict:=none,data:=.seq ([]:List Value).toArray }).get? b=some o→h'.get? b=some o:=fun b o e=>
  (hsb.2 b (Nat.ne_of_lt (Heap.lt_size e))).trans (Heap.get?_push_of_some _ e)
 have st4:tn 0 h':=T.keep _ _ _ st2 fun b _ o e=>up3 b o (Heap.get?_push_of_some _ e)
 have loop:=qw (elt:=elt) (iter:=iter) (ifs:=ifs) (pos:=pos) (R:=compPost (model X.prog X.w) X.A X.xe none (EP X pins σ Q) (.ref s2.heap.objs.size) (s2.heap.push { cls:=.type "list",dict:=none,data:=.seq ([]:List Value).toArray }).objs.size) (σ':=σ)
  hc S f2 ho rfl T I4 st4 (up3 _ _ (Heap.get?_push_size _ rfl)) (I2.hok.fresh (Nat.le_refl _)) (he _ _ _ _) (ht _ _ _ _) w0 turn fun s5 H5 σ5 ys its n J5 d5 rv e5 hz dn=>by
   obtain ⟨m,hn,_⟩:=J5.loc
   exact ⟨m,hn,fun h'' sb=>⟨.ref s2.heap.objs.size,_,pI I2 f2 rfl J5 sb d5 ⟨its,n,rv,e5⟩ hz,rfl,dn _ d5⟩⟩
 exact codeAny_compStart_list loop (T.self X.A 0 _ _ _ st4 loop)
def D7 (i:Nat) (wi:TI) (tt:TT) (te:TE):TS:=fun D σ H=>wi σ H fun J H1=>∃ W:Nat→Nat→List V→Hp→Prop,(∃ m,W 0 m [] H1)∧lL σ J tt te W fun ys H=>∀ p,H p=none→D.nx (σ.set i (some (.ref p))) (upd H p (.lst ys))
theorem Bl {i:Nat} {y:Str} {py spos:Pos} (hc:X.calm=true) (S:CS X.env.scope X.N x scope N') (hN:X.N.Nodup) (hi':X.N[i]? = some y) (hy:Loc X.env.scope y) (hf':X.fn y=true∨X.env.scope.names.lookup y=some .local)
  (hi:PI X (.Name x px) iter wi) (he:∀ C s0 H0 ex,PE (bQ X x scope C s0 H0 ex N') elt te)
  (ht:∀ C s0 H0 ex,PTs (bQ X x scope C s0 H0 ex N') ifs tt) (hsw:swapsWith (.ListComp elt [⟨.Name x px,iter,ifs,0⟩] scope pos) (some (.Name y py)) spos.line X.env=pure true) (hs:∀ v,foldedSetIterable iter X.env v=pure v:=by intro _; rfl) :
  PS X (.Assign [.Name y py] (.ListComp elt [⟨.Name x px,iter,ifs,0⟩] scope pos) spos) (D7 i wi tt te):=by
 intro pins s σ H D I h
 rw [exec_Assign_Name_used _ _ _ _ hsw]
 refine wpAny_bind (wpAny_standAt (wpAny_bind ?_))
 show wpAny _ _ (do let _ ← comprehension (.ListComp elt [⟨.Name x px,iter,ifs,0⟩] scope pos) scope X.env _ (newList []) false (eval iter X.env) (some (assign (.Name y py) X.env))) _ _ s
 refine wpAny_bind (wpAny_mono (wpAny_comprehension_free (use:=some (assign (.Name y py) X.env)) (Q:=fun _ s'=>SP X pins D .next s') rfl hs (pL (mJ I S)) S.kind S.names (thn (hi pins s σ H _ I h) fun v s1 h1=>thn h1 fun itv s2 h2=>?_)) (fun _ _ q=>wpAny_pure (wpAny_pure q)) fun _ _ q=>q)
 obtain ⟨it,fp,tn,J,H2,rfl,I2,T,st2,f2,W,⟨m0,w0⟩,turn⟩:=h2
 have ho:∀ b∈fp,∃ o,s2.heap.get? b=some o:=fun b hb=>let ⟨o,e,_⟩:=T.obj _ _ st2 b hb; ⟨o,e⟩
 refine wpAny_newObj_type (wpAny_newFunctionEnv S.nocell (by intro y hy; simp at hy) (fun h' hns hsb=>?_) S.kind)
 have I4:=pJ (x:=x) (scope:=scope) (tk:=s2.toks + ([]:List (Str×Value)).length) I2 S f2 ho hns hsb
 have up3:∀ b o,(s2.heap.push { cls:=.type "list",dict:=none,data:=.seq ([]:List Value).toArray }).get? b=some o→h'.get? b=some o:=fun b o e=>
  (hsb.2 b (Nat.ne_of_lt (Heap.lt_size e))).trans (Heap.get?_push_of_some _ e)
 have st4:tn 0 h':=T.keep _ _ _ st2 fun b _ o e=>up3 b o (Heap.get?_push_of_some _ e)
 have hCs:s2.heap.objs.size≤(s2.heap.push { cls:=.type "list",dict:=none,data:=.seq ([]:List Value).toArray }).objs.size:=by rw [Heap.size_push]; omega
 have hDC:(s2.heap.push { cls:=.type "list",dict:=none,data:=.seq ([]:List Value).toArray }).objs.size≠s2.heap.objs.size:=by rw [Heap.size_push]; omega
 have loop:=qw (elt:=elt) (iter:=iter) (ifs:=ifs) (pos:=pos) (R:=compPost (model X.prog X.w) X.A X.xe (some (assign (.Name y py) X.env)) (fun _ s'=>SP X pins D .next s') (.ref s2.heap.objs.size) (s2.heap.push { cls:=.type "list",dict:=none,data:=.seq ([]:List Value).toArray }).objs.size) (σ':=σ)
  hc S f2 ho rfl T I4 st4 (up3 _ _ (Heap.get?_push_size _ rfl)) (I2.hok.fresh (Nat.le_refl _)) (he _ _ _ _) (ht _ _ _ _) w0 turn fun s5 H5 σ5 ys its n J5 d5 rv e5 hz dn=>by
   have J6:=pI I2 f2 rfl J5 (Heap.SameBut.refl _ _) d5 ⟨its,n,rv,e5⟩ hz
   obtain ⟨m,hn,_⟩:=J5.loc
   refine wpAny_assign_Name (pV (u:=.ref s2.heap.objs.size) J6 hN hi' hy (show RelV (.ref s2.heap.objs.size) _ from rfl) (fun s7 I7 ⟨a,sb,ha⟩=>?_) hf')
   have hCa:(s2.heap.push { cls:=.type "list",dict:=none,data:=.seq ([]:List Value).toArray }).objs.size≠a:=by
    rcases ha with z | z
    ·rw [z]
     exact Nat.ne_of_gt (Nat.lt_of_lt_of_le I2.lt hCs)
    ·obtain ⟨v,q⟩:=I2.cell _ _ z
     exact Nat.ne_of_gt (Nat.lt_of_lt_of_le q.lt hCs)
   have hn5:H5 (s2.heap.push { cls:=.type "list",dict:=none,data:=.seq ([]:List Value).toArray }).objs.size=none:=J5.free
   have fk:=I2.fpOk (b:=(s2.heap.push { cls:=.type "list",dict:=none,data:=.seq ([]:List Value).toArray }).objs.size) (H':=upd H5 s2.heap.objs.size (.lst ys)) hCs (by rw [aK hDC]; exact hn5)
   refine ⟨m,hn.sameBut sb hCa,fun h'' sb2=>⟨_,_,I7.turned (t':=s7.toks) (fun b o hb e=>(sb2.2 b hb).trans e) fk.1 fk.2.1 fk.2.2.2.1 fk.2.2.2.2.1 fk.2.2.2.2.2,dn _ d5⟩⟩
 exact codeAny_compStart_list loop (T.self X.A 0 _ _ _ st4 loop)
end
section
variable {σ:St} {tt:TT} {te:TE}
end
def Its (z:Str):It:=⟨fun i _=>i < z.cps.size,fun i H v H'=>H'=H∧∃ c,z.cps[i]? = some c∧v=.str ⟨#[c]⟩,fun i _=>z.cps.size≤i⟩
theorem qJ {P:Program} {w:World} {K:Frag} {tg:Expr} (z:Str) (t:Tok) (ty:String) (it:Addr) (hty:ty = "str_ascii_iterator"∨ty = "str_iterator") :
  Turn P w K tg (Its z) [it] it (fun i h=>h.IsStrIter it ty z t i) where
 mem:=by simp
 obj:=fun i h st b hb=>by
  have e:b=it:=by simpa using hb
  subst e
  obtain ⟨o,e,c,d⟩:=st
  exact ⟨o,e,fun v q=>by rw [d] at q; cases q⟩
 keep:=fun i h h' st k=>let ⟨o,e,r⟩:=st; ⟨o,k it (by simp) o e,r⟩
 item:=by
  intro X hP hw hK hc i pins s σ H E I hf st hg
  subst hP hw hK
  have hi:i < z.cps.size:=hg
  obtain ⟨f0,f1,f2,f3,f4,f5⟩:=hf it (by simp)
  have fin:∀ h',h'.IsStrIter it ty z t (i + 1)→Heap.SameBut it s.heap h'→∃ u,(some (Value.str ⟨#[z.cps[i]]⟩ s.toks):Option Value)=some u ∧
    wpAny (model X.prog X.w) X.A (letOwnedTupleGo tg (.ref it) u) (fun _ s2=>∃ x H',Inv X pins σ H' s2∧RelV x u∧(Its z).yld i H x H'∧s2.heap.IsStrIter it ty z t (i + 1)∧∀ b∈[it],H' b=none) E { s with heap:=h',toks:=s.toks + 1 }:=fun h' st' sb=>by
   have I1:Inv X pins σ H { s with heap:=h',toks:=s.toks + 1 }:=I.turned (fun b o hb e=>(sb.2 b hb).trans e) f0 f1 f3 f4 f5
   obtain ⟨o,e,c,d⟩:=id st'
   refine ⟨_,rfl,jJ (s:={ s with heap:=h',toks:=s.toks + 1 }) (n:=ty) e c d ?_ ⟨.str ⟨#[z.cps[i]]⟩,H,I1,⟨_,rfl⟩,⟨rfl,z.cps[i],by simp [hi],rfl⟩,st',fun b hb=>(hf b hb).1⟩⟩
   rcases hty with e | e <;> (rw [e]; decide)
  rcases hty with e | e
  ·subst e
   exact wpAny_pyNext_ascii_item st (c:=z.cps[i]) (by simp [hi]) fin
  ·subst e
   exact wpAny_pyNext_wide_item st (c:=z.cps[i]) (by simp [hi]) fin
 done:=by
  intro X hP hw hK hc i pins s σ H E I hf st hg
  subst hP hw hK
  have hi:z.cps.size≤i:=hg
  obtain ⟨f0,f1,f2,f3,f4,f5⟩:=hf it (by simp)
  have fin:∀ h',Heap.ExtBut it s.heap h'→(none:Option Value)=none∧Inv X pins σ H { s with heap:=h' }:=fun h' eb=>⟨rfl,I.turned (t':=s.toks) (fun b o hb e=>eb b o hb e) f0 f1 f3 f4 f5⟩
  rcases hty with e | e
  ·subst e
   exact wpAny_pyNext_ascii_end (I.ok.hd hc) st (by simp; omega) fin
  ·subst e
   exact wpAny_pyNext_wide_end (I.ok.hd hc) st (by simp; omega) fin
 self:=fun _ _ _ _ _ st h=>by
  rcases hty with e | e
  ·subst e
   exact wpAny_pyIter_striter_ascii st h
  ·subst e
   exact wpAny_pyIter_striter_wide st h
section
variable {X:Cx} {tg:Expr}
end
theorem all_range (bs:List Bool) (n:Nat) (hn:n=bs.length):(List.range n).all (fun i=>bs.getD i false)=bs.all id:=by
 subst hn
 rw [Bool.eq_iff_iff,List.all_eq_true,List.all_eq_true]
 constructor
 ·intro h b hb
  obtain ⟨i,hi,rfl⟩:=List.getElem_of_mem hb
  have:=h i (List.mem_range.mpr hi)
  simpa [List.getD,hi] using this
 ·intro h i hi
  have hi':=List.mem_range.mp hi
  have:=h bs[i] (List.getElem_mem hi')
  simpa [List.getD,hi'] using this
theorem pA:∀ (ns:List Int) (k:Nat),k≤ns.length→preSum (fun i=>ns.getD i 0) k=(ns.take k).sum
 | ns,0,_=>by simp [preSum]
 | ns,k + 1,h=>by
  have hk:k < ns.length:=h
  have ih:=pA ns k (Nat.le_of_lt hk)
  have e:(ns.take (k + 1)).sum=(ns.take k).sum + ns.getD k 0:=by
   rw [List.take_add_one,List.sum_append]
   simp [List.getD,hk]
  rw [e,← ih]
  rfl
section
variable {X:Cx}
theorem AU (hc:X.calm=true):CallR X (.builtin "all") (fun xs H Q=>∃ (p:Addr) (bs:List Bool),xs=[.ref p]∧SqL X.K H p (bs.map V.bl)∧Q (.bl (bs.all id)) H):=by
 intro pins s σ H xs us Q I r h
 obtain ⟨p,bs,rfl,hq,q⟩:=h
 obtain ⟨u,rfl,ru⟩:=vals1 r
 cases ru
 obtain ⟨its,rv,pl,hz⟩:=I.list hq
 have hlen:its.length=bs.length:=by have:=rv.length; simpa using this.symm
 have hlt:p < s.heap.objs.size:=by
  obtain ⟨o,n,e,_⟩:=pl
  exact Heap.lt_size e
 refine call_all_walk (wpAny_pyIter_list pl.isList ?_)
 refine ⟨s.heap.objs.size,_,_,_,_,_,fun i=>bs.getD i false,rfl,Walks.list (A:=X.A.in1) (I.ok.hd hc) _ p (Nat.ne_of_lt hlt) its.toArray,⟨⟨_,Heap.get?_push_size _ rfl,rfl,rfl⟩,?_⟩,fun i v s' Q' E' hv hQ'=>?_,fun h' tk hk=>?_⟩
 ·obtain ⟨o,n,e,r⟩:=pl.isList
  exact ⟨o,Heap.get?_push_of_some _ n,e,r⟩
 ·have hi:i < its.length:=by
   have:=(Array.getElem?_eq_some_iff.mp hv).1
   simpa using this
  have hi2:i < bs.length:=by omega
  obtain ⟨u,hu,ru⟩:=rv.get (i:=i) (x:=.bl bs[i]) (by simp [hi2])
  have e:v=u:=by
   have hv':its[i]? = some v:=by simpa using hv
   rw [hu] at hv'
   exact (Option.some.inj hv').symm
  subst e
  cases (show v=Value.bool bs[i] from ru)
  refine wpAny_truthy_bool ?_
  have e:bs[i]=bs.getD i false:=by simp [List.getD,hi2]
  rw [e]
  exact hQ'
 ·have e:(List.range its.toArray.size).all (fun i=>bs.getD i false)=bs.all id:=all_range bs _ (by simpa using hlen)
  rw [e]
  exact ⟨.bl _,H,I.kept (t':=tk) fun b o q=>hk b o (by simp; exact Nat.ne_of_lt (Heap.lt_size q)) (Heap.get?_push_of_some _ q),rfl,q⟩
theorem BI {ns:List Int} {its:List Value} (rv:Vals (ns.map V.int) its) {i:Nat} {v:Value} (hv:its.toArray[i]? = some v):∃ t,v=.int (ns.getD i 0) t:=by
 have hlen:its.length=ns.length:=by have:=rv.length; simpa using this.symm
 have hi:i < its.length:=by
  have:=(Array.getElem?_eq_some_iff.mp hv).1
  simpa using this
 have hi2:i < ns.length:=by omega
 obtain ⟨u,hu,ru⟩:=rv.get (i:=i) (x:=.int ns[i]) (by simp [hi2])
 have e:v=u:=by
  have hv':its[i]? = some v:=by simpa using hv
  rw [hu] at hv'
  exact (Option.some.inj hv').symm
 subst e
 obtain ⟨t,e⟩:=(show ∃ t,v=Value.int ns[i] t from ru)
 refine ⟨t,?_⟩
 rw [e]
 simp [List.getD,hi2]
theorem AR (hc:X.calm=true):CallR X (.builtin "sum") (fun xs H Q=>∃ (p:Addr) (ns:List Int),xs=[.ref p]∧SqL X.K H p (ns.map V.int)∧Q (.int ns.sum) H):=by
 intro pins s σ H xs us Q I r h
 obtain ⟨p,ns,rfl,hq,q⟩:=h
 obtain ⟨u,rfl,ru⟩:=vals1 r
 cases ru
 obtain ⟨its,rv,pl,hz⟩:=I.list hq
 have hlen:its.length=ns.length:=by have:=rv.length; simpa using this.symm
 have hlt:p < s.heap.objs.size:=by
  obtain ⟨o,n,e,_⟩:=pl
  exact Heap.lt_size e
 refine call_sum_walkG (wpAny_pyIter_list pl.isList ?_)
 refine ⟨s.heap.objs.size,_,_,_,_,_,fun i=>ns.getD i 0,rfl,Walks.list (A:=X.A.in1) (I.ok.hd hc) _ p (Nat.ne_of_lt hlt) its.toArray,⟨⟨_,Heap.get?_push_size _ rfl,rfl,rfl⟩,?_⟩,fun b hb=>?_,fun i v hv=>BI rv hv,fun h' tk t' hk=>?_⟩
 ·obtain ⟨o,n,e,r⟩:=pl.isList
  exact ⟨o,Heap.get?_push_of_some _ n,e,r⟩
 ·rw [Heap.size_push]
  rcases (by simpa using hb:b=s.heap.objs.size∨b=p) with e | e
  ·rw [e]; exact Nat.lt_succ_self _
  ·rw [e]; exact Nat.lt_succ_of_lt hlt
 ·have e:preSum (fun i=>ns.getD i 0) its.toArray.size=ns.sum:=by
   rw [pA ns _ (by simp; omega)]
   rw [List.take_of_length_le (by simp; omega)]
  rw [e]
  exact ⟨.int _,H,I.kept (t':=tk) fun b o q=>hk b o (by simp; exact Nat.ne_of_lt (Heap.lt_size q)) (Heap.get?_push_of_some _ q),⟨t',rfl⟩,q⟩
end
open K1 (jq hJ)
section
variable {prog:Program} {w:World} {A:Around} {R:Result→Shared→Prop} {it S:Addr} {fp wr:List Addr} {P:Nat→Value→Prop} {St:Nat→Heap→Prop} {ns:List Int} {kw:List (Str×Value)}
end
section
variable {X:Cx}
end
section
variable {X:Cx} {e ed:Expr} {te td:TE} {p pos kpos:Pos}
end
section
variable {X:Cx}
theorem y6:OpR X (compareOp .IsNot) (fun x y H Q=>∃ b c,x=.bl b∧y=.bl c∧Q (.bl (b != c)) H):=by
 intro pins s σ H x y v u Q I rx ry h
 obtain ⟨b,c,rfl,rfl,q⟩:=h
 cases rx
 cases ry
 exact isnot_bool ⟨.bl (b != c),H,I,rfl,q⟩
theorem op_catG:OpR X (binaryOp .Add) (fun x y H Q=>∃ a b xs ys,x=.ref a∧y=.ref b∧SqT X.K H a xs∧SqT X.K H b ys∧xs.length + ys.length≤sizeLine ∧
  (xs=[]→Q (.ref b) H)∧(xs≠[]→ys=[]→Q (.ref a) H)∧(xs≠[]→ys≠[]→∀ p,H p=none→Q (.ref p) (upd H p (.tup (xs++ys))))):=by
 intro pins s σ H x y v u Q I rx ry h
 obtain ⟨a,b,xs,ys,rfl,rfl,ha,hb,hz,q0,q1,q2⟩:=h
 by_cases hx:xs=[]
 ·cases rx
  cases ry
  obtain ⟨its,r1,p1,_⟩:=I.tuple ha
  obtain ⟨its2,r2,p2,_⟩:=I.tuple hb
  have hv:its=[]:=r1.nil_iff.mpr hx
  obtain ⟨⟨cls,dd,data,sl⟩,ho,hc,n,hd⟩:=id p1
  obtain ⟨⟨cls2,dd2,data2,sl2⟩,ho2,hc2,n2,hd2⟩:=id p2
  simp only at hc hd hc2 hd2
  subst hc hd hc2 hd2
  exact concat_meets ⟨_,ho,rfl⟩ ⟨_,ho2,rfl⟩ noFill_tuple_add seq_tuple_add PySem.F.slot_tuple_add PySem.F.entry_tuple_add (PySem.F.args_tuple_add_2 _ _)
   (tuple_addW0 a b its.toArray its2.toArray n n2 dd dd2 sl sl2 (by simp [hv])) ⟨ho,ho2,⟨.ref b,H,I,rfl,q0 hx⟩⟩
 ·exact Bw pins s σ H _ _ v u Q I rx ry ⟨a,b,xs,ys,rfl,rfl,ha,hb,hx,hz,q1 hx,q2 hx⟩
theorem Cr:SlR X (fun x lo hi H Q=>∃ z:Str,x=.str z∧z.length≤sizeLine∧Q (.str (Txt.slice z lo hi)) H):=by
 intro pins s σ H x v vl vu lo hi sl Q I rx hs pl pu h
 obtain ⟨z,rfl,hz,q⟩:=h
 obtain ⟨t,rfl⟩:=rx
 have fin:∀ l u:Option (Int×Tok),l.map (·.1)=lo→u.map (·.1)=hi→s.heap.IsSlice sl l u none→wpAny (model X.prog X.w) X.A (getItem (.str z t) (.ref sl)) (EP X pins σ Q) X.xe s:=fun l u el eu h=>by
  refine wpAny_getItem_str_slice h rfl ?_
  refine post_val_or_made (fun _=>?_) fun t' k=>?_
  ·have:=sliceIndices_le (l.map (·.1)) (u.map (·.1)) z.length
   have e:=List.length_filterMap_le (fun i=>z.cps[i]?) (slicePicked z l u none)
   show ((slicePicked z l u none).filterMap (z.cps[·]?)).toArray.size≤sizeLine
   rw [List.size_toArray]
   unfold slicePicked at e ⊢
   simp only [Option.map_none,Option.getD_none] at e ⊢
   omega
  ·refine ⟨.str (Txt.slice z lo hi),H,I.tok _,⟨t',?_⟩,q⟩
   rw [← el,← eu]
   rfl
 refine ⟨"str",_,PySem.F.slot_str_getitem.lookup,typeIs_str s z t,?_⟩
 cases pl with
 | none=>
  cases pu with
  | none=>exact fin none none rfl rfl hs
  | int j u=>exact fin none (some (j,u)) rfl rfl hs
 | int i u=>
  cases pu with
  | none=>exact fin (some (i,u)) none rfl rfl hs
  | int j u'=>exact fin (some (i,u)) (some (j,u')) rfl rfl hs
theorem op_mulS:OpR X (binaryOp .Mult) (fun x y H Q=>∃ z k,x=.str z∧y=.int k∧0≤k∧k≤2000∧z.length≤1000∧Q (.str (Txt.mul z k)) H):=by
 intro pins s σ H x y v u Q I rx ry h
 obtain ⟨z,k,rfl,rfl,h1,h2,h3,q⟩:=h
 obtain ⟨t,rfl⟩:=rx
 obtain ⟨t',rfl⟩:=ry
 have hm:z.length * k.toNat≤1000 * 2000:=Nat.mul_le_mul h3 (by omega)
 refine SB.mul ⟨?_,fun g1 g2=>?_,fun g1 g2=>?_⟩ fun t' k'=>⟨.str _,H,I.tok _,⟨t',rfl⟩,q⟩
 ·simp; omega
 ·have hk:1≤k:=by simp at g1; omega
  have e1:(1000:Int)≤(2 ^ 63 - 1) / k:=by
   rw [Int.le_ediv_iff_mul_le (by omega)]
   omega
  omega
 ·unfold Builtin.Str.tooLong
  simp [sizeLine]
  omega
end
theorem pb {ys:List Str}:∀ {us:List Value},Vals (ys.map V.str) us→StrsAre us ys:=by
 induction ys with
 | nil=>intro us r; rw [List.map_nil] at r; cases r; exact .nil
 | cons y ys ih=>
  intro us r
  rw [List.map_cons] at r
  cases r with
  | cons r1 r2=>
   obtain ⟨t,e⟩:=r1
   subst e
   exact .cons y t (ih r2)
section
variable {X:Cx}
end
structure Fn (P:Program) (w:World) (K:Frag) (mg:Str→Option Value) (base:Heap) (name:Str) (ps:List Str) (k:Nat) (sp:Sp):Prop where
 ex:∃ f fd,FnOk P w K mg base CX0 k f fd ps sp∧Binds K fd ps []∧PySem.W.keepIn K (.ref f)=true∧mg name=some (.ref f)
section
variable {X:Cx} {name:Str} {ps:List Str} {k:Nat} {sp:Sp} {e:Expr} {es:List Expr} {t:TA} {p pos:Pos}
theorem jF (F:Fn X.prog X.w X.K X.mg X.base name ps k sp) (hr:Room k X.A) (hg:Gl X name) (ha:PA X (e::es) t) (hdb:(name == ("__debug__" : Str))=false:=by decide)
  (he:starEach (e::es) X.env=(false,eval e X.env)::starEach es X.env:=by rfl) (hpl:(backTo pos (starEach es X.env)).any (·.1)=false:=by rfl):PE X (.Call (.Name name p) (e::es) [] pos) (uD sp [] E0 t):=by
 obtain ⟨f,fd,h1,h2,h3,h4⟩:=F.ex
 exact Bt h1 hr hg h4 h3 h2 .nil ly ha hdb he hpl
end
theorem qX {X:Cx} {x:Str} {scope osc:Scope} {N N':List Str} {elt iter:Expr} {ifs:List Expr} {px pos:Pos} {wi:TI} {te:TE} {tt:TT} (S:CS osc N x scope N') (hi:PI X (.Name x px) iter wi)
  (he:∀ C s0 H0 ex,PE (bQ X x scope C s0 H0 ex N') elt te) (ht:∀ C s0 H0 ex,PTs (bQ X x scope C s0 H0 ex N') ifs tt) (hc:X.calm=true:=by rfl) (hs:X.env.scope=osc:=by rfl) (hN:X.N=N:=by rfl)
  (hf:∀ v,foldedSetIterable iter X.env v=pure v:=by intro _; rfl):PE X (.ListComp elt [⟨.Name x px,iter,ifs,0⟩] scope pos) (uC wi tt te):=by
 subst hs hN
 exact Bs hc S hi he ht hf
end L2
namespace D
open PySem PySem.Spec PyProof.Rows L2
inductive Gh (P:Hp→Prop):Hp→Prop where
 | done {H:Hp}:P H→Gh P H
 | frz {H:Hp} {a:Addr} {kvs:List (Key×V)}:H a=some (.dK kvs)→(∀ o,Gh P (upd H a (.frz o (.dK kvs))))→Gh P H
theorem Gh.imp {P P':Hp→Prop} {H:Hp} (g:Gh P H) (i:∀ H,P H→P' H):Gh P' H:=by
 induction g with
 | done h=>exact .done (i _ h)
 | frz e _ ih=>exact .frz e ih
section
variable {X:Cx} {pins:List (Addr×Obj)} {σ:L2.St} {H:Hp} {s:Shared}
theorem sH (I:Inv X pins σ H s) {a:Addr} {kvs:List (Key×V)} (e:H a=some (.dK kvs)):∃ o,Inv X pins σ (upd H a (.frz o (.dK kvs))) s:=by
 obtain ⟨z,y,vs,kv,o,es,ep,eo,r⟩:=I.hok a _ e
 have U:∀ {b:Addr} {u:HO},H b=some u→(∀ ks,u≠.dK ks)→upd H a (.frz o (.dK kvs)) b=some u:=fun {b u} q n=>by
  rw [aK (fun z=>by subst z; rw [e] at q; cases q; exact n _ rfl)]
  exact q
 have hok:HOk X.prog X.w (upd H a (.frz o (.dK kvs))) s.heap:=fun b u q=>by
  by_cases hb:b=a
  ·subst hb
   rw [aZ] at q
   cases q
   exact ⟨eo,(I.hok b _ e).stay (fun _ _ _ q=>q) (fun c q=>U q (fun _ z=>nomatch z)) fun c xs q=>U q (fun _ z=>nomatch z)⟩
  ·rw [aK hb] at q
   exact (I.hok b u q).stay (fun _ _ _ q=>q) (fun c q=>U q (fun _ z=>nomatch z)) fun c xs q=>U q (fun _ z=>nomatch z)
 exact ⟨o,I.un (h':=s.heap) (t':=s.toks) ⟨fun b ob q n _ _=>q,fun b ob q n _ _=>⟨_,q⟩,fun b ob q n _=>by rw [aK (fun z=>by subst z; rw [e] at n; cases n)]; exact n,fun b ob q _=>⟨_,q⟩,fun b xs q=>U q (fun _ z=>nomatch z),
  fun b ob u q=>U q (fun _ z=>nomatch z),fun b ps q=>⟨#[],by rw [U q (fun _ z=>nomatch z)]; simp⟩⟩ hok⟩
theorem Gh.ok {P:Hp→Prop} (g:Gh P H) (I:Inv X pins σ H s):∃ H',Inv X pins σ H' s∧P H':=by
 induction g with
 | done h=>exact ⟨_,I,h⟩
 | frz e _ ih=>
  obtain ⟨o,I'⟩:=sH I e
  exact ih o I'
end
section
variable {X:Cx}
theorem Ed {st:Stmt} {t:TS} (h:PS X st t):PS X st (fun D σ H=>Gh (t D σ) H):=fun pins s σ H D I q=>by
 obtain ⟨H',I',q'⟩:=q.ok I
 exact h pins s σ H' D I' q'
theorem Cy {st:List Stmt} {t:TS} (h:PSs X st t):PSs X st (fun D σ H=>Gh (t D σ) H):=fun pins s σ H D I q=>by
 obtain ⟨H',I',q'⟩:=q.ok I
 exact h pins s σ H' D I' q'
theorem oh {e:Expr} {t:TE} (h:PE X e t):PE X e (fun σ H Q=>t σ H fun v H1=>Gh (Q v) H1):=fun pins s σ H Q I q=>
 thn (h pins s σ H _ I q) fun u s' ⟨v,H',I',r,q'⟩=>by
  obtain ⟨H2,I2,q2⟩:=q'.ok I'
  exact ⟨v,H2,I2,r,q2⟩
end
def jc (o:Obj):Nat:=match o.data with
 | .dict _ ep=>ep
 | _=>0
def Itd (a:Addr) (o:Obj) (kvs:List (Key×V)):It:=⟨fun i H=>H a=some (.frz o (.dK kvs))∧i < kvs.length,fun i H x H'=>H'=H∧∃ k v,kvs[i]? = some (k,v)∧x=kV k,fun i H=>H a=some (.frz o (.dK kvs))∧i=kvs.length⟩
theorem ms {P:Program} {w:World} {H:Hp} {h:Heap} {a:Addr} {o:Obj} {kvs:List (Key×V)} (ok:HOk P w H h) (e:H a=some (.frz o (.dK kvs))):kvs.length≤sizeLine∧(a == sysModules)=false∧∃ vs,KV kvs vs∧h.DictAt (bu P w) a vs (jc o):=by
 obtain ⟨e1,z,y,vs,kv,o',es,ep,e2,ed,dd,r⟩:=ok a _ e
 rw [e1] at e2
 cases e2
 refine ⟨z,y,vs,kv,o,es,e1,ed,?_,r⟩
 unfold jc
 rw [dd]
theorem keyV {P:Program} {w:World} {k:Key} {v:Value} (e:(bu P w).is k v=true):RelV (kV k) v:=by
 rcases dw (show dY k v=true from e) with ⟨i,t,rfl,rfl⟩ | ⟨x,t,rfl,rfl⟩
 ·exact ⟨t,rfl⟩
 ·exact ⟨t,rfl⟩
theorem ED {kvs:List (Key×V)} {vs:List (Key×Value)} (r:KV kvs vs) {i:Nat} {k:Key} {x:Value} (e:vs[i]? = some (k,x)):∃ v,kvs[i]? = some (k,v):=by
 have h:=r.keys
 have h1:(vs.map (·.1))[i]? = some k:=by rw [List.getElem?_map,e]; rfl
 rw [← h,List.getElem?_map] at h1
 cases q:kvs[i]? with
 | none=>rw [q] at h1; cases h1
 | some p=>
  rw [q] at h1
  cases h1
  exact ⟨p.2,rfl⟩
theorem yR {P:Program} {w:World} {K:Frag} {tg:Expr} (a it:Addr) (o:Obj) (kvs:List (Key×V)):Turn P w K tg (Itd a o kvs) [it] it (fun i h=>h.IsKeyIter it a i kvs.length (jc o)) where
 mem:=by simp
 obj:=fun i h st b hb=>by
  have e:b=it:=by simpa using hb
  subst e
  obtain ⟨o,e,c,d⟩:=st
  exact ⟨o,e,fun v z=>by rw [d] at z; cases z⟩
 keep:=fun i h h' st k=>st.at fun o e=>k it (by simp) o e
 item:=by
  intro X hP hw hK hc i pins s σ H E I hf st hg
  subst hP hw hK
  obtain ⟨hg1,hg2⟩:=hg
  obtain ⟨z,y,vs,kv,dd⟩:=ms I.hok hg1
  obtain ⟨f0,f1,f2,f3,f4,f5⟩:=hf it (by simp)
  have hl:=kv.length
  have ne:a≠it:=fun q=>by rw [q,f0] at hg1; cases hg1
  have W:=Walks.dictKeys (prog:=X.prog) (w:=X.w) (knd:=bu X.prog X.w) (I.ok.hd hc) it a ne vs (jc o)
  refine W.item i s _ _ (by omega) ⟨by rw [← hl]; exact st,dd⟩ fun v h' tk hv st' kk=>?_
  obtain ⟨k,x,h1,h2⟩:=hv
  have I1:Inv X pins σ H { s with heap:=h',toks:=tk }:=I.turned (fun b o hb e=>kk b o (by simpa using hb) e) f0 f1 f3 f4 f5
  have st1:h'.IsKeyIter it a (i + 1) kvs.length (jc o):=by rw [hl]; exact st'.1
  obtain ⟨o1,e1,c1,d1⟩:=id st1
  obtain ⟨v0,h3⟩:=ED kv h1
  exact ⟨v,rfl,jJ (s:={ s with heap:=h',toks:=tk }) e1 c1 d1 (by decide) ⟨kV k,H,I1,keyV h2,⟨rfl,k,v0,h3,rfl⟩,st1,fun b hb=>(hf b hb).1⟩⟩
 done:=by
  intro X hP hw hK hc i pins s σ H E I hf st hg
  subst hP hw hK
  obtain ⟨hg1,hg2⟩:=hg
  obtain ⟨z,y,vs,kv,dd⟩:=ms I.hok hg1
  obtain ⟨f0,f1,f2,f3,f4,f5⟩:=hf it (by simp)
  have hl:=kv.length
  have ne:a≠it:=fun q=>by rw [q,f0] at hg1; cases hg1
  have W:=Walks.dictKeys (prog:=X.prog) (w:=X.w) (knd:=bu X.prog X.w) (I.ok.hd hc) it a ne vs (jc o)
  refine W.done s _ _ ⟨by rw [← hl,← hg2]; rw [← hg2] at st; exact st,dd⟩ fun h' tk kk=>⟨rfl,I.turned (fun b o hb e=>kk b o (by simpa using hb) e) f0 f1 f3 f4 f5⟩
 self:=fun _ _ _ _ _ st h=>wpAny_pyIter_keyiter st h
inductive W where
 | d (x:PyData) | tp (i:Nat) | loc (x:PyData)
abbrev Tp:=List (List PyData)
abbrev Rho:=List (Option W)
noncomputable def bnd {α β:Type} (o:Option (α×Tp)) (k:α→Tp→Option β):Option β:=match o with
 | some (a,T)=>k a T
 | none=>none
theorem aA {α β:Type} {o:Option (α×Tp)} {k:α→Tp→Option β} {b:β} (h:bnd o k=some b):∃ a T,o=some (a,T)∧k a T=some b:=by
 cases o with
 | none=>cases h
 | some p=>exact ⟨p.1,p.2,rfl,h⟩
def jU:Key→PyData
 | .inl i=>.int i
 | .inr x=>.str x
def TupAt (K:Frag) (O:Addr→Prop) (H:Hp) (a:Addr) (vs:List V):Prop:=(¬ O a∧Rd H a (.tup vs))∨SqT K (fun _=>none) a vs
def LstAt (K:Frag) (O:Addr→Prop) (H:Hp) (a:Addr) (vs:List V):Prop:=(¬ O a∧Rd H a (.lst vs))∨SqL K (fun _=>none) a vs
theorem Cn {K:Frag} {H:Hp} {a:Addr} {vs:List V} (h:SqT K (fun _=>none) a vs):SqT K H a vs:=by
 rcases h with (h | ⟨o,h⟩) | h
 ·cases h
 ·cases h
 ·exact .inr h
theorem Co {K:Frag} {H:Hp} {a:Addr} {vs:List V} (h:SqL K (fun _=>none) a vs):SqL K H a vs:=by
 rcases h with (h | ⟨o,h⟩) | h
 ·cases h
 ·cases h
 ·exact .inr h
theorem TupAt.sq {K:Frag} {O:Addr→Prop} {H:Hp} {a:Addr} {vs:List V} (h:TupAt K O H a vs):SqT K H a vs:=by
 rcases h with h | h
 ·exact .inl h.2
 ·exact Cn h
theorem LstAt.sq {K:Frag} {O:Addr→Prop} {H:Hp} {a:Addr} {vs:List V} (h:LstAt K O H a vs):SqL K H a vs:=by
 rcases h with h | h
 ·exact .inl h.2
 ·exact Co h
mutual
inductive Rep (K:Frag) (O:Addr→Prop) (H:Hp):V→PyData→Prop where
 | non:Rep K O H .non .none
 | bl (b:Bool):Rep K O H (.bl b) (.bool b)
 | int (i:Int):Rep K O H (.int i) (.int i)
 | str (x:Str):Rep K O H (.str x) (.str x)
 | tup {a:Addr} {vs:List V} {ds:List PyData}:TupAt K O H a vs→Reps K O H vs ds→Rep K O H (.ref a) (.tuple ds)
 | lst {a:Addr} {vs:List V} {ds:List PyData}:LstAt K O H a vs→Reps K O H vs ds→Rep K O H (.ref a) (.list ds)
 | dct {a:Addr} {o:Obj} {kvs:List (Key×V)} {ds:List (PyData×PyData)}:¬ O a→H a=some (.frz o (.dK kvs))→RepK K O H kvs ds→Rep K O H (.ref a) (.dict ds)
inductive Reps (K:Frag) (O:Addr→Prop) (H:Hp):List V→List PyData→Prop where
 | nil:Reps K O H [] []
 | cons {v:V} {d:PyData} {vs:List V} {ds:List PyData}:Rep K O H v d→Reps K O H vs ds→Reps K O H (v::vs) (d::ds)
inductive RepK (K:Frag) (O:Addr→Prop) (H:Hp):List (Key×V)→List (PyData×PyData)→Prop where
 | nil:RepK K O H [] []
 | cons {k:Key} {v:V} {d:PyData} {kvs:List (Key×V)} {ds:List (PyData×PyData)}:Rep K O H v d→RepK K O H kvs ds→RepK K O H ((k,v)::kvs) ((jU k,d)::ds)
end
def Le (O:Addr→Prop) (H:Hp) (O':Addr→Prop) (H':Hp):Prop:=∀ a o,¬ O a→H a=some o→¬ O' a∧H' a=some o
theorem Le.trans {O O1 O2:Addr→Prop} {H H1 H2:Hp} (h:Le O H O1 H1) (g:Le O1 H1 O2 H2):Le O H O2 H2:=fun a o n e=>let ⟨n1,e1⟩:=h a o n e; g a o n1 e1
theorem TupAt.mono {K:Frag} {O O':Addr→Prop} {H H':Hp} (h:Le O H O' H') {a:Addr} {vs:List V} (t:TupAt K O H a vs):TupAt K O' H' a vs:=by
 rcases t with ⟨n,t | ⟨o,t⟩⟩ | t
 ·exact .inl ⟨(h _ _ n t).1,.inl (h _ _ n t).2⟩
 ·exact .inl ⟨(h _ _ n t).1,.inr ⟨o,(h _ _ n t).2⟩⟩
 ·exact .inr t
theorem LstAt.mono {K:Frag} {O O':Addr→Prop} {H H':Hp} (h:Le O H O' H') {a:Addr} {vs:List V} (t:LstAt K O H a vs):LstAt K O' H' a vs:=by
 rcases t with ⟨n,t | ⟨o,t⟩⟩ | t
 ·exact .inl ⟨(h _ _ n t).1,.inl (h _ _ n t).2⟩
 ·exact .inl ⟨(h _ _ n t).1,.inr ⟨o,(h _ _ n t).2⟩⟩
 ·exact .inr t
mutual
theorem Rep.mono {K:Frag} {O O':Addr→Prop} {H H':Hp} (e:Le O H O' H'):∀ {v:V} {d:PyData},Rep K O H v d→Rep K O' H' v d
 | _,_,.non=>.non
 | _,_,.bl b=>.bl b
 | _,_,.int i=>.int i
 | _,_,.str x=>.str x
 | _,_,.tup t r=>.tup (t.mono e) (Reps.mono e r)
 | _,_,.lst t r=>.lst (t.mono e) (Reps.mono e r)
 | _,_,.dct n h r=>.dct (e _ _ n h).1 (e _ _ n h).2 (RepK.mono e r)
theorem Reps.mono {K:Frag} {O O':Addr→Prop} {H H':Hp} (e:Le O H O' H'):∀ {vs:List V} {ds:List PyData},Reps K O H vs ds→Reps K O' H' vs ds
 | _,_,.nil=>.nil
 | _,_,.cons r t=>.cons (Rep.mono e r) (Reps.mono e t)
theorem RepK.mono {K:Frag} {O O':Addr→Prop} {H H':Hp} (e:Le O H O' H'):∀ {vs:List (Key×V)} {ds:List (PyData×PyData)},RepK K O H vs ds→RepK K O' H' vs ds
 | _,_,.nil=>.nil
 | _,_,.cons r t=>.cons (Rep.mono e r) (RepK.mono e t)
end
section
variable {K:Frag} {O:Addr→Prop} {H:Hp}
theorem Reps.length:∀ {vs:List V} {ds:List PyData},Reps K O H vs ds→vs.length=ds.length
 | _,_,.nil=>rfl
 | _,_,.cons _ t=>congrArg (· + 1) (Reps.length t)
theorem Reps.get:∀ {vs:List V} {ds:List PyData} {i:Nat} {v:V},Reps K O H vs ds→vs[i]? = some v→∃ d,ds[i]? = some d∧Rep K O H v d
 | _,_,_,_,.nil,e=>by simp at e
 | _,_,0,_,.cons r _,e=>by simp at e; subst e; exact ⟨_,rfl,r⟩
 | _,_,i + 1,v,.cons _ t,e=>by
  obtain ⟨d,h1,h2⟩:=Reps.get (i:=i) (v:=v) t (by simpa using e)
  exact ⟨d,by simpa using h1,h2⟩
theorem Reps.getD:∀ {vs:List V} {ds:List PyData} {i:Nat} {d:PyData},Reps K O H vs ds→ds[i]? = some d→∃ v,vs[i]? = some v∧Rep K O H v d
 | _,_,_,_,.nil,e=>by simp at e
 | _,_,0,_,.cons r _,e=>by simp at e; subst e; exact ⟨_,rfl,r⟩
 | _,_,i + 1,v,.cons _ t,e=>by
  obtain ⟨d,h1,h2⟩:=Reps.getD (i:=i) (d:=v) t (by simpa using e)
  exact ⟨d,by simpa using h1,h2⟩
theorem Reps.set {v:V} {d:PyData} (r:Rep K O H v d):∀ {vs:List V} {ds:List PyData} (i:Nat),Reps K O H vs ds→Reps K O H (vs.set i v) (ds.set i d)
 | _,_,_,.nil=>.nil
 | _,_,0,.cons _ t=>.cons r t
 | _,_,i + 1,.cons q t=>.cons q (Reps.set r i t)
theorem Reps.append {ws:List V} {es:List PyData}:∀ {vs:List V} {ds:List PyData},Reps K O H vs ds→Reps K O H ws es→Reps K O H (vs++ws) (ds++es)
 | _,_,.nil,r=>r
 | _,_,.cons q t,r=>.cons q (Reps.append t r)
theorem Reps.take:∀ {vs:List V} {ds:List PyData} (n:Nat),Reps K O H vs ds→Reps K O H (vs.take n) (ds.take n)
 | _,_,0,_=>.nil
 | _,_,_ + 1,.nil=>.nil
 | _,_,n + 1,.cons r t=>.cons r (Reps.take n t)
theorem Reps.drop:∀ {vs:List V} {ds:List PyData} (n:Nat),Reps K O H vs ds→Reps K O H (vs.drop n) (ds.drop n)
 | _,_,0,r=>r
 | _,_,_ + 1,.nil=>.nil
 | _,_,n + 1,.cons _ t=>Reps.drop n t
theorem Reps.rep {vs:List V} {ds:List PyData} (r:Reps K O H vs ds):∀ n:Nat,Reps K O H (List.replicate n vs).flatten (List.replicate n ds).flatten
 | 0=>.nil
 | n + 1=>by
  rw [List.replicate_succ,List.replicate_succ,List.flatten_cons,List.flatten_cons]
  exact r.append (r.rep n)
end
def SameX (ts:List Addr) (H H':Hp):Prop:=∀ b o,b∉ts→H b=some o→H' b=some o
theorem SameX.refl (ts:List Addr) (H:Hp):SameX ts H H:=fun _ _ _ h=>h
theorem SameX.trans {ts:List Addr} {H H1 H2:Hp} (a:SameX ts H H1) (b:SameX ts H1 H2):SameX ts H H2:=fun c o n h=>b c o n (a c o n h)
theorem SameX.new {ts:List Addr} {H:Hp} {p:Addr} (h:H p=none) (o:HO):SameX ts H (upd H p o):=fun b u _ q=>by rw [aK (bN q h)]; exact q
def Mut (o:Option HO):Prop:=(∃ vs,o=some (.lst vs))∨(∃ kvs,o=some (.dK kvs))∨∃ C dx fs,o=some (.ins C dx fs)
theorem Mut.ex {o:Option HO} (h:Mut o):∃ u,o=some u:=by rcases h with ⟨vs,e⟩ | ⟨vs,e⟩ | ⟨C,dx,fs,e⟩ <;> exact ⟨_,e⟩
theorem Mut.to {o o':Option HO} (h:Mut o) (k:∀ u,o=some u→o'=some u):Mut o':=by
 rcases h with ⟨vs,e⟩ | ⟨vs,e⟩ | ⟨C,dx,fs,e⟩
 ·exact .inl ⟨vs,k _ e⟩
 ·exact .inr (.inl ⟨vs,k _ e⟩)
 ·exact .inr (.inr ⟨C,dx,fs,k _ e⟩)
def bS (C:Addr):PyData:=.dict [(.none,.int (C:Int))]
def isO:List PyData→Bool
 | .dict [(.none,_)]::_=>true
 | _=>false
def pairF (p:Str×PyData):PyData:=.tuple [.str p.1,p.2]
inductive RepF (K:Frag) (O:Addr→Prop) (H:Hp):List (Str×V)→List (Str×PyData)→Prop where
 | nil:RepF K O H [] []
 | cons {n:Str} {v:V} {d:PyData} {vs:List (Str×V)} {ds:List (Str×PyData)}:Rep K O H v d→RepF K O H vs ds→RepF K O H ((n,v)::vs) ((n,d)::ds)
theorem RepF.mono {K:Frag} {O O':Addr→Prop} {H H':Hp} (e:Le O H O' H') {vs:List (Str×V)} {ds:List (Str×PyData)} (r:RepF K O H vs ds):RepF K O' H' vs ds:=by
 induction r with
 | nil=>exact .nil
 | cons r _ ih=>exact .cons (Rep.mono e r) ih
def RowAt (K:Frag) (O:Addr→Prop) (H:Hp) (a:Addr) (xs:List PyData):Prop:=(isO xs=false∧∃ vs,H a=some (.lst vs)∧Reps K O H vs xs)∨∃ C dx fs fd,H a=some (.ins C dx fs)∧xs=bS C::fd.map pairF∧RepF K O H fs fd
theorem RowAt.mono {K:Frag} {O O':Addr→Prop} {H H':Hp} {a:Addr} {xs:List PyData} (h:RowAt K O H a xs) (k:∀ o,H a=some o→H' a=some o) (l:Le O H O' H'):RowAt K O' H' a xs:=by
 rcases h with ⟨n,vs,h1,h2⟩ | ⟨C,dx,fs,fd,h1,h2,h3⟩
 ·exact .inl ⟨n,vs,k _ h1,h2.mono l⟩
 ·exact .inr ⟨C,dx,fs,fd,k _ h1,h2,h3.mono l⟩
theorem RowAt.lst {K:Frag} {O:Addr→Prop} {H:Hp} {a:Addr} {xs:List PyData} (h:RowAt K O H a xs) (n:isO xs=false):∃ vs,H a=some (.lst vs)∧Reps K O H vs xs:=by
 rcases h with ⟨_,h⟩ | ⟨C,dx,fs,fd,h1,h2,h3⟩
 ·exact h
 ·rw [h2] at n
  cases n
theorem Bb {K:Frag} {O:Addr→Prop} {H:Hp} {v:V} {y:PyData} (h:Rep K O H v (.dict [(.none,y)])):False:=by
 cases h with
 | dct _ _ r=>
  generalize hl:[(PyData.none,y)]=l at r
  cases r with
  | nil=>cases hl
  | @cons k _ _ _ _ _ _=>
   injection hl with h1 _
   injection h1 with h1 _
   rcases k with i | x
   ·cases h1
   ·cases h1
theorem Reps.notO {K:Frag} {O:Addr→Prop} {H:Hp} {vs:List V} {xs:List PyData} (r:Reps K O H vs xs):isO xs=false:=by
 cases r with
 | nil=>rfl
 | cons h _=>
  rename_i d _ _ _
  unfold isO
  split
  ·rename_i e
   cases e
   exact (Bb h).elim
  ·rfl
structure HC (K:Frag) (O:Addr→Prop) (ts:List Addr) (H:Hp) (T:Tp):Prop where
 own:∀ b∈ts,O b
 trk:∀ b,O b→Mut (H b)
 nd:ts.Nodup
 len:ts.length=T.length
 tape:∀ (i:Nat) (a:Addr) (xs:List PyData),ts[i]? = some a→T[i]? = some xs→RowAt K O H a xs
section
variable {K:Frag} {O:Addr→Prop} {ts:List Addr} {H H':Hp} {T:Tp}
theorem HC.le (c:HC K O ts H T) (s:SameX ts H H'):Le O H O H':=fun a o n e=>⟨n,s a o (fun z=>n (c.own a z)) e⟩
theorem HC.step (c:HC K O ts H T) (s:SameX ts H H') (t:∀ b∈ts,H' b=H b):HC K O ts H' T where
 own:=c.own
 trk:=fun b hb=>by
  by_cases z:b∈ts
  ·rw [t b z]; exact c.trk b hb
  ·exact (c.trk b hb).to fun u e=>s b _ z e
 nd:=c.nd
 len:=c.len
 tape:=fun i a xs e1 e2=>by
  exact (c.tape i a xs e1 e2).mono (fun o h1=>by rw [t a (List.mem_of_getElem? e1)]; exact h1) (c.le s)
theorem HC.fresh (c:HC K O ts H T) {p:Addr} (h:H p=none):¬ O p:=fun z=>by
 obtain ⟨u,e⟩:=(c.trk p z).ex
 rw [h] at e
 cases e
theorem HC.new (c:HC K O ts H T) {p:Addr} (h:H p=none) (o:HO):HC K O ts (upd H p o) T:=c.step (.new h o) fun b hb=>aK fun z=>c.fresh h (z ▸ c.own b hb)
theorem HC.leNew (c:HC K O ts H T) {p:Addr} (h:H p=none) (o:HO):Le O H O (upd H p o):=c.le (.new h o)
theorem HC.newT (c:HC K O ts H T) {p:Addr} (h:H p=none) {vs:List V} {ds:List PyData} (r:Reps K O H vs ds):Rep K O (upd H p (.tup vs)) (.ref p) (.tuple ds):=.tup (.inl ⟨c.fresh h,.inl aZ⟩) (r.mono (c.leNew h _))
theorem HC.newL (c:HC K O ts H T) {p:Addr} (h:H p=none) {vs:List V} {ds:List PyData} (r:Reps K O H vs ds):Rep K O (upd H p (.lst vs)) (.ref p) (.list ds):=.lst (.inl ⟨c.fresh h,.inl aZ⟩) (r.mono (c.leNew h _))
end
inductive Vw (K:Frag) (O:Addr→Prop) (H:Hp):V→PyData→Prop where
 | rep {v:V} {x:PyData}:Rep K O H v x→Vw K O H v x
 | raw {a:Addr} {vs:List V} {xs:List PyData}:H a=some (.lst vs)→Reps K O H vs xs→Vw K O H (.ref a) (.list xs)
 | rawD {a:Addr} {kvs:List (Key×V)} {ds:List (PyData×PyData)}:H a=some (.dK kvs)→RepK K O H kvs ds→Vw K O H (.ref a) (.dict ds)
section
variable {K:Frag} {O:Addr→Prop} {H:Hp} {v:V}
theorem Vw.int {i:Int} (h:Vw K O H v (.int i)):v=.int i:=by cases h with | rep h=>cases h; rfl
theorem Vw.str {x:Str} (h:Vw K O H v (.str x)):v=.str x:=by cases h with | rep h=>cases h; rfl
theorem Vw.bl {b:Bool} (h:Vw K O H v (.bool b)):v=.bl b:=by cases h with | rep h=>cases h; rfl
theorem Vw.non (h:Vw K O H v .none):v=.non:=by cases h with | rep h=>cases h; rfl
theorem Vw.tup {ds:List PyData} (h:Vw K O H v (.tuple ds)):∃ a vs,v=.ref a∧TupAt K O H a vs∧Reps K O H vs ds:=by cases h with | rep h=>cases h with | tup t r=>exact ⟨_,_,rfl,t,r⟩
theorem Vw.tupR {ds:List PyData} (h:Vw K O H v (.tuple ds)):Rep K O H v (.tuple ds):=by cases h with | rep h=>exact h
theorem Vw.lst {ds:List PyData} (h:Vw K O H v (.list ds)):∃ a vs,v=.ref a∧SqL K H a vs∧Reps K O H vs ds:=by
 cases h with
 | rep h=>cases h with | lst t r=>exact ⟨_,_,rfl,t.sq,r⟩
 | raw h r=>exact ⟨_,_,rfl,SqL.of h,r⟩
theorem Vw.dct {ds:List (PyData×PyData)} (h:Vw K O H v (.dict ds)):∃ a kvs,v=.ref a∧Rd H a (.dK kvs)∧RepK K O H kvs ds:=by
 cases h with
 | rep h=>cases h with | dct n t r=>exact ⟨_,_,rfl,.inr ⟨_,t⟩,r⟩
 | rawD t r=>exact ⟨_,_,rfl,.inl t,r⟩
end
def OwnAt (K:Frag) (O:Addr→Prop) (H:Hp) (a:Addr):PyData→Prop
 | .list xs=>∃ vs,H a=some (.lst vs)∧Reps K O H vs xs
 | .dict ds=>∃ kvs,H a=some (.dK kvs)∧RepK K O H kvs ds
 | _=>False
theorem OwnAt.mono {K:Frag} {O O':Addr→Prop} {H H':Hp} {a:Addr} {x:PyData} (h:OwnAt K O H a x) (k:∀ o,H a=some o→H' a=some o) (l:Le O H O' H'):OwnAt K O' H' a x:=by
 cases x with
 | list xs=>obtain ⟨vs,h1,h2⟩:=h; exact ⟨vs,k _ h1,h2.mono l⟩
 | dict ds=>obtain ⟨vs,h1,h2⟩:=h; exact ⟨vs,k _ h1,h2.mono l⟩
 | _=>cases h
theorem OwnAt.some {K:Frag} {O:Addr→Prop} {H:Hp} {a:Addr} {x:PyData} (h:OwnAt K O H a x):∃ o,H a=some o:=by
 cases x with
 | list xs=>obtain ⟨vs,h1,h2⟩:=h; exact ⟨_,h1⟩
 | dict ds=>obtain ⟨vs,h1,h2⟩:=h; exact ⟨_,h1⟩
 | _=>cases h
def RepW (K:Frag) (O:Addr→Prop) (ts:List Addr) (H:Hp) (v:V):W→Prop
 | .d x=>Rep K O H v x
 | .tp i=>∃ a,ts[i]? = some a∧v=.ref a
 | .loc x=>∃ a,v=.ref a∧O a∧a∉ts∧OwnAt K O H a x
def gq (xs:List PyData):Option PyData:=if isO xs=true then none else some (.list xs)
noncomputable def view (T:Tp):W→Option PyData
 | .d x=>some x
 | .tp i=>(T[i]?).bind gq
 | .loc (.list xs)=>some (.list xs)
 | .loc (.dict ds)=>some (.dict ds)
 | .loc _=>none
noncomputable def views (T:Tp):List W→Option (List PyData)
 | []=>some []
 | w::r=>match view T w with
  | some x=>(match views T r with
   | some xs=>some (x::xs)
   | none=>none)
  | none=>none
def gm (K:Frag) (O:Addr→Prop) (ts:List Addr) (H:Hp):List V→List W→Prop:=Paired fun v w=>RepW K O ts H v w
def Vws (K:Frag) (O:Addr→Prop) (H:Hp):List V→List PyData→Prop:=Paired fun v x=>Vw K O H v x
def RelE (K:Frag) (O:Addr→Prop) (ts:List Addr) (H:Hp) (σ:L2.St) (ρ:Rho):Prop:=∀ (i:Nat) (w:W),ρ[i]? = some (some w)→∃ v,σ[i]? = some (some v)∧RepW K O ts H v w
section
variable {K:Frag} {O:Addr→Prop} {ts:List Addr} {H H':Hp} {T:Tp} {v:V} {w:W}
theorem RepW.mono (r:RepW K O ts H v w) (c:HC K O ts H T) (s:SameX ts H H'):RepW K O ts H' v w:=by
 cases w with
 | d x=>exact Rep.mono (c.le s) r
 | tp i=>exact r
 | loc xs=>
  obtain ⟨a,e,h1,h2,h3⟩:=r
  exact ⟨a,e,h1,h2,h3.mono (fun o q=>s _ _ h2 q) (c.le s)⟩
theorem RelE.mono {σ:L2.St} {ρ:Rho} (r:RelE K O ts H σ ρ) (c:HC K O ts H T) (s:SameX ts H H'):RelE K O ts H' σ ρ:=fun i w e=>
 let ⟨v,h1,h2⟩:=r i w e; ⟨v,h1,h2.mono c s⟩
theorem HC.view (c:HC K O ts H T) {x:PyData} (r:RepW K O ts H v w) (e:view T w=some x):Vw K O H v x:=by
 cases w with
 | d y=>cases e; exact .rep r
 | tp i=>
  obtain ⟨a,h1,rfl⟩:=r
  have e':(T[i]?).bind gq=some x:=e
  cases ht:T[i]? with
  | none=>rw [ht] at e'; cases e'
  | some xs=>
   rw [ht] at e'
   have e2:(if isO xs=true then none else some (PyData.list xs))=some x:=e'
   split at e2
   ·cases e2
   ·rename_i hn
    cases e2
    obtain ⟨vs,h2,h3⟩:=(c.tape i a xs h1 ht).lst (by simpa using hn)
    exact .raw h2 h3
 | loc xs=>
  obtain ⟨a,rfl,_,_,h3⟩:=r
  cases xs with
  | list xs=>cases e; obtain ⟨vs,h1,h2⟩:=h3; exact .raw h1 h2
  | dict ds=>cases e; obtain ⟨vs,h1,h2⟩:=h3; exact .rawD h1 h2
  | _=>cases h3
theorem HC.views (c:HC K O ts H T):∀ {vs:List V} {ws:List W} {xs:List PyData},gm K O ts H vs ws→views T ws=some xs→Vws K O H vs xs
 | _,[],xs,.nil,e=>by cases e; exact .nil
 | _,w::r,xs,.cons h t,e=>by
  unfold D.views at e
  split at e
  ·rename_i x h1
   split at e
   ·rename_i ys h2
    cases e
    exact .cons (c.view h h1) (HC.views c t h2)
   ·cases e
  ·cases e
end
def noStar:Expr→Bool
 | .Starred _ _=>false
 | _=>true
theorem bc {e:Expr} {es:List Expr} {env:Env} (h:noStar e=true):starEach (e::es) env=(false,eval e env)::starEach es env:=by cases e <;> first | rfl | cases h
theorem kh {e:Expr} {env:Env} (h:noStar e=true):starEach [e] env=[(false,eval e env)]:=bc h
theorem bE {env:Env} {pos:Pos}:∀ {es:List Expr},es.all noStar=true→(backTo pos (starEach es env)).any (·.1)=false
 | [],_=>rfl
 | e::r,h=>by
  rw [List.all_cons,Bool.and_eq_true] at h
  rw [bc h.1]
  show (false || (backTo pos (starEach r env)).any (·.1))=false
  rw [bE h.2]
  rfl
theorem yS {e:Expr} {es:List Expr} {env:Env} {pos:Pos} (h:noStar e=true):backTo pos (starEach (e::es) env)=(false,eval e env)::backTo pos (starEach es env):=by
 rw [bc h]
 rfl
theorem hZ {e:Expr} {env:Env} {cpos:Pos} (h:noStar e=true):((backTo cpos (starEach [e] env)).all (fun x=>!x.1) && (backToKw cpos (keywordEach [] env)).all (fun x=>x.1.isSome)
   && decide (([e]:List Expr).length + ([]:List Keyword).length + (if ([]:List Keyword).isEmpty then 0 else 1) < 30))=true:=by
 rw [kh h]
 rfl
abbrev FE:=Rho→Tp→Option (W×Tp)
abbrev FT:=Rho→Tp→Option (Bool×Tp)
abbrev FA:=Rho→Tp→Option (List W×Tp)
inductive LiftP (K:Frag) (f:FE) (σ:L2.St) (H:Hp) (Q:VK):Prop where
 | mk (O:Addr→Prop) (ts:List Addr) (ρ:Rho) (T:Tp) (w:W) (T':Tp) (hc:HC K O ts H T) (re:RelE K O ts H σ ρ) (e:f ρ T=some (w,T')) (q:∀ v H',SameX ts H H'→HC K O ts H' T'→RepW K O ts H' v w→Q v H'):LiftP K f σ H Q
def lift (K:Frag) (f:FE):TE:=fun σ H Q=>LiftP K f σ H Q
inductive LiftTP (K:Frag) (f:FT) (σ:L2.St) (H:Hp) (Q:Bool→Hp→Prop):Prop where
 | mk (O:Addr→Prop) (ts:List Addr) (ρ:Rho) (T:Tp) (b:Bool) (T':Tp) (hc:HC K O ts H T) (re:RelE K O ts H σ ρ) (e:f ρ T=some (b,T')) (q:∀ H',SameX ts H H'→HC K O ts H' T'→Q b H'):LiftTP K f σ H Q
def liftT (K:Frag) (f:FT):TT:=fun σ H Q=>LiftTP K f σ H Q
inductive LiftAP (K:Frag) (f:FA) (σ:L2.St) (H:Hp) (Q:List V→Hp→Prop):Prop where
 | mk (O:Addr→Prop) (ts:List Addr) (ρ:Rho) (T:Tp) (ws:List W) (T':Tp) (hc:HC K O ts H T) (re:RelE K O ts H σ ρ) (e:f ρ T=some (ws,T')) (q:∀ vs H',SameX ts H H'→HC K O ts H' T'→gm K O ts H' vs ws→Q vs H'):LiftAP K f σ H Q
def ol (K:Frag) (f:FA):TA:=fun σ H Q=>LiftAP K f σ H Q
structure DE (X:Cx) (e:Expr) (f:FE):Prop where
 pe:PE X e (lift X.K f)
structure DT (X:Cx) (e:Expr) (f:FT):Prop where
 pe:PT X e (liftT X.K f)
structure DW (X:Cx) (e:Expr) (f:FT):Prop where
 pe:PW X e (liftT X.K f)
structure DA (X:Cx) (es:List Expr) (f:FA):Prop where
 pe:PA X es (ol X.K f)
theorem aX {X:Cx} {e:Expr} {t t':TE} (h:PE X e t) (i:∀ σ H Q,t' σ H Q→t σ H Q):PE X e t':=fun pins s σ H Q I q=>h pins s σ H Q I (i σ H Q q)
theorem nL {X:Cx} {e:Expr} {t t':TT} (h:PT X e t) (i:∀ σ H Q,t' σ H Q→t σ H Q):PT X e t':=fun pins s σ H Q I q=>h pins s σ H Q I (i σ H Q q)
theorem tM {X:Cx} {e:Expr} {t t':TT} (h:PW X e t) (i:∀ σ H Q,t' σ H Q→t σ H Q):PW X e t':=fun wh pins s σ H Q I q=>h wh pins s σ H Q I (i σ H Q q)
theorem tR {X:Cx} {e:List Expr} {t t':TA} (h:PA X e t) (i:∀ σ H Q,t' σ H Q→t σ H Q):PA X e t':=fun po pins s σ H Q I q=>h po pins s σ H Q I (i σ H Q q)
def aa (i:Nat):FE:=fun ρ T=>match ρ[i]? with
 | some (some w)=>some (w,T)
 | _=>none
noncomputable def fC (x:PyData):FE:=fun _ T=>some (.d x,T)
section
variable {X:Cx} {pos:Pos}
theorem af (i:Nat) {x:Str} (hN:X.N[i]? = some x:=by rfl) (hv:Vis X.env.scope x:=by first | exact Or.inl rfl | exact Or.inr (Or.inl rfl) | exact Or.inr (Or.inr rfl)) (hd:(x == ("__debug__" : Str))=false:=by decide)
  (hcd:(x == ("__classdict__" : Str))=false:=by decide):DE X (.Name x pos) (aa i):=by
 refine ⟨?_⟩
 refine aX (pv i hN hv hd hcd) fun σ H Q=>?_
 rintro ⟨O,ts,ρ,T,w,T',hc,re,e,q⟩
 unfold aa at e
 split at e
 ·rename_i w' he
  cases e
  obtain ⟨v,h1,h2⟩:=re i _ he
  exact ⟨v,h1,q v H (.refl _ _) hc h2⟩
 ·cases e
theorem gP {x:PyData} {v:V} (h:∀ O H,Rep X.K O H v x):∀ σ H Q,lift X.K (fC x) σ H Q→tC v σ H Q:=by
 rintro σ H Q ⟨O,ts,ρ,T,w,T',hc,re,e,q⟩
 cases e
 exact q v H (.refl _ _) hc (h O H)
theorem ao {i j}:DE X (.Constant (.int i) j pos) (fC (.int i)):=⟨aX kR (gP fun _ _=>.int i)⟩
theorem g8 {i j}:DE X (.Constant (.bool i) j pos) (fC (.bool i)):=⟨aX Eg (gP fun _ _=>.bl i)⟩
theorem aH {i j}:DE X (.Constant (.str i) j pos) (fC (.str i)):=⟨aX CG (gP fun _ _=>.str i)⟩
theorem ck {j}:DE X (.Constant .none j pos) (fC .none):=⟨aX CJ (gP fun _ _=>.non)⟩
theorem dB {x:Str} {i:Int} (hg:Gl X x) (hm:∃ t,X.mg x=some (.int i t)) (hd:(x == ("__debug__" : Str))=false:=by decide):DE X (.Name x pos) (fC (.int i)):=by
 refine ⟨?_⟩
 obtain ⟨t,hm⟩:=hm
 exact aX (jo (v:=.int i) hg hm ⟨t,rfl⟩ hd) (gP fun _ _=>.int i)
theorem mO {x:Str} {i:Str} (hg:Gl X x) (hm:∃ t,X.mg x=some (.str i t)) (hd:(x == ("__debug__" : Str))=false:=by decide):DE X (.Name x pos) (fC (.str i)):=by
 refine ⟨?_⟩
 obtain ⟨t,hm⟩:=hm
 exact aX (jo (v:=.str i) hg hm ⟨t,rfl⟩ hd) (gP fun _ _=>.str i)
end
def op1 (g:PyData→Option PyData) (T:Tp) (w:W):Option (W×Tp):=match view T w with
 | some x=>match g x with
  | some d=>some (.d d,T)
  | none=>none
 | none=>none
def op2 (g:PyData→PyData→Option PyData) (T:Tp) (w1 w2:W):Option (W×Tp):=match view T w1,view T w2 with
 | some x,some y=>match g x y with
  | some d=>some (.d d,T)
  | none=>none
 | _,_=>none
theorem gN {g:PyData→Option PyData} {T T':Tp} {w1 w:W} (e:op1 g T w1=some (w,T')):∃ x d,view T w1=some x∧g x=some d∧w=.d d∧T'=T:=by
 unfold op1 at e
 split at e
 ·rename_i x h1
  split at e
  ·rename_i d h3
   cases e
   exact ⟨x,d,h1,h3,rfl,rfl⟩
  ·cases e
 ·cases e
theorem f6 {g:PyData→PyData→Option PyData} {T T':Tp} {w1 w2 w:W} (e:op2 g T w1 w2=some (w,T')):∃ x y d,view T w1=some x∧view T w2=some y∧g x y=some d∧w=.d d∧T'=T:=by
 unfold op2 at e
 split at e
 ·rename_i x y h1 h2
  split at e
  ·rename_i d h3
   cases e
   exact ⟨x,y,d,h1,h2,h3,rfl,rfl⟩
  ·cases e
 ·cases e
def ag (g:PyData→PyData→Option PyData) (fa fb:FE):FE:=fun ρ T=>bnd (fa ρ T) fun w1 T1=>bnd (fb ρ T1) fun w2 T2=>op2 g T2 w1 w2
def fUn (g:PyData→Option PyData) (fa:FE):FE:=fun ρ T=>bnd (fa ρ T) fun w1 T1=>op1 g T1 w1
def gv (K:Frag) (r:R2) (g:PyData→PyData→Option PyData):Prop:=∀ (O:Addr→Prop) (ts:List Addr) (H:Hp) (T:Tp) (v1 v2:V) (x y d:PyData) (Q:VK),HC K O ts H T→Vw K O H v1 x→Vw K O H v2 y→g x y=some d →
 (∀ v H',SameX ts H H'→HC K O ts H' T→Rep K O H' v d→Q v H')→r v1 v2 H Q
def FJ (K:Frag) (r:V→Hp→VK→Prop) (g:PyData→Option PyData):Prop:=∀ (O:Addr→Prop) (ts:List Addr) (H:Hp) (T:Tp) (v1:V) (x d:PyData) (Q:VK),HC K O ts H T→Vw K O H v1 x→g x=some d →
 (∀ v H',SameX ts H H'→HC K O ts H' T→Rep K O H' v d→Q v H')→r v1 H Q
def OpD (X:Cx) (f:Value→Value→Sem Value) (g:PyData→PyData→Option PyData):Prop:=∃ r,OpR X f r∧gv X.K r g
def IxD (X:Cx) (g:PyData→PyData→Option PyData):Prop:=∃ r,IxR X r∧gv X.K r g
theorem kO {K:Frag} {r:R2} {g:PyData→PyData→Option PyData} {fa fb:FE} (snd:gv K r g) {σ:L2.St} {H:Hp} {Q:VK} (h:lift K (ag g fa fb) σ H Q):tOp r (lift K fa) (lift K fb) σ H Q:=by
 obtain ⟨O,ts,ρ,T,w,T',hc,re,e,q⟩:=h
 obtain ⟨w1,T1,e1,e⟩:=aA e
 obtain ⟨w2,T2,e2,e⟩:=aA e
 obtain ⟨x,y,d,h1,h2,h3,rfl,rfl⟩:=f6 e
 refine ⟨O,ts,ρ,T,w1,T1,hc,re,e1,fun v1 H1 s1 hc1 r1=>?_⟩
 refine ⟨O,ts,ρ,T1,w2,T',hc1,re.mono hc s1,e2,fun v2 H2 s2 hc2 r2=>?_⟩
 exact snd O ts H2 T' v1 v2 x y d Q hc2 (hc2.view (r1.mono hc1 s2) h1) (hc2.view r2 h2) h3 fun v H' s3 hc3 r3=>q v H' (s1.trans (s2.trans s3)) hc3 r3
noncomputable def asB:W→Option Bool
 | .d (.bool b)=>some b
 | _=>none
theorem jD {w:W} {b:Bool} (h:asB w=some b):w=.d (.bool b):=by
 unfold asB at h
 split at h
 ·cases h; rfl
 ·cases h
def aB (f:FE):FT:=fun ρ T=>bnd (f ρ T) fun w T1=>match asB w with
 | some b=>some (b,T1)
 | none=>none
theorem A5 {K:Frag} {f:FE} {σ:L2.St} {H:Hp} {Q:Bool→Hp→Prop} (h:liftT K (aB f) σ H Q):lift K f σ H fun x H'=>∃ k,x=.bl k∧Q k H':=by
 obtain ⟨O,ts,ρ,T,w,T',hc,re,e,q⟩:=h
 obtain ⟨w1,T1,e1,e⟩:=aA e
 refine ⟨O,ts,ρ,T,w1,T1,hc,re,e1,fun v1 H1 s1 hc1 r1=>?_⟩
 split at e
 ·rename_i b hb
  cases e
  have hw:=jD hb
  subst hw
  cases (show Rep K O H1 v1 _ from r1)
  exact ⟨_,rfl,q H1 s1 hc1⟩
 ·cases e
section
variable {X:Cx} {pos:Pos} {a b c:Expr} {fa fb fc:FE} {g g':PyData→PyData→Option PyData}
theorem aC {op:Operator} (ho:OpD X (binaryOp op) g) (ha:DE X a fa) (hb:DE X b fb):DE X (.BinOp a op b pos) (ag g fa fb):=by
 refine ⟨?_⟩
 obtain ⟨r,hr,snd⟩:=ho
 exact aX (uI hr ha.pe hb.pe) fun σ H Q=>kO snd
theorem bP {op:CmpOp} (ho:OpD X (compareOp op) g) (ha:DE X a fa) (hb:DE X b fb) (hm:behindInMarks op b=false:=by first | exact nQ _ | with_unfolding_all rfl):DE X (.Compare a [op] [b] pos) (ag g fa fb):=by
 refine ⟨?_⟩
 obtain ⟨r,hr,snd⟩:=ho
 exact aX (sj hr ha.pe hb.pe hm) fun σ H Q=>kO snd
theorem aN {op:CmpOp} (ho:OpD X (compareOp op) g) (ha:DE X a fa) (hb:DE X b fb) (hm:behindInMarks op b=false:=by first | exact nQ _ | with_unfolding_all rfl):DT X (.Compare a [op] [b] pos) (aB (ag g fa fb)):=by
 refine ⟨?_⟩
 obtain ⟨r,hr,snd⟩:=ho
 exact nL (Bj hr ha.pe hb.pe hm) fun σ H Q h=>kO snd (A5 h)
theorem aI (ho:IxD X g) (ha:DE X a fa) (hb:DE X b fb) (hs:nr b:=by exact fun _ _=>rfl):DE X (.Subscript a b pos) (ag g fa fb):=by
 refine ⟨?_⟩
 obtain ⟨r,hr,snd⟩:=ho
 exact aX (lu hr ha.pe hb.pe hs) fun σ H Q=>kO snd
def k8 (g g':PyData→PyData→Option PyData) (fa fb fc:FE):FE:=fun ρ T=>bnd (fa ρ T) fun w1 T1=>bnd (fb ρ T1) fun w2 T2=>bnd (op2 g T2 w1 w2) fun w T3=>match asB w with
 | some b=>if b=true then bnd (fc ρ T3) fun w3 T4=>op2 g' T4 w2 w3 else some (.d (.bool false),T3)
 | none=>none
theorem zJ {K:Frag} {r r':R2} (snd:gv K r g) (snd':gv K r' g') {σ:L2.St} {H:Hp} {Q:VK} (h:lift K (k8 g g' fa fb fc) σ H Q):tD r r' (lift K fa) (lift K fb) (lift K fc) σ H Q:=by
 obtain ⟨O,ts,ρ,T,w,T',hc,re,e,q⟩:=h
 obtain ⟨w1,T1,e1,e⟩:=aA e
 obtain ⟨w2,T2,e2,e⟩:=aA e
 obtain ⟨wz,T3,e3,ez⟩:=aA e
 obtain ⟨x,y,d,h1,h2,h3,rfl,rfl⟩:=f6 e3
 clear e
 refine ⟨O,ts,ρ,T,w1,T1,hc,re,e1,fun v1 H1 s1 hc1 r1=>?_⟩
 refine ⟨O,ts,ρ,T1,w2,T3,hc1,re.mono hc s1,e2,fun v2 H2 s2 hc2 r2=>?_⟩
 refine snd O ts H2 T3 v1 v2 x y d _ hc2 (hc2.view (r1.mono hc1 s2) h1) (hc2.view r2 h2) h3 fun v H3 s3 hc3 r3=>?_
 split at ez
 ·rename_i b hb
  have hd:=jD hb
  injection hd with hd
  subst hd
  cases r3
  cases b with
  | true=>
   rw [if_pos rfl] at ez
   refine ⟨true,rfl,eR ?_⟩
   obtain ⟨w3,T4,e4,e5⟩:=aA ez
   obtain ⟨x',y',d',h1',h2',h3',rfl,rfl⟩:=f6 e5
   refine ⟨O,ts,ρ,T3,w3,T',hc3,(re.mono hc (s1.trans (s2.trans s3))),e4,fun v3 H4 s4 hc4 r4=>?_⟩
   exact snd' O ts H4 T' v2 v3 x' y' d' Q hc4 (hc4.view (r2.mono hc2 (s3.trans s4)) h1') (hc4.view r4 h2') h3' fun v H' s5 hc5 r5=>q v H' (s1.trans (s2.trans (s3.trans (s4.trans s5)))) hc5 r5
  | false=>
   rw [if_neg Bool.false_ne_true] at ez
   cases ez
   exact ⟨false,rfl,eS (q _ H3 (s1.trans (s2.trans s3)) hc3 (.bl false))⟩
 ·cases ez
theorem AM {op op':CmpOp} (ho:OpD X (compareOp op) g) (ho':OpD X (compareOp op') g') (ha:DE X a fa) (hb:DE X b fb) (hc:DE X c fc)
  (hm:lastMarks [op,op'] [b,c]=false:=by with_unfolding_all rfl):DE X (.Compare a [op,op'] [b,c] pos) (k8 g g' fa fb fc):=by
 refine ⟨?_⟩
 obtain ⟨r,hr,snd⟩:=ho
 obtain ⟨r',hr',snd'⟩:=ho'
 exact aX (Ac hr hr' ha.pe hb.pe hc.pe hm) fun σ H Q=>zJ snd snd'
def lN:PyData→Option Bool
 | .none=>some false
 | .bool b=>some b
 | .int i=>some (i != 0)
 | .str y=>if y.length≤sizeLine then some ((y.length:Int) != 0) else none
 | .list xs=>some (!xs.isEmpty)
 | .tuple xs=>some (!xs.isEmpty)
 | .dict _=>none
def lO (T:Tp) (w:W):Option (Bool×Tp):=match view T w with
 | some x=>match lN x with
  | some b=>some (b,T)
  | none=>none
 | none=>none
def bg (f:FE):FT:=fun ρ T=>bnd (f ρ T) fun w T1=>lO T1 w
theorem pq {K:Frag} {O:Addr→Prop} {H:Hp} {vs:List V} {ds:List PyData} (r:Reps K O H vs ds):vs.isEmpty=ds.isEmpty:=by cases r <;> rfl
theorem Ci {K:Frag} {O:Addr→Prop} {H:Hp} {v:V} {x:PyData} {b:Bool} (h:Vw K O H v x) (e:lN x=some b):oJ K v H b:=by
 cases x with
 | none=>cases h.non; cases e; rfl
 | bool c=>cases h.bl; cases e; rfl
 | int i=>cases h.int; cases e; rfl
 | str y=>
  cases h.str
  have e':(if y.length≤sizeLine then some ((y.length:Int) != 0) else none)=some b:=e
  split at e'
  ·rename_i hl
   cases e'
   exact ⟨hl,rfl⟩
  ·cases e'
 | list xs=>
  obtain ⟨a,vs,rfl,h1,h2⟩:=h.lst
  cases e
  exact .inl ⟨vs,h1,by rw [pq h2]⟩
 | tuple xs=>
  obtain ⟨a,vs,rfl,h1,h2⟩:=h.tup
  cases e
  exact .inr (.inl ⟨vs,h1.sq,by rw [pq h2]⟩)
 | dict kvs=>
  cases e
theorem bG (ha:DE X a fa) (he:∀ whole,isTrue a X.env whole=(do let v ← whole; standAt a.pos; holding [v] (truthy v)):=by intro _; rfl):DT X a (bg fa):=by
 refine ⟨?_⟩
 refine nL (z0 ha.pe he) fun σ H Q=>?_
 rintro ⟨O,ts,ρ,T,b,T',hc,re,e,q⟩
 obtain ⟨w1,T1,e1,e⟩:=aA e
 refine ⟨O,ts,ρ,T,w1,T1,hc,re,e1,fun v1 H1 s1 hc1 r1=>?_⟩
 unfold lO at e
 split at e
 ·rename_i x h1
  split at e
  ·rename_i k h2
   cases e
   exact ⟨b,Ci (hc1.view r1 h1) h2,q H1 s1 hc1⟩
  ·cases e
 ·cases e
def fD (f g:FT):FT:=fun ρ T=>bnd (f ρ T) fun b T1=>if b=true then g ρ T1 else some (false,T1)
def bD (f g:FT):FT:=fun ρ T=>bnd (f ρ T) fun b T1=>if b=true then some (true,T1) else g ρ T1
def cV (f:FT):FT:=fun ρ T=>bnd (f ρ T) fun b T1=>some (!b,T1)
variable {ta tb:FT} {rest:List Expr}
theorem cb {f:FT} (h:DW X a f):DT X a f:=⟨PW.pt h.pe⟩
theorem iG (ha:DT X a ta):DW X (.BoolOp .And [a] pos) ta:=⟨Bf ha.pe⟩
theorem dH (ha:DT X a ta):DW X (.BoolOp .Or [a] pos) ta:=⟨Cu ha.pe⟩
theorem iO (ha:DT X a ta) (hb:DW X (.BoolOp .And (b::rest) pos) tb):DW X (.BoolOp .And (a::b::rest) pos) (fD ta tb):=by
 refine ⟨?_⟩
 refine tM (Cv ha.pe hb.pe) fun σ H Q=>?_
 rintro ⟨O,ts,ρ,T,b,T',hc,re,e,q⟩
 obtain ⟨b1,T1,e1,e⟩:=aA e
 refine ⟨O,ts,ρ,T,b1,T1,hc,re,e1,fun H1 s1 hc1=>?_⟩
 cases b1 with
 | true=>exact eR ⟨O,ts,ρ,T1,b,T',hc1,re.mono hc s1,by simpa using e,fun H2 s2 hc2=>q H2 (s1.trans s2) hc2⟩
 | false=>
  have e':some (false,T1)=some (b,T'):=by simpa using e
  cases e'
  exact eS (q H1 s1 hc1)
theorem cI (ha:DT X a ta) (hb:DW X (.BoolOp .Or (b::rest) pos) tb):DW X (.BoolOp .Or (a::b::rest) pos) (bD ta tb):=by
 refine ⟨?_⟩
 refine tM (Eb ha.pe hb.pe) fun σ H Q=>?_
 rintro ⟨O,ts,ρ,T,b,T',hc,re,e,q⟩
 obtain ⟨b1,T1,e1,e⟩:=aA e
 refine ⟨O,ts,ρ,T,b1,T1,hc,re,e1,fun H1 s1 hc1=>?_⟩
 cases b1 with
 | false=>exact eS ⟨O,ts,ρ,T1,b,T',hc1,re.mono hc s1,by simpa using e,fun H2 s2 hc2=>q H2 (s1.trans s2) hc2⟩
 | true=>
  have e':some (true,T1)=some (b,T'):=by simpa using e
  cases e'
  exact eR (q H1 s1 hc1)
theorem fj (ha:DT X a ta):DT X (.UnaryOp .Not a pos) (cV ta):=by
 refine ⟨?_⟩
 refine nL (Cw ha.pe) fun σ H Q=>?_
 rintro ⟨O,ts,ρ,T,b,T',hc,re,e,q⟩
 obtain ⟨b1,T1,e1,e⟩:=aA e
 cases e
 exact ⟨O,ts,ρ,T,b1,T',hc,re,e1,fun H1 s1 hc1=>q H1 s1 hc1⟩
def bp (f g:FE):FE:=fun ρ T=>bnd (f ρ T) fun w T1=>match asB w with
 | some b=>if b=true then g ρ T1 else some (.d (.bool false),T1)
 | none=>none
def lW (f g:FE):FE:=fun ρ T=>bnd (f ρ T) fun w T1=>match asB w with
 | some b=>if b=true then some (.d (.bool true),T1) else g ρ T1
 | none=>none
def iY (f:FE):FE:=fun ρ T=>bnd (f ρ T) fun w T1=>match asB w with
 | some b=>some (.d (.bool (!b)),T1)
 | none=>none
theorem cz {op} (h:DE X a fa):DE X (.BoolOp op [a] pos) fa:=⟨CH h.pe⟩
theorem bW (ha:DE X a fa) (hb:DE X (.BoolOp .And (b::rest) pos) fb):DE X (.BoolOp .And (a::b::rest) pos) (bp fa fb):=by
 refine ⟨?_⟩
 refine aX (CM ha.pe hb.pe) fun σ H Q=>?_
 rintro ⟨O,ts,ρ,T,w,T',hc,re,e,q⟩
 obtain ⟨w1,T1,e1,e⟩:=aA e
 refine ⟨O,ts,ρ,T,w1,T1,hc,re,e1,fun v1 H1 s1 hc1 r1=>?_⟩
 split at e
 ·rename_i b hb
  have hw:=jD hb
  subst hw
  cases (show Rep X.K O H1 v1 _ from r1)
  cases b with
  | true=>exact ⟨_,rfl,eR ⟨O,ts,ρ,T1,w,T',hc1,re.mono hc s1,by simpa using e,fun v H2 s2 hc2 r2=>q v H2 (s1.trans s2) hc2 r2⟩⟩
  | false=>
   rw [if_neg Bool.false_ne_true] at e
   cases e
   exact ⟨_,rfl,eS (q _ H1 s1 hc1 (.bl false))⟩
 ·cases e
theorem u7 (ha:DE X a fa) (hb:DE X (.BoolOp .Or (b::rest) pos) fb):DE X (.BoolOp .Or (a::b::rest) pos) (lW fa fb):=by
 refine ⟨?_⟩
 refine aX (Ef ha.pe hb.pe) fun σ H Q=>?_
 rintro ⟨O,ts,ρ,T,w,T',hc,re,e,q⟩
 obtain ⟨w1,T1,e1,e⟩:=aA e
 refine ⟨O,ts,ρ,T,w1,T1,hc,re,e1,fun v1 H1 s1 hc1 r1=>?_⟩
 split at e
 ·rename_i b hb
  have hw:=jD hb
  subst hw
  cases (show Rep X.K O H1 v1 _ from r1)
  cases b with
  | false=>exact ⟨_,rfl,eS ⟨O,ts,ρ,T1,w,T',hc1,re.mono hc s1,by simpa using e,fun v H2 s2 hc2 r2=>q v H2 (s1.trans s2) hc2 r2⟩⟩
  | true=>
   rw [if_pos rfl] at e
   cases e
   exact ⟨_,rfl,eR (q _ H1 s1 hc1 (.bl true))⟩
 ·cases e
theorem lh (ha:DE X a fa):DE X (.UnaryOp .Not a pos) (iY fa):=by
 refine ⟨?_⟩
 refine aX (CI ha.pe) fun σ H Q=>?_
 rintro ⟨O,ts,ρ,T,w,T',hc,re,e,q⟩
 obtain ⟨w1,T1,e1,e⟩:=aA e
 refine ⟨O,ts,ρ,T,w1,T1,hc,re,e1,fun v1 H1 s1 hc1 r1=>?_⟩
 split at e
 ·rename_i b hb
  have hw:=jD hb
  subst hw
  cases (show Rep X.K O H1 v1 _ from r1)
  cases e
  exact ⟨_,rfl,q _ H1 s1 hc1 (.bl _)⟩
 ·cases e
def eV (c:FT) (f g:FE):FE:=fun ρ T=>bnd (c ρ T) fun b T1=>if b=true then f ρ T1 else g ρ T1
theorem i4 (hc:DT X c ta) (ha:DE X a fa) (hb:DE X b fb):DE X (.IfExp c a b pos) (eV ta fa fb):=by
 refine ⟨?_⟩
 refine aX (Ab hc.pe ha.pe hb.pe) fun σ H Q=>?_
 rintro ⟨O,ts,ρ,T,w,T',hc,re,e,q⟩
 obtain ⟨b1,T1,e1,e⟩:=aA e
 refine ⟨O,ts,ρ,T,b1,T1,hc,re,e1,fun H1 s1 hc1=>?_⟩
 cases b1 with
 | true=>exact eR ⟨O,ts,ρ,T1,w,T',hc1,re.mono hc s1,by simpa using e,fun v H2 s2 hc2 r2=>q v H2 (s1.trans s2) hc2 r2⟩
 | false=>exact eS ⟨O,ts,ρ,T1,w,T',hc1,re.mono hc s1,by simpa using e,fun v H2 s2 hc2 r2=>q v H2 (s1.trans s2) hc2 r2⟩
theorem EN {op:UnaryOp} {r:V→Hp→VK→Prop} {g1:PyData→Option PyData} (hr:UnR X (unaryOp op) r) (snd:FJ X.K r g1) (ha:DE X a fa):DE X (.UnaryOp op a pos) (fUn g1 fa):=by
 refine ⟨?_⟩
 refine aX (Ee hr ha.pe) fun σ H Q=>?_
 rintro ⟨O,ts,ρ,T,w,T',hc,re,e,q⟩
 obtain ⟨w1,T1,e1,e⟩:=aA e
 obtain ⟨x,d,h1,h3,rfl,rfl⟩:=gN e
 refine ⟨O,ts,ρ,T,w1,T',hc,re,e1,fun v1 H1 s1 hc1 r1=>?_⟩
 exact snd O ts H1 T' v1 x d Q hc1 (hc1.view r1 h1) h3 fun v H' s3 hc3 r3=>q v H' (s1.trans s3) hc3 r3
end
def ai:FA:=fun _ T=>some ([],T)
def ae (f:FE) (g:FA):FA:=fun ρ T=>bnd (f ρ T) fun w T1=>bnd (g ρ T1) fun ws T2=>some (w::ws,T2)
def dj:List W→Option (List PyData)
 | []=>some []
 | .d x::r=>match dj r with
  | some xs=>some (x::xs)
  | none=>none
 | _::_=>none
theorem jk {K:Frag} {O:Addr→Prop} {ts:List Addr} {H:Hp}:∀ {vs:List V} {ws:List W} {xs:List PyData},gm K O ts H vs ws→dj ws=some xs→Reps K O H vs xs
 | _,[],_,.nil,e=>by cases e; exact .nil
 | _,.d x::r,xs,.cons h t,e=>by
  unfold dj at e
  split at e
  ·rename_i ys h2
   cases e
   exact .cons h (jk t h2)
  ·cases e
 | _,.tp _::_,_,.cons _ _,e=>by cases e
 | _,.loc _::_,_,.cons _ _,e=>by cases e
def aR (mk:List PyData→PyData) (f:FA):FE:=fun ρ T=>bnd (f ρ T) fun ws T1=>match dj ws with
 | some xs=>if xs.length≤1000 then some (.d (mk xs),T1) else none
 | none=>none
theorem kA {n:Nat} (h:n≤1000):n≤sizeLine:=Nat.le_trans h (by decide)
def dm (X:Cx) (f:Value) (g:List PyData→Option PyData):Prop:=∃ r,CallR X f r∧∀ (O:Addr→Prop) (ts:List Addr) (H:Hp) (T:Tp) (vs:List V) (xs:List PyData) (d:PyData) (Q:VK),HC X.K O ts H T→Vws X.K O H vs xs→g xs=some d →
 (∀ v H',SameX ts H H'→HC X.K O ts H' T→Rep X.K O H' v d→Q v H')→r vs H Q
def fCB (g:List PyData→Option PyData) (f:FA):FE:=fun ρ T=>bnd (f ρ T) fun ws T1=>match views T1 ws with
 | some xs=>match g xs with
  | some d=>some (.d d,T1)
  | none=>none
 | none=>none
section
variable {X:Cx} {pos p:Pos} {e:Expr} {es:List Expr} {f:FE} {g:FA}
theorem aj:DA X [] ai:=by
 refine ⟨?_⟩
 refine tR cj fun σ H Q=>?_
 rintro ⟨O,ts,ρ,T,w,T',hc,re,e,q⟩
 cases e
 exact q [] H (.refl _ _) hc .nil
theorem ah (ha:DE X e f) (hr:DA X es g) (hs:starEach (e::es) X.env=(false,eval e X.env)::starEach es X.env:=by exact bc rfl):DA X (e::es) (ae f g):=by
 refine ⟨?_⟩
 refine tR (bF ha.pe hr.pe hs) fun σ H Q=>?_
 rintro ⟨O,ts,ρ,T,w,T',hc,re,e,q⟩
 obtain ⟨w1,T1,e1,e⟩:=aA e
 obtain ⟨ws,T2,e2,e⟩:=aA e
 cases e
 refine ⟨O,ts,ρ,T,w1,T1,hc,re,e1,fun v1 H1 s1 hc1 r1=>?_⟩
 exact ⟨O,ts,ρ,T1,ws,_,hc1,re.mono hc s1,e2,fun vs H2 s2 hc2 r2=>q _ H2 (s1.trans s2) hc2 (.cons (r1.mono hc1 s2) r2)⟩
theorem r6 {mk:List PyData→PyData} {g:FA} {ρ:Rho} {T T':Tp} {w:W} (e:aR mk g ρ T=some (w,T')):∃ ws xs,g ρ T=some (ws,T')∧dj ws=some xs∧xs.length≤1000∧w=.d (mk xs):=by
 obtain ⟨ws,T1,e1,e⟩:=aA e
 split at e
 ·rename_i xs h1
  split at e
  ·rename_i h2
   cases e
   exact ⟨ws,xs,e1,h1,h2,rfl⟩
  ·cases e
 ·cases e
theorem bi {x1} (h:DA X es g):DE X (.Tuple es x1 pos) (aR .tuple g):=by
 refine ⟨?_⟩
 refine aX (nN h.pe) fun σ H Q=>?_
 rintro ⟨O,ts,ρ,T,w,T',hc,re,e,q⟩
 obtain ⟨ws,xs,e1,h1,h2,rfl⟩:=r6 e
 refine ⟨O,ts,ρ,T,ws,T',hc,re,e1,fun vs H1 s1 hc1 r1=>?_⟩
 have rs:=jk r1 h1
 refine ⟨kA (by rw [rs.length]; exact h2),fun p hp=>?_⟩
 exact q _ _ (s1.trans (.new hp _)) (hc1.new hp _) (hc1.newT hp rs)
theorem bZ (h:DA X es g):DE X (.List es pos) (aR .list g):=by
 refine ⟨?_⟩
 refine aX (nP h.pe) fun σ H Q=>?_
 rintro ⟨O,ts,ρ,T,w,T',hc,re,e,q⟩
 obtain ⟨ws,xs,e1,h1,h2,rfl⟩:=r6 e
 refine ⟨O,ts,ρ,T,ws,T',hc,re,e1,fun vs H1 s1 hc1 r1=>?_⟩
 have rs:=jk r1 h1
 refine ⟨kA (by rw [rs.length]; exact h2),fun p hp=>?_⟩
 exact q _ _ (s1.trans (.new hp _)) (hc1.new hp _) (hc1.newL hp rs)
theorem ut {K:Frag} {r:List V→Hp→VK→Prop} {gg:List PyData→Option PyData} (snd:∀ (O:Addr→Prop) (ts:List Addr) (H:Hp) (T:Tp) (vs:List V) (xs:List PyData) (d:PyData) (Q:VK),HC K O ts H T→Vws K O H vs xs→gg xs=some d →
  (∀ v H',SameX ts H H'→HC K O ts H' T→Rep K O H' v d→Q v H')→r vs H Q) {σ:L2.St} {H:Hp} {Q:VK} (h:lift K (fCB gg g) σ H Q):tCB r (ol K g) σ H Q:=by
 obtain ⟨O,ts,ρ,T,w,T',hc,re,e,q⟩:=h
 obtain ⟨ws,T1,e1,e⟩:=aA e
 refine ⟨O,ts,ρ,T,ws,T1,hc,re,e1,fun vs H1 s1 hc1 r1=>?_⟩
 split at e
 ·rename_i xs h1
  split at e
  ·rename_i d h2
   cases e
   exact snd O ts H1 T' vs xs d Q hc1 (hc1.views r1 h1) h2 fun v H' s3 hc3 r3=>q v H' (s1.trans s3) hc3 r3
  ·cases e
 ·cases e
theorem bh {x:Str} {id:String} {gg:List PyData→Option PyData} (hc:dm X (.builtin id) gg) (hg:Gl X x) (hm:X.mg x=none) (hv:bootBuiltins x=some (.builtin id)) (ha:DA X (e::es) g) (hn:x≠"__name__":=by decide) (hdb:(x == ("__debug__" : Str))=false:=by decide)
  (he:starEach (e::es) X.env=(false,eval e X.env)::starEach es X.env:=by exact bc rfl) (hpl:(backTo pos (starEach es X.env)).any (·.1)=false:=by exact bE rfl):DE X (.Call (.Name x p) (e::es) [] pos) (fCB gg g):=by
 refine ⟨?_⟩
 obtain ⟨r,hr,snd⟩:=hc
 exact aX (mF hr hg hm hv ha.pe hn hdb he hpl) fun σ H Q h=>ut snd h
theorem bO {x:Str} {id:String} {gg:List PyData→Option PyData} (hc:dm X (.type id) gg) (hg:Gl X x) (hm:X.mg x=none) (hv:bootBuiltins x=some (.type id)) (ha:DA X (e::es) g) (hn:x≠"__name__":=by decide) (hdb:(x == ("__debug__" : Str))=false:=by decide)
  (he:starEach (e::es) X.env=(false,eval e X.env)::starEach es X.env:=by exact bc rfl) (hpl:(backTo pos (starEach es X.env)).any (·.1)=false:=by exact bE rfl):DE X (.Call (.Name x p) (e::es) [] pos) (fCB gg g):=by
 refine ⟨?_⟩
 obtain ⟨r,hr,snd⟩:=hc
 exact aX (qa hr hg hm hv ha.pe hn hdb he hpl) fun σ H Q h=>ut snd h
end
abbrev FI:=Rho→Tp→Option (List PyData×Tp)
def Fu (K:Frag) (tl:TE):TI:=fun σ H R=>tl σ H fun x H1=>(∃ a xs,x=.ref a∧SqL K H1 a xs∧(xs.length≤sizeLine→R (Itl K a) H1))∨(∃ a xs,x=.ref a∧SqT K H1 a xs∧(xs.length≤sizeLine→R (Itt K a) H1))∨(∃ z,x=.str z∧R (Its z) H1)∨∃ a o kvs,x=.ref a∧H1 a=some (.frz o (.dK kvs))∧(kvs.length≤sizeLine→R (Itd a o kvs) H1)
theorem CB {X:Cx} {tg l:Expr} {tl:TE} (hl:PE X l tl):PI X tg l (Fu X.K tl):=by
 intro pins s σ H R I h
 refine thn (hl pins s σ H _ I h) fun v s1 ⟨x,H1,I1,r1,q1⟩=>?_
 have fk:∀ b∈[s1.heap.objs.size],c8 X pins H1 b:=fun b hb=>by
  have e:b=s1.heap.objs.size:=by simpa using hb
  subst e
  exact I1.fpOk (Nat.le_refl _) (I1.hok.fresh (Nat.le_refl _))
 rcases q1 with ⟨a,xs,e,hq,q⟩ | ⟨a,xs,e,hq,q⟩ | ⟨z,e,q⟩ | ⟨a,o,kvs,e,hq,q⟩
 ·subst e
  cases r1
  obtain ⟨its,rv,p,hz⟩:=I1.list hq
  refine wpAny_pyIter_list p.isList ?_
  exact ⟨s1.heap.objs.size,[s1.heap.objs.size],_,_,H1,rfl,I1.kept (t':=s1.toks) fun b o e=>Heap.get?_push_of_some _ e,yQ a _,⟨_,Heap.get?_push_size _ rfl,rfl,rfl⟩,fk,q hz⟩
 ·subst e
  cases r1
  obtain ⟨its,rv,p,hz⟩:=I1.tuple hq
  refine wpAny_pyIter_tuple (show s1.heap.IsTuple a its.toArray from p) ?_
  exact ⟨s1.heap.objs.size,[s1.heap.objs.size],_,_,H1,rfl,I1.kept (t':=s1.toks) fun b o e=>Heap.get?_push_of_some _ e,yk a _,⟨_,Heap.get?_push_size _ rfl,rfl,rfl⟩,fk,q hz⟩
 ·subst e
  obtain ⟨t,rfl⟩:=r1
  cases ha:z.cps.all (· < 128) with
  | false=>
   refine wpAny_pyIter_wide ha ?_
   exact ⟨s1.heap.objs.size,[s1.heap.objs.size],_,_,H1,rfl,I1.kept (t':=s1.toks) fun b o e=>Heap.get?_push_of_some _ e,qJ z t "str_iterator" _ (.inr rfl),⟨_,Heap.get?_push_size _ rfl,rfl,rfl⟩,fk,q⟩
  | true=>
   refine wpAny_pyIter_ascii ha ?_
   exact ⟨s1.heap.objs.size,[s1.heap.objs.size],_,_,H1,rfl,I1.kept (t':=s1.toks) fun b o e=>Heap.get?_push_of_some _ e,qJ z t "str_ascii_iterator" _ (.inl rfl),⟨_,Heap.get?_push_size _ rfl,rfl,rfl⟩,fk,q⟩
 ·subst e
  cases r1
  obtain ⟨z,y,vs,kv,dd⟩:=ms I1.hok hq
  refine wpAny_pyIter_dict y dd ?_
  exact ⟨s1.heap.objs.size,[s1.heap.objs.size],_,_,H1,rfl,I1.kept (t':=s1.toks) fun b o e=>Heap.get?_push_of_some _ e,yR a _ o kvs,⟨_,Heap.get?_push_size _ rfl,rfl,by rw [kv.length]; rfl⟩,fk,q z⟩
def ItOk (K:Frag) (O:Addr→Prop) (H1:Hp) (J:It) (ds:List PyData):Prop:=∀ O' H',Le O H1 O' H'→(∀ i,i < ds.length→J.go i H')∧J.stop ds.length H'∧∀ i v H'',J.yld i H' v H''→i < ds.length→H''=H'∧∃ d,ds[i]? = some d∧Rep K O' H' v d
inductive LiftIP (K:Frag) (f:FI) (σ:L2.St) (H:Hp) (R:It→Hp→Prop):Prop where
 | mk (O:Addr→Prop) (ts:List Addr) (ρ:Rho) (T:Tp) (ds:List PyData) (T':Tp) (hc:HC K O ts H T) (re:RelE K O ts H σ ρ) (e:f ρ T=some (ds,T')) (q:∀ J H1,SameX ts H H1→HC K O ts H1 T'→ItOk K O H1 J ds→ds.length≤sizeLine→R J H1):LiftIP K f σ H R
def lD (K:Frag) (f:FI):TI:=fun σ H R=>LiftIP K f σ H R
structure DI (X:Cx) (tg e:Expr) (f:FI):Prop where
 pe:PI X tg e (lD X.K f)
theorem tP {X:Cx} {tg e:Expr} {t t':TI} (h:PI X tg e t) (i:∀ σ H Q,t' σ H Q→t σ H Q):PI X tg e t':=fun pins s σ H Q I q=>h pins s σ H Q I (i σ H Q q)
def signs (z:Str):List PyData:=z.cps.toList.map fun c=>.str ⟨#[c]⟩
def gQ:PyData→Option (List PyData)
 | .list xs=>some xs
 | .tuple xs=>some xs
 | .str z=>if z.length≤sizeLine then some (signs z) else none
 | .dict ds=>some (ds.map (·.1))
 | _=>none
def b8 (f:FE):FI:=fun ρ T=>bnd (f ρ T) fun w T1=>match w with
 | .d x=>match gQ x with
  | some xs=>some (xs,T1)
  | none=>none
 | _=>none
theorem ItOk.lst {K:Frag} {O:Addr→Prop} {H1:Hp} {a:Addr} {vs:List V} {ds:List PyData} (h:LstAt K O H1 a vs) (r:Reps K O H1 vs ds):ItOk K O H1 (Itl K a) ds:=fun O' H' le=>by
 have sq:=(h.mono le).sq
 have hl:=r.length
 refine ⟨fun i hi=>⟨vs,vs[i]'(by omega),sq,by simp⟩,⟨vs,sq,by omega⟩,fun i v H'' y hi=>?_⟩
 obtain ⟨e,y⟩:=y
 obtain ⟨d,h1,h2⟩:=r.get (y vs sq)
 exact ⟨e,d,h1,h2.mono le⟩
theorem ItOk.tup {K:Frag} {O:Addr→Prop} {H1:Hp} {a:Addr} {vs:List V} {ds:List PyData} (h:TupAt K O H1 a vs) (r:Reps K O H1 vs ds):ItOk K O H1 (Itt K a) ds:=fun O' H' le=>by
 have sq:=(h.mono le).sq
 have hl:=r.length
 refine ⟨fun i hi=>⟨vs,vs[i]'(by omega),sq,by simp⟩,⟨vs,sq,by omega⟩,fun i v H'' y hi=>?_⟩
 obtain ⟨e,y⟩:=y
 obtain ⟨d,h1,h2⟩:=r.get (y vs sq)
 exact ⟨e,d,h1,h2.mono le⟩
theorem ItOk.str {K:Frag} {O:Addr→Prop} {H1:Hp} {z:Str}:ItOk K O H1 (Its z) (signs z):=fun O' H' le=>by
 have hl:(signs z).length=z.cps.size:=by simp [signs]
 refine ⟨fun i hi=>by rw [hl] at hi; exact hi,by rw [hl]; exact Nat.le_refl _,fun i v H'' y hi=>?_⟩
 obtain ⟨e,c,hc,y⟩:=y
 subst y
 refine ⟨e,.str ⟨#[c]⟩,?_,.str _⟩
 unfold signs
 rw [List.getElem?_map]
 have:z.cps.toList[i]? = some c:=by simpa using hc
 rw [this]
 rfl
theorem mh {K:Frag} {O:Addr→Prop} {H:Hp}:∀ {kvs:List (Key×V)} {ds:List (PyData×PyData)},RepK K O H kvs ds→kvs.length=ds.length
 | _,_,.nil=>rfl
 | _,_,.cons _ t=>congrArg (· + 1) (mh t)
theorem qS {K:Frag} {O:Addr→Prop} {H:Hp}:∀ {kvs:List (Key×V)} {ds:List (PyData×PyData)} {i:Nat} {k:Key} {v:V},RepK K O H kvs ds→kvs[i]? = some (k,v)→(ds.map (·.1))[i]? = some (jU k)
 | _,_,_,_,_,.nil,e=>by simp at e
 | _,_,0,_,_,.cons r _,e=>by simp at e; obtain ⟨rfl,rfl⟩:=e; rfl
 | _,_,i + 1,k,v,.cons _ t,e=>by
  have:=qS (i:=i) t (by simpa using e)
  simpa using this
theorem se {K:Frag} {O:Addr→Prop} {H:Hp} (k:Key):Rep K O H (kV k) (jU k):=by
 cases k with
 | inl i=>exact .int i
 | inr x=>exact .str x
theorem ItOk.dct {K:Frag} {O:Addr→Prop} {H1:Hp} {a:Addr} {o:Obj} {kvs:List (Key×V)} {ds:List (PyData×PyData)} (n:¬ O a) (h:H1 a=some (.frz o (.dK kvs))) (r:RepK K O H1 kvs ds):ItOk K O H1 (Itd a o kvs) (ds.map (·.1)):=fun O' H' le=>by
 have h':=(le a _ n h).2
 have hl:=mh r
 refine ⟨fun i hi=>⟨h',by simp at hi; omega⟩,⟨h',by simp [hl]⟩,fun i v H'' y hi=>?_⟩
 obtain ⟨e,k,v0,y1,y2⟩:=y
 subst y2
 exact ⟨e,_,qS r y1,se k⟩
theorem dC {X:Cx} {tg e:Expr} {f:FE} (h:DE X e f):DI X tg e (b8 f):=by
 refine ⟨?_⟩
 refine tP (CB h.pe) fun σ H R=>?_
 rintro ⟨O,ts,ρ,T,ds,T',hc,re,e,q⟩
 obtain ⟨w1,T1,e1,e⟩:=aA e
 refine ⟨O,ts,ρ,T,w1,T1,hc,re,e1,fun v1 H1 s1 hc1 r1=>?_⟩
 split at e
 ·rename_i x
  split at e
  ·rename_i xs h1
   cases e
   have rr:Rep X.K O H1 v1 x:=r1
   cases x with
   | list ys=>
    cases h1
    cases rr with
    | lst t r=>exact .inl ⟨_,_,rfl,t.sq,fun hz=>q _ H1 s1 hc1 (.lst t r) (by rw [← r.length]; exact hz)⟩
   | tuple ys=>
    cases h1
    cases rr with
    | tup t r=>exact .inr (.inl ⟨_,_,rfl,t.sq,fun hz=>q _ H1 s1 hc1 (.tup t r) (by rw [← r.length]; exact hz)⟩)
   | str z=>
    have h1':(if z.length≤sizeLine then some (signs z) else none)=some _:=h1
    split at h1'
    ·rename_i hz
     cases h1'
     cases rr
     exact .inr (.inr (.inl ⟨z,rfl,q _ H1 s1 hc1 .str (by rw [show (signs z).length=z.cps.size by simp [signs]]; exact hz)⟩))
    ·cases h1'
   | dict ys=>
    cases h1
    cases rr with
    | dct n t r=>exact .inr (.inr (.inr ⟨_,_,_,rfl,t,fun hz=>q _ H1 s1 hc1 (.dct n t r) (by rw [List.length_map,← mh r]; exact hz)⟩))
   | _=>cases h1
  ·cases e
 ·cases e
def ba (lo:Int) (n:Nat):List PyData:=(List.range n).map fun (i:Nat)=>.int (lo + (i:Int))
theorem ItOk.rng {K:Frag} {O:Addr→Prop} {H1:Hp} {lo:Int} {n:Nat}:ItOk K O H1 (Itr lo n) (ba lo n):=fun O' H' le=>by
 have hl:(ba lo n).length=n:=by simp [ba]
 refine ⟨fun i hi=>by rw [hl] at hi; exact hi,by rw [hl]; exact Nat.le_refl _,fun i v H'' y hi=>?_⟩
 obtain ⟨e,y⟩:=y
 subst y
 rw [hl] at hi
 exact ⟨e,.int (lo + i),by simp [ba,hi],.int _⟩
def iS (j:Int):Bool:=decide (-1000000≤j∧j≤16777216)
theorem Ct {j:Int} (h:iS j=true) : -(2 ^ 62)≤j∧j < 2 ^ 62∧j.toNat≤sizeLine:=by
 have h':=of_decide_eq_true h
 have e:sizeLine=16777216:=by decide
 omega
def cH (f:FE):FI:=fun ρ T=>bnd (f ρ T) fun w T1=>match w with
 | .d (.int j)=>if iS j=true then some (ba 0 j.toNat,T1) else none
 | _=>none
theorem eE {X:Cx} {tg a:Expr} {f:FE} {p pos:Pos} (hg:Gl X "range") (hm:X.mg "range" = none) (ha:DE X a f) (hs:starEach [a] X.env=[(false,eval a X.env)]:=by exact kh rfl):DI X tg (.Call (.Name "range" p) [a] [] pos) (cH f):=by
 refine ⟨?_⟩
 refine tP (y4 (ta:=n9 (lift X.K f) lQ) hg hm (bF ha.pe cj (by rw [hs]; rfl)) hs) fun σ H R=>?_
 rintro ⟨O,ts,ρ,T,ds,T',hc,re,e,q⟩
 obtain ⟨w1,T1,e1,e⟩:=aA e
 refine ⟨O,ts,ρ,T,w1,T1,hc,re,e1,fun v1 H1 s1 hc1 r1=>?_⟩
 split at e
 ·rename_i j
  split at e
  ·rename_i h1
   cases e
   cases (show Rep X.K O H1 v1 _ from r1)
   obtain ⟨b1,b2,b3⟩:=Ct h1
   exact ⟨j,rfl,b1,b2,q _ H1 s1 hc1 .rng (by simpa [ba] using b3)⟩
  ·cases e
 ·cases e
def bK (c:FT) (e:FE) (ρ:Rho):List PyData→Tp→Option (List PyData×Tp)
 | [],T=>some ([],T)
 | d::r,T=>bnd (c (some (.d d)::ρ) T) fun b T1=>if b=true then bnd (e (some (.d d)::ρ) T1) fun w T2=>match w with
   | .d y=>bnd (bK c e ρ r T2) fun ys T3=>some (y::ys,T3)
   | _=>none
  else bK c e ρ r T1
def b9 (it:FI) (c:FT) (e:FE):FE:=fun ρ T=>bnd (it ρ T) fun ds T1=>bnd (bK c e ρ ds T1) fun ys T2=>some (.d (.list ys),T2)
def bv:FT:=fun _ T=>some (true,T)
theorem RelE.cons {K:Frag} {O:Addr→Prop} {ts:List Addr} {H:Hp} {σ:L2.St} {ρ:Rho} {v:V} {d:PyData} (re:RelE K O ts H σ ρ) (r:Rep K O H v d):RelE K O ts H (some v::σ) (some (.d d)::ρ):=fun i w e=>by
 cases i with
 | zero=>cases e; exact ⟨v,rfl,r⟩
 | succ i=>
  obtain ⟨u,h1,h2⟩:=re i w (by simpa using e)
  exact ⟨u,by simpa using h1,h2⟩
theorem ni {K:Frag} {O:Addr→Prop} {ts:List Addr} {H1:Hp} {σ:L2.St} {ρ:Rho} {J:It} {c:FT} {e:FE} {ds ys:List PyData} {T1 T2:Tp} {Dn:List V→Hp→Prop} (hc:HC K O ts H1 T1) (re:RelE K O ts H1 σ ρ) (ok:ItOk K O H1 J ds) (hz:ds.length≤sizeLine)
  (ee:bK c e ρ ds T1=some (ys,T2)) (q:∀ vs H',SameX ts H1 H'→HC K O ts H' T2→Reps K O H' vs ys→Dn vs H') :
  ∃ W:Nat→Nat→List V→Hp→Prop,(∃ m,W 0 m [] H1)∧lL σ J (liftT K c) (lift K e) W Dn:=by
 refine ⟨fun i m vs H'=>m=ds.length - i∧i≤ds.length∧vs.length≤i∧∃ T dn rs,SameX ts H1 H'∧HC K O ts H' T∧Reps K O H' vs dn∧bK c e ρ (ds.drop i) T=some (rs,T2)∧ys=dn++rs,⟨_,rfl,Nat.zero_le _,Nat.le_refl _,T1,[],ys,.refl _ _,hc,.nil,ee,rfl⟩,?_⟩
 rintro i m vs H' ⟨rfl,hi,hv,T,dn,rs,s1,hc1,rv,ec,ey⟩
 obtain ⟨k1,k2,k3⟩:=ok O H' (hc.le s1)
 by_cases hlt:i < ds.length
 ·refine .inr ⟨k1 i hlt,by omega,fun vs' H2=>i + 1≤ds.length∧vs'.length≤i + 1∧∃ T dn rs,SameX ts H1 H2∧HC K O ts H2 T∧Reps K O H2 vs' dn∧bK c e ρ (ds.drop (i + 1)) T=some (rs,T2)∧ys=dn++rs,fun vs' H2 n=>⟨ds.length - (i + 1),by omega,rfl,n⟩,fun v H2 y=>?_⟩
  obtain ⟨e2,d,hd,rd⟩:=k3 i v H2 y hlt
  subst e2
  have hdr:ds.drop i=d::ds.drop (i + 1):=by
   rw [List.drop_eq_getElem_cons hlt]
   have:=(List.getElem?_eq_some_iff.mp hd).2
   rw [this]
  rw [hdr] at ec
  obtain ⟨b,T3,e3,ec⟩:=aA ec
  refine ⟨O,ts,some (.d d)::ρ,T,b,T3,hc1,(re.mono hc s1).cons rd,e3,fun H3 s3 hc3=>?_⟩
  cases b with
  | false=>
   rw [if_neg Bool.false_ne_true] at ec
   exact eS ⟨hlt,by omega,T3,dn,rs,s1.trans s3,hc3,rv.mono (hc1.le s3),ec,ey⟩
  | true=>
   rw [if_pos rfl] at ec
   obtain ⟨w,T4,e4,ec⟩:=aA ec
   refine eR ⟨O,ts,some (.d d)::ρ,T3,w,T4,hc3,((re.mono hc s1).cons rd).mono hc1 s3,e4,fun u H4 s4 hc4 r4=>?_⟩
   split at ec
   ·rename_i y
    obtain ⟨zs,T5,e5,ec⟩:=aA ec
    cases ec
    refine ⟨hlt,by simp; omega,T4,dn++[y],zs,s1.trans (s3.trans s4),hc4,(rv.mono (hc1.le (s3.trans s4))).append (.cons r4 .nil),e5,by rw [ey]; simp⟩
   ·cases ec
 ·have e:i=ds.length:=by omega
  subst e
  rw [List.drop_eq_nil_of_le (Nat.le_refl _)] at ec
  cases ec
  rw [List.append_nil] at ey
  subst ey
  exact .inl ⟨k2,by omega,q vs H' s1 hc1 rv⟩
structure DTs (X:Cx) (es:List Expr) (f:FT):Prop where
 pe:PTs X es (liftT X.K f)
theorem cS {X:Cx}:DTs X [] bv:=⟨fun pins s σ H Q E I h=>by
 refine Bh pins s σ H Q E I ?_
 obtain ⟨O,ts,ρ,T,w,T',hc,re,e,q⟩:=h
 cases e
 exact q H (.refl _ _) hc⟩
theorem dE {X:Cx} {x:Str} {scope osc:Scope} {N N':List Str} {elt iter:Expr} {ifs:List Expr} {px pos:Pos} {it:FI} {c:FT} {f:FE} (S:CS osc N x scope N') (hi:DI X (.Name x px) iter it)
  (he:∀ C s0 H0 ex,DE (bQ X x scope C s0 H0 ex N') elt f) (ht:∀ C s0 H0 ex,DTs (bQ X x scope C s0 H0 ex N') ifs c) (hc:X.calm=true:=by rfl) (hs:X.env.scope=osc:=by rfl) (hN:X.N=N:=by rfl)
  (hf:∀ v,foldedSetIterable iter X.env v=pure v:=by intro _; rfl):DE X (.ListComp elt [⟨.Name x px,iter,ifs,0⟩] scope pos) (b9 it c f):=by
 refine ⟨?_⟩
 refine aX (qX (wi:=lD X.K it) (tt:=liftT X.K c) (te:=lift X.K f) S hi.pe (fun C s0 H0 ex=>(he C s0 H0 ex).pe) (fun C s0 H0 ex=>(ht C s0 H0 ex).pe) hc hs hN hf) fun σ H Q=>?_
 rintro ⟨O,ts,ρ,T,w,T',hc,re,e,q⟩
 obtain ⟨ds,T1,e1,e⟩:=aA e
 obtain ⟨ys,T2,e2,e⟩:=aA e
 cases e
 refine ⟨O,ts,ρ,T,ds,T1,hc,re,e1,fun J H1 s1 hc1 ok hz=>?_⟩
 exact ni hc1 (re.mono hc s1) ok hz e2 fun vs H' s2 hc2 r2 p hp=>q _ _ (s1.trans (s2.trans (.new hp _))) (hc2.new hp _) (hc2.newL hp r2)
inductive Fl where
 | nx | rt (x:PyData) | ro (x:PyData) | bk | ct
abbrev FS:=Rho→Tp→Option ((Fl×Rho)×Tp)
structure RS (K:Frag) (O₀:Addr→Prop) (H₀:Hp) (F:List ((Addr→Prop)×Hp)) (ts:List Addr) (O:Addr→Prop) (H:Hp) (σ:L2.St) (ρ:Rho) (T:Tp):Prop where
 hc:HC K O ts H T
 re:RelE K O ts H σ ρ
 sub:∀ b,O₀ b→O b
 ots:∀ b∈ts,O₀ b
 same:SameX ts H₀ H
 fresh:∀ (i:Nat) (xs:PyData) (a:Addr),ρ[i]? = some (some (.loc xs))→σ[i]? = some (some (.ref a))→H₀ a=none∧¬ O₀ a
 dist:∀ (i j:Nat) (xs ys:PyData) (v:V),ρ[i]? = some (some (.loc xs))→ρ[j]? = some (some (.loc ys))→σ[i]? = some (some v)→σ[j]? = some (some v)→i=j
 frs:∀ f∈F,Le f.1 f.2 O H
 len:σ.length=ρ.length
def OwnV (K:Frag) (O A:Addr→Prop) (H:Hp) (v:V):PyData→Prop
 | .tuple [x,y]=>∃ p a b,v=.ref p∧a≠b∧(∀ c,A c↔c=a∨c=b)∧¬ O p∧H p=some (.tup [.ref a,.ref b])∧OwnAt K O H a x∧OwnAt K O H b y
 | .none=>v=.non∧∀ c,¬ A c
 | x=>∃ a,v=.ref a∧(∀ c,A c↔c=a)∧OwnAt K O H a x
theorem OwnV.mono {K:Frag} {O O' A:Addr→Prop} {H:Hp} {v:V} {x:PyData} (le:Le O H O' H) (h:OwnV K O A H v x):OwnV K O' A H v x:=by
 unfold OwnV at h ⊢
 split at h
 ·obtain ⟨p,a,b,e1,e2,e3,np,hp,oa,ob⟩:=h
  exact ⟨p,a,b,e1,e2,e3,(le p _ np hp).1,hp,oa.mono (fun _ h=>h) le,ob.mono (fun _ h=>h) le⟩
 ·exact h
 ·obtain ⟨a,e,hA,oa⟩:=h
  exact ⟨a,e,hA,oa.mono (fun _ h=>h) le⟩
def vj (K:Frag) (O₀:Addr→Prop) (H₀:Hp) (F:List ((Addr→Prop)×Hp)) (ts:List Addr) (D:Ends) (ρ':Rho) (T':Tp):Fl→Prop
 | .nx=>∀ O' σ' H',RS K O₀ H₀ F ts O' H' σ' ρ' T'→D.nx σ' H'
 | .bk=>∀ O' σ' H',RS K O₀ H₀ F ts O' H' σ' ρ' T'→D.bk σ' H'
 | .ct=>∀ O' σ' H',RS K O₀ H₀ F ts O' H' σ' ρ' T'→D.ct σ' H'
 | .rt x=>∀ v H',SameX ts H₀ H'→HC K O₀ ts H' T'→Rep K O₀ H' v x→D.rt v H'
 | .ro x=>∀ (A:Addr→Prop) v H',SameX ts H₀ H'→(∀ b,A b→H₀ b=none∧¬ O₀ b)→HC K (fun b=>O₀ b∨A b) ts H' T'→OwnV K (fun b=>O₀ b∨A b) A H' v x→D.rt v H'
inductive LiftSP (K:Frag) (f:FS) (D:Ends) (σ:L2.St) (H:Hp):Prop where
 | mk (O₀:Addr→Prop) (H₀:Hp) (F:List ((Addr→Prop)×Hp)) (ts:List Addr) (O:Addr→Prop) (ρ:Rho) (T:Tp) (fl:Fl) (ρ':Rho) (T':Tp) (rs:RS K O₀ H₀ F ts O H σ ρ T) (e:f ρ T=some ((fl,ρ'),T')) (q:vj K O₀ H₀ F ts D ρ' T' fl):LiftSP K f D σ H
def oj (K:Frag) (f:FS):TS:=fun D σ H=>LiftSP K f D σ H
structure DS (X:Cx) (s:Stmt) (f:FS):Prop where
 pe:PS X s (oj X.K f)
structure DSs (X:Cx) (s:List Stmt) (f:FS):Prop where
 pe:PSs X s (oj X.K f)
theorem bV {X:Cx} {e:Stmt} {t t':TS} (h:PS X e t) (i:∀ D σ H,t' D σ H→t D σ H):PS X e t':=fun pins s σ H D I q=>h pins s σ H D I (i D σ H q)
theorem iB {X:Cx} {e:List Stmt} {t t':TS} (h:PSs X e t) (i:∀ D σ H,t' D σ H→t D σ H):PSs X e t':=fun pins s σ H D I q=>h pins s σ H D I (i D σ H q)
section
variable {K:Frag} {O₀:Addr→Prop} {H₀:Hp} {F:List ((Addr→Prop)×Hp)} {ts:List Addr} {O:Addr→Prop} {H H1:Hp} {σ:L2.St} {ρ:Rho} {T T1:Tp}
theorem RS.step (r:RS K O₀ H₀ F ts O H σ ρ T) (s:SameX ts H H1) (c:HC K O ts H1 T1):RS K O₀ H₀ F ts O H1 σ ρ T1 where
 hc:=c
 re:=r.re.mono r.hc s
 sub:=r.sub
 ots:=r.ots
 same:=r.same.trans s
 fresh:=r.fresh
 dist:=r.dist
 frs:=fun f hf=>(r.frs f hf).trans (r.hc.le s)
 len:=r.len
theorem cR {i j:Nat} {w:W} {xs:PyData} (hw:∀ ys,w≠.loc ys) (e:(ρ.set i (some w))[j]? = some (some (.loc xs))):j≠i∧ρ[j]? = some (some (.loc xs)):=by
 by_cases z:i=j
 ·subst z
  rw [List.getElem?_set_self'] at e
  cases h:ρ[i]? with
  | none=>rw [h] at e; cases e
  | some u=>
   rw [h] at e
   have e':some (some w)=some (some (W.loc xs)):=e
   cases e'
   exact absurd rfl (hw xs)
 ·rw [List.getElem?_set_ne z] at e
  exact ⟨fun q=>z q.symm,e⟩
theorem RS.set {i:Nat} {v:V} {w:W} (r:RS K O₀ H₀ F ts O H σ ρ T) (rw':RepW K O ts H v w) (hw:∀ ys,w≠.loc ys):RS K O₀ H₀ F ts O H (σ.set i (some v)) (ρ.set i (some w)) T where
 hc:=r.hc
 re:=fun j u e=>by
  by_cases z:i=j
  ·subst z
   have hl:i < ρ.length:=by
    have:=(List.getElem?_eq_some_iff.mp e).1
    simpa using this
   rw [List.getElem?_set_self hl] at e
   cases e
   exact ⟨v,by rw [List.getElem?_set_self (by rw [r.len]; exact hl)],rw'⟩
  ·rw [List.getElem?_set_ne z] at e
   obtain ⟨x,h1,h2⟩:=r.re j u e
   exact ⟨x,by rw [List.getElem?_set_ne z]; exact h1,h2⟩
 sub:=r.sub
 ots:=r.ots
 same:=r.same
 fresh:=fun j xs a e1 e2=>by
  obtain ⟨n,e⟩:=cR hw e1
  rw [List.getElem?_set_ne (Ne.symm n)] at e2
  exact r.fresh j xs a e e2
 dist:=fun j k xs ys u e1 e2 e3 e4=>by
  obtain ⟨n1,e1⟩:=cR hw e1
  obtain ⟨n2,e2⟩:=cR hw e2
  rw [List.getElem?_set_ne (Ne.symm n1)] at e3
  rw [List.getElem?_set_ne (Ne.symm n2)] at e4
  exact r.dist j k xs ys u e1 e2 e3 e4
 frs:=r.frs
 len:=by simp [r.len]
theorem RS.ownO {i:Nat} {p:Addr} {o:HO} {xs:PyData} (r:RS K O₀ H₀ F ts O H σ ρ T) (hp:H p=none) (hm:Mut (some o)) (rv:Le O H (fun b=>O b∨b=p) (upd H p o)→OwnAt K (fun b=>O b∨b=p) (upd H p o) p xs):RS K O₀ H₀ F ts (fun b=>O b∨b=p) (upd H p o) (σ.set i (some (.ref p))) (ρ.set i (some (.loc xs))) T:=by
 have le:Le O H (fun b=>O b∨b=p) (upd H p o):=fun a o n e=>by
  have z:a≠p:=bN e hp
  exact ⟨fun q=>q.elim n z,by rw [aK z]; exact e⟩
 have h0:∀ {G:Hp},SameX ts G H→p∉ts→G p=none:=fun {G} s nt=>by
  cases e:G p with
  | none=>rfl
  | some o=>rw [s p o nt e] at hp; cases hp
 have nO:=r.hc.fresh hp
 have nt:p∉ts:=fun z=>nO (r.hc.own p z)
 have old:∀ {j:Nat} {v:V} {w:W},σ[j]? = some (some v)→RepW K O ts H v w→RepW K (fun b=>O b∨b=p) ts (upd H p o) v w:=fun {j v w} e q=>by
  cases w with
  | d x=>exact Rep.mono le q
  | tp k=>exact q
  | loc ys=>
   obtain ⟨a,e1,h1,h2,h3⟩:=q
   exact ⟨a,e1,.inl h1,h2,h3.mono (fun o' q=>by rw [aK (bN q hp)]; exact q) le⟩
 have notp:∀ {j:Nat} {ys:PyData},ρ[j]? = some (some (.loc ys))→σ[j]? = some (some (.ref p))→False:=fun {j ys} e1 e2=>by
  obtain ⟨v,h1,a,ea,h2,h3,h4⟩:=r.re j _ e1
  rw [e2] at h1
  cases h1
  cases ea
  obtain ⟨o',h5⟩:=h4.some
  rw [hp] at h5
  cases h5
 refine ⟨⟨fun b hb=>.inl (r.hc.own b hb),fun b hb=>?_,r.hc.nd,r.hc.len,fun j a ys e1 e2=>?_⟩,fun j w e=>?_,fun b hb=>.inl (r.sub b hb),r.ots,r.same.trans (.new hp _),fun j ys a e1 e2=>?_,fun j k ys zs v e1 e2 e3 e4=>?_,fun f hf=>(r.frs f hf).trans le,by simp [r.len]⟩
 ·by_cases z:b=p
  ·subst z; rw [aZ]; exact hm
  ·rw [aK z]
   exact r.hc.trk b (hb.resolve_right z)
 ·exact (r.hc.tape j a ys e1 e2).mono (fun o' h1=>by rw [aK (bN h1 hp)]; exact h1) le
 ·by_cases z:i=j
  ·subst z
   have hl:i < ρ.length:=by
    have:=(List.getElem?_eq_some_iff.mp e).1
    simpa using this
   rw [List.getElem?_set_self hl] at e
   cases e
   exact ⟨.ref p,by rw [List.getElem?_set_self (by rw [r.len]; exact hl)],p,rfl,.inr rfl,nt,rv le⟩
  ·rw [List.getElem?_set_ne z] at e
   obtain ⟨x,h1,h2⟩:=r.re j w e
   exact ⟨x,by rw [List.getElem?_set_ne z]; exact h1,old h1 h2⟩
 ·by_cases z:i=j
  ·subst z
   have hl:i < ρ.length:=by
    have:=(List.getElem?_eq_some_iff.mp e1).1
    simpa using this
   rw [List.getElem?_set_self (by rw [r.len]; exact hl)] at e2
   cases e2
   exact ⟨h0 r.same nt,fun q=>nO (r.sub _ q)⟩
  ·rw [List.getElem?_set_ne z] at e1 e2
   exact r.fresh j ys a e1 e2
 ·by_cases z:i=j
  ·by_cases z':i=k
   ·rw [← z,← z']
   ·exfalso
    subst z
    have hl:i < ρ.length:=by
     have:=(List.getElem?_eq_some_iff.mp e1).1
     simpa using this
    rw [List.getElem?_set_self (by rw [r.len]; exact hl)] at e3
    cases e3
    rw [List.getElem?_set_ne z'] at e2 e4
    exact notp e2 e4
  ·by_cases z':i=k
   ·exfalso
    subst z'
    have hl:i < ρ.length:=by
     have:=(List.getElem?_eq_some_iff.mp e2).1
     simpa using this
    rw [List.getElem?_set_self (by rw [r.len]; exact hl)] at e4
    cases e4
    rw [List.getElem?_set_ne z] at e1 e3
    exact notp e1 e3
   ·rw [List.getElem?_set_ne z] at e1 e3
    rw [List.getElem?_set_ne z'] at e2 e4
    exact r.dist j k ys zs v e1 e2 e3 e4
theorem RS.own {i:Nat} {p:Addr} {vs:List V} {xs:List PyData} (r:RS K O₀ H₀ F ts O H σ ρ T) (hp:H p=none) (rv:Reps K O H vs xs):RS K O₀ H₀ F ts (fun b=>O b∨b=p) (upd H p (.lst vs)) (σ.set i (some (.ref p))) (ρ.set i (some (.loc (.list xs)))) T:=r.ownO hp (.inl ⟨_,rfl⟩) fun le=>⟨vs,aZ,rv.mono le⟩
theorem RS.putO {i:Nat} {a:Addr} {o:HO} {xs ys:PyData} (r:RS K O₀ H₀ F ts O H σ ρ T) (e1:ρ[i]? = some (some (.loc xs))) (e2:σ[i]? = some (some (.ref a))) (hm:Mut (some o)) (rv:Le O H O (upd H a o)→OwnAt K O (upd H a o) a ys):RS K O₀ H₀ F ts O (upd H a o) σ (ρ.set i (some (.loc ys))) T:=by
 obtain ⟨v,z1,a',ea,oa,nt,ha⟩:=r.re i _ e1
 rw [e2] at z1
 cases z1
 cases ea
 have hl:i < ρ.length:=(List.getElem?_eq_some_iff.mp e1).1
 obtain ⟨f1,f2⟩:=r.fresh i xs a e1 e2
 have le:Le O H O (upd H a o):=fun b o n e=>⟨n,by rw [aK (show b≠a from fun z=>n (by rw [z]; exact oa))]; exact e⟩
 have back:∀ {j:Nat} {zs:PyData},(ρ.set i (some (W.loc ys)))[j]? = some (some (.loc zs))→∃ ws,ρ[j]? = some (some (.loc ws)):=fun {j zs} e=>by
  by_cases z:i=j
  ·subst z; exact ⟨xs,e1⟩
  ·rw [List.getElem?_set_ne z] at e; exact ⟨zs,e⟩
 refine ⟨⟨r.hc.own,fun b hb=>?_,r.hc.nd,r.hc.len,fun j b zs q1 q2=>?_⟩,fun j w e=>?_,r.sub,r.ots,fun b o n e=>?_,fun j zs b q1 q2=>?_,fun j k zs zs' v q1 q2 q3 q4=>?_,fun f hf=>(r.frs f hf).trans le,by simp [r.len]⟩
 ·by_cases z:b=a
  ·subst z; rw [aZ]; exact hm
  ·rw [aK z]; exact r.hc.trk b hb
 ·exact (r.hc.tape j b zs q1 q2).mono (fun o' h1=>by rw [aK (show b≠a from fun z=>nt (by rw [← z]; exact List.mem_of_getElem? q1))]; exact h1) le
 ·by_cases z:i=j
  ·subst z
   rw [List.getElem?_set_self hl] at e
   cases e
   exact ⟨.ref a,e2,a,rfl,oa,nt,rv le⟩
  ·rw [List.getElem?_set_ne z] at e
   obtain ⟨x,h1,h2⟩:=r.re j w e
   refine ⟨x,h1,?_⟩
   cases w with
   | d x=>exact Rep.mono le h2
   | tp k=>exact h2
   | loc zs=>
    obtain ⟨b,eb,k1,k2,k3⟩:=h2
    have n:b≠a:=fun q=>z (r.dist i j xs zs (.ref a) e1 e e2 (by rw [h1,eb,q]))
    exact ⟨b,eb,k1,k2,k3.mono (fun o' q=>by rw [aK n]; exact q) le⟩
 ·have:=r.same b o n e
  rw [aK (show b≠a from fun z=>by rw [z,f1] at e; cases e)]
  exact this
 ·obtain ⟨ws,q⟩:=back q1
  exact r.fresh j ws b q q2
 ·obtain ⟨ws,q⟩:=back q1
  obtain ⟨ws',q'⟩:=back q2
  exact r.dist j k ws ws' v q q' q3 q4
theorem RS.put {i:Nat} {a:Addr} {vs us:List V} {xs ys:List PyData} (r:RS K O₀ H₀ F ts O H σ ρ T) (e1:ρ[i]? = some (some (.loc (.list xs)))) (e2:σ[i]? = some (some (.ref a))) (rv:Reps K O H vs ys):RS K O₀ H₀ F ts O (upd H a (.lst vs)) σ (ρ.set i (some (.loc (.list ys)))) T:=r.putO e1 e2 (.inl ⟨_,rfl⟩) fun le=>⟨vs,aZ,rv.mono le⟩
theorem RS.tapeO {n:Nat} {a:Addr} {o:HO} {ys:List PyData} (r:RS K O₀ H₀ F ts O H σ ρ T) (e:ts[n]? = some a) (hm:Mut (some o)) (rv:Le O H O (upd H a o)→RowAt K O (upd H a o) a ys):RS K O₀ H₀ F ts O (upd H a o) σ ρ (T.set n ys):=by
 have am:a∈ts:=List.mem_of_getElem? e
 have le:Le O H O (upd H a o):=fun b o' k q=>⟨k,by rw [aK (show b≠a from fun z=>k (by rw [z]; exact r.hc.own a am))]; exact q⟩
 have sx:SameX ts H (upd H a o):=fun b o' k q=>by rw [aK (show b≠a from fun z=>k (by rw [z]; exact am))]; exact q
 refine ⟨⟨r.hc.own,fun b hb=>?_,r.hc.nd,by simp [r.hc.len],fun j b zs q1 q2=>?_⟩,r.re.mono r.hc sx,r.sub,r.ots,r.same.trans sx,r.fresh,r.dist,fun f hf=>(r.frs f hf).trans le,r.len⟩
 ·by_cases z:b=a
  ·subst z; rw [aZ]; exact hm
  ·rw [aK z]; exact r.hc.trk b hb
 ·by_cases z:n=j
  ·subst z
   rw [e] at q1
   cases q1
   have hl:n < T.length:=by
    have:=(List.getElem?_eq_some_iff.mp e).1
    rw [← r.hc.len]; exact this
   rw [List.getElem?_set_self hl] at q2
   cases q2
   exact rv le
  ·rw [List.getElem?_set_ne z] at q2
   refine (r.hc.tape j b zs q1 q2).mono (fun o' h1=>?_) le
   have nb:b≠a:=fun q=>by
    rw [q] at q1
    exact z ((List.getElem?_inj (List.getElem?_eq_some_iff.mp e).1 r.hc.nd).mp (e.trans q1.symm))
   rw [aK nb]
   exact h1
theorem RS.tape {n:Nat} {a:Addr} {vs:List V} {ys:List PyData} (r:RS K O₀ H₀ F ts O H σ ρ T) (e:ts[n]? = some a) (rv:Reps K O H vs ys):RS K O₀ H₀ F ts O (upd H a (.lst vs)) σ ρ (T.set n ys):=r.tapeO e (.inl ⟨_,rfl⟩) fun le=>.inl ⟨rv.notO,vs,aZ,rv.mono le⟩
def jb:W→W
 | .loc x=>.d x
 | w=>w
def bz (ρ:Rho):Rho:=ρ.map (Option.map jb)
theorem RS.frzH (r:RS K O₀ H₀ F ts O H σ ρ T):HC K O₀ ts H T:=by
 have le:Le O H O₀ H:=fun a o n e=>⟨fun z=>n (r.sub a z),e⟩
 exact ⟨r.ots,fun b hb=>r.hc.trk b (r.sub b hb),r.hc.nd,r.hc.len,fun i a xs e1 e2=>(r.hc.tape i a xs e1 e2).mono (fun _ h=>h) le⟩
def oN (ρ:Rho):Prop:=∀ (i:Nat) (ds:List (PyData×PyData)),ρ[i]?≠some (some (.loc (.dict ds)))
theorem RS.frz (r:RS K O₀ H₀ F ts O H σ ρ T) (nd:oN ρ):HC K O₀ ts H T∧RelE K O₀ ts H σ (bz ρ):=by
 have le:Le O H O₀ H:=fun a o n e=>⟨fun z=>n (r.sub a z),e⟩
 refine ⟨r.frzH,fun i w e=>?_⟩
 unfold bz at e
 rw [List.getElem?_map] at e
 cases hu:ρ[i]? with
 | none=>rw [hu] at e; cases e
 | some u=>
  cases u with
  | none=>rw [hu] at e; cases e
  | some u=>
   rw [hu] at e
   cases e
   obtain ⟨v,h1,h2⟩:=r.re i u hu
   refine ⟨v,h1,?_⟩
   cases u with
   | d x=>exact Rep.mono le h2
   | tp k=>exact h2
   | loc xs=>
    obtain ⟨a,rfl,k1,k2,k3⟩:=h2
    cases xs with
    | list xs=>obtain ⟨vs,k3,k4⟩:=k3; exact .lst (.inl ⟨(r.fresh i _ a hu h1).2,.inl k3⟩) (k4.mono le)
    | dict xs=>exact absurd hu (nd i xs)
    | _=>cases k3
theorem RS.frzD {i:Nat} {ds:List (PyData×PyData)} (r:RS K O₀ H₀ F ts O H σ ρ T) (h1:ρ[i]? = some (some (.loc (.dict ds)))):∃ a kvs,H a=some (.dK kvs)∧∀ o,RS K O₀ H₀ F ts (fun b=>O b∧b≠a) (upd H a (.frz o (.dK kvs))) σ (ρ.set i (some (.d (.dict ds)))) T:=by
 obtain ⟨v,k1,a,rfl,k2,k3,kvs,k4,k5⟩:=r.re i _ h1
 refine ⟨a,kvs,k4,fun o=>?_⟩
 have hl:i < ρ.length:=(List.getElem?_eq_some_iff.mp h1).1
 have U:∀ {b:Addr},b≠a→upd H a (.frz o (.dK kvs)) b=H b:=fun n=>aK n
 have le:Le O H (fun b=>O b∧b≠a) (upd H a (.frz o (.dK kvs))):=fun b u n e=>⟨fun z=>n z.1,by rw [U (show b≠a from fun z=>n (by rw [z]; exact k2))]; exact e⟩
 have fr:=r.fresh i _ a h1 k1
 have hw:∀ ys,W.d (.dict ds)≠.loc ys:=fun _ z=>nomatch z
 refine ⟨⟨fun b hb=>⟨r.hc.own b hb,fun z=>k3 (z ▸ hb)⟩,fun b hb=>by rw [U hb.2]; exact r.hc.trk b hb.1,r.hc.nd,r.hc.len,fun j b ys e1 e2=>?_⟩,fun j w e=>?_,fun b hb=>⟨r.sub b hb,fun z=>fr.2 (z ▸ hb)⟩,r.ots,fun b u n e=>?_,fun j ys b e1 e2=>?_,fun j k ys zs v e1 e2 e3 e4=>?_,fun f hf=>(r.frs f hf).trans le,by simp [r.len]⟩
 ·exact (r.hc.tape j b ys e1 e2).mono (fun _ h=>by rw [U (show b≠a from fun z=>k3 (by rw [← z]; exact List.mem_of_getElem? e1))]; exact h) le
 ·by_cases z:i=j
  ·subst z
   rw [List.getElem?_set_self hl] at e
   cases e
   exact ⟨.ref a,k1,.dct (fun z=>z.2 rfl) aZ (k5.mono le)⟩
  ·rw [List.getElem?_set_ne z] at e
   obtain ⟨x,q1,q2⟩:=r.re j w e
   refine ⟨x,q1,?_⟩
   cases w with
   | d y=>exact Rep.mono le q2
   | tp k=>exact q2
   | loc ys=>
    obtain ⟨b,eb,m1,m2,m3⟩:=q2
    have nb:b≠a:=fun q=>z (r.dist i j _ ys (.ref a) h1 e k1 (by rw [q1,eb,q]))
    exact ⟨b,eb,⟨m1,nb⟩,m2,m3.mono (fun _ q=>by rw [U nb]; exact q) le⟩
 ·rw [U (show b≠a from fun z=>by rw [z,fr.1] at e; cases e)]
  exact r.same b u n e
 ·obtain ⟨n,e⟩:=cR hw e1
  exact r.fresh j ys b e e2
 ·obtain ⟨n1,e1⟩:=cR hw e1
  obtain ⟨n2,e2⟩:=cR hw e2
  exact r.dist j k ys zs v e1 e2 e3 e4
theorem Aw {i:Nat} {x:PyData} (h:ρ[i]? = some (some (.loc x))):bz (ρ.set i (some (.d x)))=bz ρ:=by
 apply List.ext_getElem?
 intro j
 unfold bz
 rw [List.getElem?_map,List.getElem?_map]
 by_cases z:i=j
 ·subst z
  rw [List.getElem?_set_self (List.getElem?_eq_some_iff.mp h).1,h]
  rfl
 ·rw [List.getElem?_set_ne z]
theorem RS.frzN (R:Rho):∀ (k:Nat) {O:Addr→Prop} {H:Hp} {ρ:Rho},RS K O₀ H₀ F ts O H σ ρ T→(∀ j ds,k≤j→ρ[j]?≠some (some (.loc (.dict ds))))→bz ρ=R →
  Gh (fun H'=>∃ O' ρ',RS K O₀ H₀ F ts O' H' σ ρ' T∧oN ρ'∧bz ρ'=R) H
 | 0,O,H,ρ,r,n,e=>.done ⟨O,ρ,r,fun j ds=>n j ds (Nat.zero_le _),e⟩
 | k + 1,O,H,ρ,r,n,e=>by
  by_cases h:∃ ds,ρ[k]? = some (some (.loc (.dict ds)))
  ·obtain ⟨ds,h⟩:=h
   obtain ⟨a,kvs,e1,f⟩:=r.frzD h
   refine .frz e1 fun o=>RS.frzN R k (f o) (fun j es hj=>?_) (by rw [Aw h]; exact e)
   by_cases z:k=j
   ·subst z
    rw [List.getElem?_set_self (List.getElem?_eq_some_iff.mp h).1]
    intro q
    cases q
   ·rw [List.getElem?_set_ne z]
    exact n j es (by omega)
  ·refine RS.frzN R k r (fun j ds hj=>?_) e
   by_cases z:k=j
   ·subst z
    exact fun q=>h ⟨ds,q⟩
   ·exact n j ds (by omega)
theorem RS.frzG (r:RS K O₀ H₀ F ts O H σ ρ T):Gh (fun H'=>SameX ts H₀ H'∧HC K O₀ ts H' T∧RelE K O₀ ts H' σ (bz ρ)) H:=(RS.frzN (bz ρ) ρ.length r (fun j ds hj=>by rw [List.getElem?_eq_none hj]; exact fun z=>nomatch z) rfl).imp fun H' ⟨O',ρ',r',n,e⟩=>⟨r'.same,by rw [← e]; exact r'.frz n⟩
end
def aJ:FS:=fun ρ T=>some ((.nx,ρ),T)
def aq (f g:FS):FS:=fun ρ T=>bnd (f ρ T) fun p T1=>match p with
 | (.nx,ρ1)=>g ρ1 T1
 | (fl,ρ1)=>some ((fl,ρ1),T1)
def aO (i:Nat) (f:FE):FS:=fun ρ T=>bnd (f ρ T) fun w T1=>match w with
 | .d x=>some ((.nx,ρ.set i (some (.d x))),T1)
 | .tp k=>some ((.nx,ρ.set i (some (.tp k))),T1)
 | .loc _=>none
def fB (i:Nat) (g:FA):FS:=fun ρ T=>bnd (g ρ T) fun ws T1=>match dj ws with
 | some xs=>if xs.length≤1000 then some ((.nx,ρ.set i (some (.loc (.list xs)))),T1) else none
 | none=>none
def cM (i:Nat) (f:FE):FS:=fun ρ T=>bnd (f ρ T) fun w T1=>match w with
 | .d x=>(match ρ[i]? with
  | some (some (.loc (.list xs)))=>if xs.length < sizeLine then some ((.nx,ρ.set i (some (.loc (.list (xs++[x]))))),T1) else none
  | _=>none)
 | _=>none
def oE (fo fk fe:FE):FS:=fun ρ T=>bnd (fe ρ T) fun w T1=>bnd (fo ρ T1) fun o T2=>bnd (fk ρ T2) fun k T3=>match w,o,k with
 | .d x,.tp n,.d (.int i)=>match T3[n]? with
  | some xs=>if isO xs=true then none else match ixN xs.length i with
   | some j=>some ((.nx,ρ),T3.set n (xs.set j x))
   | none=>none
  | none=>none
 | _,_,_=>none
def fIf (c:FT) (f g:FS):FS:=fun ρ T=>bnd (c ρ T) fun b T1=>if b=true then f ρ T1 else g ρ T1
def aw (f:FE):FS:=fun ρ T=>bnd (f (bz ρ) T) fun w T1=>match w with
 | .d x=>some ((.rt x,ρ),T1)
 | _=>none
def dM (f:FE):FS:=fun ρ T=>bnd (f ρ T) fun _ T1=>some ((.nx,ρ),T1)
def forL (i:Nat) (body:FS):List PyData→FS
 | []=>aJ
 | d::r=>fun ρ T=>bnd (body (ρ.set i (some (.d d))) T) fun p T1=>match p with
  | (.nx,ρ1)=>forL i body r ρ1 T1
  | (.ct,ρ1)=>forL i body r ρ1 T1
  | (.bk,ρ1)=>some ((.nx,ρ1),T1)
  | (.rt x,ρ1)=>some ((.rt x,ρ1),T1)
  | (.ro x,ρ1)=>some ((.ro x,ρ1),T1)
def cw (i:Nat) (it:FI) (body:FS):FS:=fun ρ T=>bnd (it ρ T) fun ds T1=>forL i body ds ρ T1
def dF (c:FT) (body:FS):Nat→FS
 | 0=>fun _ _=>none
 | n + 1=>fun ρ T=>bnd (c ρ T) fun b T1=>if b=true then bnd (body ρ T1) fun p T2=>match p with
   | (.nx,ρ1)=>dF c body n ρ1 T2
   | (.ct,ρ1)=>dF c body n ρ1 T2
   | (.bk,ρ1)=>some ((.nx,ρ1),T2)
   | (.rt x,ρ1)=>some ((.rt x,ρ1),T2)
   | (.ro x,ρ1)=>some ((.ro x,ρ1),T2)
  else some ((.nx,ρ),T1)
section
variable {X:Cx} {pos:Pos} {st:Stmt} {rest:List Stmt} {f g:FS} {e:Expr} {fe:FE} {c:FT}
theorem aQ:DSs X [] aJ:=by
 refine ⟨?_⟩
 refine iB si fun D σ H=>?_
 rintro ⟨O₀,H₀,F,ts,O,ρ,T,fl,ρ',T',rs,e,q⟩
 cases e
 exact q O σ H rs
theorem au (h1:DS X st f) (h2:DSs X rest g):DSs X (st::rest) (aq f g):=by
 refine ⟨?_⟩
 refine iB (gK h1.pe h2.pe) fun D σ H=>?_
 rintro ⟨O₀,H₀,F,ts,O,ρ,T,fl,ρ',T',rs,e,q⟩
 obtain ⟨⟨fl1,ρ1⟩,T1,e1,e⟩:=aA e
 refine ⟨O₀,H₀,F,ts,O,ρ,T,fl1,ρ1,T1,rs,e1,?_⟩
 cases fl1 with
 | nx=>exact fun O' σ' H' rs'=>⟨O₀,H₀,F,ts,O',ρ1,T1,fl,ρ',T',rs',e,q⟩
 | rt x=>cases e; exact q
 | ro x=>cases e; exact q
 | bk=>cases e; exact q
 | ct=>cases e; exact q
theorem av (h1:DS X st f):DSs X [st] f:=⟨Bk h1.pe⟩
theorem aW {i:Nat} {x:Str} {pos':Pos} (hN:X.N.Nodup) (he:DE X e fe) (hi:X.N[i]? = some x:=by rfl) (hx:Loc X.env.scope x:=by first | exact Or.inl rfl | exact Or.inr rfl) (hs:swapsWith e (some (.Name x pos')) pos.line X.env=pure false:=by rfl)
  (hf:X.fn x=true∨X.env.scope.names.lookup x=some .local:=by first | exact .inl rfl | exact .inr rfl | assumption):DS X (.Assign [.Name x pos'] e pos) (aO i fe):=by
 refine ⟨?_⟩
 refine bV (fY hN hi hx he.pe hs hf) fun D σ H=>?_
 rintro ⟨O₀,H₀,F,ts,O,ρ,T,fl,ρ',T',rs,e,q⟩
 obtain ⟨w,T1,e1,e⟩:=aA e
 refine ⟨O,ts,ρ,T,w,T1,rs.hc,rs.re,e1,fun v H1 s1 hc1 r1=>?_⟩
 cases w with
 | d x=>cases e; exact q O _ _ ((rs.step s1 hc1).set r1 fun _ z=>nomatch z)
 | tp k=>cases e; exact q O _ _ ((rs.step s1 hc1).set r1 fun _ z=>nomatch z)
 | loc xs=>cases e
theorem BP {i:Nat} {x y:Str} {scope osc:Scope} {N N':List Str} {elt iter:Expr} {ifs:List Expr} {px py spos:Pos} {it:FI} {c:FT} {f:FE} (S:CS osc N x scope N') (hN:X.N.Nodup) (hi:DI X (.Name x px) iter it)
  (he:∀ C s0 H0 ex,DE (bQ X x scope C s0 H0 ex N') elt f) (ht:∀ C s0 H0 ex,DTs (bQ X x scope C s0 H0 ex N') ifs c) (hi':X.N[i]? = some y:=by rfl) (hy:Loc X.env.scope y:=by first | exact Or.inl rfl | exact Or.inr rfl)
  (hf':X.fn y=true∨X.env.scope.names.lookup y=some .local:=by first | exact .inl rfl | exact .inr rfl | assumption) (hc:X.calm=true:=by rfl) (hs:X.env.scope=osc:=by rfl) (hN':X.N=N:=by rfl)
  (hsw:swapsWith (.ListComp elt [⟨.Name x px,iter,ifs,0⟩] scope pos) (some (.Name y py)) spos.line X.env=pure true:=by rfl) (hf:∀ v,foldedSetIterable iter X.env v=pure v:=by intro _; rfl) :
  DS X (.Assign [.Name y py] (.ListComp elt [⟨.Name x px,iter,ifs,0⟩] scope pos) spos) (aO i (b9 it c f)):=by
 refine ⟨?_⟩
 subst hs hN'
 refine bV (Bl (wi:=lD X.K it) (tt:=liftT X.K c) (te:=lift X.K f) hc S hN hi' hy hf' hi.pe (fun C s0 H0 ex=>(he C s0 H0 ex).pe) (fun C s0 H0 ex=>(ht C s0 H0 ex).pe) hsw hf) fun D σ H=>?_
 rintro ⟨O₀,H₀,F,ts,O,ρ,T,fl,ρ',T',rs,e,q⟩
 obtain ⟨w,T1,e1,e⟩:=aA e
 obtain ⟨ds,T2,e2,e1⟩:=aA e1
 obtain ⟨ys,T3,e3,e1⟩:=aA e1
 cases e1
 cases e
 refine ⟨O,ts,ρ,T,ds,T2,rs.hc,rs.re,e2,fun J H1 s1 hc1 ok hz=>?_⟩
 exact ni hc1 (rs.re.mono rs.hc s1) ok hz e3 fun vs H' s2 hc2 r2 p hp=>q O _ _ ((rs.step (s1.trans (s2.trans (.new hp _))) (hc2.new hp _)).set (hc2.newL hp r2) fun _ z=>nomatch z)
theorem kG {i:Nat} {x:Str} {pos':Pos} {es:List Expr} {lpos:Pos} {g:FA} (hN:X.N.Nodup) (he:DA X es g) (hi:X.N[i]? = some x:=by rfl) (hx:Loc X.env.scope x:=by first | exact Or.inl rfl | exact Or.inr rfl)
  (hs:swapsWith (.List es lpos) (some (.Name x pos')) pos.line X.env=pure false:=by rfl) (hf:X.fn x=true∨X.env.scope.names.lookup x=some .local:=by first | exact .inl rfl | exact .inr rfl | assumption):DS X (.Assign [.Name x pos'] (.List es lpos) pos) (fB i g):=by
 refine ⟨?_⟩
 refine bV (fY hN hi hx (nP he.pe) hs hf) fun D σ H=>?_
 rintro ⟨O₀,H₀,F,ts,O,ρ,T,fl,ρ',T',rs,e,q⟩
 obtain ⟨ws,T1,e1,e⟩:=aA e
 refine ⟨O,ts,ρ,T,ws,T1,rs.hc,rs.re,e1,fun vs H1 s1 hc1 r1=>?_⟩
 split at e
 ·rename_i xs h1
  split at e
  ·rename_i h2
   cases e
   have rv:=jk r1 h1
   exact ⟨kA (by rw [rv.length]; exact h2),fun p hp=>q _ _ _ ((rs.step s1 hc1).own hp rv)⟩
  ·cases e
 ·cases e
theorem aP {ce:Expr} {a b:List Stmt} (hc:DT X ce c) (ha:DSs X a f) (hb:DSs X b g):DS X (.If ce a b pos) (fIf c f g):=by
 refine ⟨?_⟩
 refine bV (uH hc.pe ha.pe hb.pe) fun D σ H=>?_
 rintro ⟨O₀,H₀,F,ts,O,ρ,T,fl,ρ',T',rs,e,q⟩
 obtain ⟨b1,T1,e1,e⟩:=aA e
 refine ⟨O,ts,ρ,T,b1,T1,rs.hc,rs.re,e1,fun H1 s1 hc1=>?_⟩
 cases b1 with
 | true=>exact eR ⟨O₀,H₀,F,ts,O,ρ,T1,fl,ρ',T',rs.step s1 hc1,by simpa using e,q⟩
 | false=>exact eS ⟨O₀,H₀,F,ts,O,ρ,T1,fl,ρ',T',rs.step s1 hc1,by simpa using e,q⟩
theorem ay (he:DE X e fe):DS X (.Return (some e) pos) (aw fe):=by
 refine ⟨?_⟩
 refine bV (Ed (nM he.pe)) fun D σ H=>?_
 rintro ⟨O₀,H₀,F,ts,O,ρ,T,fl,ρ',T',rs,e,q⟩
 obtain ⟨w,T1,e1,e⟩:=aA e
 refine rs.frzG.imp fun H0 ⟨same,c0,re0⟩=>?_
 refine ⟨O₀,ts,bz ρ,T,w,T1,c0,re0,e1,fun v H1 s1 hc1 r1=>?_⟩
 cases w with
 | d x=>cases e; exact q v H1 (same.trans s1) hc1 r1
 | tp k=>cases e
 | loc xs=>cases e
theorem gL (he:DE X e fe) (hs:swapsWith e none pos.line X.env=pure false:=by rfl):DS X (.Expr e pos) (dM fe):=by
 refine ⟨?_⟩
 refine bV (jn he.pe hs) fun D σ H=>?_
 rintro ⟨O₀,H₀,F,ts,O,ρ,T,fl,ρ',T',rs,e,q⟩
 obtain ⟨w,T1,e1,e⟩:=aA e
 cases e
 exact ⟨O,ts,ρ,T,w,_,rs.hc,rs.re,e1,fun v H1 s1 hc1 r1=>q O _ _ (rs.step s1 hc1)⟩
theorem gR {i:Nat} {x:Str} {p apos:Pos} (he:DE X e fe) (hN:X.N[i]? = some x:=by rfl) (hv:Vis X.env.scope x:=by first | exact Or.inl rfl | exact Or.inr (Or.inl rfl) | exact Or.inr (Or.inr rfl)) (hd:(x == ("__debug__" : Str))=false:=by decide)
  (hcd:(x == ("__classdict__" : Str))=false:=by decide) {cpos:Pos}
  (hbase:attributeBase (.Name x p) "append" X.env (eval (.Name x p) X.env)=eval (.Name x p) X.env:=by rfl)
  (hfew:((backTo cpos (starEach [e] X.env)).all (fun x=>!x.1) && (backToKw cpos (keywordEach [] X.env)).all (fun x=>x.1.isSome)
   && decide (([e]:List Expr).length + ([]:List Keyword).length + (if ([]:List Keyword).isEmpty then 0 else 1) < 30))=true:=by exact hZ rfl)
  (hline:(apos.endLine == cpos.line)=true:=by rfl) (hse:starEach [e] X.env=(false,eval e X.env)::starEach [] X.env:=by exact bc rfl) (hplain:(backTo cpos (starEach [] X.env)).any (·.1)=false:=by exact bE rfl)
  (hs:swapsWith (.Call (.Attribute (.Name x p) "append" apos) [e] [] cpos) none pos.line X.env=pure false:=by rfl) :
  DS X (.Expr (.Call (.Attribute (.Name x p) "append" apos) [e] [] cpos) pos) (cM i fe):=by
 refine ⟨?_⟩
 refine bV (jn (gh PySem.F.plainAttrs_list PySem.F.slot_list_append PySem.F.type_list_append zf (pv i hN hv hd hcd) (bF he.pe cj hse) hbase hfew hline hse hplain) hs) fun D σ H=>?_
 rintro ⟨O₀,H₀,F,ts,O,ρ,T,fl,ρ',T',rs,e,q⟩
 obtain ⟨w,T1,e1,e⟩:=aA e
 split at e
 ·rename_i x0
  split at e
  ·rename_i xs h1
   split at e
   ·rename_i h2
    cases e
    obtain ⟨v,k1,a,rfl,k2,k3,vs,k4,k5⟩:=rs.re i _ h1
    refine ⟨_,k1,.inl ⟨rfl,vs,SqL.of k4⟩,O,ts,ρ,T,_,_,rs.hc,rs.re,e1,fun u H1 s1 hc1 r1=>?_⟩
    have rs1:=rs.step s1 hc1
    exact ⟨a,vs,u,rfl,rfl,s1 _ _ k3 k4,by rw [k5.length]; exact h2,q O _ _ (rs1.put (us:=[]) h1 k1 ((k5.mono (rs.hc.le s1)).append (.cons r1 .nil)))⟩
   ·cases e
  ·cases e
 ·cases e
theorem Dp {o k:Expr} {fo fk:FE} {tpos:Pos} (ho:DE X o fo) (hk:DE X k fk) (he:DE X e fe) (ha:∀ v,assign (.Subscript o k tpos) X.env v=(do
   let ov ← holding [v] (eval o X.env)
   let iv ← holding [v,ov] (eval k X.env)
   standAt tpos
   holding [v,ov,iv] (setItem ov iv v)
   release [v,ov,iv] []):=by intro _; rfl)
  (hs:swapsWithSole [.Subscript o k tpos] e pos.line X.env=pure false:=by rfl) (hw:swappedStores [.Subscript o k tpos] e X.env=pure none:=by rfl)
  (h1:(assignEach [.Subscript o k tpos] X.env).map (·.2)=[assign (.Subscript o k tpos) X.env]:=by rfl):DS X (.Assign [.Subscript o k tpos] e pos) (oE fo fk fe):=by
 refine ⟨?_⟩
 refine bV (CA he.pe (CD ho.pe hk.pe set_list ha) hs hw h1) fun D σ H=>?_
 rintro ⟨O₀,H₀,F,ts,O,ρ,T,fl,ρ',T',rs,e,q⟩
 obtain ⟨w,T1,e1,e⟩:=aA e
 obtain ⟨wo,T2,e2,e⟩:=aA e
 obtain ⟨wk,T3,e3,e⟩:=aA e
 refine ⟨O,ts,ρ,T,w,T1,rs.hc,rs.re,e1,fun v H1 s1 hc1 r1=>?_⟩
 have rs1:=rs.step s1 hc1
 refine ⟨O,ts,ρ,T1,wo,T2,hc1,rs1.re,e2,fun vo H2 s2 hc2 r2=>?_⟩
 have rs2:=rs1.step s2 hc2
 refine ⟨O,ts,ρ,T2,wk,T3,hc2,rs2.re,e3,fun vk H3 s3 hc3 r3=>?_⟩
 have rs3:=rs2.step s3 hc3
 split at e
 ·split at e
  ·rename_i xs h1
   split at e
   ·cases e
   ·rename_i hn
    split at e
    ·rename_i j h2
     cases e
     obtain ⟨a,k1,rfl⟩:=r2
     cases (show Rep X.K O H3 vk (.int _) from r3)
     obtain ⟨vs,k2,k3⟩:=(hc3.tape _ a xs k1 h1).lst (by simpa using hn)
     refine ⟨a,vs,_,j,rfl,rfl,k2,by rw [k3.length]; exact h2,q O _ _ (rs3.tape k1 (Reps.set ?_ j k3))⟩
     exact Rep.mono ((hc1.le s2).trans (hc2.le s3)) r1
    ·cases e
  ·cases e
 ·cases e
end
section
variable {K:Frag} {O₀:Addr→Prop} {H₀:Hp} {F:List ((Addr→Prop)×Hp)} {ts:List Addr} {O:Addr→Prop} {H H1:Hp} {σ:L2.St} {ρ:Rho} {T T1:Tp}
theorem RS.less {f:(Addr→Prop)×Hp} (r:RS K O₀ H₀ (f::F) ts O H σ ρ T):RS K O₀ H₀ F ts O H σ ρ T:=⟨r.hc,r.re,r.sub,r.ots,r.same,r.fresh,r.dist,fun f hf=>r.frs f (List.mem_cons_of_mem _ hf),r.len⟩
theorem RS.more (r:RS K O₀ H₀ F ts O H σ ρ T):RS K O₀ H₀ ((O,H)::F) ts O H σ ρ T:=⟨r.hc,r.re,r.sub,r.ots,r.same,r.fresh,r.dist,fun f hf=>by
 rcases List.mem_cons.mp hf with z | z
 ·subst z; exact fun a o n e=>⟨n,e⟩
 ·exact r.frs f z,r.len⟩
def frzAt (i:Nat) (ρ:Rho):Rho:=match ρ[i]? with
 | some (some (.loc x))=>ρ.set i (some (.d x))
 | _=>ρ
theorem RS.frzAt (i:Nat) (r:RS K O₀ H₀ F ts O H σ ρ T):Gh (fun H'=>∃ O',RS K O₀ H₀ F ts O' H' σ (frzAt i ρ) T) H:=by
 unfold D.frzAt
 split
 ·rename_i xs h1
  by_cases hd:∃ ds,xs=.dict ds
  ·obtain ⟨ds,rfl⟩:=hd
   obtain ⟨a,kvs,e1,f⟩:=r.frzD h1
   exact .frz e1 fun o=>.done ⟨_,f o⟩
  refine .done ?_
  obtain ⟨v,k1,a,rfl,k2,k3,k4⟩:=r.re i _ h1
  have hl:i < ρ.length:=(List.getElem?_eq_some_iff.mp h1).1
  have le:Le O H (fun b=>O b∧b≠a) H:=fun b o n e=>⟨fun z=>n z.1,e⟩
  have fr:=r.fresh i xs a h1 k1
  have hw:∀ ys,W.d xs≠.loc ys:=fun _ z=>nomatch z
  refine ⟨fun b=>O b∧b≠a,⟨fun b hb=>⟨r.hc.own b hb,fun z=>k3 (z ▸ hb)⟩,fun b hb=>r.hc.trk b hb.1,r.hc.nd,r.hc.len,fun j b ys e1 e2=>?_⟩,fun j w e=>?_,fun b hb=>⟨r.sub b hb,fun z=>fr.2 (z ▸ hb)⟩,r.ots,r.same,fun j ys b e1 e2=>?_,fun j k ys zs v e1 e2 e3 e4=>?_,fun f hf=>(r.frs f hf).trans le,by simp [r.len]⟩
  ·exact (r.hc.tape j b ys e1 e2).mono (fun _ h=>h) le
  ·by_cases z:i=j
   ·subst z
    rw [List.getElem?_set_self hl] at e
    cases e
    refine ⟨.ref a,k1,?_⟩
    cases xs with
    | list xs=>obtain ⟨vs,k4,k5⟩:=k4; exact .lst (.inl ⟨fun z=>z.2 rfl,.inl k4⟩) (k5.mono le)
    | dict xs=>exact absurd ⟨xs,rfl⟩ hd
    | _=>cases k4
   ·rw [List.getElem?_set_ne z] at e
    obtain ⟨x,q1,q2⟩:=r.re j w e
    refine ⟨x,q1,?_⟩
    cases w with
    | d y=>exact Rep.mono le q2
    | tp k=>exact q2
    | loc ys=>
     obtain ⟨b,eb,m1,m2,m3⟩:=q2
     refine ⟨b,eb,⟨m1,fun q=>z (r.dist i j xs ys (.ref a) h1 e k1 (by rw [q1,eb,q]))⟩,m2,m3.mono (fun _ q=>q) le⟩
  ·obtain ⟨n,e⟩:=cR hw e1
   exact r.fresh j ys b e e2
  ·obtain ⟨n1,e1⟩:=cR hw e1
   obtain ⟨n2,e2⟩:=cR hw e2
   exact r.dist j k ys zs v e1 e2 e3 e4
 ·exact .done ⟨O,r⟩
end
def h9 (i:Nat) (f:FS):FS:=fun ρ T=>f (frzAt i ρ) T
section
variable {X:Cx} {pos:Pos} {st:Stmt} {rest:List Stmt} {f g:FS} {e:Expr} {fe:FE} {c:FT}
theorem sN (i:Nat) (h:DSs X rest f):DSs X rest (h9 i f):=by
 refine ⟨?_⟩
 refine iB (Cy h.pe) fun D σ H=>?_
 rintro ⟨O₀,H₀,F,ts,O,ρ,T,fl,ρ',T',rs,e,q⟩
 exact (rs.frzAt i).imp fun H' ⟨O',rs'⟩=>⟨O₀,H₀,F,ts,O',_,T,fl,ρ',T',rs',e,q⟩
theorem f7 {i:Nat} {x:Str} {iter:Expr} {body:List Stmt} {tpos:Pos} {it:FI} (hN:X.N.Nodup) (hi:DI X (.Name x tpos) iter it) (hb:DSs X body f) (hix:X.N[i]? = some x:=by rfl) (hx:Loc X.env.scope x:=by first | exact Or.inl rfl | exact Or.inr rfl)
  (hf:X.fn x=true∨X.env.scope.names.lookup x=some .local:=by first | exact .inl rfl | exact .inr rfl | assumption) (hp:PassesOwn (model X.prog X.w) X.A X.env X.xe:=by exact PassesOwn.never) (hc:X.calm=true:=by rfl)
  (hs:∀ x,foldedSetIterable iter X.env x=pure x:=by intro _; rfl):DS X (.For (.Name x tpos) iter body [] pos) (cw i it f):=by
 refine ⟨?_⟩
 refine bV (tN hp hc hi.pe (mQ hN hix hx hf) hb.pe hs) fun D σ H=>?_
 rintro ⟨O₀,H₀,F,ts,O,ρ,T,fl,ρ',T',rs,e,q⟩
 obtain ⟨ds,T1,e1,e⟩:=aA e
 refine ⟨O,ts,ρ,T,ds,T1,rs.hc,rs.re,e1,fun J H1 s1 hc1 ok hz=>?_⟩
 refine ⟨fun k m σ H=>m=ds.length - k∧k≤ds.length∧∃ O' ρk Tk,RS X.K O₀ H₀ ((O,H1)::F) ts O' H σ ρk Tk∧forL i f (ds.drop k) ρk Tk=some ((fl,ρ'),T'),⟨_,rfl,Nat.zero_le _,O,ρ,T1,(rs.step s1 hc1).more,e⟩,?_⟩
 rintro k m σ2 H2 ⟨rfl,hk,O',ρk,Tk,rs2,ek⟩
 obtain ⟨k1,k2,k3⟩:=ok O' H2 (rs2.frs _ List.mem_cons_self)
 by_cases hlt:k < ds.length
 ·refine .inr ⟨k1 k hlt,fun σ3 H3=>∃ O' ρk Tk,RS X.K O₀ H₀ ((O,H1)::F) ts O' H3 σ3 ρk Tk∧forL i f (ds.drop (k + 1)) ρk Tk=some ((fl,ρ'),T'),fun σ3 H3 n=>⟨ds.length - (k + 1),by omega,rfl,hlt,n⟩,fun v H3 y=>?_⟩
  obtain ⟨e2,d,hd,rd⟩:=k3 k v H3 y hlt
  subst e2
  have hdr:ds.drop k=d::ds.drop (k + 1):=by
   rw [List.drop_eq_getElem_cons hlt]
   have:=(List.getElem?_eq_some_iff.mp hd).2
   rw [this]
  rw [hdr] at ek
  obtain ⟨⟨fl1,ρ1⟩,T3,e3,ek⟩:=aA ek
  refine ⟨O₀,H₀,(O,H1)::F,ts,O',_,Tk,fl1,ρ1,T3,rs2.set (i:=i) (w:=.d d) rd (fun _ z=>nomatch z),e3,?_⟩
  cases fl1 with
  | nx=>exact fun O3 σ3 H3 rs3=>⟨O3,ρ1,T3,rs3,ek⟩
  | ct=>exact fun O3 σ3 H3 rs3=>⟨O3,ρ1,T3,rs3,ek⟩
  | bk=>
   cases ek
   exact fun O3 σ3 H3 rs3=>q O3 σ3 H3 rs3.less
  | rt x=>
   cases ek
   exact q
  | ro x=>
   cases ek
   exact q
 ·have e:k=ds.length:=by omega
  subst e
  rw [List.drop_eq_nil_of_le (Nat.le_refl _)] at ek
  cases ek
  exact .inl ⟨k2,q O' σ2 H2 rs2.less⟩
theorem rD {ce:Expr} {body:List Stmt} (n:Nat) (hc:DT X ce c) (hb:DSs X body f) (hp:PassesOwn (model X.prog X.w) X.A X.env X.xe:=by exact PassesOwn.never):DS X (.While ce body [] pos) (dF c f n):=by
 refine ⟨?_⟩
 refine bV (z4 hp hc.pe hb.pe) fun D σ H=>?_
 rintro ⟨O₀,H₀,F,ts,O,ρ,T,fl,ρ',T',rs,e,q⟩
 refine ⟨fun m σ H=>∃ O' ρm Tm,RS X.K O₀ H₀ F ts O' H σ ρm Tm∧dF c f m ρm Tm=some ((fl,ρ'),T'),⟨n,O,ρ,T,rs,e⟩,?_⟩
 rintro m σ2 H2 ⟨O',ρm,Tm,rs2,em⟩
 cases m with
 | zero=>cases em
 | succ m=>
  obtain ⟨b,T3,e3,em⟩:=aA em
  refine ⟨O',ts,ρm,Tm,b,T3,rs2.hc,rs2.re,e3,fun H3 s3 hc3=>?_⟩
  have rs3:=rs2.step s3 hc3
  cases b with
  | false=>
   rw [if_neg Bool.false_ne_true] at em
   cases em
   exact eS (q O' σ2 H3 rs3)
  | true=>
   rw [if_pos rfl] at em
   obtain ⟨⟨fl1,ρ1⟩,T4,e4,em⟩:=aA em
   refine eR ⟨fun σ3 H3=>∃ O' ρm Tm,RS X.K O₀ H₀ F ts O' H3 σ3 ρm Tm∧dF c f m ρm Tm=some ((fl,ρ'),T'),fun σ3 H3 n=>⟨m,Nat.lt_succ_self m,n⟩,O₀,H₀,F,ts,O',ρm,T3,fl1,ρ1,T4,rs3,e4,?_⟩
   cases fl1 with
   | nx=>exact fun O3 σ3 H3 rs3=>⟨O3,ρ1,T4,rs3,em⟩
   | ct=>exact fun O3 σ3 H3 rs3=>⟨O3,ρ1,T4,rs3,em⟩
   | bk=>
    cases em
    exact fun O3 σ3 H3 rs3=>q O3 σ3 H3 rs3
   | rt x=>
    cases em
    exact q
   | ro x=>
    cases em
    exact q
end
abbrev FnM:=List W→Tp→Option (PyData×Tp)
def dW:List W→Bool
 | []=>true
 | .loc _::_=>false
 | _::r=>dW r
def eK (o:Option ((Fl×Rho)×Tp)):Option (PyData×Tp):=bnd o fun p T=>match p with
 | (.rt x,_)=>some (x,T)
 | (.nx,_)=>some (.none,T)
 | _=>none
def aS (N:Nat) (f:FS):FnM:=fun ws T=>if dW ws=true then eK (f (ws.map some++List.replicate (N - ws.length) none) T) else none
inductive SpMP (K:Frag) (n:Nat) (m:FnM) (vs:List V) (H:Hp) (Q:VK):Prop where
 | mk (O:Addr→Prop) (ts:List Addr) (T:Tp) (ws:List W) (x:PyData) (T':Tp) (hc:HC K O ts H T) (r:gm K O ts H vs ws) (hl:ws.length=n) (e:m ws T=some (x,T')) (q:∀ v H',SameX ts H H'→HC K O ts H' T'→Rep K O H' v x→Q v H'):SpMP K n m vs H Q
def spM (K:Frag) (n:Nat) (m:FnM):Sp:=fun vs H Q _=>SpMP K n m vs H Q
theorem mf {K:Frag} {O:Addr→Prop} {ts:List Addr} {H:Hp}:∀ {vs:List V} {ws:List W} {i:Nat} {w:W},gm K O ts H vs ws→ws[i]? = some w→∃ v,vs[i]? = some v∧RepW K O ts H v w
 | _,_,_,_,.nil,e=>by simp at e
 | _,_,0,_,.cons r _,e=>by simp at e; subst e; exact ⟨_,rfl,r⟩
 | _,_,i + 1,w,.cons _ t,e=>by
  obtain ⟨d,h1,h2⟩:=mf (i:=i) (w:=w) t (by simpa using e)
  exact ⟨d,by simpa using h1,h2⟩
theorem j6:∀ {ws:List W} {xs:PyData},dW ws=true→W.loc xs∉ws
 | [],_,_,h=>by cases h
 | .loc _::_,_,e,_=>by cases e
 | .d _::r,_,e,h=>by
  rcases List.mem_cons.mp h with z | z
  ·cases z
  ·exact j6 (ws:=r) e z
 | .tp _::r,_,e,h=>by
  rcases List.mem_cons.mp h with z | z
  ·cases z
  ·exact j6 (ws:=r) e z
theorem j5 {ws:List W} {n i:Nat} {w:W} (e:(ws.map some++List.replicate n none)[i]? = some (some w)):ws[i]? = some w:=by
 by_cases h:i < ws.length
 ·rw [List.getElem?_append_left (by simpa using h),List.getElem?_map] at e
  cases q:ws[i]? with
  | none=>rw [q] at e; cases e
  | some u=>rw [q] at e; cases e; rfl
 ·rw [List.getElem?_append_right (by simpa using h)] at e
  have:=List.mem_of_getElem? e
  rw [List.mem_replicate] at this
  cases this.2
theorem dfn {P:Program} {w:World} {K:Frag} {mg:Str→Option Value} {base:Heap} {x qual:Str} {st:Stmt} {f:Addr} {fd:FuncData} {N ps:List Str} {k:Nat} {m:FS} (F:Fun K x qual st f fd) (S:FnScope N ps (aE st))
  (hbody:∀ (cdv:Value) (A:Around) (outer:List Env) (s:Shared) (H:Hp) (E:XK),Room k (A.deeper (envOfC qual (aE st) s.heap.objs.size f cdv))→DSs (gs CX0 P w K mg base N qual (aE st) f cdv A outer s H E).nox (cG st) m) :
  FnOk P w K mg base CX0 (k + 1) f fd ps (spM K ps.length (aS N.length m)):=by
 refine F.ok S (fun vs H Q E h=>?_) (fun cdv A outer s H vs Q E hr h=>⟨_,(hbody cdv A outer s H E hr).pe,?_⟩)
 ·obtain ⟨O,ts,T,ws,x,T',hc,rw',hl,_⟩:=h
  rw [← hl]
  exact Paired.length rw'
 obtain ⟨O,ts,T,ws,x,T',hc,rw',hl,e,q⟩:=h
 unfold aS at e
 split at e
 ·rename_i hn
  obtain ⟨⟨fl,ρ'⟩,T1,e1,e⟩:=aA e
  have hlen:vs.length=ws.length:=Paired.length rw'
  have noL:∀ {i:Nat} {xs:PyData},(ws.map some++List.replicate (N.length - ws.length) none)[i]? = some (some (W.loc xs))→False:=fun {i xs} e=>j6 hn (List.mem_of_getElem? (j5 e))
  refine ⟨O,H,[],ts,O,_,T,fl,ρ',T1,⟨hc,fun i u e=>?_,fun _ h=>h,hc.own,.refl _ _,fun i xs a e1 _=>(noL e1).elim,fun i j xs ys v e1 _ _ _=>(noL e1).elim,fun f hf=>absurd hf (by simp),by simp [L2.start,hlen]⟩,e1,?_⟩
  ·obtain ⟨v,h1,h2⟩:=mf rw' (j5 e)
   refine ⟨v,?_,h2⟩
   unfold L2.start
   have hi:i < vs.length:=(List.getElem?_eq_some_iff.mp h1).1
   rw [List.getElem?_append_left (by simpa using hi),List.getElem?_map,h1]
   rfl
  ·cases fl with
   | rt y=>cases e; exact fun v H' s1 c1 r1=>q v H' s1 c1 r1
   | nx=>
    cases e
    exact fun O' σ' H' rs=>q _ _ rs.same rs.frzH .non
   | bk=>cases e
   | ct=>cases e
   | ro y=>cases e
 ·cases e
def ar (m:FnM) (g:FA):FE:=fun ρ T=>bnd (g ρ T) fun ws T1=>bnd (m ws T1) fun x T2=>some (.d x,T2)
def eW (g:FA) (n:Nat):Prop:=∀ ρ T ws T',g ρ T=some (ws,T')→ws.length=n
theorem ax:eW ai 0:=fun ρ T ws T' e=>by cases e; rfl
theorem ak {f:FE} {g:FA} {n:Nat} (h:eW g n):eW (ae f g) (n + 1):=fun ρ T ws T' e=>by
 obtain ⟨w1,T1,e1,e⟩:=aA e
 obtain ⟨ws,T2,e2,e⟩:=aA e
 cases e
 rw [List.length_cons,h _ _ _ _ e2]
theorem az {X:Cx} {name:Str} {ps:List Str} {k:Nat} {m:FnM} {e:Expr} {es:List Expr} {g:FA} {p pos:Pos} (F:Fn X.prog X.w X.K X.mg X.base name ps k (spM X.K ps.length m)) (hr:Room k X.A) (hg:Gl X name) (ha:DA X (e::es) g) (hl:eW g ps.length) (hdb:(name == ("__debug__" : Str))=false:=by decide)
  (he:starEach (e::es) X.env=(false,eval e X.env)::starEach es X.env:=by exact bc rfl) (hpl:(backTo pos (starEach es X.env)).any (·.1)=false:=by exact bE rfl):DE X (.Call (.Name name p) (e::es) [] pos) (ar m g):=by
 refine ⟨?_⟩
 refine aX (jF F hr hg ha.pe hdb he hpl) fun σ H Q=>?_
 rintro ⟨O,ts,ρ,T,w,T',hc,re,e,q⟩
 obtain ⟨ws,T1,e1,e⟩:=aA e
 obtain ⟨x,T2,e2,e⟩:=aA e
 cases e
 refine ⟨O,ts,ρ,T,ws,T1,hc,re,e1,fun vs H1 s1 hc1 r1=>?_⟩
 refine ⟨O,ts,T1,ws,x,_,hc1,by rw [List.append_nil]; exact r1,hl _ _ _ _ e1,e2,fun v H2 s2 hc2 r2=>q v H2 (s1.trans s2) hc2 r2⟩
noncomputable def iop (g:Int→Int→Option PyData):PyData→PyData→Option PyData
 | .int i,.int j=>g i j
 | _,_=>none
def dN:PyData→PyData→Option PyData:=iop fun i j=>some (.int (i - j))
def bC:PyData→PyData→Option PyData:=iop fun i j=>if 0 < j then some (.int (i % j)) else none
def EJ:PyData→PyData→Option PyData:=iop fun i j=>if 0 < j∧j < 1073741824 then some (.int (i / j)) else none
def hG:PyData→PyData→Option PyData:=iop fun i j=>if 0≤j∧j≤1000000∧i.natAbs < 2 ^ 64 then some (.int (i ^ j.toNat)) else none
def ltD:PyData→PyData→Option PyData:=iop fun i j=>some (.bool (decide (i < j)))
def leD:PyData→PyData→Option PyData:=iop fun i j=>some (.bool (decide (i≤j)))
def gtD:PyData→PyData→Option PyData:=iop fun i j=>some (.bool (decide (j < i)))
def geD:PyData→PyData→Option PyData:=iop fun i j=>some (.bool (decide (j≤i)))
theorem ub {g:Int→Int→Option PyData} {x y d:PyData} (e:iop g x y=some d):∃ i j,x=.int i∧y=.int j∧g i j=some d:=by
 unfold iop at e
 split at e
 ·exact ⟨_,_,rfl,rfl,e⟩
 ·cases e
theorem nE {K:Frag} {C:Int→Int→Prop} {g:Int→Int→V} {gd:Int→Int→Option PyData} (h:∀ i j d,gd i j=some d→C i j∧∀ O H,Rep K O H (g i j) d):gv K (rI C g) (iop gd):=fun O ts H T v1 v2 x y d Q hc h1 h2 e q=>by
 obtain ⟨i,j,rfl,rfl,e⟩:=ub e
 obtain ⟨c,r⟩:=h i j d e
 exact ⟨i,j,h1.int,h2.int,c,q _ H (.refl _ _) hc (r O H)⟩
theorem jm {K:Frag} {g:Int→Int→V} {gd:Int→Int→Option PyData} (h:∀ i j d,gd i j=some d→∀ O H,Rep K O H (g i j) d):gv K (rI0 g) (iop gd):=fun O ts H T v1 v2 x y d Q hc h1 h2 e q=>by
 obtain ⟨i,j,rfl,rfl,e⟩:=ub e
 exact ⟨i,j,h1.int,h2.int,q _ H (.refl _ _) hc (h i j d e O H)⟩
section
variable {X:Cx}
theorem gi:OpD X (binaryOp .Sub) dN:=⟨_,CN,jm fun i j d e O H=>by cases e; exact .int _⟩
theorem dJ:OpD X (binaryOp .Mod) bC:=⟨_,CQ,nE fun i j d e=>by
 split at e
 ·rename_i h; cases e; exact ⟨h,fun _ _=>.int _⟩
 ·cases e⟩
theorem lC:OpD X (binaryOp .Pow) hG:=⟨_,CO,nE fun i j d e=>by
 split at e
 ·rename_i h; cases e; exact ⟨h,fun _ _=>.int _⟩
 ·cases e⟩
theorem dq:OpD X (compareOp .Lt) ltD:=⟨_,Ej,jm fun i j d e O H=>by cases e; exact .bl _⟩
theorem jP:OpD X (compareOp .LtE) leD:=⟨_,Ek,jm fun i j d e O H=>by cases e; exact .bl _⟩
theorem fH:OpD X (compareOp .Gt) gtD:=⟨_,El,jm fun i j d e O H=>by cases e; exact .bl _⟩
theorem vF:OpD X (compareOp .GtE) geD:=⟨_,Em,jm fun i j d e O H=>by cases e; exact .bl _⟩
def aG:PyData→PyData→Option PyData
 | .int i,.int j=>some (.int (i + j))
 | .str x,.str y=>if x.length + y.length≤sizeLine then some (.str (x++y)) else none
 | .tuple xs,.tuple ys=>if xs.length + ys.length≤sizeLine then some (.tuple (xs++ys)) else none
 | .list xs,.list ys=>if xs.length + ys.length≤sizeLine then some (.list (xs++ys)) else none
 | _,_=>none
def Ea (K:Frag):R2:=fun x y H Q=>∃ l b xs zs,x=.ref l∧y=.ref b∧SqL K H l xs∧SqL K H b zs∧xs.length + zs.length≤sizeLine∧∀ p,H p=none→Q (.ref p) (upd H p (.lst (xs++zs)))
theorem sk:OpR X (binaryOp .Add) (Ea X.K):=by
 intro pins s σ H x y v u Q I rx ry h
 obtain ⟨l,b,xs,zs,rfl,rfl,hH,hB,hz,q⟩:=h
 cases rx
 cases ry
 obtain ⟨its,r,p1,_⟩:=I.list hH
 obtain ⟨its2,r2,p2,_⟩:=I.list hB
 have hl:=r.length
 have hl2:=r2.length
 obtain ⟨⟨cls,dd,data,sl⟩,ho,hc,n,hd⟩:=id p1.isList
 obtain ⟨⟨cls2,dd2,data2,sl2⟩,ho2,hc2,n2,hd2⟩:=id p2.isList
 simp only at hc hd hc2 hd2
 subst hc hd hc2 hd2
 have ea:its.toArray++its2.toArray=(its++its2).toArray:=by simp
 refine concat_meets ⟨_,ho,rfl⟩ ⟨_,ho2,rfl⟩ noFill_list_add seq_list_add PySem.F.slot_list_add PySem.F.entry_list_add (PySem.F.args_list_add_2 _ _) (list_addW l b its.toArray its2.toArray n n2 dd dd2 sl sl2 (by rw [List.size_toArray,List.size_toArray]; omega)) ⟨ho,ho2,?_⟩
 rw [ea]
 exact ⟨.ref _,_,I.lnew (t':=s.toks) (r.append r2) (by rw [List.length_append]; omega),rfl,q _ I.fresh⟩
theorem aU:OpD X (binaryOp .Add) aG:=by
 refine ⟨_,op_add.or (op_add_str.or (op_catG.or sk)),fun O ts H T v1 v2 x y d Q hc h1 h2 e q=>?_⟩
 unfold aG at e
 split at e
 ·cases e
  exact .inl ⟨_,_,h1.int,h2.int,q _ H (.refl _ _) hc (.int _)⟩
 ·split at e
  ·rename_i hz
   cases e
   exact .inr (.inl ⟨_,_,h1.str,h2.str,hz,q _ H (.refl _ _) hc (.str _)⟩)
  ·cases e
 ·split at e
  ·rename_i xs ys hz
   cases e
   obtain ⟨a,vs,rfl,t1,r1⟩:=h1.tup
   obtain ⟨b,us,rfl,t2,r2⟩:=h2.tup
   refine .inr (.inr (.inl ⟨a,b,vs,us,rfl,rfl,t1.sq,t2.sq,by rw [r1.length,r2.length]; exact hz,fun z=>?_,fun _ z=>?_,fun _ _ p hp=>?_⟩))
   ·subst z
    cases r1
    exact q _ H (.refl _ _) hc (.tup t2 r2)
   ·subst z
    cases r2
    rw [List.append_nil] at q
    exact q _ H (.refl _ _) hc (.tup t1 r1)
   ·exact q _ _ (.new hp _) (hc.new hp _) (hc.newT hp (r1.append r2))
  ·cases e
 ·split at e
  ·rename_i xs ys hz
   cases e
   obtain ⟨a,vs,rfl,t1,r1⟩:=h1.lst
   obtain ⟨b,us,rfl,t2,r2⟩:=h2.lst
   exact .inr (.inr (.inr ⟨a,b,vs,us,rfl,rfl,t1,t2,by rw [r1.length,r2.length]; exact hz,fun p hp=>q _ _ (.new hp _) (hc.new hp _) (hc.newL hp (r1.append r2))⟩))
  ·cases e
 ·cases e
theorem v8:fillsNumberSlot (.type "tuple") "mul" = pure false:=PySem.fillsNumberSlot_seq (id:="tuple.__mul__") (r:=some (.builtin "tuple.__rmul__")) PySem.F.slot_tuple_mul.lookup (by decide +kernel) PySem.F.slot_tuple_rmul.lookup (by decide +kernel)
theorem xo:seqRepeat? (.type "tuple")=pure (some (.builtin "tuple.__mul__")):=by
 unfold seqRepeat?
 rw [PySem.seqSlot_of (T:="tuple") (name:="__mul__") (id:="tuple.__mul__") PySem.F.slot_tuple_mul.lookup (by decide +kernel),PySem.seqSlot_of (T:="tuple") (name:="__rmul__") (id:="tuple.__rmul__") PySem.F.slot_tuple_rmul.lookup (by decide +kernel)]
 rfl
theorem wL (a:Int) (t:Tok) (l:Addr) (items:Array Value) (n:Nat) (dd:Option Addr) (sl:Array (Option Value)) :
  Meets (Builtin.«int.__rmul__» ⟨[.int a t,.ref l],[]⟩) (fun _ R s=>s.heap.get? l=some { cls:=.type "tuple",dict:=dd,data:=.seq items n,slots:=sl }∧R (.ok (.ret Value.notImplemented)) s):=.of_wp fun prog w A R s h=>by obtain ⟨hp,g,d,tk,os⟩:=s; obtain ⟨hl,h⟩:=h; wp_walk; exact ⟨_,rfl,h⟩
theorem yn (l:Addr) (items:Array Value) (n:Nat) (dd:Option Addr) (sl:Array (Option Value)) (k:Int) (t:Tok) (h1:2≤k) (h2:k≤1000) (h3:items.isEmpty=false) (h4:items.size≤1000) :
  Meets (Builtin.«tuple.__mul__» ⟨[.ref l,.int k t],[]⟩) (fun _ R s=>s.heap.get? l=some { cls:=.type "tuple",dict:=dd,data:=.seq items n,slots:=sl }∧R (.ok (.ret (Value.ref s.heap.objs.size))) { s with heap:=s.heap.push { cls:=Value.type "tuple",data:=Data.seq (List.foldl (fun x1 x2=>x1++x2) #[] (List.replicate k.toNat items)) },toks:=s.toks }):=
 .of_wp fun prog w A R s h=>by
  obtain ⟨hp,g,d,tk,os⟩:=s
  obtain ⟨hl,h⟩:=h
  have hc0:¬ (decide (k < -(2 ^ 63)) || decide (k≥2 ^ 63))=true:=by simp; omega
  have hc1:¬ (items.isEmpty || k == 1)=true:=by rw [h3]; simp; omega
  have hc2:¬ (decide (k≤0) || items.isEmpty)=true:=by rw [h3]; simp; omega
  have hm:items.size * k.toNat≤1000 * 1000:=Nat.mul_le_mul h4 (by omega)
  have hm':(items.size:Int) * k≤1000000:=by
   have e:((items.size * k.toNat:Nat):Int)=(items.size:Int) * k:=by rw [Int.natCast_mul,Int.toNat_of_nonneg (by omega)]
   omega
  have hc3:¬ (items.size:Int) * k > (2 ^ 63 - 1) / 8:=by
   have:(1000000:Int)≤(2 ^ 63 - 1) / 8:=by decide
   omega
  have hc4:¬ Builtin.Tuple.tupleTooMany ((items.size:Int) * k)=true:=by
   unfold Builtin.Tuple.tupleTooMany
   have:sizeLine=16777216:=by decide
   simp
   omega
  have ht:IsTup hp l items:=⟨_,hl,rfl,n,rfl⟩
  wp_walk
  rw [if_neg hc0]
  dsimp only
  refine wpAny_bind (tupleItemsOf_ ht ?_)
  rw [if_neg hc1,if_neg hc2,if_neg hc3,if_neg hc4]
  have fit:sizeOk (.seq (List.foldl (fun x1 x2=>x1++x2) #[] (List.replicate k.toNat items))):=by
   show (List.foldl (fun x1 x2=>x1++x2) #[] (List.replicate k.toNat items)).size≤sizeLine
   have q:=foldl_rep items.toList k.toNat []
   rw [List.nil_append] at q
   have q':List.foldl (fun x1 x2=>x1++x2) #[] (List.replicate k.toNat items)=(List.replicate k.toNat items.toList).flatten.toArray:=by simpa using q
   rw [q',List.size_toArray,len_rep]
   have:sizeLine=16777216:=by decide
   rw [Array.length_toList,Nat.mul_comm]
   omega
  first
  | exact wpAny_bind (m:=Builtin.Tuple.tupleExact _) (wpAny_newObj_type (wpAny_pure ⟨_,rfl,h⟩) fit)
  | exact wpAny_bind (m:=Builtin.Tuple.tupleExact _) (wpAny_newObj_type (wpAny_bind (wpAny_pure (wpAny_pure ⟨_,rfl,h⟩))) fit)
theorem Bv:OpR X (binaryOp .Mult) (fun x y H Q=>∃ a k xs,x=.ref a∧y=.int k∧SqT X.K H a xs∧2≤k∧k≤1000∧xs≠[]∧xs.length≤1000∧∀ p,H p=none→Q (.ref p) (upd H p (.tup (List.replicate k.toNat xs).flatten))):=by
 intro pins s σ H x y v u Q I rx ry h
 obtain ⟨a,k,xs,rfl,rfl,hq,h1,h2,h3,h4,q⟩:=h
 cases rx
 obtain ⟨t,rfl⟩:=ry
 obtain ⟨its,r,p1,_⟩:=I.tuple hq
 have hl:=r.length
 have hv:its≠[]:=fun z=>h3 (r.nil_iff.mp z)
 obtain ⟨⟨cls,dd,data,sl⟩,ho,hc,n,hd⟩:=id p1
 simp only at hc hd
 subst hc hd
 have hnew:List.foldl (fun x1 x2=>x1++x2) #[] (List.replicate k.toNat its.toArray)=(List.replicate k.toNat its).flatten.toArray:=by
  have q:=foldl_rep its k.toNat []
  rw [List.nil_append] at q
  exact q
 have he:its.toArray.isEmpty=false:=by
  cases its with
  | nil=>exact absurd rfl hv
  | cons _ _=>simp
 refine wpAny_binaryOp_repeat_ref (T:="tuple") (U:="int") (by decide) ⟨_,ho,rfl⟩ (fun s'=>typeIs_int s' k t) v8 F.fills_int_mul F.slot_int_rmul xo F.slot_int_index.lookup
  (call_meets F.slot_int_rmul (typeIs_int s k t) F.entry_int_rmul (F.args_int_rmul_2 _ _) (wL k t a its.toArray n dd sl)
   ⟨ho,rfl,⟨_,ho,rfl⟩,call_meets PySem.F.slot_tuple_mul ⟨_,ho,rfl⟩ PySem.F.entry_tuple_mul (PySem.F.args_tuple_mul_2 _ _) (yn a its.toArray n dd sl k t h1 h2 he (by rw [List.size_toArray]; omega)) ⟨ho,?_⟩⟩)
 rw [hnew]
 refine ⟨.ref s.heap.objs.size,_,I.laid (t':=s.toks) (o:=.tup (List.replicate k.toNat xs).flatten) (fun b ob q=>Heap.get?_push_of_some _ q) (Nat.le_refl _) ?_,rfl,q _ (I.hok.fresh (Nat.le_refl _))⟩
 refine ⟨?_,_,r.rep k.toNat,IsTup.new _ _⟩
 rw [len_rep]
 have:k.toNat * xs.length≤1000 * 1000:=Nat.mul_le_mul (by omega) h4
 have:sizeLine=16777216:=by decide
 omega
def bB:PyData→PyData→Option PyData
 | .int i,.int j=>if (-(2 ^ 64) < i∧i < 2 ^ 64)∨(-(2 ^ 64) < j∧j < 2 ^ 64) then some (.int (i * j)) else none
 | .str z,.int k=>if 0≤k∧k≤2000∧z.length≤1000 then some (.str (Txt.mul z k)) else none
 | .tuple xs,.int k=>if 2≤k∧k≤1000∧xs.isEmpty=false∧xs.length≤1000 then some (.tuple (List.replicate k.toNat xs).flatten) else none
 | _,_=>none
theorem eG:OpD X (binaryOp .Mult) bB:=by
 refine ⟨_,op_mul.or (op_mulS.or Bv),fun O ts H T v1 v2 x y d Q hc h1 h2 e q=>?_⟩
 unfold bB at e
 split at e
 ·split at e
  ·rename_i hz
   cases e
   exact .inl ⟨_,_,h1.int,h2.int,hz,q _ H (.refl _ _) hc (.int _)⟩
  ·cases e
 ·split at e
  ·rename_i hz
   cases e
   exact .inr (.inl ⟨_,_,h1.str,h2.int,hz.1,hz.2.1,hz.2.2,q _ H (.refl _ _) hc (.str _)⟩)
  ·cases e
 ·split at e
  ·rename_i xs k hz
   cases e
   obtain ⟨a,vs,rfl,t1,r1⟩:=h1.tup
   exact .inr (.inr ⟨a,_,vs,rfl,h2.int,t1.sq,hz.1,hz.2.1,fun z=>by subst z; cases r1; exact absurd hz.2.2.1 (by simp),by rw [r1.length]; exact hz.2.2.2,fun p hp=>q _ _ (.new hp _) (hc.new hp _) (hc.newT hp (r1.rep _))⟩)
  ·cases e
 ·cases e
def eqS:PyData→PyData→Option Bool
 | .int i,.int j=>some (decide (i=j))
 | .str x,.str y=>some (decide (x=y))
 | .bool a,.bool b=>some (decide (a=b))
 | .none,.none=>some true
 | .none,.int _=>some false | .int _,.none=>some false | .none,.bool _=>some false | .bool _,.none=>some false | .none,.str _=>some false | .str _,.none=>some false
 | .int _,.str _=>some false | .str _,.int _=>some false | .bool _,.str _=>some false | .str _,.bool _=>some false
 | _,_=>none
theorem uh {K:Frag} {O:Addr→Prop} {H:Hp} {v1 v2:V} {x y:PyData} {b:Bool} (h1:Vw K O H v1 x) (h2:Vw K O H v2 y) (e:eqS x y=some b):ow v1 v2=true∧decide (v1=v2)=b:=by
 unfold eqS at e
 split at e
 all_goals first | (cases e; done) | skip
 ·cases h1.int; cases h2.int; cases e; exact ⟨rfl,by simp⟩
 ·cases h1.str; cases h2.str; cases e; exact ⟨rfl,by simp⟩
 ·cases h1.bl; cases h2.bl; cases e; exact ⟨rfl,by simp⟩
 ·cases h1.non; cases h2.non; cases e; exact ⟨rfl,by simp⟩
 ·cases h1.non; cases h2.int; cases e; exact ⟨rfl,by simp⟩
 ·cases h1.int; cases h2.non; cases e; exact ⟨rfl,by simp⟩
 ·cases h1.non; cases h2.bl; cases e; exact ⟨rfl,by simp⟩
 ·cases h1.bl; cases h2.non; cases e; exact ⟨rfl,by simp⟩
 ·cases h1.non; cases h2.str; cases e; exact ⟨rfl,by simp⟩
 ·cases h1.str; cases h2.non; cases e; exact ⟨rfl,by simp⟩
 ·cases h1.int; cases h2.str; cases e; exact ⟨rfl,by simp⟩
 ·cases h1.str; cases h2.int; cases e; exact ⟨rfl,by simp⟩
 ·cases h1.bl; cases h2.str; cases e; exact ⟨rfl,by simp⟩
 ·cases h1.str; cases h2.bl; cases e; exact ⟨rfl,by simp⟩
def eqD (x y:PyData):Option PyData:=(eqS x y).map .bool
def neD (x y:PyData):Option PyData:=(eqS x y).map fun b=>.bool (!b)
theorem a6:OpD X (compareOp .Eq) eqD:=⟨_,En,fun O ts H T v1 v2 x y d Q hc h1 h2 e q=>by
 unfold eqD at e
 obtain ⟨b,e1,rfl⟩:=Option.map_eq_some_iff.mp e
 obtain ⟨k1,k2⟩:=uh h1 h2 e1
 exact ⟨k1,by rw [k2]; exact q _ H (.refl _ _) hc (.bl _)⟩⟩
theorem jO:OpD X (compareOp .NotEq) neD:=⟨_,Ei,fun O ts H T v1 v2 x y d Q hc h1 h2 e q=>by
 unfold neD at e
 obtain ⟨b,e1,rfl⟩:=Option.map_eq_some_iff.mp e
 obtain ⟨k1,k2⟩:=uh h1 h2 e1
 exact ⟨k1,by rw [k2]; exact q _ H (.refl _ _) hc (.bl _)⟩⟩
def isNone:PyData→Bool
 | .none=>true
 | _=>false
theorem ql {K:Frag} {O:Addr→Prop} {H:Hp} {v:V} {x:PyData} (h:Vw K O H v x):decide (v=.non)=isNone x:=by
 cases h with
 | rep h=>cases h <;> rfl
 | raw _ _=>rfl
 | rawD _ _=>rfl
def isD:PyData→PyData→Option PyData
 | x,.none=>some (.bool (isNone x))
 | _,_=>none
theorem i9:OpD X (compareOp .Is) isD:=⟨_,CT,fun O ts H T v1 v2 x y d Q hc h1 h2 e q=>by
 unfold isD at e
 split at e
 ·cases e
  exact ⟨h2.non,by rw [ql h1]; exact q _ H (.refl _ _) hc (.bl _)⟩
 ·cases e⟩
def iL:PyData→PyData→Option PyData
 | x,.none=>some (.bool (!isNone x))
 | .bool a,.bool b=>some (.bool (a != b))
 | _,_=>none
theorem BA:OpD X (compareOp .IsNot) iL:=⟨_,op_notN.or y6,fun O ts H T v1 v2 x y d Q hc h1 h2 e q=>by
 unfold iL at e
 split at e
 ·cases e
  exact .inl ⟨h2.non,by rw [ql h1]; exact q _ H (.refl _ _) hc (.bl _)⟩
 ·cases e
  exact .inr ⟨_,_,h1.bl,h2.bl,q _ H (.refl _ _) hc (.bl _)⟩
 ·cases e⟩
def cT:PyData→Bool
 | .none=>true | .bool _=>true | .int _=>true | .str _=>true
 | _=>false
def eqF:PyData→PyData→Bool
 | .none,.none=>true
 | .bool a,.bool b=>a == b
 | .bool a,.int b=>(if a then 1 else 0) == b
 | .int a,.bool b=>a == (if b then 1 else 0)
 | .int a,.int b=>a == b
 | .str a,.str b=>a == b
 | _,_=>false
def hW (y x:Str):Bool:=!(Builtin.Str.occurrences y x 0 y.length 1).isEmpty
def inS:PyData→PyData→Option Bool
 | .str x,.str y=>some (hW y x)
 | x,.list ys=>if cT x && ys.all cT then some (ys.any fun y=>eqF y x) else none
 | x,.tuple ys=>if cT x && ys.all cT then some (ys.any fun y=>eqF y x) else none
 | _,_=>none
theorem m6 {K:Frag} {O:Addr→Prop} {H:Hp} {v:V} {x:PyData} (h:Rep K O H v x) (e:cT x=true):eL v=true:=by cases h <;> first | rfl | cases e
theorem Dl {K:Frag} {O:Addr→Prop} {H:Hp} {v u:V} {x y:PyData} (h:Rep K O H v x) (g:Rep K O H u y) (ex:cT x=true) (ey:cT y=true):eqV v u=eqF x y:=by cases h <;> cases g <;> first | rfl | cases ex | cases ey
theorem mK {K:Frag} {O:Addr→Prop} {H:Hp}:∀ {vs:List V} {xs:List PyData},Reps K O H vs xs→xs.all cT=true→vs.all eL=true
 | _,_,.nil,_=>rfl
 | _,_,.cons r t,e=>by
  rw [List.all_cons,Bool.and_eq_true] at e
  rw [List.all_cons,m6 r e.1,mK t e.2]
  rfl
theorem nk {K:Frag} {O:Addr→Prop} {H:Hp} {v:V} {x:PyData} (h:Rep K O H v x) (ex:cT x=true):∀ {vs:List V} {xs:List PyData},Reps K O H vs xs→xs.all cT=true→(vs.any fun y=>eqV y v)=xs.any fun y=>eqF y x
 | _,_,.nil,_=>rfl
 | _,_,.cons r t,e=>by
  rw [List.all_cons,Bool.and_eq_true] at e
  rw [List.any_cons,List.any_cons,Dl r h e.1 ex,nk h ex t e.2]
theorem Vw.flat {K:Frag} {O:Addr→Prop} {H:Hp} {v:V} {x:PyData} (h:Vw K O H v x) (e:cT x=true):Rep K O H v x:=by
 cases h with
 | rep h=>exact h
 | raw _ _=>cases e
 | rawD _ _=>cases e
def inD (x y:PyData):Option PyData:=(inS x y).map .bool
def kS (x y:PyData):Option PyData:=(inS x y).map fun b=>.bool (!b)
theorem nF {K:Frag} (neg:Bool):gv K (fun x y H Q=>(∃ i j,x=.str i∧y=.str j∧Q (.bl (if neg then !(hW j i) else hW j i)) H)∨rIn K neg x y H Q) (fun x y=>(inS x y).map fun b=>.bool (if neg then !b else b)):=fun O ts H T v1 v2 x y d Q hc h1 h2 e q=>by
 obtain ⟨b,e1,rfl⟩:=Option.map_eq_some_iff.mp e
 unfold inS at e1
 split at e1
 ·cases e1
  exact .inl ⟨_,_,h1.str,h2.str,q _ H (.refl _ _) hc (.bl _)⟩
 ·split at e1
  ·rename_i hf
   cases e1
   rw [Bool.and_eq_true] at hf
   obtain ⟨a,vs,rfl,t,r⟩:=h2.lst
   have r1:=h1.flat hf.1
   refine .inr ⟨a,vs,rfl,.inl t,m6 r1 hf.1,mK r hf.2,?_⟩
   have z:inV v1 vs=_:=nk r1 hf.1 r hf.2
   rw [z]
   exact q _ H (.refl _ _) hc (.bl _)
  ·cases e1
 ·split at e1
  ·rename_i hf
   cases e1
   rw [Bool.and_eq_true] at hf
   obtain ⟨a,vs,rfl,t,r⟩:=h2.tup
   have r1:=h1.flat hf.1
   refine .inr ⟨a,vs,rfl,.inr t.sq,m6 r1 hf.1,mK r hf.2,?_⟩
   have z:inV v1 vs=_:=nk r1 hf.1 r hf.2
   rw [z]
   exact q _ H (.refl _ _) hc (.bl _)
  ·cases e1
 ·cases e1
theorem ja:OpD X (compareOp .In) inD:=⟨_,op_in_str.or qc,nF false⟩
theorem Bz:OpD X (compareOp .NotIn) kS:=⟨_,op_notin_str.or xp,nF true⟩
def jT:PyData→Option PyData
 | .int i=>some (.int (-i))
 | _=>none
theorem um {a:Expr} {fa:FE} {pos:Pos} (ha:DE X a fa):DE X (.UnaryOp .USub a pos) (fUn jT fa):=EN Cf (fun O ts H T v x d Q hc h e q=>by
 unfold jT at e
 split at e
 ·cases e
  exact ⟨_,h.int,q _ H (.refl _ _) hc (.int _)⟩
 ·cases e) ha
def ixD:PyData→PyData→Option PyData
 | .list xs,.int i=>atI xs i
 | .tuple xs,.int i=>atI xs i
 | .str z,.int i=>if z.length≤sizeLine then (atI z.cps.toList i).map fun c=>.str ⟨#[c]⟩ else none
 | _,_=>none
theorem sd {K:Frag} {O:Addr→Prop} {H:Hp} {vs:List V} {xs:List PyData} {i:Int} {d:PyData} (r:Reps K O H vs xs) (e:atI xs i=some d):∃ v,atI vs i=some v∧Rep K O H v d:=by
 unfold atI at e ⊢
 rw [r.length]
 cases h:ixN xs.length i with
 | none=>rw [h] at e; cases e
 | some j=>
  rw [h] at e
  exact r.getD e
theorem aL:IxD X ixD:=⟨_,nT,fun O ts H T v1 v2 x y d Q hc h1 h2 e q=>by
 unfold ixD at e
 split at e
 ·obtain ⟨a,vs,rfl,t,r⟩:=h1.lst
  obtain ⟨v,k1,k2⟩:=sd r e
  exact .inl ⟨a,vs,_,v,rfl,h2.int,t,k1,q _ H (.refl _ _) hc k2⟩
 ·obtain ⟨a,vs,rfl,t,r⟩:=h1.tup
  obtain ⟨v,k1,k2⟩:=sd r e
  exact .inr (.inl ⟨a,vs,_,v,rfl,h2.int,t.sq,k1,q _ H (.refl _ _) hc k2⟩)
 ·split at e
  ·rename_i hz
   obtain ⟨c,k1,rfl⟩:=Option.map_eq_some_iff.mp e
   exact .inr (.inr ⟨_,_,c,h1.str,h2.int,hz,k1,q _ H (.refl _ _) hc (.str _)⟩)
  ·cases e
 ·cases e⟩
end
theorem vU {prog:Program} {w:World} {A:Around} {E:Value→Shared→Prop} {s:Shared} {t sl:Addr} {items:Array Value} {vl vu:Value} {lo hi:Option Int} {Q:Value→Shared→Prop} (ht:IsTup s.heap t items) (hs:s.heap.IsSliceOf sl vl vu .none) (pl:IsPart vl lo) (pu:IsPart vu hi)
  (hw:HT.sIx items.size 0 lo=0∧HT.sIx items.size items.size hi=items.size) (h:Q (.ref t) s):wpAny (model prog w) A (getItem (.ref t) (.ref sl)) Q E s:=by
 obtain ⟨os,hos,hcs,hds⟩:=id hs
 have hTs:s.TypeIs (.ref sl) "slice":=⟨os,hos,hcs⟩
 unfold getItem
 try with_reducible refine wpAny_holding ?_
 first | refine wpAny_bind (wpAny_pure ?_) | skip
 refine wpAny_bind (wpAny_sequenceKey ht.typeIs (by decide) ?_)
 refine wpAny_bind (wpAny_callSpecial?_slot (name:=Str.ofString "__getitem__") ht.typeIs PyProof.Rows.slot_tuple_getitem
  (wpAny_call_entry PyProof.Rows.slot_tuple_getitem ht.typeIs entry_tuple_getitem ?_ (args_tuple_getitem _ _)))
 show wpAny _ _ (Builtin.Tuple.tupleItemsOf (.ref t) >>= _) _ _ s
 refine wpAny_bind (tupleItemsOf_ ht ?_)
 refine wpAny_bind (wpAny_typeOf hTs ?_)
 rw [if_pos (by decide)]
 refine wpAny_bind (HT.oO hs pl pu ?_)
 have hyes:((((HT.sIx items.size 0 lo:Nat):Int) == 0 && (1:Int) == 1 && (HT.sIx items.size items.size hi - HT.sIx items.size 0 lo) == items.size)=true):=by
  rw [hw.1,hw.2]
  simp
 show wpAny _ _ (if (((HT.sIx items.size 0 lo:Nat):Int) == 0 && (1:Int) == 1 && (HT.sIx items.size items.size hi - HT.sIx items.size 0 lo) == items.size)=true then _ else _) _ _ s
 rw [if_pos hyes]
 refine wpAny_bind (m:=Builtin.Tuple.tupleIsExact (.ref t)) (wpAny_bind (wpAny_typeOf ht.typeIs (wpAny_pure ?_)))
 first
 | exact wpAny_bind (wpAny_rule (wpAny_bind (wpAny_pure ⟨_,rfl,wpAny_pure h⟩)))
 | (simp only [beq_self_eq_true,if_true]; exact wpAny_bind (wpAny_rule (wpAny_pure ⟨_,rfl,wpAny_pure h⟩)))
def cg {α:Type} (xs:List α) (lo hi:Option Int):List α:=(xs.drop (HT.sIx xs.length 0 lo)).take (HT.sIx xs.length xs.length hi - HT.sIx xs.length 0 lo)
theorem Reps.cut {K:Frag} {O:Addr→Prop} {H:Hp} {vs:List V} {ds:List PyData} (r:Reps K O H vs ds) (lo hi:Option Int):Reps K O H (fL vs lo hi) (cg ds lo hi):=by
 unfold fL cg
 rw [r.length]
 exact (r.drop _).take _
theorem zI {α:Type} {xs:List α} {lo hi:Option Int} (h:HT.sIx xs.length 0 lo=0∧HT.sIx xs.length xs.length hi=xs.length):cg xs lo hi=xs:=by
 unfold cg
 rw [h.1,h.2]
 simp
section
variable {X:Cx}
theorem sl_tupA:SlR X (fun x lo hi H Q=>∃ a xs,x=.ref a∧SqT X.K H a xs∧((HT.sIx xs.length 0 lo=0∧HT.sIx xs.length xs.length hi=xs.length)→Q (.ref a) H) ∧
  (¬ (HT.sIx xs.length 0 lo=0∧HT.sIx xs.length xs.length hi=xs.length)→∀ p,H p=none→Q (.ref p) (upd H p (.tup (fL xs lo hi))))):=by
 intro pins s σ H x v vl vu lo hi sl Q I rx hs pl pu h
 obtain ⟨a,xs,rfl,hx,q1,q2⟩:=h
 by_cases hw:HT.sIx xs.length 0 lo=0∧HT.sIx xs.length xs.length hi=xs.length
 ·cases rx
  obtain ⟨its,r,ht,hz⟩:=I.tuple hx
  have hlen:its.toArray.size=xs.length:=by rw [List.size_toArray]; exact r.length.symm
  refine ⟨"tuple",_,PyProof.Rows.slot_tuple_getitem.lookup,ht.typeIs,?_⟩
  exact vU ht hs pl pu (by rw [hlen]; exact hw) ⟨.ref a,H,I,rfl,q1 hw⟩
 ·exact Cq pins s σ H _ v vl vu lo hi sl Q I rx hs pl pu ⟨a,xs,rfl,hx,hw,q2 hw⟩
def jw (x:PyData) (lo hi:Option Int):Option PyData:=match x with
 | .list xs=>some (.list (cg xs lo hi))
 | .tuple xs=>some (.tuple (cg xs lo hi))
 | .str z=>if z.length≤sizeLine then some (.str (Txt.slice z lo hi)) else none
 | _=>none
abbrev FO:=Rho→Tp→Option (Option Int×Tp)
def cf:FO:=fun _ T=>some (none,T)
def fP (f:FE):FO:=fun ρ T=>bnd (f ρ T) fun w T1=>match w with
 | .d (.int i)=>some (some i,T1)
 | _=>none
inductive LiftOP (K:Frag) (f:FO) (σ:L2.St) (H:Hp) (Q:Option Int→Hp→Prop):Prop where
 | mk (O:Addr→Prop) (ts:List Addr) (ρ:Rho) (T:Tp) (o:Option Int) (T':Tp) (hc:HC K O ts H T) (re:RelE K O ts H σ ρ) (e:f ρ T=some (o,T')) (q:∀ H',SameX ts H H'→HC K O ts H' T'→Q o H'):LiftOP K f σ H Q
def EC (K:Frag) (f:FO):TO:=fun σ H Q=>LiftOP K f σ H Q
structure DO (X:Cx) (e:Option Expr) (f:FO):Prop where
 pe:PO X e (EC X.K f)
theorem tO {e:Option Expr} {t t':TO} (h:PO X e t) (i:∀ σ H Q,t' σ H Q→t σ H Q):PO X e t':=fun pins s σ H Q I q=>h pins s σ H Q I (i σ H Q q)
theorem dS:DO X none cf:=by
 refine ⟨?_⟩
 refine tO Bo fun σ H Q=>?_
 rintro ⟨O,ts,ρ,T,o,T',hc,re,e,q⟩
 cases e
 exact q H (.refl _ _) hc
theorem bU {e:Expr} {f:FE} (h:DE X e f):DO X (some e) (fP f):=by
 refine ⟨?_⟩
 refine tO (Bn h.pe) fun σ H Q=>?_
 rintro ⟨O,ts,ρ,T,o,T',hc,re,e,q⟩
 obtain ⟨w1,T1,e1,e⟩:=aA e
 refine ⟨O,ts,ρ,T,w1,T1,hc,re,e1,fun v1 H1 s1 hc1 r1=>?_⟩
 split at e
 ·cases e
  cases (show Rep X.K O H1 v1 _ from r1)
  exact ⟨_,rfl,q H1 s1 hc1⟩
 ·cases e
def fSl (f:FE) (l u:FO):FE:=fun ρ T=>bnd (f ρ T) fun w T1=>bnd (l ρ T1) fun lo T2=>bnd (u ρ T2) fun hi T3=>op1 (fun x=>jw x lo hi) T3 w
theorem cJ {e:Expr} {lo hi:Option Expr} {f:FE} {l u:FO} {pos p2:Pos} (he:DE X e f) (hl:DO X lo l) (hu:DO X hi u):DE X (.Subscript e (.Slice lo hi none p2) pos) (fSl f l u):=by
 refine ⟨?_⟩
 refine aX (z9 (sl_list.or (sl_tupA.or Cr)) he.pe hl.pe hu.pe) fun σ H Q=>?_
 rintro ⟨O,ts,ρ,T,w,T',hc,re,e,q⟩
 obtain ⟨w1,T1,e1,e⟩:=aA e
 obtain ⟨o1,T2,e2,e⟩:=aA e
 obtain ⟨o2,T3,e3,e⟩:=aA e
 obtain ⟨x,d,h1,h3,rfl,rfl⟩:=gN e
 refine ⟨O,ts,ρ,T,w1,T1,hc,re,e1,fun v1 H1 s1 hc1 r1=>?_⟩
 refine ⟨O,ts,ρ,T1,o1,T2,hc1,re.mono hc s1,e2,fun H2 s2 hc2=>?_⟩
 refine ⟨O,ts,ρ,T2,o2,T',hc2,re.mono hc (s1.trans s2),e3,fun H3 s3 hc3=>?_⟩
 have vw:=hc3.view (r1.mono hc1 (s2.trans s3)) h1
 have q':∀ v H',SameX ts H3 H'→HC X.K O ts H' T'→Rep X.K O H' v d→Q v H':=fun v H' s c r=>q v H' (s1.trans (s2.trans (s3.trans s))) c r
 clear q
 cases x with
 | list xs=>
  cases h3
  obtain ⟨a,vs,rfl,t,r⟩:=vw.lst
  exact .inl ⟨a,vs,rfl,t,fun p hp=>q' _ _ (.new hp _) (hc3.new hp _) (hc3.newL hp (r.cut _ _))⟩
 | tuple xs=>
  cases h3
  obtain ⟨a,vs,rfl,t,r⟩:=vw.tup
  refine .inr (.inl ⟨a,vs,rfl,t.sq,fun hw=>?_,fun hw p hp=>?_⟩)
  ·rw [r.length] at hw
   rw [zI hw] at q'
   exact q' _ H3 (.refl _ _) hc3 vw.tupR
  ·exact q' _ _ (.new hp _) (hc3.new hp _) (hc3.newT hp (r.cut _ _))
 | str z=>
  have h3':(if z.length≤sizeLine then some (PyData.str (Txt.slice z o1 o2)) else none)=some d:=h3
  split at h3'
  ·rename_i hz
   cases h3'
   exact .inr (.inr ⟨z,vw.str,hz,q' _ H3 (.refl _ _) hc3 (.str _)⟩)
  ·cases h3'
 | _=>cases h3
end
inductive Kd where
 | non | bl | int | str | tup | lst | dct
 deriving DecidableEq
def Kd.name:Kd→String
 | .non=>"NoneType" | .bl=>"bool" | .int=>"int" | .str=>"str" | .tup=>"tuple" | .lst=>"list" | .dct=>"dict"
def kd:PyData→Kd
 | .none=>.non | .bool _=>.bl | .int _=>.int | .str _=>.str | .list _=>.lst | .tuple _=>.tup | .dict _=>.dct
def bw (a b:Kd):Bool:=decide (a=b) || (decide (a=.bl) && decide (b=.int))
def Ft (t c:String):Option Bool:=if (Value.type t == Value.type c)=true then some true else if PySem.W.kitMeta c=true then (fastBuiltinMro t).map (·.contains (.type c)) else none
theorem e9 (a b:Kd):b≠.non→Ft a.name b.name=some (bw a b):=by cases a <;> cases b <;> first | (intro h; exact absurd rfl h) | (intro _; decide +kernel)
section
variable {X:Cx}
theorem AS:CallR X (.builtin "isinstance") (fun xs H Q=>∃ (x:V) (c:Kd) (O:Addr→Prop) (d:PyData),xs=[x,.ty c.name]∧Vw X.K O H x d∧c≠.non∧Q (.bl (bw (kd d) c)) H):=by
 intro pins s σ H xs us Q I r h
 obtain ⟨x,c,O,d,rfl,vw,hc,q⟩:=h
 obtain ⟨u,w',rfl,ru,rw'⟩:=vals2 r
 cases (show w'=Value.type c.name from rw')
 have fin:∀ tk,EP X pins σ Q (.bool (bw (kd d) c)) { s with toks:=tk }:=fun tk=>⟨.bl _,H,I.tok _,rfl,q⟩
 cases d with
 | none=>cases vw.non; exact j7 I ru .non (show PySem.W.kitOne X.K (.type (Kd.name .non)) (.type c.name)=some _ from e9 .non c hc) fin
 | bool b=>cases vw.bl; exact j7 I ru (.bl b) (show PySem.W.kitOne X.K (.type (Kd.name .bl)) (.type c.name)=some _ from e9 .bl c hc) fin
 | int i=>cases vw.int; exact j7 I ru (.int i) (show PySem.W.kitOne X.K (.type (Kd.name .int)) (.type c.name)=some _ from e9 .int c hc) fin
 | str z=>cases vw.str; exact j7 I ru (.str z) (show PySem.W.kitOne X.K (.type (Kd.name .str)) (.type c.name)=some _ from e9 .str c hc) fin
 | list ds=>
  obtain ⟨a,vs,rfl,t,r⟩:=vw.lst
  cases (show u=Value.ref a from ru)
  obtain ⟨its,_,pl,_⟩:=I.list t
  obtain ⟨o,n,e,c1,_⟩:=pl
  exact PySem.W.kia_one PySem.W.kitx_list I.kIn ⟨o,e,c1⟩ (show PySem.W.kitOne X.K (.type (Kd.name .lst)) (.type c.name)=some _ from e9 .lst c hc) (fun z=>nomatch z) fin
 | tuple ds=>
  obtain ⟨a,vs,rfl,t,r⟩:=vw.tup
  cases (show u=Value.ref a from ru)
  obtain ⟨its,_,pl,_⟩:=I.tuple t.sq
  obtain ⟨o,e,c1,_⟩:=pl
  exact PySem.W.kia_one PySem.W.kitx_tuple I.kIn ⟨o,e,c1⟩ (show PySem.W.kitOne X.K (.type (Kd.name .tup)) (.type c.name)=some _ from e9 .tup c hc) (fun z=>nomatch z) fin
 | dict ds=>
  obtain ⟨a,vs,rfl,t,r⟩:=vw.dct
  cases (show u=Value.ref a from ru)
  obtain ⟨_,_,_,_,o,_,_,e,c1,_⟩:=eO I.hok t
  exact PySem.W.kia_one PySem.W.kitx_dict I.kIn ⟨o,e,c1.1⟩ (show PySem.W.kitOne X.K (.type (Kd.name .dct)) (.type c.name)=some _ from e9 .dct c hc) (fun z=>nomatch z) fin
def bx (c:Kd) (x:PyData):Option PyData:=some (.bool (bw (kd x) c))
theorem bH {e:Expr} {f:FE} {p p' pos:Pos} {T:Str} (c:Kd) (hi:X.mg "isinstance" = none) (he:DE X e f) (hm:X.mg T=none) (hb:bootBuiltins T=some (.type c.name)) (hcn:c≠.non:=by decide) (hg:Gl X "isinstance":=by rfl) (hT:Gl X T:=by rfl) (hn:T≠"__name__":=by decide) (hdb:(T == ("__debug__" : Str))=false:=by decide)
  (hs:starEach [e,.Name T p] X.env=(false,eval e X.env)::starEach [.Name T p] X.env:=by exact bc rfl) (hs2:starEach [.Name T p] X.env=(false,eval (.Name T p) X.env)::starEach [] X.env:=by exact bc rfl)
  (hpl:(backTo pos (starEach [.Name T p] X.env)).any (·.1)=false:=by exact bE rfl):DE X (.Call (.Name "isinstance" p') [e,.Name T p] [] pos) (fUn (bx c) f):=by
 refine ⟨?_⟩
 refine aX (mF AS hg hi PyProof.Rows.boot_isinstance (bF he.pe (bF (mR (v:=.ty c.name) hT hm hb rfl hn hdb) cj hs2) hs) (by decide) (by decide) hs hpl) fun σ H Q=>?_
 rintro ⟨O,ts,ρ,T,w,T',hc,re,e,q⟩
 obtain ⟨w1,T1,e1,e⟩:=aA e
 obtain ⟨x,d,h1,h3,rfl,rfl⟩:=gN e
 cases h3
 refine ⟨O,ts,ρ,T,w1,T',hc,re,e1,fun v1 H1 s1 hc1 r1=>?_⟩
 exact ⟨v1,c,O,x,rfl,hc1.view r1 h1,hcn,q _ H1 s1 hc1 (.bl _)⟩
def bf:List PyData→Option PyData
 | [.list xs]=>some (.int xs.length)
 | [.tuple xs]=>some (.int xs.length)
 | [.str z]=>if z.length≤sizeLine then some (.int z.length) else none
 | [.dict kvs]=>some (.int kvs.length)
 | _=>none
theorem bL {K:Frag} {O:Addr→Prop} {H:Hp} {vs:List V} {x:PyData} (h:Vws K O H vs [x]):∃ v,vs=[v]∧Vw K O H v x:=by cases h with | cons h t=>cases t; exact ⟨_,rfl,h⟩
theorem qR {K:Frag} {O:Addr→Prop} {H:Hp}:∀ {kvs:List (Key×V)} {ds:List (PyData×PyData)},RepK K O H kvs ds→kvs.length=ds.length
 | _,_,.nil=>rfl
 | _,_,.cons _ t=>congrArg (· + 1) (qR t)
theorem zK:CallR X (.builtin "len") (fun xs H Q=>∃ a kvs,xs=[V.ref a]∧Rd H a (.dK kvs)∧Q (.int kvs.length) H):=by
 intro pins s σ H xs us Q I r h
 obtain ⟨a,kvs,rfl,ha,q⟩:=h
 obtain ⟨u,rfl,ru⟩:=vals1 r
 cases ru
 exact EQ I ha fun t s' I'=>⟨.int kvs.length,H,I',⟨t,rfl⟩,q⟩
theorem bI:dm X (.builtin "len") bf:=⟨_,call_len_seq.or (call_len_str.or zK),fun O ts H T vs xs d Q hc h e q=>by
 unfold bf at e
 split at e
 ·cases e
  obtain ⟨v,rfl,g⟩:=bL h
  obtain ⟨a,vs,rfl,t,r⟩:=g.lst
  exact .inl ⟨a,vs,rfl,.inl t,by rw [r.length]; exact q _ H (.refl _ _) hc (.int _)⟩
 ·cases e
  obtain ⟨v,rfl,g⟩:=bL h
  obtain ⟨a,vs,rfl,t,r⟩:=g.tup
  exact .inl ⟨a,vs,rfl,.inr t.sq,by rw [r.length]; exact q _ H (.refl _ _) hc (.int _)⟩
 ·split at e
  ·rename_i hz
   cases e
   obtain ⟨v,rfl,g⟩:=bL h
   cases g.str
   exact .inr (.inl ⟨_,rfl,hz,q _ H (.refl _ _) hc (.int _)⟩)
  ·cases e
 ·cases e
  obtain ⟨v,rfl,g⟩:=bL h
  obtain ⟨a,kvs,rfl,t,r⟩:=g.dct
  exact .inr (.inr ⟨a,kvs,rfl,t,by rw [qR r]; exact q _ H (.refl _ _) hc (.int _)⟩)
 ·cases e⟩
def lX:List PyData→Option PyData
 | [.int i]=>some (.int (if i < 0 then -i else i))
 | _=>none
theorem ET:dm X (.builtin "abs") lX:=⟨_,AV,fun O ts H T vs xs d Q hc h e q=>by
 unfold lX at e
 split at e
 ·cases e
  obtain ⟨v,rfl,g⟩:=bL h
  cases g.int
  exact ⟨_,rfl,q _ H (.refl _ _) hc (.int _)⟩
 ·cases e⟩
def Ez:List PyData→Option PyData
 | [.int i,.int j]=>some (.int (if j > i then j else i))
 | _=>none
def Ex:List PyData→Option PyData
 | [.int i,.int j]=>some (.int (if j < i then j else i))
 | _=>none
def gS:List PyData→Option (List Bool)
 | []=>some []
 | .bool b::r=>(gS r).map (b::·)
 | _=>none
def fA:List PyData→Option (List Int)
 | []=>some []
 | .int b::r=>(fA r).map (b::·)
 | _=>none
def cm:List PyData→Option (List Str)
 | []=>some []
 | .str b::r=>(cm r).map (b::·)
 | _=>none
theorem rP {K:Frag} {O:Addr→Prop} {H:Hp}:∀ {vs:List V} {xs:List PyData} {bs:List Bool},Reps K O H vs xs→gS xs=some bs→vs=bs.map V.bl
 | _,_,_,.nil,e=>by cases e; rfl
 | _,x::r,bs,.cons h t,e=>by
  cases x with
  | bool b=>
   obtain ⟨cs,e1,rfl⟩:=Option.map_eq_some_iff.mp (show (gS r).map (b::·)=some bs from e)
   cases h
   rw [rP t e1]
   rfl
  | _=>cases e
theorem rh {K:Frag} {O:Addr→Prop} {H:Hp}:∀ {vs:List V} {xs:List PyData} {bs:List Int},Reps K O H vs xs→fA xs=some bs→vs=bs.map V.int
 | _,_,_,.nil,e=>by cases e; rfl
 | _,x::r,bs,.cons h t,e=>by
  cases x with
  | int b=>
   obtain ⟨cs,e1,rfl⟩:=Option.map_eq_some_iff.mp (show (fA r).map (b::·)=some bs from e)
   cases h
   rw [rh t e1]
   rfl
  | _=>cases e
theorem iA {K:Frag} {O:Addr→Prop} {H:Hp}:∀ {vs:List V} {xs:List PyData} {bs:List Str},Reps K O H vs xs→cm xs=some bs→vs=bs.map V.str
 | _,_,_,.nil,e=>by cases e; rfl
 | _,x::r,bs,.cons h t,e=>by
  cases x with
  | str b=>
   obtain ⟨cs,e1,rfl⟩:=Option.map_eq_some_iff.mp (show (cm r).map (b::·)=some bs from e)
   cases h
   rw [iA t e1]
   rfl
  | _=>cases e
def gu:List PyData→Option PyData
 | [.list xs]=>(gS xs).map fun bs=>.bool (bs.all id)
 | _=>none
theorem lK (hc:X.calm=true:=by rfl):dm X (.builtin "all") gu:=⟨_,AU hc,fun O ts H T vs xs d Q hc h e q=>by
 unfold gu at e
 split at e
 ·obtain ⟨bs,e1,rfl⟩:=Option.map_eq_some_iff.mp e
  obtain ⟨v,rfl,g⟩:=bL h
  obtain ⟨a,vs,rfl,t,r⟩:=g.lst
  rw [rP r e1] at t
  exact ⟨a,bs,rfl,t,q _ H (.refl _ _) hc (.bl _)⟩
 ·cases e⟩
def lR:List PyData→Option PyData
 | [.list xs]=>(fA xs).map fun bs=>.int bs.sum
 | _=>none
theorem ES (hc:X.calm=true:=by rfl):dm X (.builtin "sum") lR:=⟨_,AR hc,fun O ts H T vs xs d Q hc h e q=>by
 unfold lR at e
 split at e
 ·obtain ⟨bs,e1,rfl⟩:=Option.map_eq_some_iff.mp e
  obtain ⟨v,rfl,g⟩:=bL h
  obtain ⟨a,vs,rfl,t,r⟩:=g.lst
  rw [rh r e1] at t
  exact ⟨a,bs,rfl,t,q _ H (.refl _ _) hc (.int _)⟩
 ·cases e⟩
def Ey:PyData→PyData→Option PyData
 | .list xs,.int d=>(fA xs).map fun bs=>.int (K1.hJ d bs)
 | _,_=>none
def eP:List PyData→Option PyData
 | [.int i]=>if i.natAbs.log2 < 1920 then some (.str (toString i)) else none
 | _=>none
theorem jL:dm X (.type "str") eP:=⟨_,call_str_int,fun O ts H T vs xs d Q hc h e q=>by
 unfold eP at e
 split at e
 ·split at e
  ·rename_i hz
   cases e
   obtain ⟨v,rfl,g⟩:=bL h
   cases g.int
   exact ⟨_,rfl,hz,q _ H (.refl _ _) hc (.str _)⟩
  ·cases e
 ·cases e⟩
def fi:List PyData→Option PyData
 | [.list xs]=>some (.tuple xs)
 | [.tuple xs]=>some (.tuple xs)
 | _=>none
theorem kM:dm X (.type "tuple") fi:=⟨_,xg,fun O ts H T vs xs d Q hc h e q=>by
 unfold fi at e
 split at e
 ·cases e
  obtain ⟨v,rfl,g⟩:=bL h
  obtain ⟨a,vs,rfl,t,r⟩:=g.lst
  exact ⟨a,vs,rfl,.inl ⟨t,fun p hp=>q _ _ (.new hp _) (hc.new hp _) (hc.newT hp r)⟩⟩
 ·cases e
  obtain ⟨v,rfl,g⟩:=bL h
  obtain ⟨a,vs,e1,t,r⟩:=g.tup
  subst e1
  exact ⟨a,vs,rfl,.inr ⟨t.sq,q _ H (.refl _ _) hc (.tup t r)⟩⟩
 ·cases e⟩
def gj:List PyData→Option PyData
 | [.list xs]=>some (.list xs)
 | [.tuple xs]=>some (.list xs)
 | _=>none
theorem nZ:dm X (.type "list") gj:=⟨_,call_list_of,fun O ts H T vs xs d Q hc h e q=>by
 unfold gj at e
 split at e
 ·cases e
  obtain ⟨v,rfl,g⟩:=bL h
  obtain ⟨a,vs,rfl,t,r⟩:=g.lst
  exact ⟨a,vs,rfl,.inl t,fun p hp=>q _ _ (.new hp _) (hc.new hp _) (hc.newL hp r)⟩
 ·cases e
  obtain ⟨v,rfl,g⟩:=bL h
  obtain ⟨a,vs,rfl,t,r⟩:=g.tup
  exact ⟨a,vs,rfl,.inr t.sq,fun p hp=>q _ _ (.new hp _) (hc.new hp _) (hc.newL hp r)⟩
 ·cases e⟩
theorem mt_joinG:MtR X "str.join" (fun x vs H Q=>∃ (z:Str) (l:Addr) (ys:List Str),x=.str z∧vs=[.ref l]∧SqL X.K H l (ys.map V.str)∧(ys.map (·.length)).sum + ys.length * z.length≤16777216∧Q (.str (Str.join z ys)) H):=by
 intro pins s σ H x vs v us Q I rx rv h
 obtain ⟨z,l,ys,rfl,rfl,hq,hz,q⟩:=h
 obtain ⟨t,rfl⟩:=rx
 obtain ⟨u,rfl,ru⟩:=vals1 rv
 cases ru
 obtain ⟨its,rw',pl,_⟩:=I.list hq
 refine join_list (ys:=ys) pl.isList (by simpa using pb rw') hz fun t' k=>⟨.str _,H,I.tok _,⟨t',?_⟩,q⟩
 show Value.str (Builtin.Str.glued z ys) t'=_
 rw [StrLaws.glued_eq_join]
def gk:PyData→PyData→Option PyData
 | .str z,.list xs=>match cm xs with
  | some ys=>if (ys.map (·.length)).sum + ys.length * z.length≤16777216 then some (.str (Str.join z ys)) else none
  | none=>none
 | _,_=>none
theorem sT {o e:Expr} {fo fe:FE} {apos cpos:Pos} (ho:DE X o fo) (he:DE X e fe)
  (hbase:attributeBase o "join" X.env (eval o X.env)=eval o X.env:=by rfl)
  (hfew:((backTo cpos (starEach [e] X.env)).all (fun x=>!x.1) && (backToKw cpos (keywordEach [] X.env)).all (fun x=>x.1.isSome)
   && decide (([e]:List Expr).length + ([]:List Keyword).length + (if ([]:List Keyword).isEmpty then 0 else 1) < 30))=true:=by exact hZ rfl)
  (hline:(apos.endLine == cpos.line)=true:=by rfl) (hse:starEach [e] X.env=(false,eval e X.env)::starEach [] X.env:=by exact bc rfl) (hplain:(backTo cpos (starEach [] X.env)).any (·.1)=false:=by exact bE rfl) :
  DE X (.Call (.Attribute o "join" apos) [e] [] cpos) (ag gk fo fe):=by
 refine ⟨?_⟩
 refine aX (gh PySem.F.plainAttrs_str PySem.F.slot_str_join PySem.F.type_str_join mt_joinG ho.pe (bF he.pe cj hse) hbase hfew hline hse hplain) fun σ H Q=>?_
 rintro ⟨O,ts,ρ,T,w,T',hc,re,e,q⟩
 obtain ⟨w1,T1,e1,e⟩:=aA e
 obtain ⟨w2,T2,e2,e⟩:=aA e
 obtain ⟨x,y,d,h1,h2,h3,rfl,rfl⟩:=f6 e
 unfold gk at h3
 split at h3
 ·rename_i z xs
  split at h3
  ·rename_i ys hy
   split at h3
   ·rename_i hz
    cases h3
    refine ⟨O,ts,ρ,T,w1,T1,hc,re,e1,fun v1 H1 s1 hc1 r1=>?_⟩
    have ev:v1=.str z:=by
     cases w1 with
     | d x=>cases h1; cases (show Rep X.K O H1 v1 _ from r1); rfl
     | tp k=>exact (by
       have h1':(T'[k]?).bind gq=some (PyData.str z):=h1
       cases hk:T'[k]? with
       | none=>rw [hk] at h1'; cases h1'
       | some xs=>
        rw [hk] at h1'
        have e2:(if isO xs=true then none else some (PyData.list xs))=some (PyData.str z):=h1'
        split at e2 <;> cases e2)
     | loc zs=>cases zs <;> cases h1
    subst ev
    refine ⟨rfl,O,ts,ρ,T1,w2,T',hc1,re.mono hc s1,e2,fun v2 H2 s2 hc2 r2=>?_⟩
    obtain ⟨a,vs,rfl,t,r⟩:=(hc2.view r2 h2).lst
    rw [iA r hy] at t
    exact ⟨z,a,ys,rfl,rfl,t,hz,q _ H2 (s1.trans s2) hc2 (.str _)⟩
   ·cases h3
  ·cases h3
 ·cases h3
theorem sV {pos:Pos}:DE X (.Dict [] [] pos) (fC (.dict [])):=by
 refine ⟨?_⟩
 refine aX (oh qW) fun σ H Q=>?_
 rintro ⟨O,ts,ρ,T,w,T',hc,re,e,q⟩
 cases e
 intro p hp
 refine .frz aZ fun o=>.done ?_
 rw [rT]
 exact q _ _ (.new hp _) (hc.new hp _) (.dct (hc.fresh hp) aZ .nil)
end
mutual
def iV:PyData→Bool
 | .list _=>false
 | .tuple ds=>kT ds
 | .dict kvs=>kU kvs
 | .none | .bool _ | .int _ | .str _=>true
def kT:List PyData→Bool
 | []=>true
 | d::r=>iV d && kT r
def kU:List (PyData×PyData)→Bool
 | []=>true
 | (_,v)::r=>iV v && kU r
end
section
variable {X:Cx} {pins:List (Addr×Obj)} {σ:L2.St} {H:Hp} {s:Shared} {O:Addr→Prop}
theorem zk {h:Heap} {k:Key} {v:Value} (e:dY k v=true):Reads h v (jU k) []:=by
 rcases dw e with ⟨i,t,rfl,rfl⟩ | ⟨x,t,rfl,rfl⟩
 ·exact .int i t
 ·exact .str x t
mutual
theorem Rep.reads (I:Inv X pins σ H s):∀ {v:V} {d:PyData} {u:Value},Rep X.K O H v d→RelV v u→∃ as,Reads s.heap u d as∧(iV d=true→sysModules∉as)
 | _,_,_,.non,r=>by cases r; exact ⟨_,.none,fun _=>by simp⟩
 | _,_,_,.bl b,r=>by cases r; exact ⟨_,.bool b,fun _=>by simp⟩
 | _,_,_,.int i,r=>by obtain ⟨t,rfl⟩:=r; exact ⟨_,.int i t,fun _=>by simp⟩
 | _,_,_,.str x,r=>by obtain ⟨t,rfl⟩:=r; exact ⟨_,.str x t,fun _=>by simp⟩
 | _,_,_,.tup (a:=a) (vs:=vs) h rs,r=>by
  cases r
  obtain ⟨its,rv,⟨o,e,c,n,dd⟩,_⟩:=I.tuple h.sq
  obtain ⟨as,q,f⟩:=Reps.reads I rs rv
  exact ⟨as,.tuple e c dd (by simpa using q),f⟩
 | _,_,_,.lst (a:=a) (vs:=vs) h rs,r=>by
  cases r
  obtain ⟨its,rv,pl,_⟩:=I.list h.sq
  obtain ⟨o,n,e,c,_,dd⟩:=pl
  obtain ⟨as,q,f⟩:=Reps.reads I rs rv
  exact ⟨_,.list e c dd (by simpa using q),fun z=>by cases z⟩
 | _,_,_,.dct (a:=a) (kvs:=kvs) (ds:=ds) _ h rk,r=>by
  cases r
  obtain ⟨z,y,vs,kv,o,es,ep,e,ed,dd,_,ek,_⟩:=(show ObjOk X.prog X.w H s.heap a (.dK kvs) from (I.hok a _ h).2)
  obtain ⟨bs,q1,q2,f⟩:=RepK.reads I rk kv ek
  refine ⟨_,.dict (kvs:=ds) (as:=[]) (bs:=bs) e ed.1 dd q1 q2,fun zz hm=>?_⟩
  rcases List.mem_cons.mp (by simpa using hm:sysModules∈a::bs) with q | q
  ·rw [q] at y
   simp at y
  ·exact f zz q
theorem Reps.reads (I:Inv X pins σ H s):∀ {vs:List V} {ds:List PyData} {us:List Value},Reps X.K O H vs ds→Vals vs us→∃ as,ReadsAll s.heap us ds as∧(kT ds=true→sysModules∉as)
 | _,_,_,.nil,r=>by cases r; exact ⟨_,.nil,fun _=>by simp⟩
 | _,_,_,.cons (d:=d) (ds:=ds) q t,r=>by
  cases r with
  | cons r1 r2=>
   obtain ⟨as,h1,f1⟩:=Rep.reads I q r1
   obtain ⟨bs,h2,f2⟩:=Reps.reads I t r2
   refine ⟨as++bs,.cons h1 h2,fun z=>?_⟩
   have z':(iV d && kT ds)=true:=z
   rw [Bool.and_eq_true] at z'
   intro hm
   rcases List.mem_append.mp hm with hm | hm
   ·exact f1 z'.1 hm
   ·exact f2 z'.2 hm
theorem RepK.reads (I:Inv X pins σ H s):∀ {kvs:List (Key×V)} {ds:List (PyData×PyData)} {vs:List (Key×Value)} {es:List DictEntry},RepK X.K O H kvs ds→KV kvs vs→Pairs (bu X.prog X.w) es vs →
  ∃ bs,ReadsAll s.heap (es.map (·.key)) (ds.map (·.1)) []∧ReadsAll s.heap (es.map (·.val)) (ds.map (·.2)) bs∧(kU ds=true→sysModules∉bs)
 | _,_,_,_,.nil,r,ek=>by
  cases r
  cases ek
  exact ⟨[],.nil,.nil,fun _=>by simp⟩
 | _,_,_,_,.cons (k:=k) (d:=d) (ds:=ds) q t,r,ek=>by
  cases r with
  | cons r1 r2=>
   cases ek with
   | cons e1 e1' e2=>
    obtain ⟨as,h1,f1⟩:=Rep.reads I q r1.2
    obtain ⟨bs,h2,h3,f2⟩:=RepK.reads I t r2 e2
    rw [← e1'] at h1
    have k1:=zk (h:=s.heap) (show dY _ _=true from e1)
    rw [← r1.1] at k1
    refine ⟨as++bs,.cons (as:=[]) (bs:=[]) k1 h2,.cons h1 h3,fun z=>?_⟩
    have z':(iV d && kU ds)=true:=z
    rw [Bool.and_eq_true] at z'
    intro hm
    rcases List.mem_append.mp hm with hm | hm
    ·exact f1 z'.1 hm
    ·exact f2 z'.2 hm
end
end
def EG (d:PyData):Bool:=d.showable && d.leavesShort 200 && decide (d.depth≤60) && decide (d.weight≤60000) && (!d.hasDict || iV d)
section
variable {X:Cx}
def uF (T:Tp) (w:W):Option (W×Tp):=match w with
 | .d x=>if EG x=true then some (.d (.str x.shown),T) else none
 | _=>none
def EK (f:FE):FE:=fun ρ T=>bnd (f ρ T) fun w T1=>uF T1 w
end
structure Df (K:Frag) (name:Str) (st:Stmt):Prop where
 ex:∃ (f:Addr) (oc:Value) (od an:Option Addr) (sl:Array (Option Value)) (kV dc pm cd ct:Value),PySem.W.nsIn K mainGlobals name=some (some (.ref f)) ∧
  K.lookup f=some ⟨oc,od,.func (PySem.W.fnOf name name (dD st) (cG st) (aE st) .none kV dc pm an cd ct),sl⟩∧PySem.W.codeIn K cd name=true∧PySem.W.keepIn K (.ref f)=true
theorem EM {K:Frag} {name:Str} {st:Stmt} {f:Addr} {oc:Value} {od an:Option Addr} {sl:Array (Option Value)} {kV dc pm cd ct:Value} (a:PySem.W.nsIn K mainGlobals name=some (some (.ref f)))
  (l:K.lookup f=some ⟨oc,od,.func (PySem.W.fnOf name name (dD st) (cG st) (aE st) .none kV dc pm an cd ct),sl⟩) (c:PySem.W.codeIn K cd name=true) (k:PySem.W.keepIn K (.ref f)=true):Df K name st:=⟨f,oc,od,an,sl,kV,dc,pm,cd,ct,a,l,c,k⟩
theorem Df.fn {P:Program} {w:World} {K:Frag} {mg:Str→Option Value} {base h:Heap} {name:Str} {st:Stmt} {ps:List Str} {k:Nat} {sp:Sp} (d:Df K name st) (X:K.In h) (G:h.Ns mainGlobals mg)
  (hb:∀ (kV doc pm:Value) (an:Option Addr) (cdv ct:Value) (us:List Value),us.length=ps.length→bindArgs (PySem.W.fnOf name name (dD st) (cG st) (aE st) .none kV doc pm an cdv ct) ⟨us,[]⟩=pure (ps.zip us))
  (ok:∀ f fd,Fun K name name st f fd→FnOk P w K mg base CX0 k f fd ps sp):Fn P w K mg base name ps k sp:=by
 obtain ⟨f,oc,od,an,sl,kV,dc,pm,cd,ct,a,l,c,kp⟩:=d.ex
 have F:=kY (st:=st) l c kp
 exact ⟨f,_,ok f _ F,F.binds hb,kp,PySem.W.mg_of X G a⟩
theorem cF {P:Program} {w:World} {K:Frag} {mg:Str→Option Value} {base:Heap} {k n:Nat} {f:Addr} {fd:FuncData} {ps:List Str}:FnOk P w K mg base CX0 k f fd ps (spM K n fun _ _=>none):=by
 have no:∀ vs H Q E,¬ spM K n (fun _ _=>none) vs H Q E:=fun vs H Q E h=>by
  obtain ⟨O,ts,T,ws,x,T',_,_,_,e,_⟩:=h
  cases e
 exact ⟨fun vs H Q E h=>absurd h (no vs H Q E),fun A outer s H args us vs Q E _ _ _ _ h=>absurd h (no vs H Q E)⟩
def lj (K:Frag):Sp:=fun vs H Q _=>∃ (a:Addr) (ns:List Int),vs=[.ref a]∧SqL K H a (ns.map V.int)∧ns.length≤63∧∀ H',Q (.bl true) H'
def cy (ns:List Int):PyData:=.list (ns.map .int)
theorem p0 {K:Frag} {O:Addr→Prop} {H:Hp}:∀ ns:List Int,Reps K O H (ns.map V.int) (ns.map PyData.int)
 | []=>.nil
 | _::r=>.cons (.int _) (p0 r)
section
variable {α β:Type} {ρ:Rho} {T:Tp} {f g:FE} {c c':FT} {s s':FS} {a:FA} {w w':W} {x y:PyData}
@[simp] theorem IZ {b:α} {k:α→Tp→Option β}:bnd (some (b,T)) k=k b T:=rfl
@[simp] theorem HI {k:α→Tp→Option β}:bnd none k=none:=rfl
@[simp] theorem HJ {p:Prop} [Decidable p] {u v:Option (α×Tp)} {k:α→Tp→Option β}:bnd (if p then u else v) k=if p then bnd u k else bnd v k:=by split <;> rfl
@[simp] theorem lF {N:Nat} {ws:List W}:aS N s ws T=if dW ws=true then eK (s (ws.map some++List.replicate (N - ws.length) none) T) else none:=rfl
@[simp] theorem kc:dW []=true:=rfl
@[simp] theorem j9 {r:List W}:dW (.d x::r)=dW r:=rfl
@[simp] theorem zA {i:Nat} {r:List W}:dW (.tp i::r)=dW r:=rfl
@[simp] theorem Hz {r:Rho}:eK (some ((.rt x,r),T))=some (x,T):=rfl
@[simp] theorem HA {r:Rho}:eK (some ((.nx,r),T))=some (.none,T):=rfl
@[simp] theorem HB {p:Prop} [Decidable p] {u v:Option ((Fl×Rho)×Tp)}:eK (if p then u else v)=if p then eK u else eK v:=by split <;> rfl
def i6 (s':FS) (p:Fl×Rho) (T:Tp):Option ((Fl×Rho)×Tp):=match p with
 | (.nx,ρ1)=>s' ρ1 T
 | (fl,ρ1)=>some ((fl,ρ1),T)
@[simp] theorem Dj:aq s s' ρ T=bnd (s ρ T) (i6 s'):=rfl
@[simp] theorem GT {ρ1:Rho}:i6 s' (.nx,ρ1) T=s' ρ1 T:=rfl
@[simp] theorem GS {ρ1:Rho}:i6 s' (.rt x,ρ1) T=some ((.rt x,ρ1),T):=rfl
@[simp] theorem GW {ρ1:Rho}:i6 s' (.bk,ρ1) T=some ((.bk,ρ1),T):=rfl
@[simp] theorem GV {ρ1:Rho}:i6 s' (.ct,ρ1) T=some ((.ct,ρ1),T):=rfl
@[simp] theorem G8:aJ ρ T=some ((.nx,ρ),T):=rfl
def ifK (s s':FS) (ρ:Rho) (b:Bool) (T1:Tp):Option ((Fl×Rho)×Tp):=if b=true then s ρ T1 else s' ρ T1
@[simp] theorem Jk:fIf c s s' ρ T=bnd (c ρ T) (ifK s s' ρ):=rfl
@[simp] theorem IR {b:Bool}:ifK s s' ρ b T=if b=true then s ρ T else s' ρ T:=rfl
def vv (ρ:Rho):W→Tp→Option ((Fl×Rho)×Tp):=fun w T1=>match w with
 | .d x=>some ((.rt x,ρ),T1)
 | _=>none
@[simp] theorem Ig:aw f ρ T=bnd (f (bz ρ) T) (vv ρ):=rfl
@[simp] theorem G0:vv ρ (.d x) T=some ((.rt x,ρ),T):=rfl
@[simp] theorem Hw:bz []=[]:=rfl
@[simp] theorem Ht {r:Rho}:bz (none::r)=none::bz r:=rfl
@[simp] theorem Hv {r:Rho}:bz (some (.d x)::r)=some (.d x)::bz r:=rfl
@[simp] theorem Hs {i:Nat} {r:Rho}:bz (some (.tp i)::r)=some (.tp i)::bz r:=rfl
@[simp] theorem Hu {x:PyData} {r:Rho}:bz (some (.loc x)::r)=some (.d x)::bz r:=rfl
def lS (i:Nat) (ρ:Rho):W→Tp→Option ((Fl×Rho)×Tp):=fun w T1=>match w with
 | .d x=>some ((.nx,ρ.set i (some (.d x))),T1)
 | .tp k=>some ((.nx,ρ.set i (some (.tp k))),T1)
 | .loc _=>none
@[simp] theorem Di {i:Nat}:aO i f ρ T=bnd (f ρ T) (lS i ρ):=rfl
@[simp] theorem GQ {i:Nat}:lS i ρ (.d x) T=some ((.nx,ρ.set i (some (.d x))),T):=rfl
@[simp] theorem GN {i k:Nat}:lS i ρ (.tp k) T=some ((.nx,ρ.set i (some (.tp k))),T):=rfl
def uE (i:Nat) (ρ:Rho) (T:Tp):Option (List PyData)→Option ((Fl×Rho)×Tp)
 | some xs=>if xs.length≤1000 then some ((.nx,ρ.set i (some (.loc (.list xs)))),T) else none
 | none=>none
@[simp] theorem GO {i:Nat}:fB i a ρ T=bnd (a ρ T) fun ws T1=>uE i ρ T1 (dj ws):=rfl
@[simp] theorem Ga {i:Nat} {xs:List PyData}:uE i ρ T (some xs)=if xs.length≤1000 then some ((.nx,ρ.set i (some (.loc (.list xs)))),T) else none:=rfl
def vQ (i:Nat) (ρ:Rho) (x:PyData) (T:Tp) (o:Option (Option W)):Option ((Fl×Rho)×Tp):=match o with
 | some (some (.loc (.list xs)))=>if xs.length < sizeLine then some ((.nx,ρ.set i (some (.loc (.list (xs++[x]))))),T) else none
 | _=>none
def vP (i:Nat) (ρ:Rho):W→Tp→Option ((Fl×Rho)×Tp):=fun w T1=>match w with
 | .d x=>(match ρ[i]? with
  | some (some (.loc (.list xs)))=>if xs.length < sizeLine then some ((.nx,ρ.set i (some (.loc (.list (xs++[x]))))),T1) else none
  | _=>none)
 | _=>none
@[simp] theorem Jc {i:Nat}:cM i f ρ T=bnd (f ρ T) (vP i ρ):=rfl
@[simp] theorem HL {i:Nat}:vP i ρ (.d x) T=vQ i ρ x T ρ[i]?:=rfl
@[simp] theorem HM {i:Nat} {xs:List PyData}:vQ i ρ x T (some (some (.loc (.list xs))))=if xs.length < sizeLine then some ((.nx,ρ.set i (some (.loc (.list (xs++[x]))))),T) else none:=rfl
@[simp] theorem Jf {l u:FO}:fSl f l u ρ T=bnd (f ρ T) fun w T1=>bnd (l ρ T1) fun lo T2=>bnd (u ρ T2) fun hi T3=>op1 (fun x=>jw x lo hi) T3 w:=rfl
@[simp] theorem Io:cf ρ T=some (none,T):=rfl
def pK:W→Tp→Option (Option Int×Tp):=fun w T1=>match w with
 | .d (.int i)=>some (some i,T1)
 | _=>none
@[simp] theorem Jr:fP f ρ T=bnd (f ρ T) pK:=rfl
@[simp] theorem Jg {i:Int}:pK (.d (.int i)) T=some (some i,T):=rfl
@[simp] theorem Ib {z:Str} {lo hi:Option Int}:jw (.str z) lo hi=if z.length≤sizeLine then some (.str (Txt.slice z lo hi)) else none:=rfl
@[simp] theorem Ia {xs:List PyData} {lo hi:Option Int}:jw (.tuple xs) lo hi=some (.tuple (cg xs lo hi)):=rfl
@[simp] theorem Ic {xs:List PyData} {lo hi:Option Int}:jw (.list xs) lo hi=some (.list (cg xs lo hi)):=rfl
@[simp] theorem HD:dM f ρ T=bnd (f ρ T) fun _ T1=>some ((.nx,ρ),T1):=rfl
@[simp] theorem GH {o:W} {r:Rho}:aa 0 (some o::r) T=some (o,T):=rfl
@[simp] theorem ff {i:Nat} {o:Option W} {r:Rho}:aa (i + 1) (o::r) T=aa i r T:=rfl
@[simp] theorem GF {o:Option W} {r:Rho}:aa 1 (o::r) T=aa 0 r T:=ff
@[simp] theorem GE {o:Option W} {r:Rho}:aa 2 (o::r) T=aa 1 r T:=ff
@[simp] theorem GD {o:Option W} {r:Rho}:aa 3 (o::r) T=aa 2 r T:=ff
@[simp] theorem GC {o:Option W} {r:Rho}:aa 4 (o::r) T=aa 3 r T:=ff
@[simp] theorem GB {o:Option W} {r:Rho}:aa 5 (o::r) T=aa 4 r T:=ff
@[simp] theorem GA {o:Option W} {r:Rho}:aa 6 (o::r) T=aa 5 r T:=ff
@[simp] theorem Gz {o:Option W} {r:Rho}:aa 7 (o::r) T=aa 6 r T:=ff
@[simp] theorem Gy {o:Option W} {r:Rho}:aa 8 (o::r) T=aa 7 r T:=ff
@[simp] theorem Gx {o:Option W} {r:Rho}:aa 9 (o::r) T=aa 8 r T:=ff
@[simp] theorem Js:fC x ρ T=some (.d x,T):=rfl
@[simp] theorem Gw:view T (.d x)=some x:=rfl
@[simp] theorem F7 {i:Nat}:view T (.tp i)=(T[i]?).bind gq:=rfl
@[simp] theorem GX {xs:List PyData}:gq xs=if isO xs=true then none else some (.list xs):=rfl
@[simp] theorem Gv {xs r:List PyData}:isO (.list xs::r)=false:=rfl
@[simp] theorem F8 {xs:List PyData}:view T (.loc (.list xs))=some (.list xs):=rfl
@[simp] theorem ev_viewLD {xs:List (PyData×PyData)}:view T (.loc (.dict xs))=some (.dict xs):=rfl
noncomputable def mkD (T:Tp) (o:Option PyData):Option (W×Tp):=match o with
 | some d=>some (.d d,T)
 | none=>none
@[simp] theorem Iy:mkD T (some x)=some (.d x,T):=rfl
@[simp] theorem Hc:mkD T none=none:=rfl
@[simp] theorem Hd {p:Prop} [Decidable p] {u v:Option PyData}:mkD T (if p then u else v)=if p then mkD T u else mkD T v:=by split <;> rfl
def vO (o:PyData→PyData→Option PyData) (g:FE) (ρ:Rho) (w1:W) (T1:Tp):Option (W×Tp):=bnd (g ρ T1) fun w2 T2=>op2 o T2 w1 w2
@[simp] theorem Ja {o:PyData→PyData→Option PyData}:ag o f g ρ T=bnd (f ρ T) (vO o g ρ):=rfl
@[simp] theorem HK {o:PyData→PyData→Option PyData}:vO o g ρ w T=bnd (g ρ T) fun w2 T2=>op2 o T2 w w2:=rfl
@[simp] theorem Il {o:PyData→PyData→Option PyData}:op2 o T (.d x) (.d y)=mkD T (o x y):=rfl
@[simp] theorem G4 {o:PyData→PyData→Option PyData} {zs xs:List PyData} {r:Tp}:op2 o ((.list zs::xs)::r) (.tp 0) (.d y)=mkD ((.list zs::xs)::r) (o (.list (.list zs::xs)) y):=rfl
@[simp] theorem Je {o:PyData→Option PyData}:fUn o f ρ T=bnd (f ρ T) fun w1 T1=>op1 o T1 w1:=rfl
@[simp] theorem Im {o:PyData→Option PyData}:op1 o T (.d x)=mkD T (o x):=rfl
@[simp] theorem Jb {b:Bool}:asB (.d (.bool b))=some b:=rfl
def vn:W→Tp→Option (Bool×Tp):=fun w T1=>match asB w with
 | some b=>some (b,T1)
 | none=>none
@[simp] theorem HW:aB f ρ T=bnd (f ρ T) vn:=rfl
@[simp] theorem GI {b:Bool}:vn (.d (.bool b)) T=some (b,T):=rfl
@[simp] theorem HX:bg f ρ T=bnd (f ρ T) fun w T1=>lO T1 w:=rfl
def vp (T:Tp) (o:Option Bool):Option (Bool×Tp):=match o with
 | some b=>some (b,T)
 | none=>none
@[simp] theorem GL:lO T (.d x)=vp T (lN x):=rfl
@[simp] theorem GJ {b:Bool}:vp T (some b)=some (b,T):=rfl
@[simp] theorem GK {b:Bool}:lN (.bool b)=some b:=rfl
def vf (c':FT) (ρ:Rho) (b:Bool) (T1:Tp):Option (Bool×Tp):=if b=true then c' ρ T1 else some (false,T1)
@[simp] theorem HP:fD c c' ρ T=bnd (c ρ T) (vf c' ρ):=rfl
@[simp] theorem Gs {b:Bool}:vf c' ρ b T=if b=true then c' ρ T else some (false,T):=rfl
def vB (c':FT) (ρ:Rho) (b:Bool) (T1:Tp):Option (Bool×Tp):=if b=true then some (true,T1) else c' ρ T1
@[simp] theorem Ij:bD c c' ρ T=bnd (c ρ T) (vB c' ρ):=rfl
@[simp] theorem G3 {b:Bool}:vB c' ρ b T=if b=true then some (true,T) else c' ρ T:=rfl
@[simp] theorem G6:cV c ρ T=bnd (c ρ T) fun b T1=>some (!b,T1):=rfl
@[simp] theorem F9:bv ρ T=some (true,T):=rfl
def vR (g:FE) (ρ:Rho) (w:W) (T:Tp):Option (W×Tp):=match asB w with
 | some b=>if b=true then g ρ T else some (.d (.bool false),T)
 | none=>none
@[simp] theorem HN:bp f g ρ T=bnd (f ρ T) (vR g ρ):=rfl
@[simp] theorem HQ {b:Bool}:vR g ρ (.d (.bool b)) T=if b=true then g ρ T else some (.d (.bool false),T):=rfl
def orK (g:FE) (ρ:Rho) (w:W) (T:Tp):Option (W×Tp):=match asB w with
 | some b=>if b=true then some (.d (.bool true),T) else g ρ T
 | none=>none
@[simp] theorem Ii:lW f g ρ T=bnd (f ρ T) (orK g ρ):=rfl
@[simp] theorem Ik {b:Bool}:orK g ρ (.d (.bool b)) T=if b=true then some (.d (.bool true),T) else g ρ T:=rfl
def vG (w:W) (T:Tp):Option (W×Tp):=match asB w with
 | some b=>some (.d (.bool (!b)),T)
 | none=>none
@[simp] theorem G5:iY f ρ T=bnd (f ρ T) vG:=rfl
@[simp] theorem G7 {b:Bool}:vG (.d (.bool b)) T=some (.d (.bool (!b)),T):=rfl
def vL (f g:FE) (ρ:Rho) (b:Bool) (T1:Tp):Option (W×Tp):=if b=true then f ρ T1 else g ρ T1
@[simp] theorem IS:eV c f g ρ T=bnd (c ρ T) (vL f g ρ):=rfl
@[simp] theorem Hr {b:Bool}:vL f g ρ b T=if b=true then f ρ T else g ρ T:=rfl
def chK (o':PyData→PyData→Option PyData) (h:FE) (ρ:Rho) (w2 w:W) (T:Tp):Option (W×Tp):=match asB w with
 | some b=>if b=true then bnd (h ρ T) fun w3 T4=>op2 o' T4 w2 w3 else some (.d (.bool false),T)
 | none=>none
@[simp] theorem Gr {o o':PyData→PyData→Option PyData} {h:FE}:k8 o o' f g h ρ T=bnd (f ρ T) fun w1 T1=>bnd (g ρ T1) fun w2 T2=>bnd (op2 o T2 w1 w2) (chK o' h ρ w2):=rfl
@[simp] theorem IX {o':PyData→PyData→Option PyData} {h:FE} {b:Bool}:chK o' h ρ w (.d (.bool b)) T=if b=true then bnd (h ρ T) fun w3 T4=>op2 o' T4 w w3 else some (.d (.bool false),T):=rfl
@[simp] theorem Ip:ai ρ T=some ([],T):=rfl
def vc (a:FA) (ρ:Rho) (w:W) (T1:Tp):Option (List W×Tp):=bnd (a ρ T1) fun ws T2=>some (w::ws,T2)
@[simp] theorem HF:ae f a ρ T=bnd (f ρ T) (vc a ρ):=rfl
@[simp] theorem Gq:vc a ρ w T=bnd (a ρ T) fun ws T2=>some (w::ws,T2):=rfl
@[simp] theorem FN:views T []=some []:=rfl
def lJ (x:PyData) (o:Option (List PyData)):Option (List PyData):=match o with
 | some xs=>some (x::xs)
 | none=>none
@[simp] theorem Gp {xs:List PyData}:lJ x (some xs)=some (x::xs):=rfl
@[simp] theorem F6 {r:List W}:views T (.d x::r)=lJ x (views T r):=rfl
@[simp] theorem FM {xs:List PyData} {r:List W}:views T (.loc (.list xs)::r)=lJ (.list xs) (views T r):=rfl
@[simp] theorem F5:dj []=some []:=rfl
@[simp] theorem Gn {r:List W}:dj (.d x::r)=lJ x (dj r):=rfl
def sqK (mk:List PyData→PyData) (T:Tp):Option (List PyData)→Option (W×Tp)
 | some xs=>if xs.length≤1000 then some (.d (mk xs),T) else none
 | none=>none
@[simp] theorem GU {mk:List PyData→PyData}:aR mk a ρ T=bnd (a ρ T) fun ws T1=>sqK mk T1 (dj ws):=rfl
@[simp] theorem H8 {mk:List PyData→PyData} {xs:List PyData}:sqK mk T (some xs)=if xs.length≤1000 then some (.d (mk xs),T) else none:=rfl
def cbK (o:List PyData→Option PyData) (T:Tp) (v:Option (List PyData)):Option (W×Tp):=match v with
 | some xs=>(match o xs with
  | some d=>some (.d d,T)
  | none=>none)
 | none=>none
@[simp] theorem Jn {o:List PyData→Option PyData}:fCB o a ρ T=bnd (a ρ T) fun ws T1=>cbK o T1 (views T1 ws):=rfl
@[simp] theorem IY {o:List PyData→Option PyData} {xs:List PyData}:cbK o T (some xs)=mkD T (o xs):=rfl
@[simp] theorem HH {m:FnM}:ar m a ρ T=bnd (a ρ T) fun ws T1=>bnd (m ws T1) fun x T2=>some (.d x,T2):=rfl
@[simp] theorem HG {it:FI}:b9 it c f ρ T=bnd (it ρ T) fun ds T1=>bnd (bK c f ρ ds T1) fun ys T2=>some (.d (.list ys),T2):=rfl
def itK (T:Tp) (o:Option (List PyData)):Option (List PyData×Tp):=match o with
 | some xs=>some (xs,T)
 | none=>none
def itW:W→Tp→Option (List PyData×Tp):=fun w T1=>match w with
 | .d x=>(match gQ x with
  | some xs=>some (xs,T1)
  | none=>none)
 | _=>none
@[simp] theorem Hl:b8 f ρ T=bnd (f ρ T) itW:=rfl
@[simp] theorem IL:itW (.d x) T=itK T (gQ x):=rfl
@[simp] theorem IM {xs:List PyData}:itK T (some xs)=some (xs,T):=rfl
@[simp] theorem F0 {xs:List PyData}:gQ (.list xs)=some xs:=rfl
@[simp] theorem F4 {ds:List (PyData×PyData)}:gQ (.dict ds)=some (ds.map (·.1)):=rfl
@[simp] theorem FY {xs:List PyData}:gQ (.tuple xs)=some xs:=rfl
@[simp] theorem FZ {z:Str}:gQ (.str z)=if z.length≤sizeLine then some (signs z) else none:=rfl
def vt:W→Tp→Option (List PyData×Tp):=fun w T1=>match w with
 | .d (.int j)=>if iS j=true then some (ba 0 j.toNat,T1) else none
 | _=>none
@[simp] theorem GZ:cH f ρ T=bnd (f ρ T) vt:=rfl
@[simp] theorem GY {j:Int}:vt (.d (.int j)) T=if iS j=true then some (ba 0 j.toNat,T) else none:=rfl
@[simp] theorem IT {i:Nat} {it:FI}:cw i it s ρ T=bnd (it ρ T) fun ds T1=>forL i s ds ρ T1:=rfl
@[simp] theorem HZ {i j:Int}:dN (.int i) (.int j)=some (.int (i - j)):=rfl
@[simp] theorem Iw {i j:Int}:bC (.int i) (.int j)=if 0 < j then some (.int (i % j)) else none:=rfl
@[simp] theorem Hy {i j:Int}:EJ (.int i) (.int j)=if 0 < j∧j < 1073741824 then some (.int (i / j)) else none:=rfl
@[simp] theorem Ih {i j:Int}:hG (.int i) (.int j)=if 0≤j∧j≤1000000∧i.natAbs < 2 ^ 64 then some (.int (i ^ j.toNat)) else none:=rfl
@[simp] theorem Jh {i j:Int}:ltD (.int i) (.int j)=some (.bool (decide (i < j))):=rfl
@[simp] theorem Ji {i j:Int}:leD (.int i) (.int j)=some (.bool (decide (i≤j))):=rfl
@[simp] theorem Jl {i j:Int}:gtD (.int i) (.int j)=some (.bool (decide (j < i))):=rfl
@[simp] theorem Jm {i j:Int}:geD (.int i) (.int j)=some (.bool (decide (j≤i))):=rfl
@[simp] theorem HV {i j:Int}:aG (.int i) (.int j)=some (.int (i + j)):=rfl
@[simp] theorem HS {u v:Str}:aG (.str u) (.str v)=if u.length + v.length≤sizeLine then some (.str (u++v)) else none:=rfl
@[simp] theorem HR {u v:List PyData}:aG (.tuple u) (.tuple v)=if u.length + v.length≤sizeLine then some (.tuple (u++v)) else none:=rfl
@[simp] theorem HU {u v:List PyData}:aG (.list u) (.list v)=if u.length + v.length≤sizeLine then some (.list (u++v)) else none:=rfl
@[simp] theorem Hb {i j:Int}:bB (.int i) (.int j)=if (-(2 ^ 64) < i∧i < 2 ^ 64)∨(-(2 ^ 64) < j∧j < 2 ^ 64) then some (.int (i * j)) else none:=rfl
@[simp] theorem Ha {z:Str} {k:Int}:bB (.str z) (.int k)=if 0≤k∧k≤2000∧z.length≤1000 then some (.str (Txt.mul z k)) else none:=rfl
@[simp] theorem G9 {xs:List PyData} {k:Int}:bB (.tuple xs) (.int k)=if 2≤k∧k≤1000∧xs.isEmpty=false∧xs.length≤1000 then some (.tuple (List.replicate k.toNat xs).flatten) else none:=rfl
@[simp] theorem IV {i j:Int}:eqD (.int i) (.int j)=some (.bool (decide (i=j))):=rfl
@[simp] theorem IU {i j:Str}:eqD (.str i) (.str j)=some (.bool (decide (i=j))):=rfl
@[simp] theorem IW {i j:Bool}:eqD (.bool i) (.bool j)=some (.bool (decide (i=j))):=rfl
@[simp] theorem Iu {i j:Int}:neD (.int i) (.int j)=some (.bool (!decide (i=j))):=rfl
@[simp] theorem Ir {i j:Str}:neD (.str i) (.str j)=some (.bool (!decide (i=j))):=rfl
@[simp] theorem Iv {i j:Bool}:neD (.bool i) (.bool j)=some (.bool (!decide (i=j))):=rfl
@[simp] theorem Jj:isD x .none=some (.bool (isNone x)):=by cases x <;> rfl
@[simp] theorem Gm {i j:Bool}:iL (.bool i) (.bool j)=some (.bool (i != j)):=rfl
@[simp] theorem Iq {i:Int}:jT (.int i)=some (.int (-i)):=rfl
@[simp] theorem IP {k:Kd}:bx k x=some (.bool (bw (kd x) k)):=rfl
@[simp] theorem IK {xs:List PyData} {i:Int}:ixD (.list xs) (.int i)=atI xs i:=rfl
@[simp] theorem II {xs:List PyData} {i:Int}:ixD (.tuple xs) (.int i)=atI xs i:=rfl
@[simp] theorem IJ {z:Str} {i:Int}:ixD (.str z) (.int i)=if z.length≤sizeLine then (atI z.cps.toList i).map (fun c=>.str ⟨#[c]⟩) else none:=rfl
@[simp] theorem Hi {xs:List PyData}:bf [.list xs]=some (.int xs.length):=rfl
@[simp] theorem Hg {xs:List PyData}:bf [.tuple xs]=some (.int xs.length):=rfl
@[simp] theorem Hh {z:Str}:bf [.str z]=if z.length≤sizeLine then some (.int z.length) else none:=rfl
@[simp] theorem Jd {i:Int}:lX [.int i]=some (.int (if i < 0 then -i else i)):=rfl
@[simp] theorem IA {i j:Int}:Ez [.int i,.int j]=some (.int (if j > i then j else i)):=rfl
@[simp] theorem Iz {i j:Int}:Ex [.int i,.int j]=some (.int (if j < i then j else i)):=rfl
@[simp] theorem FR {xs:List PyData}:fi [.list xs]=some (.tuple xs):=rfl
@[simp] theorem FQ {xs:List PyData}:fi [.tuple xs]=some (.tuple xs):=rfl
@[simp] theorem Gj {xs:List PyData}:gj [.list xs]=some (.list xs):=rfl
@[simp] theorem Gi {xs:List PyData}:gj [.tuple xs]=some (.list xs):=rfl
@[simp] theorem IF {i:Int}:kd (.int i)=.int:=rfl
@[simp] theorem IH {i:Bool}:kd (.bool i)=.bl:=rfl
@[simp] theorem IC {i:Str}:kd (.str i)=.str:=rfl
@[simp] theorem IB {i:List PyData}:kd (.tuple i)=.tup:=rfl
@[simp] theorem IE {i:List PyData}:kd (.list i)=.lst:=rfl
@[simp] theorem IG {i:List (PyData×PyData)}:kd (.dict i)=.dct:=rfl
@[simp] theorem ID:kd .none=.non:=rfl
end
theorem ix1:ixN 3 1=some 1:=rfl
theorem cQ {e:FE} {ρ:Rho} {T:Tp} {g:PyData→PyData}:∀ {ds:List PyData},(∀ d∈ds,e (some (.d d)::ρ) T=some (.d (g d),T))→bK bv e ρ ds T=some (ds.map g,T)
 | [],_=>rfl
 | d::r,h=>by
  have ih:=cQ (ds:=r) fun x hx=>h x (List.mem_cons_of_mem _ hx)
  have h0:=h d List.mem_cons_self
  unfold bK
  simp [h0,ih]
theorem qx {e:FE} {ρ:Rho} {P:Tp→Prop} {Q:PyData→Prop}:∀ {ds:List PyData} {T:Tp},P T→(∀ d∈ds,∀ T,P T→∃ y T',e (some (.d d)::ρ) T=some (.d y,T')∧P T'∧Q y)→∃ ys T',bK bv e ρ ds T=some (ys,T')∧P T'∧ys.length=ds.length∧∀ y∈ys,Q y
 | [],T,p,_=>⟨[],T,rfl,p,rfl,fun y hy=>by cases hy⟩
 | d::r,T,p,h=>by
  obtain ⟨y,T1,e1,p1,q1⟩:=h d List.mem_cons_self T p
  obtain ⟨ys,T2,e2,p2,l2,q2⟩:=qx (ds:=r) p1 fun x hx=>h x (List.mem_cons_of_mem _ hx)
  refine ⟨y::ys,T2,?_,p2,by simp [l2],fun z hz=>?_⟩
  ·unfold bK
   simp [e1,e2]
  ·rcases List.mem_cons.mp hz with k | k
   ·subst k; exact q1
   ·exact q2 z k
theorem pP {α:Type} (p:α→Bool):∀ l:List α,gS (l.map fun d=>.bool (p d))=some (l.map p)
 | []=>rfl
 | d::r=>by
  show (gS (r.map fun d=>.bool (p d))).map (p d::·)=_
  rw [pP p r]
  rfl
theorem mn {α:Type} (p:α→Int):∀ l:List α,fA (l.map fun d=>.int (p d))=some (l.map p)
 | []=>rfl
 | d::r=>by
  show (fA (r.map fun d=>.int (p d))).map (p d::·)=_
  rw [mn p r]
  rfl
theorem ma {α:Type} (p:α→Str):∀ l:List α,cm (l.map fun d=>.str (p d))=some (l.map p)
 | []=>rfl
 | d::r=>by
  show (cm (r.map fun d=>.str (p d))).map (p d::·)=_
  rw [ma p r]
  rfl
@[simp] theorem Dk {α:Type} (p:α→Bool) (l:List α):gu [.list (l.map fun d=>.bool (p d))]=some (.bool (l.all p)):=by
 show (gS _).map (fun bs=>PyData.bool (bs.all id))=_
 rw [pP,Option.map_some,List.all_map]
 rfl
@[simp] theorem HY {α:Type} (p:α→Int) (l:List α):lR [.list (l.map fun d=>.int (p d))]=some (.int (l.map p).sum):=by
 show (fA _).map (fun bs=>PyData.int bs.sum)=_
 rw [mn,Option.map_some]
@[simp] theorem He {α:Type} (p:α→Int) (l:List α) (k:Int):Ey (.list (l.map fun d=>.int (p d))) (.int k)=some (.int (K1.hJ k (l.map p))):=by
 show (fA _).map (fun bs=>PyData.int (K1.hJ k bs))=_
 rw [mn,Option.map_some]
def tI (y:Str):PyData→Bool
 | .str z=>hW y z
 | _=>false
theorem rl (y:Str) (c:Nat):hW y ⟨#[c]⟩=decide (c∈y.cps.toList):=StrLaws.found_one ..
@[simp] theorem IQ {x y:Str}:inD (.str x) (.str y)=some (.bool (hW y x)):=rfl
theorem yT {x:Str} {d:PyData} (h:d∈D.signs x):∃ c,c∈x.cps.toList∧d=.str ⟨#[c]⟩:=by
 obtain ⟨c,hc,rfl⟩:=List.mem_map.mp h
 exact ⟨c,hc,rfl⟩
section
variable {X:Cx}
theorem zd:MtR X "str.startswith" (fun x vs H Q=>∃ z y:Str,x=.str z∧vs=[.str y]∧Q (.bl (Txt.startswith z y)) H):=by
 intro pins s σ H x vs v us Q I rx rv h
 obtain ⟨z,y,rfl,rfl,q⟩:=h
 obtain ⟨t,rfl⟩:=rx
 obtain ⟨u,rfl,ru⟩:=vals1 rv
 obtain ⟨t',rfl⟩:=ru
 exact call_gives PySem.F.slot_str_startswith (typeIs_str _ _ _) PySem.F.entry_str_startswith (PySem.F.args_str_startswith_2 _ _) (gives_str_startswith z y t t') ⟨.bl _,H,I,rfl,q⟩
def fX:PyData→PyData→Option PyData
 | .str z,.str y=>some (.bool (Txt.startswith z y))
 | _,_=>none
theorem my {T:Tp} {w:W} {z:Str} (h:view T w=some (.str z)):w=.d (.str z):=by
 cases w with
 | d x=>cases h; rfl
 | tp k=>
  have h':(T[k]?).bind gq=some (PyData.str z):=h
  cases hk:T[k]? with
  | none=>rw [hk] at h'; cases h'
  | some xs=>
   rw [hk] at h'
   have e2:(if isO xs=true then none else some (PyData.list xs))=some (PyData.str z):=h'
   split at e2 <;> cases e2
 | loc zs=>cases zs <;> cases h
theorem mv {o e:Expr} {fo fe:FE} {apos cpos:Pos} (ho:DE X o fo) (he:DE X e fe)
  (hbase:attributeBase o "startswith" X.env (eval o X.env)=eval o X.env:=by rfl)
  (hfew:((backTo cpos (starEach [e] X.env)).all (fun x=>!x.1) && (backToKw cpos (keywordEach [] X.env)).all (fun x=>x.1.isSome)
   && decide (([e]:List Expr).length + ([]:List Keyword).length + (if ([]:List Keyword).isEmpty then 0 else 1) < 30))=true:=by exact hZ rfl)
  (hline:(apos.endLine == cpos.line)=true:=by rfl) (hse:starEach [e] X.env=(false,eval e X.env)::starEach [] X.env:=by exact bc rfl) (hplain:(backTo cpos (starEach [] X.env)).any (·.1)=false:=by exact bE rfl) :
  DE X (.Call (.Attribute o "startswith" apos) [e] [] cpos) (ag fX fo fe):=by
 refine ⟨?_⟩
 refine aX (gh PySem.F.plainAttrs_str PySem.F.slot_str_startswith PySem.F.type_str_startswith zd ho.pe (bF he.pe cj hse) hbase hfew hline hse hplain) fun σ H Q=>?_
 rintro ⟨O,ts,ρ,T,w,T',hc,re,e,q⟩
 obtain ⟨w1,T1,e1,e⟩:=aA e
 obtain ⟨w2,T2,e2,e⟩:=aA e
 obtain ⟨x,y,d,h1,h2,h3,rfl,rfl⟩:=f6 e
 unfold fX at h3
 split at h3
 ·rename_i z y
  cases h3
  have ew:=my h1
  subst ew
  refine ⟨O,ts,ρ,T,_,T1,hc,re,e1,fun v1 H1 s1 hc1 r1=>?_⟩
  cases (show Rep X.K O H1 v1 _ from r1)
  refine ⟨rfl,O,ts,ρ,T1,w2,T',hc1,re.mono hc s1,e2,fun v2 H2 s2 hc2 r2=>?_⟩
  cases (hc2.view r2 h2).str
  exact ⟨z,_,rfl,rfl,q _ H2 (s1.trans s2) hc2 (.bl _)⟩
 ·cases h3
theorem zL:CallR X (.type "int") (fun xs H Q=>∃ x n,xs=[.str x]∧PySem.intText? x=some n∧x.length≤640∧Q (.int n) H):=by
 intro pins s σ H xs us Q I r h
 obtain ⟨x,n,rfl,hn,hl,q⟩:=h
 obtain ⟨u,rfl,ru⟩:=vals1 r
 obtain ⟨t,rfl⟩:=ru
 exact PySem.W.KIN.call_text hn hl ⟨.int n,H,I.tok _,⟨_,rfl⟩,q⟩
def intD:List PyData→Option PyData
 | [.int i]=>some (.int i)
 | [.bool b]=>some (.int (if b then 1 else 0))
 | [.str x]=>if x.length≤640 then (PySem.intText? x).map .int else none
 | _=>none
theorem ve:dm X (.type "int") intD:=⟨_,call_int1.or zL,fun O ts H T vs xs d Q hc h e q=>by
 unfold intD at e
 split at e
 ·cases e
  obtain ⟨v,rfl,g⟩:=bL h
  cases g.int
  exact .inl (.inl ⟨_,rfl,q _ H (.refl _ _) hc (.int _)⟩)
 ·cases e
  obtain ⟨v,rfl,g⟩:=bL h
  cases g.bl
  exact .inl (.inr ⟨_,rfl,q _ H (.refl _ _) hc (.int _)⟩)
 ·split at e
  ·rename_i hz
   obtain ⟨n,e1,rfl⟩:=Option.map_eq_some_iff.mp e
   obtain ⟨v,rfl,g⟩:=bL h
   cases g.str
   exact .inr ⟨_,n,rfl,e1,hz,q _ H (.refl _ _) hc (.int _)⟩
  ·cases e
 ·cases e⟩
theorem zW (xs:List Value):((List.range xs.length).filterMap fun (m:Nat)=>xs.toArray[(((xs.length:Int) - 1) + (m:Int) * (-1)).toNat]?).toArray=xs.reverse.toArray:=by
 congr 1
 refine List.ext_getElem? fun i=>?_
 have key:∀ k,k≤xs.length→((List.range k).filterMap fun (m:Nat)=>xs.toArray[(((xs.length:Int) - 1) + (m:Int) * (-1)).toNat]?)=xs.reverse.take k:=by
  intro k
  induction k with
  | zero=>intro _; simp
  | succ k ih=>
   intro hk
   rw [List.range_succ,List.filterMap_append,ih (by omega),List.take_add_one]
   congr 1
   have e:(((xs.length:Int) - 1) + (k:Int) * (-1)).toNat=xs.length - 1 - k:=by omega
   simp only [List.filterMap_cons,List.filterMap_nil,e]
   have h1:xs.length - 1 - k < xs.length:=by omega
   rw [List.getElem?_reverse (by omega)]
   simp [h1]
 rw [key xs.length (Nat.le_refl _)]
 congr 1
 rw [List.take_of_length_le (by simp)]
def Fg:PyData→Option PyData
 | .tuple xs=>some (.tuple xs.reverse)
 | _=>none
theorem Reps.rev {K:Frag} {O:Addr→Prop} {H:Hp}:∀ {vs:List V} {ds:List PyData},Reps K O H vs ds→Reps K O H vs.reverse ds.reverse
 | _,_,.nil=>.nil
 | _,_,.cons r t=>by
  rw [List.reverse_cons,List.reverse_cons]
  exact (Reps.rev t).append (.cons r .nil)
end
@[simp] theorem FU {z y:Str}:fX (.str z) (.str y)=some (.bool (Txt.startswith z y)):=rfl
@[simp] theorem Hm {x:Str}:intD [.str x]=if x.length≤640 then (PySem.intText? x).map .int else none:=rfl
@[simp] theorem Hn {i:Int}:intD [.int i]=some (.int i):=rfl
@[simp] theorem Ho {b:Bool}:intD [.bool b]=some (.int (if b then 1 else 0)):=rfl
@[simp] theorem Ie {xs:List PyData}:Fg (.tuple xs)=some (.tuple xs.reverse):=rfl
def neG (x y:PyData):Option PyData:=if SeqAt.shaped x=true∧SeqAt.shaped y=true then some (.bool (!PyData.eqv x y)) else none
section
variable {X:Cx}
theorem Vw.reads {pins:List (Addr×Obj)} {σ:L2.St} {H:Hp} {s:Shared} {O:Addr→Prop} {v:V} {d:PyData} {u:Value} (I:Inv X pins σ H s) (h:Vw X.K O H v d) (r:RelV v u):∃ as,Reads s.heap u d as:=by
 cases h with
 | rep h=>obtain ⟨as,rd,_⟩:=h.reads I r; exact ⟨as,rd⟩
 | raw h hs=>
  cases r
  obtain ⟨its,rv,pl,_⟩:=I.list (SqL.of h)
  obtain ⟨o,n,e,c,_,dd⟩:=pl
  obtain ⟨as,rd,_⟩:=hs.reads I rv
  exact ⟨_,.list e c dd (by simpa using rd)⟩
 | rawD h rk=>
  cases r
  obtain ⟨z,y,vs,kv,o,es,ep,e,ed,dd,_,ek,_⟩:=(show ObjOk X.prog X.w H s.heap _ (.dK _) from I.hok _ _ h)
  obtain ⟨bs,q1,q2,f⟩:=RepK.reads I rk kv ek
  exact ⟨_,.dict (as:=[]) (bs:=bs) e ed.1 dd q1 q2⟩
theorem CP {k:Nat} (hr:Room k X.A):OpR X (compareOp .NotEq) (fun x y H Q=>∃ O d1 d2,Vw X.K O H x d1∧Vw X.K O H y d2∧SeqAt.shaped d1=true∧SeqAt.shaped d2=true∧Q (.bl (!PyData.eqv d1 d2)) H):=by
 intro pins s σ H x y v u Q I rx ry h
 obtain ⟨O,d1,d2,h1,h2,s1,s2,q⟩:=h
 obtain ⟨as,r1⟩:=h1.reads I rx
 obtain ⟨bs,r2⟩:=h2.reads I ry
 exact SeqAt.compareNe_shaped r1 r2 s1 s2 (by have:=hr.un; omega) ⟨.bl _,H,I,rfl,q⟩
theorem Ep {k:Nat} (hr:Room k X.A):OpD X (compareOp .NotEq) neG:=⟨_,CP hr,fun O ts H T v1 v2 x y d Q hc h1 h2 e q=>by
 unfold neG at e
 split at e
 ·rename_i h
  cases e
  exact ⟨O,x,y,h1,h2,h.1,h.2,q _ H (.refl _ _) hc (.bl _)⟩
 ·cases e⟩
open Classical in
end
theorem zh (l:Addr) (items:Array Value) (n:Nat) (b:Addr) (items2:Array Value) (n2:Nat) (dd:Option Addr) (sl:Array (Option Value)) (hc0:¬(!items.isEmpty && Builtin.List.listTooLong (items.size + items2.size))=true) (hc1:items.size≤sizeLine) (hs2:items.size + items2.size≤sizeLine + 1) :
  Meets (Builtin.«list.extend» ⟨[.ref l,.ref b],[]⟩) (fun _ R s=>s.heap.get? l=some { cls:=.type "list",dict:=none,data:=.seq items n,slots:=#[] }∧s.heap.get? b=some { cls:=.type "list",dict:=dd,data:=.seq items2 n2,slots:=sl }∧R (.ok (.ret Value.none)) { s with heap:=s.heap.update l (Obj.mapSeq fun x=>x++items2),toks:=s.toks }):=
 .of_wp fun prog w A R s h=>by
  obtain ⟨hp,g,d,tk,os⟩:=s
  obtain ⟨hl,hb,h⟩:=h
  have f1:=AutoSeq1.idx_int
  have f2:=AutoSeq1.sub_tuple_tuple
  have f3:=AutoSeq1.sub_list_list
  have f4:=AutoSeq1.sub_tuple_list
  have f5:=AutoSeq1.sub_list_tuple
  have hz':(items++items2).size≤sizeLine + 1:=by rw [Array.size_append]; exact hs2
  wp_walk using (wpAny_updateSeq hl rfl (hz:=hc1) (_hz':=hz')),wpAny_loadPart' hl,wpAny_loadPart' hb
  exact ⟨_,rfl,h⟩
section
variable {X:Cx}
theorem C0:MtM X "list.extend" (fun x vs H Q=>∃ l b xs zs,x=.ref l∧vs=[.ref b]∧H l=some (.lst xs)∧SqL X.K H b zs∧xs.length + zs.length≤sizeLine∧Q .non (upd H l (.lst (xs++zs)))):=by
 intro pins s σ H x vs v us Q I rx rv h
 obtain ⟨l,b,xs,zs,rfl,rfl,hH,hB,hz,q⟩:=h
 cases rx
 obtain ⟨u,rfl,ru⟩:=rv.one
 cases ru
 obtain ⟨z,its,n,r,hl,e⟩:=I.lstM hH
 obtain ⟨its2,r2,pl,_⟩:=I.list hB
 obtain ⟨⟨cls2,dd2,data2,sl2⟩,n2,e2,c2,_,d2⟩:=pl
 simp only at c2 d2
 subst c2 d2
 have hl2:=r2.length
 have hsz:its.toArray.size + its2.toArray.size≤sizeLine:=by rw [List.size_toArray,List.size_toArray]; omega
 have hlong:¬ (!its.toArray.isEmpty && Builtin.List.listTooLong (its.toArray.size + its2.toArray.size))=true:=by
  rw [Ag hsz,Bool.and_false]
  exact Bool.false_ne_true
 refine call_meets F.slot_list_extend ⟨_,e,rfl⟩ F.entry_list_extend (F.args_list_extend_2 _ _)
  (zh l its.toArray n b its2.toArray n2 dd2 sl2 hlong (by rw [List.size_toArray]; omega) (by omega)) ⟨e,e2,?_⟩
 refine ⟨.non,_,I.lset (its':=its++its2) hH e (by simp) (r.append r2) ?_,rfl,q⟩
 rw [List.length_append]
 omega
variable {pos:Pos} {e:Expr} {fe:FE}
def dO (i:Nat) (f:FE):FS:=fun ρ T=>bnd (f ρ T) fun w T1=>match w,ρ[i]? with
 | .d (.list ys),some (some (.loc (.list xs)))=>if xs.length + ys.length≤sizeLine then some ((.nx,ρ.set i (some (.loc (.list (xs++ys))))),T1) else none
 | _,_=>none
theorem uj {i:Nat} {x:Str} {p apos:Pos} (he:DE X e fe) (hN:X.N[i]? = some x:=by rfl) (hv:Vis X.env.scope x:=by first | exact Or.inl rfl | exact Or.inr (Or.inl rfl) | exact Or.inr (Or.inr rfl)) (hd:(x == ("__debug__" : Str))=false:=by decide)
  (hcd:(x == ("__classdict__" : Str))=false:=by decide) {cpos:Pos}
  (hbase:attributeBase (.Name x p) "extend" X.env (eval (.Name x p) X.env)=eval (.Name x p) X.env:=by rfl)
  (hfew:((backTo cpos (starEach [e] X.env)).all (fun x=>!x.1) && (backToKw cpos (keywordEach [] X.env)).all (fun x=>x.1.isSome)
   && decide (([e]:List Expr).length + ([]:List Keyword).length + (if ([]:List Keyword).isEmpty then 0 else 1) < 30))=true:=by exact hZ rfl)
  (hline:(apos.endLine == cpos.line)=true:=by rfl) (hse:starEach [e] X.env=(false,eval e X.env)::starEach [] X.env:=by exact bc rfl) (hplain:(backTo cpos (starEach [] X.env)).any (·.1)=false:=by exact bE rfl)
  (hs:swapsWith (.Call (.Attribute (.Name x p) "extend" apos) [e] [] cpos) none pos.line X.env=pure false:=by rfl) :
  DS X (.Expr (.Call (.Attribute (.Name x p) "extend" apos) [e] [] cpos) pos) (dO i fe):=by
 refine ⟨?_⟩
 refine bV (jn (gh PySem.F.plainAttrs_list PySem.F.slot_list_extend PySem.F.type_list_extend C0 (pv i hN hv hd hcd) (bF he.pe cj hse) hbase hfew hline hse hplain) hs) fun D σ H=>?_
 rintro ⟨O₀,H₀,F,ts,O,ρ,T,fl,ρ',T',rs,e,q⟩
 obtain ⟨w,T1,e1,e⟩:=aA e
 split at e
 ·rename_i ys xs h1
  split at e
  ·rename_i h2
   cases e
   obtain ⟨v,k1,a,rfl,k2,k3,vs,k4,k5⟩:=rs.re i _ h1
   refine ⟨_,k1,.inl ⟨rfl,vs,SqL.of k4⟩,O,ts,ρ,T,_,_,rs.hc,rs.re,e1,fun u H1 s1 hc1 r1=>?_⟩
   have rs1:=rs.step s1 hc1
   have r1':Rep X.K O H1 u (.list ys):=r1
   cases r1' with
   | lst t r=>
    rename_i b us
    exact ⟨a,b,vs,us,rfl,rfl,s1 _ _ k3 k4,t.sq,by rw [k5.length,r.length]; exact h2,q O _ _ (rs1.put (us:=[]) h1 k1 ((k5.mono (rs.hc.le s1)).append r))⟩
  ·cases e
 ·cases e
end
def cK (B:List (Str×Int)):List (Str×PyProof.Rows.KTD.Dat):=B.map fun p=>(p.1,.flat (.int p.2))
def lY (K:Frag) (mg:Str→Option Value) (x:Str) (B:List (Str×Int)):Prop:=∃ a,mg x=some (.ref a)∧PyProof.Rows.KTD.tabLook (PyProof.Rows.KTD.datLooks fun b=>K.lookup b) (fun b=>K.lookup b) a (cK B)=true
def inT (B:List (Str×Int)):PyData→Option PyData
 | .str s=>some (.bool (B.any fun p=>decide (s=p.1)))
 | _=>none
def atT (B:List (Str×Int)):PyData→Option PyData
 | .str s=>(B.find? fun p=>decide (s=p.1)).map fun p=>.int p.2
 | _=>none
theorem pE (s:Str):∀ B:List (Str×Int),PyProof.Rows.KTD.inKeys s (cK B)=B.any fun p=>decide (s=p.1)
 | []=>rfl
 | (x,d)::B=>by
  show (decide (s=x) || PyProof.Rows.KTD.inKeys s (cK B))=_
  rw [pE s B]
  rfl
theorem qu (s:Str):∀ B:List (Str×Int),PyProof.Rows.KTD.datumAt s (cK B)=(B.find? fun p=>decide (s=p.1)).map fun p=>.flat (.int p.2)
 | []=>rfl
 | (x,d)::B=>by
  show (if decide (s=x)=true then some _ else PyProof.Rows.KTD.datumAt s (cK B))=_
  rw [qu s B,List.find?_cons]
  cases decide (s=x) <;> rfl
section
variable {X:Cx} {pos:Pos} {e:Expr} {f:FE} {x:Str} {p:Pos} {B:List (Str×Int)}
theorem qo {h:Heap} {P:Value→Prop} {s:Str}:∀ {B:List (Str×Int)} {d:Str×Int},(B.find? fun p=>decide (s=p.1))=some d→(∀ t,P (.int d.2 t))→PyProof.Rows.KTD.EachL h s P (cK B)
 | [],d,e,_=>by cases e
 | (x,i)::B,d,e,hp=>by
  rw [List.find?_cons] at e
  by_cases hx:s=x
  ·have:decide (s=x)=true:=decide_eq_true hx
   simp only [this] at e
   cases e
   exact PyProof.Rows.KTD.eachL_hit hx (PyProof.Rows.KTD.opened_int hp)
  ·have:decide (s=x)=false:=decide_eq_false hx
   simp only [this] at e
   exact PyProof.Rows.KTD.eachL_miss hx (qo e hp)
theorem CU {a:Addr} (hl:PyProof.Rows.KTD.tabLook (PyProof.Rows.KTD.datLooks fun b=>X.K.lookup b) (fun b=>X.K.lookup b) a (cK B)=true):OpR X (compareOp .In) (fun x y H Q=>∃ s,x=.str s∧y=.ref a∧Q (.bl (B.any fun p=>decide (s=p.1))) H):=by
 intro pins s σ H x y v u Q I rx ry h
 obtain ⟨z,rfl,rfl,q⟩:=h
 obtain ⟨t,rfl⟩:=rx
 cases ry
 refine PyProof.Rows.KTD.in_text (h₀:=s.heap) ⟨PySem.W.kt_text_in I.kIn hl,fun _ _ e=>e⟩ ?_
 rw [pE]
 exact ⟨.bl _,H,I.tok _,rfl,q⟩
theorem uq (ht:lY X.K X.mg x B) (hg:Gl X x) (he:DE X e f) (hd:(x == ("__debug__" : Str))=false:=by decide) (hm:behindInMarks .In (.Name x p)=false:=by first | exact nQ _ | with_unfolding_all rfl):DE X (.Compare e [.In] [.Name x p] pos) (fUn (inT B) f):=by
 obtain ⟨a,hx,hl⟩:=ht
 refine ⟨?_⟩
 refine aX (sj (CU hl) he.pe (jo (v:=.ref a) hg hx rfl hd) hm) fun σ H Q=>?_
 rintro ⟨O,ts,ρ,T,w,T',hc,re,e,q⟩
 obtain ⟨w1,T1,e1,e⟩:=aA e
 obtain ⟨x,d,h1,h3,rfl,rfl⟩:=gN e
 refine ⟨O,ts,ρ,T,w1,T',hc,re,e1,fun v1 H1 s1 hc1 r1=>?_⟩
 have vw:=hc1.view r1 h1
 unfold inT at h3
 split at h3
 ·cases h3
  cases vw.str
  exact ⟨_,rfl,rfl,q _ H1 s1 hc1 (.bl _)⟩
 ·cases h3
theorem C4 {a:Addr} (hl:PyProof.Rows.KTD.tabLook (PyProof.Rows.KTD.datLooks fun b=>X.K.lookup b) (fun b=>X.K.lookup b) a (cK B)=true):IxR X (fun x y H Q=>∃ s p,x=.ref a∧y=.str s∧(B.find? fun p=>decide (s=p.1))=some p∧Q (.int p.2) H):=by
 intro value slice pins s σ H x y v u Q I rx ry h hs
 obtain ⟨z,d,rfl,rfl,hf,q⟩:=h
 obtain ⟨t,rfl⟩:=ry
 cases rx
 have hk:PyProof.Rows.KTD.inKeys z (cK B)=true:=by
  rw [← PyProof.Rows.KTD.isSome_datumAt,qu,hf]
  rfl
 have hp:((cK B).all fun p=>PyProof.Rows.KTD.plain p.2)=true:=by
  rw [List.all_eq_true]
  intro p hp
  obtain ⟨q,_,rfl⟩:=List.mem_map.mp hp
  rfl
 exact PyProof.Rows.KTD.item_textA (h₀:=s.heap) ⟨PySem.W.kt_text_in I.kIn hl,fun _ _ e=>e⟩ hp hk (qo hf fun t=>⟨.int d.2,H,I.tok _,⟨t,rfl⟩,q⟩) hs
theorem uo (ht:lY X.K X.mg x B) (hg:Gl X x) (he:DE X e f) (hd:(x == ("__debug__" : Str))=false:=by decide) (hs:nr e:=by exact fun _ _=>rfl):DE X (.Subscript (.Name x p) e pos) (fUn (atT B) f):=by
 obtain ⟨a,hx,hl⟩:=ht
 refine ⟨?_⟩
 refine aX (lu (C4 hl) (jo (v:=.ref a) hg hx rfl hd) he.pe hs) fun σ H Q=>?_
 rintro ⟨O,ts,ρ,T,w,T',hc,re,e,q⟩
 obtain ⟨w1,T1,e1,e⟩:=aA e
 obtain ⟨x,d,h1,h3,rfl,rfl⟩:=gN e
 refine ⟨O,ts,ρ,T,w1,T',hc,re,e1,fun v1 H1 s1 hc1 r1=>?_⟩
 have vw:=hc1.view r1 h1
 unfold atT at h3
 split at h3
 ·obtain ⟨p,hp,rfl⟩:=Option.map_eq_some_iff.mp h3
  cases vw.str
  exact ⟨_,p,rfl,rfl,hp,q _ H1 s1 hc1 (.int _)⟩
 ·cases h3
end
end D
namespace L2
open PySem PySem.Spec PyProof.Rows
open K1 (jq hJ)
section
variable {prog:Program} {w:World} {A:Around} {R:Result→Shared→Prop} {it S:Addr} {fp wr:List Addr} {P:Nat→Value→Prop} {St:Nat→Heap→Prop} {ns:List Int} {kw:List (Str×Value)}
end
section
variable {X:Cx}
end
end L2
namespace D
open PySem PySem.Spec PyProof.Rows L2
section
variable {X:Cx} {pos:Pos} {e:Expr} {f:FE} {x:Str} {p:Pos}
variable {B:List (Str×Int)}
def kr:List Value→List Str→Bool
 | [],[]=>true
 | .str x _::r,y::s=>decide (x=y) && kr r s
 | _,_=>false
def iy (look:Addr→Option Obj) (a:Addr) (ss:List Str):Bool:=match look a with
 | some ⟨.type n,_,.seq its _,_⟩=>decide (n = "tuple") && kr its.toList ss
 | _=>false
def oI (K:Frag) (mg:Str→Option Value) (x:Str) (ss:List Str):Prop:=∃ a,mg x=some (.ref a)∧iy (fun b=>K.lookup b) a ss=true
theorem pU:∀ {vs:List Value} {ss:List Str},kr vs ss=true→Vals (ss.map V.str) vs
 | [],[],_=>.nil
 | .str x t::r,y::s,h=>by
  have h':(decide (x=y) && kr r s)=true:=h
  rw [Bool.and_eq_true] at h'
  exact .cons ⟨t,by rw [of_decide_eq_true h'.1]⟩ (pU h'.2)
theorem jg {K:Frag} {O:Addr→Prop} {H:Hp}:∀ ss:List Str,Reps K O H (ss.map V.str) (ss.map PyData.str)
 | []=>.nil
 | x::r=>.cons (.str x) (jg r)
theorem mN {ss:List Str} (hg:Gl X x) (ht:oI X.K X.mg x ss) (hz:ss.length≤sizeLine:=by decide) (hd:(x == ("__debug__" : Str))=false:=by decide):DE X (.Name x p) (fC (.tuple (ss.map PyData.str))):=by
 obtain ⟨a,hx,hl⟩:=ht
 refine ⟨?_⟩
 refine aX (jo (v:=.ref a) hg hx rfl hd) (gP fun O H=>?_)
 unfold iy at hl
 split at hl
 ·rename_i n dd its c sl hk
  rw [Bool.and_eq_true] at hl
  have rv:=pU hl.2
  have hn:=of_decide_eq_true hl.1
  subst hn
  refine .tup (vs:=ss.map V.str) (.inr (.inr ⟨_,its,c,hk,rfl,rfl,?_,rv⟩)) (jg ss)
  have:=rv.length
  rw [List.length_map] at this
  have e2:its.toList.length=its.size:=Array.length_toList
  omega
 ·cases hl
def lP (a:Addr) (o:Obj) (B:List (Str×Int)):Bool:=PyProof.Rows.KTD.tabLook (PyProof.Rows.KTD.datLooks fun _=>none) (fun _=>some o) a (cK B)
theorem pX {g g':Addr→Option Obj}:∀ (es:List DictEntry) (B:List (Str×Int)),PyProof.Rows.KTD.rowsLook (PyProof.Rows.KTD.datLooks g) es (cK B)=PyProof.Rows.KTD.rowsLook (PyProof.Rows.KTD.datLooks g') es (cK B)
 | [],[]=>rfl
 | [],(_,_)::_=>rfl
 | _::_,[]=>rfl
 | e::es,(x,i)::B=>by
  have ih:=pX (g:=g) (g':=g') es B
  unfold cK at ih ⊢
  rw [List.map_cons]
  unfold PyProof.Rows.KTD.rowsLook
  rw [ih]
  rfl
theorem pT {K:Frag} {a:Addr} {o:Obj} (h:K.lookup a=some o) (g:lP a o B=true):PyProof.Rows.KTD.tabLook (PyProof.Rows.KTD.datLooks fun b=>K.lookup b) (fun b=>K.lookup b) a (cK B)=true:=by
 unfold lP PyProof.Rows.KTD.tabLook at g
 unfold PyProof.Rows.KTD.tabLook
 dsimp only at g ⊢
 rw [h]
 rw [← g]
 dsimp only
 cases o.data <;> first | rfl | (dsimp only; rw [pX (g':=fun _=>none)])
def lM (o:Obj) (ss:List Str):Bool:=iy (fun _=>some o) 0 ss
theorem pS {K:Frag} {a:Addr} {o:Obj} {ss:List Str} (h:K.lookup a=some o) (g:lM o ss=true):iy (fun b=>K.lookup b) a ss=true:=by
 unfold lM iy at g
 unfold iy
 dsimp only
 rw [h]
 exact g
end
mutual
def cX:PyData→Bool
 | .tuple ds=>gf ds
 | .list _=>false
 | .dict _=>false
 | _=>true
def gf:List PyData→Bool
 | []=>true
 | d::r=>cX d && gf r
end
section
variable {K:Frag} {O:Addr→Prop} {H:Hp}
theorem TupAt.own (hm:∀ b,O b→Mut (H b)) {a:Addr} {vs:List V} (t:TupAt K (fun _=>False) H a vs):TupAt K O H a vs:=by
 rcases t with ⟨_,t⟩ | t
 ·refine .inl ⟨fun z=>?_,t⟩
  rcases hm a z with ⟨us,e⟩ | ⟨us,e⟩ | ⟨C,dx,us,e⟩ <;> rcases t with t | ⟨o,t⟩ <;> (rw [e] at t; cases t)
 ·exact .inr t
mutual
theorem Rep.own (hm:∀ b,O b→Mut (H b)):∀ {v:V} {d:PyData},Rep K (fun _=>False) H v d→cX d=true→Rep K O H v d
 | _,_,.non,_=>.non
 | _,_,.bl b,_=>.bl b
 | _,_,.int i,_=>.int i
 | _,_,.str x,_=>.str x
 | _,_,.tup t r,h=>.tup (t.own hm) (Reps.own hm r (by simpa [cX] using h))
 | _,_,.lst t r,h=>by simp [cX] at h
 | _,_,.dct n t r,h=>by simp [cX] at h
theorem Reps.own (hm:∀ b,O b→Mut (H b)):∀ {vs:List V} {ds:List PyData},Reps K (fun _=>False) H vs ds→gf ds=true→Reps K O H vs ds
 | _,_,.nil,_=>.nil
 | _,_,.cons (d:=d) (ds:=ds) r t,h=>by
  have h':(cX d && gf ds)=true:=by simpa [gf] using h
  rw [Bool.and_eq_true] at h'
  exact .cons (Rep.own hm r h'.1) (Reps.own hm t h'.2)
end
end
def jR:List W→Bool
 | []=>true
 | .tp _::_=>false
 | .loc (.dict _)::_=>false
 | _::r=>jR r
theorem oz {K:Frag} {O:Addr→Prop} {ts:List Addr} {H:Hp}:∀ {vs:List V} {ws:List W},gm K O ts H vs ws→jR ws=true→gm K (fun _=>False) [] H vs (ws.map jb)
 | _,[],.nil,_=>.nil
 | _,.d x::r,.cons h t,e=>.cons (show Rep K (fun _=>False) H _ x from Rep.mono (fun a o n e=>⟨fun z=>z,e⟩) h) (oz t e)
 | _,.tp _::_,.cons _ _,e=>by cases e
 | _,.loc x::r,.cons h t,e=>by
  have le:Le O H (fun _=>False) H:=fun a o n e=>⟨fun z=>z,e⟩
  obtain ⟨a,rfl,_,_,h3⟩:=h
  cases x with
  | list xs=>obtain ⟨vs,h1,h2⟩:=h3; exact .cons (.lst (.inl ⟨fun z=>z,.inl h1⟩) (h2.mono le)) (oz t e)
  | dict xs=>cases e
  | _=>cases h3
def iN (m:FnM) (g:FA):FE:=fun ρ T=>bnd (g ρ T) fun ws T1=>if jR ws=true then (match m (ws.map jb) [] with
 | some (x,_)=>if cX x=true then some (.d x,T1) else none
 | none=>none) else none
theorem rG {X:Cx} {name:Str} {ps:List Str} {k:Nat} {m:FnM} {e:Expr} {es:List Expr} {g:FA} {p pos:Pos} (F:Fn X.prog X.w X.K X.mg X.base name ps k (spM X.K ps.length m)) (hr:Room k X.A) (hg:Gl X name) (ha:DA X (e::es) g) (hl:eW g ps.length) (hdb:(name == ("__debug__" : Str))=false:=by decide)
  (he:starEach (e::es) X.env=(false,eval e X.env)::starEach es X.env:=by exact bc rfl) (hpl:(backTo pos (starEach es X.env)).any (·.1)=false:=by exact bE rfl):DE X (.Call (.Name name p) (e::es) [] pos) (iN m g):=by
 refine ⟨?_⟩
 refine aX (jF F hr hg ha.pe hdb he hpl) fun σ H Q=>?_
 rintro ⟨O,ts,ρ,T,w,T',hc,re,e,q⟩
 obtain ⟨ws,T1,e1,e⟩:=aA e
 split at e
 ·rename_i hn
  split at e
  ·rename_i x T2 e2
   split at e
   ·rename_i hx
    cases e
    refine ⟨O,ts,ρ,T,ws,_,hc,re,e1,fun vs H1 s1 hc1 r1=>?_⟩
    refine ⟨fun _=>False,[],[],ws.map jb,x,T2,⟨fun b hb=>(by cases hb),fun b hb=>hb.elim,List.nodup_nil,rfl,fun i a xs e1 _=>by simp at e1⟩,by rw [List.append_nil]; exact oz r1 hn,by rw [List.length_map]; exact hl _ _ _ _ e1,e2,fun v H2 s2 hc2 r2=>?_⟩
    have s2':SameX ts H1 H2:=fun b o _ q=>s2 b o (by simp) q
    have hm:∀ b,O b→Mut (H2 b):=fun b hb=>by
     exact (hc1.trk b hb).to fun u z=>s2 b _ (by simp) z
    have hc2':=hc1.step s2' fun b hb=>by
     obtain ⟨u,z⟩:=(hc1.trk b (hc1.own b hb)).ex
     rw [z]; exact s2 b _ (by simp) z
    exact q v H2 (s1.trans s2') hc2' (Rep.own hm r2 hx)
   ·cases e
  ·cases e
 ·cases e
def aM (ds:List (PyData×PyData)) (s:Str):Option PyData:=match ds with
 | []=>none
 | (.str k,d)::r=>if k=s then some d else aM r s
 | _::r=>aM r s
theorem ji {K:Frag} {O:Addr→Prop} {H:Hp} {s:Str}:∀ {kvs:List (Key×V)} {ds:List (PyData×PyData)},RepK K O H kvs ds→(aM ds s=none∧bo kvs (Sum.inr s:Key)=none)∨∃ v d,aM ds s=some d∧bo kvs (Sum.inr s:Key)=some v∧Rep K O H v d
 | _,_,.nil=>.inl ⟨rfl,rfl⟩
 | _,_,.cons (k:=.inl i) (v:=v) (d:=d) (kvs:=kvs) (ds:=ds) r t=>by
  have e:bo (((Sum.inl i:Key),v)::kvs) (Sum.inr s:Key)=bo kvs (Sum.inr s:Key):=by simp [bo,List.find?_cons]
  rw [e]
  show (aM ds s=none∧_)∨∃ v d,aM ds s=some d∧_
  exact ji (s:=s) t
 | _,_,.cons (k:=.inr k) (v:=v) (d:=d) (kvs:=kvs) (ds:=ds) r t=>by
  by_cases hk:k=s
  ·subst hk
   exact .inr ⟨v,d,by show (if k=k then some d else aM ds k)=some d; rw [if_pos rfl],by simp [bo,List.find?_cons],r⟩
  ·have e:bo (((Sum.inr k:Key),v)::kvs) (Sum.inr s:Key)=bo kvs (Sum.inr s:Key):=by simp [bo,List.find?_cons,hk]
   have e2:aM ((jU (Sum.inr k:Key),d)::ds) s=aM ds s:=by show (if k=s then some d else aM ds s)=_; rw [if_neg hk]
   rw [e,e2]
   exact ji (s:=s) t
theorem DGet.rd {H:Hp} {a:Addr} {kvs:List (Key×V)} {k:Key} (e:Rd H a (.dK kvs)):DGet H a (kV k) (bo kvs k):=.inl ⟨kvs,k,e,rfl,rfl⟩
section
variable {X:Cx} {pos:Pos} {k:Nat}
theorem om {k:Nat} {A:Around} (hr:Room k A):A.units + 1 < cLine:=by have:=hr.un; omega
end
section
variable {K:Frag} {O₀:Addr→Prop} {H₀:Hp} {F:List ((Addr→Prop)×Hp)} {ts:List Addr} {O:Addr→Prop} {H H1:Hp} {σ:L2.St} {ρ:Rho} {T T1:Tp}
end
section
variable {X:Cx} {pos:Pos}
def dh (ds:List (PyData×PyData)) (s:Str) (x:PyData):List (PyData×PyData):=match ds with
 | []=>[]
 | (.str k,d)::r=>if k=s then (.str k,x)::dh r s x else (.str k,d)::dh r s x
 | p::r=>p::dh r s x
theorem mj {K:Frag} {O:Addr→Prop} {H:Hp} {s:Str} {v:V} {x:PyData} (rx:Rep K O H v x):∀ {kvs:List (Key×V)} {ds:List (PyData×PyData)},RepK K O H kvs ds→RepK K O H (kvs.map fun kv=>if kv.1=(Sum.inr s:Key) then (kv.1,v) else kv) (dh ds s x)
 | _,_,.nil=>.nil
 | _,_,.cons (k:=.inl i) r t=>by
  rw [List.map_cons]
  rw [if_neg (by intro z; cases z)]
  exact .cons (k:=.inl i) r (mj rx t)
 | _,_,.cons (k:=.inr k) (v:=u) (d:=d) (kvs:=kvs) (ds:=ds) r t=>by
  rw [List.map_cons]
  have ih:=mj (s:=s) rx t
  show RepK K O H _ (if k=s then (.str k,x)::dh ds s x else (.str k,d)::dh ds s x)
  by_cases hk:k=s
  ·rw [if_pos hk,if_pos (by rw [hk])]
   exact .cons (k:=.inr k) rx ih
  ·rw [if_neg hk,if_neg (fun z=>hk (Sum.inr.inj z))]
   exact .cons (k:=.inr k) r ih
theorem qT {K:Frag} {O:Addr→Prop} {H:Hp}:∀ {kvs:List (Key×V)} {ds:List (PyData×PyData)},RepK K O H kvs ds→kvs.length=ds.length
 | _,_,.nil=>rfl
 | _,_,.cons _ t=>congrArg (· + 1) (qT t)
theorem yN {kvs:List (Key×V)} {k:Key} (h:(bo kvs k).isSome=true):(kvs.any fun kv=>decide (kv.1=k))=true:=by
 unfold bo at h
 rw [Option.isSome_map] at h
 rw [List.any_eq_true]
 obtain ⟨p,hp⟩:=Option.isSome_iff_exists.mp h
 exact ⟨p,List.mem_of_find?_eq_some hp,by have:=List.find?_some hp; simpa using this⟩
end
section
variable {X:Cx} {pos:Pos} {e:Expr} {f:FE} {x:Str} {p:Pos} {B:List (Str×Str)}
end
def dX (f:Str):List PyData→Option PyData
 | .tuple [.str g,y]::r=>if g=f then some y else dX f r
 | _=>none
def eQ (f:Str) (y:PyData):List PyData→List PyData
 | .tuple [.str g,z]::r=>if g=f then .tuple [.str g,y]::r else .tuple [.str g,z]::eQ f y r
 | _=>[.tuple [.str f,y]]
def gr (C:Addr):List PyData→Option (List PyData)
 | .dict [(.none,.int c)]::ps=>if c=(C:Int) then some ps else none
 | _=>none
def dU (C:Addr) (T:Tp) (n:Nat):Option (List PyData):=(T[n]?).bind (gr C)
section
variable {K:Frag} {O:Addr→Prop} {ts:List Addr} {H H':Hp} {T:Tp} {n:Nat} {a C:Addr} {ps:List PyData}
theorem By {xs:List PyData} (h:gr C xs=some ps):xs=bS C::ps:=by
 unfold gr at h
 split at h
 ·split at h
  ·rename_i hc
   cases h
   rw [hc]
   rfl
  ·cases h
 ·cases h
theorem Af (h:dU C T n=some ps):T[n]? = some (bS C::ps):=by
 unfold dU at h
 cases hT:T[n]? with
 | none=>rw [hT] at h; cases h
 | some xs=>
  rw [hT] at h
  have h':gr C xs=some ps:=h
  rw [By h']
theorem HC.obj (c:HC K O ts H T) (e:ts[n]? = some a) (h:dU C T n=some ps):∃ dx fs fd,H a=some (.ins C dx fs)∧ps=fd.map pairF∧RepF K O H fs fd:=by
 rcases c.tape n a _ e (Af h) with ⟨no,_⟩ | ⟨C',dx,fs,fd,h1,h2,h3⟩
 ·cases no
 ·injection h2 with e1 e2
  have e3:(C:Int)=(C':Int):=by
   have z:PyData.dict [(.none,.int (C:Int))]=.dict [(.none,.int (C':Int))]:=e1
   injection z with z
   injection z with z _
   injection z with _ z
   injection z
  have e4:C=C':=by exact Int.ofNat.inj e3
  subst e4
  exact ⟨dx,fs,fd,h1,e2,h3⟩
theorem RepF.look {f:Str} {fs:List (Str×V)} {fd:List (Str×PyData)} (r:RepF K O H fs fd):(dX f (fd.map pairF)=none∧fs.lookup f=none)∨∃ v y,dX f (fd.map pairF)=some y∧fs.lookup f=some v∧Rep K O H v y:=by
 induction r with
 | nil=>exact .inl ⟨rfl,rfl⟩
 | cons r _ ih=>
  rename_i g v d vs ds _
  by_cases hg:g=f
  ·subst hg
   refine .inr ⟨v,d,?_,?_,r⟩
   ·show (if g=g then some d else _)=_
    rw [if_pos rfl]
   ·rw [List.lookup_cons,beq_self_eq_true]
  ·have e1:dX f (((g,d)::ds).map pairF)=dX f (ds.map pairF):=if_neg hg
   have e2:List.lookup f ((g,v)::vs)=List.lookup f vs:=by
    rw [List.lookup_cons,show (f == g)=false from beq_false_of_ne (Ne.symm hg)]
   rw [e1,e2]
   exact ih
def gU (f:Str) (y:PyData):List (Str×PyData)→List (Str×PyData)
 | []=>[(f,y)]
 | (g,x)::r=>if g=f then (g,y)::r else (g,x)::gU f y r
theorem RepF.put {f:Str} {v:V} {y:PyData} (ry:Rep K O H v y) {fs:List (Str×V)} {fd:List (Str×PyData)} (r:RepF K O H fs fd):RepF K O H (cc f v fs) (gU f y fd):=by
 induction r with
 | nil=>exact .cons ry .nil
 | cons r t ih=>
  rename_i g v' d vs ds
  unfold cc gU
  by_cases hg:g=f
  ·rw [if_pos hg,if_pos hg]
   exact .cons ry t
  ·rw [if_neg hg,if_neg hg]
   exact .cons r ih
theorem qU {f:Str} {y:PyData}:∀ fd:List (Str×PyData),eQ f y (fd.map pairF)=(gU f y fd).map pairF
 | []=>rfl
 | (g,x)::r=>by
  have e:eQ f y (((g,x)::r).map pairF)=if g=f then .tuple [.str g,y]::r.map pairF else .tuple [.str g,x]::eQ f y (r.map pairF):=rfl
  have e':gU f y ((g,x)::r)=if g=f then (g,y)::r else (g,x)::gU f y r:=rfl
  rw [e,e',qU r]
  by_cases hg:g=f
  ·rw [if_pos hg,if_pos hg]; rfl
  ·rw [if_neg hg,if_neg hg]; rfl
end
section
variable {X:Cx} {C:Addr} {o e:Expr} {f m:Str} {pos pos' apos:Pos} {fo fe:FE}
def fK (C:Addr) (f:Str) (w:W) (T:Tp):Option (W×Tp):=match w with
 | .tp n=>(match dU C T n with
  | some ps=>(match dX f ps with
   | some y=>some (.d y,T)
   | none=>none)
  | none=>none)
 | _=>none
def d6 (C:Addr) (f:Str) (fo:FE):FE:=fun ρ T=>bnd (fo ρ T) (fK C f)
theorem fm (c:Cls X.K C) (n:NoAttr X.K C f) (ho:DE X o fo) (hb:attributeBase o f X.env (eval o X.env)=eval o X.env:=by rfl):DE X (.Attribute o f pos) (d6 C f fo):=by
 refine ⟨?_⟩
 refine aX (CL ho.pe hb) fun σ H Q=>?_
 rintro ⟨O,ts,ρ,T,w,T',hc,re,e,q⟩
 obtain ⟨w1,T1,e1,e⟩:=aA e
 refine ⟨O,ts,ρ,T,w1,T1,hc,re,e1,fun v1 H1 s1 hc1 r1=>?_⟩
 cases w1 with
 | tp k=>
  unfold fK at e
  dsimp only at e
  split at e
  ·rename_i ps h1
   split at e
   ·rename_i y h2
    cases e
    obtain ⟨a,k1,rfl⟩:=r1
    obtain ⟨dx,fs,fd,g1,g2,g3⟩:=hc1.obj k1 h1
    subst g2
    rcases g3.look (f:=f) with ⟨z,_⟩ | ⟨v,y',z1,z2,z3⟩
    ·rw [z] at h2; cases h2
    ·rw [z1] at h2
     cases h2
     exact ⟨a,C,dx,fs,v,rfl,g1,c,n,z2,q v H1 s1 hc1 z3⟩
   ·cases e
  ·cases e
 | d x=>cases e
 | loc x=>cases e
def di (C:Addr) (f:Str) (ρ:Rho) (w o:W) (T:Tp):Option ((Fl×Rho)×Tp):=match w,o with
 | .d y,.tp n=>(match dU C T n with
  | some ps=>if ps.length < 1000 then some ((.nx,ρ),T.set n (bS C::eQ f y ps)) else none
  | none=>none)
 | _,_=>none
def g5 (C:Addr) (f:Str) (fo fe:FE):FS:=fun ρ T=>bnd (fe ρ T) fun w T1=>bnd (fo ρ T1) (di C f ρ w)
theorem jB (c:Cls X.K C) (n:NoAttr X.K C f) (ho:DE X o fo) (he:DE X e fe) (hs:swapsWith e (some (.Attribute o f pos')) pos.line X.env=pure false:=by rfl):DS X (.Assign [.Attribute o f pos'] e pos) (g5 C f fo fe):=by
 refine ⟨?_⟩
 refine bV (Cz ho.pe he.pe hs) fun D σ H=>?_
 rintro ⟨O₀,H₀,F,ts,O,ρ,T,fl,ρ',T',rs,e,q⟩
 obtain ⟨w,T1,e1,e⟩:=aA e
 obtain ⟨wo,T2,e2,e⟩:=aA e
 refine ⟨O,ts,ρ,T,w,T1,rs.hc,rs.re,e1,fun v H1 s1 hc1 r1=>?_⟩
 have rs1:=rs.step s1 hc1
 refine ⟨O,ts,ρ,T1,wo,T2,hc1,rs1.re,e2,fun vo H2 s2 hc2 r2=>?_⟩
 have rs2:=rs1.step s2 hc2
 cases w with
 | tp j=>cases e
 | loc j=>cases e
 | d y=>
 cases wo with
 | d j=>cases e
 | loc j=>cases e
 | tp k=>
  unfold di at e
  dsimp only at e
  split at e
  ·rename_i ps h1
   split at e
   ·rename_i hl
    cases e
    obtain ⟨a,k1,rfl⟩:=r2
    obtain ⟨dx,fs,fd,g1,g2,g3⟩:=hc2.obj k1 h1
    have hlen:fs.length=fd.length:=by
     clear g1 g2
     induction g3 with
     | nil=>rfl
     | cons _ _ ih=>simp [ih]
    refine ⟨a,C,dx,fs,rfl,g1,c,n,by rw [hlen]; rw [g2] at hl; simpa using hl,?_⟩
    have ry:Rep X.K O H2 v y:=Rep.mono (hc1.le s2) r1
    refine q O _ _ (rs2.tapeO k1 (.inr (.inr ⟨_,_,_,rfl⟩)) fun le=>.inr ⟨C,dx,_,gU f y fd,aZ,?_,(g3.mono le).put (Rep.mono le ry)⟩)
    rw [g2,qU]
   ·cases e
  ·cases e
structure Mth (P:Program) (w:World) (K:Frag) (mg:Str→Option Value) (base:Heap) (C:Addr) (m:Str) (ps:List Str) (k:Nat) (sp:Sp):Prop where
 ex:∃ f fd,FnOk P w K mg base CX0 k f fd ps sp∧Binds K fd ps []∧Meth K C m f
def jH (C:Addr) (m:Str) (mm:FnM) (g:FA) (ρ:Rho) (w:W) (T:Tp):Option (W×Tp):=match w with
 | .tp n=>(match dU C T n with
  | some ps=>if (dX m ps).isNone=true then bnd (g ρ T) fun ws T2=>bnd (mm (.tp n::ws) T2) fun x T3=>some (.d x,T3) else none
  | none=>none)
 | _=>none
def bX (C:Addr) (m:Str) (mm:FnM) (fo:FE) (g:FA):FE:=fun ρ T=>bnd (fo ρ T) (jH C m mm g ρ)
variable {ps:List Str} {k:Nat} {mm:FnM} {g:FA} {es:List Expr} {pl:Sem Bool}
theorem q5 {lv:Nat} (hl:eW g lv) (h1:ps.length=lv + 1) {σ:L2.St} {H:Hp} {Q:VK} (h:lift X.K (bX C m mm fo g) σ H Q):n8 C m (spM X.K ps.length mm) [] E0 (lift X.K fo) (ol X.K g) σ H Q:=by
 obtain ⟨O,ts,ρ,T,w,T',hc,re,e,q⟩:=h
 obtain ⟨w1,T1,e1,e⟩:=aA e
 refine ⟨O,ts,ρ,T,w1,T1,hc,re,e1,fun v1 H1 s1 hc1 r1=>?_⟩
 cases w1 with
 | tp n=>
  unfold jH at e
  dsimp only at e
  split at e
  ·rename_i qs o1
   split at e
   ·rename_i hn
    obtain ⟨ws,T2,e2,e⟩:=aA e
    obtain ⟨x,T3,e3,e⟩:=aA e
    cases e
    obtain ⟨a,k1,rfl⟩:=r1
    obtain ⟨dx,fs,fd,g1,g2,g3⟩:=hc1.obj k1 o1
    subst g2
    have l0:fs.lookup m=none:=by
     rcases g3.look (f:=m) with ⟨_,z⟩ | ⟨v,y',z1,z2,z3⟩
     ·exact z
     ·rw [z1] at hn; cases hn
    refine ⟨a,dx,fs,rfl,g1,l0,O,ts,ρ,T1,ws,T2,hc1,re.mono hc s1,e2,fun vs H2 s2 hc2 r2=>?_⟩
    refine ⟨O,ts,T2,.tp n::ws,x,_,hc2,?_,by rw [h1,List.length_cons,hl _ _ _ _ e2],e3,fun v H3 s3 hc3 r3=>q v H3 (s1.trans (s2.trans s3)) hc3 r3⟩
    rw [List.append_nil]
    exact .cons ⟨a,k1,rfl⟩ r2
   ·cases e
  ·cases e
 | d x=>cases e
 | loc x=>cases e
theorem iH {lv:Nat} (F:Mth X.prog X.w X.K X.mg X.base C m ps k (spM X.K ps.length mm)) (c:Cls X.K C) (hr:Room k X.A) (ho:DE X o fo) (ha:DA X (e::es) g) (hl:eW g lv) (h1:ps.length=lv + 1:=by rfl)
  (he:starEach (e::es) X.env=(false,eval e X.env)::starEach es X.env:=by exact bc rfl) (hpl:(backTo pos (starEach es X.env)).any (·.1)=false:=by exact bE rfl)
  (ht:eval (.Call (.Attribute o m apos) (e::es) [] pos) X.env=(do
   let ov ← eval o X.env
   standAt apos.atName
   let (f,first) ← holding [ov] (getMethod ov m pl)
   callWith pos f first (backTo pos (starEach (e::es) X.env)) (backToKw pos (keywordEach [] X.env))):=by rfl):DE X (.Call (.Attribute o m apos) (e::es) [] pos) (bX C m mm fo g):=by
 obtain ⟨f,fd,F1,F2,F3⟩:=F.ex
 refine ⟨?_⟩
 exact aX (Bq ho.pe c F3 F1 hr F2 .nil ly ha.pe he hpl ht) fun σ H Q h=>q5 hl h1 h
theorem ir (F:Mth X.prog X.w X.K X.mg X.base C m ps k (spM X.K ps.length mm)) (c:Cls X.K C) (hr:Room k X.A) (ho:DE X o fo) (h1:ps.length=1:=by rfl)
  (ht:eval (.Call (.Attribute o m apos) [] [] pos) X.env=(do
   let ov ← eval o X.env
   standAt apos.atName
   let (f,first) ← holding [ov] (getMethod ov m pl)
   callWith pos f first (backTo pos (starEach [] X.env)) (backToKw pos (keywordEach [] X.env))):=by rfl):DE X (.Call (.Attribute o m apos) [] [] pos) (bX C m mm fo ai):=by
 obtain ⟨f,fd,F1,F2,F3⟩:=F.ex
 refine ⟨?_⟩
 exact aX (Aa ho.pe c F3 F1 hr F2 .nil ly ht) fun σ H Q h=>by
  have:=q5 (X:=X) (ps:=ps) ax h1 h
  obtain ⟨O,ts,ρ,T,w,T',hc,re,e,q⟩:=this
  refine ⟨O,ts,ρ,T,w,T',hc,re,e,fun v H1 s1 hc1 r1=>?_⟩
  obtain ⟨a,dx,fs,ea,e1,e2,O2,ts2,ρ2,T2,ws,T3,hc2,re2,e3,q2⟩:=q v H1 s1 hc1 r1
  cases e3
  exact ⟨a,dx,fs,ea,e1,e2,q2 [] H1 (.refl _ _) hc2 .nil⟩
def jK:FS:=fun _ _=>none
theorem m9 {st:Stmt}:DS X st jK:=⟨fun _ _ _ _ _ _ h=>by
 obtain ⟨O₀,H₀,F,ts,O,ρ,T,fl,ρ',T',rs,e,q⟩:=h
 cases e⟩
end
def gX (T:Tp):Option (Tp×List PyData):=match T.getLast? with
 | some xs=>some (T.dropLast,xs)
 | none=>none
theorem rf {T T1:Tp} {ys:List PyData} (h:gX T=some (T1,ys)):T=T1++[ys]:=by
 unfold gX at h
 split at h
 ·rename_i xs e
  cases h
  obtain ⟨zs,hl⟩:=List.getLast?_eq_some_iff.mp e
  rw [hl]
  simp
 ·cases h
def gM:Rho→Bool
 | []=>true
 | none::r=>gM r
 | some (.d _)::r=>gM r
 | _::_=>false
theorem ig:∀ {ρ:Rho} {j:Nat} {w:W},gM ρ=true→ρ[j]? = some (some w)→∃ x,w=.d x
 | [],_,_,_,e=>by simp at e
 | none::r,0,_,h,e=>by simp at e
 | some (.d x)::r,0,_,h,e=>by simp at e; exact ⟨x,e.symm⟩
 | some (.tp _)::_,_,_,h,_=>by cases h
 | some (.loc _)::_,_,_,h,_=>by cases h
 | none::r,j + 1,w,h,e=>ig (ρ:=r) (j:=j) h (by simpa using e)
 | some (.d x)::r,j + 1,w,h,e=>ig (ρ:=r) (j:=j) h (by simpa using e)
theorem yE {ρ:Rho} (h:gM ρ=true):oN ρ:=fun i ds e=>by
 obtain ⟨x,z⟩:=ig h e
 cases z
theorem mr:∀ {ρ:Rho},gM ρ=true→bz ρ=ρ
 | [],_=>rfl
 | none::r,h=>by
  show none::bz r=none::r
  rw [mr (ρ:=r) h]
 | some (.d x)::r,h=>by
  show some (W.d x)::bz r=some (W.d x)::r
  rw [mr (ρ:=r) h]
 | some (.tp _)::_,h=>by cases h
 | some (.loc _)::_,h=>by cases h
def jG (o:Option ((Fl×Rho)×Tp)):Option ((Fl×Rho)×Tp):=match o with
 | some ((.rt y,ρ'),T3)=>(match gX T3 with
  | some (T4,_)=>some ((.rt y,ρ'),T4)
  | none=>none)
 | _=>none
def mkK (i:Nat) (C:Addr) (m:FnM) (fr:FS) (ρ:Rho) (w:W) (T1:Tp):Option ((Fl×Rho)×Tp):=match w with
 | .d x0=>(match m [.tp T1.length,.d x0] (T1++[[bS C]]) with
  | some (.none,T2)=>jG (fr (ρ.set i (some (.tp T1.length))) T2)
  | _=>none)
 | _=>none
def g6 (i:Nat) (C:Addr) (m:FnM) (fe:FE) (fr:FS):FS:=fun ρ T=>if gM ρ=true then bnd (fe ρ T) (mkK i C m fr ρ) else none
section
variable {X:Cx} {C f:Addr} {e:Expr} {fe:FE} {fr:FS} {rest:List Stmt} {cn x:Str} {p pos pos' cpos:Pos} {ps:List Str} {k i:Nat} {m:FnM} {fd:FuncData}
theorem AB (M:Mk X.K C f) (Fi:FnOk X.prog X.w X.K X.mg X.base CX0 k f fd ps (spM X.K ps.length m)) (hb:Binds X.K fd ps []) (hr:Room (k + 1) X.A) (hg:Gl X cn) (hm:X.mg cn=some (.ref C)) (hN:X.N.Nodup) (he:DE X e fe) (hrest:DSs X rest fr)
  (h2:ps.length=2:=by rfl) (hi:X.N[i]? = some x:=by rfl) (hx:Loc X.env.scope x:=by first | exact Or.inl rfl | exact Or.inr rfl) (hdb:(cn == ("__debug__" : Str))=false:=by decide)
  (hse:starEach [e] X.env=(false,eval e X.env)::starEach [] X.env:=by exact bc rfl) (hpl:(backTo cpos (starEach [] X.env)).any (·.1)=false:=by exact bE rfl)
  (hs:swapsWith (.Call (.Name cn p) [e] [] cpos) (some (.Name x pos')) pos.line X.env=pure false:=by rfl) (hf:X.fn x=true∨X.env.scope.names.lookup x=some .local:=by first | exact .inl rfl | exact .inr rfl | assumption) :
  DSs X (.Assign [.Name x pos'] (.Call (.Name cn p) [e] [] cpos) pos::rest) (g6 i C m fe fr):=by
 refine ⟨?_⟩
 refine iB (gK (fY hN hi hx (Br M Fi hr hg hm hb .nil ly (bF he.pe cj hse) hdb hse hpl) hs hf) hrest.pe) fun D σ H=>?_
 rintro ⟨O₀,H₀,F,ts,O,ρ,T,fl,ρ',T',rs,e,q⟩
 unfold g6 at e
 split at e
 ·rename_i hp
  obtain ⟨w,T1,e1,e⟩:=aA e
  obtain ⟨c0,re0⟩:=rs.frz (yE hp)
  rw [mr hp] at re0
  refine ⟨O₀,ts,ρ,T,w,T1,c0,re0,e1,fun v1 H1 s1 hc1 r1=>?_⟩
  cases w with
  | tp j=>cases e
  | loc y=>cases e
  | d x0=>
   unfold mkK at e
   dsimp only at e
   split at e
   ·rename_i T2 em
    intro px dx hpx hdx hne
    have re1:=re0.mono c0 s1
    have nO:=hc1.fresh hpx
    have nOd:=hc1.fresh hdx
    have nt:px∉ts:=fun z=>nO (hc1.own _ z)
    have U:∀ b,b≠px→b≠dx→upd (upd H1 dx (.own px)) px (.ins C dx []) b=H1 b:=fun b n1 n2=>by rw [aK n1,aK n2]
    have le:Le O₀ H1 (fun b=>O₀ b∨b=px) (upd (upd H1 dx (.own px)) px (.ins C dx [])):=fun a o n e=>by
     have z1:a≠px:=bN e hpx
     have z2:a≠dx:=bN e hdx
     exact ⟨fun q=>q.elim n z1,by rw [U a z1 z2]; exact e⟩
    have hcN:HC X.K (fun b=>O₀ b∨b=px) (ts++[px]) (upd (upd H1 dx (.own px)) px (.ins C dx [])) (T1++[[bS C]]):=by
     refine ⟨fun b hb=>?_,fun b hb=>?_,?_,by simp [hc1.len],fun j b zs q1 q2=>?_⟩
     ·rcases List.mem_append.mp hb with z | z
      ·exact .inl (hc1.own b z)
      ·exact .inr (List.mem_singleton.mp z)
     ·by_cases z:b=px
      ·rw [z,aZ]; exact .inr (.inr ⟨_,_,_,rfl⟩)
      ·have hb':=hb.resolve_right z
       have z2:b≠dx:=fun z2=>nOd (z2 ▸ hb')
       rw [U b z z2]
       exact hc1.trk b hb'
     ·rw [List.nodup_append]
      exact ⟨hc1.nd,by simp,fun b hb c hc z=>nt (by rw [← List.mem_singleton.mp hc,← z]; exact hb)⟩
     ·by_cases hj:j < ts.length
      ·rw [List.getElem?_append_left hj] at q1
       rw [List.getElem?_append_left (by rw [← hc1.len]; exact hj)] at q2
       exact (hc1.tape j b zs q1 q2).mono (fun o h1=>by rw [U b (bN h1 hpx) (bN h1 hdx)]; exact h1) le
      ·have hj2:j=ts.length:=by
        have:=(List.getElem?_eq_some_iff.mp q1).1
        simp at this
        omega
       subst hj2
       have e1:b=px:=by simpa using q1.symm
       have e2:zs=[bS C]:=by rw [hc1.len] at q2; simpa using q2.symm
       subst e1 e2
       exact .inr ⟨C,dx,[],[],aZ,rfl,.nil⟩
    refine ⟨fun b=>O₀ b∨b=px,ts++[px],T1++[[bS C]],[.tp T1.length,.d x0],.none,T2,hcN,.cons ⟨px,by rw [← hc1.len]; simp,rfl⟩ (.cons (Rep.mono le r1) .nil),by rw [h2]; rfl,em,fun v H2 s2 hc2 r2=>?_⟩
    cases r2
    refine ⟨rfl,?_⟩
    have dxn:dx∉ts++[px]:=fun z=>by
     rcases List.mem_append.mp z with z | z
     ·exact nOd (hc1.own _ z)
     ·exact hne (List.mem_singleton.mp z)
    have le2:Le O₀ H1 (fun b=>O₀ b∨b=px) H2:=le.trans (hcN.le s2)
    generalize hE:fr (ρ.set i (some (.tp T1.length))) T2=E at e
    unfold jG at e
    split at e
    ·rename_i y ρ3 T3
     split at e
     ·rename_i T4 row hT
      have eT:=rf hT
      subst eT
      cases e
      refine ⟨fun b=>O₀ b∨b=px,H2,[],ts++[px],fun b=>O₀ b∨b=px,_,T2,_,_,_,⟨hc2,fun j u ej=>?_,fun _ h=>h,hc2.own,.refl _ _,fun j xs a ej _=>?_,fun j l xs ys v' ej _ _ _=>?_,fun f hf=>absurd hf (by simp),by simp [rs.len]⟩,hE,?_⟩
      ·by_cases z:i=j
       ·subst z
        have hl:i < ρ.length:=by
         have:=(List.getElem?_eq_some_iff.mp ej).1
         simpa using this
        rw [List.getElem?_set_self hl] at ej
        cases ej
        exact ⟨.ref px,by rw [List.getElem?_set_self (by rw [rs.len]; exact hl)],px,by rw [← hc1.len]; simp,rfl⟩
       ·rw [List.getElem?_set_ne z] at ej
        obtain ⟨y',rfl⟩:=ig hp ej
        obtain ⟨x',k1,k2⟩:=re1 j _ ej
        exact ⟨x',by rw [List.getElem?_set_ne z]; exact k1,Rep.mono le2 k2⟩
      ·exfalso
       obtain ⟨_,ej⟩:=cR (w:=.tp T1.length) (fun _ z=>by cases z) ej
       obtain ⟨_,z⟩:=ig hp ej
       cases z
      ·exfalso
       obtain ⟨_,ej⟩:=cR (w:=.tp T1.length) (fun _ z=>by cases z) ej
       obtain ⟨_,z⟩:=ig hp ej
       cases z
      ·intro v' H3 s3 hc3 r3
       have lb:Le (fun b=>O₀ b∨b=px) H3 O₀ H3:=fun a o n e=>⟨fun z=>n (.inl z),e⟩
       have lenT:ts.length=T'.length:=by have:=hc3.len; simp at this; exact this
       refine q v' H3 (fun b o n eb=>?_) ⟨rs.ots,fun b hb=>hc3.trk b (.inl hb),rs.hc.nd,lenT,fun j b zs q1 q2=>?_⟩ (Rep.mono lb r3)
       ·have eb1:=s1 b o n (rs.same b o n eb)
        have z1:b≠px:=bN eb1 hpx
        have z2:b≠dx:=bN eb1 hdx
        have nb:b∉ts++[px]:=fun z=>by
         rcases List.mem_append.mp z with z | z
         ·exact n z
         ·exact z1 (List.mem_singleton.mp z)
        exact s3 b o nb (s2 b o nb (by rw [U b z1 z2]; exact eb1))
       ·have hj:j < ts.length:=(List.getElem?_eq_some_iff.mp q1).1
        exact (hc3.tape j b zs (by rw [List.getElem?_append_left hj]; exact q1) (by rw [List.getElem?_append_left (by rw [← lenT]; exact hj)]; exact q2)).mono (fun _ h=>h) lb
     ·cases e
    ·cases e
   ·cases e
 ·cases e
end
end D
namespace L2
open PySem PySem.Spec PyProof.Rows
section
variable {X:Cx}
theorem l9:∀ (l:List (Str×Tok)),Vals ((l.map (·.1)).map V.str) (strValues l)
 | []=>.nil
 | p::r=>.cons ⟨p.2,rfl⟩ (l9 r)
theorem Al:MtR X "str.split" (fun x vs H Q=>∃ z y:Str,x=.str z∧vs=[.str y]∧(y.length == 0)=false∧z.length + 2≤sizeLine∧∀ l,H l=none→Q (.ref l) (upd H l (.lst ((Txt.split z y).map V.str)))):=by
 intro pins s σ H x vs v us Q I rx rv h
 obtain ⟨z,y,rfl,rfl,hy,hz,q⟩:=h
 obtain ⟨t,rfl⟩:=rx
 obtain ⟨u,rfl,ru⟩:=vals1 rv
 obtain ⟨t',rfl⟩:=ru
 have np:(Builtin.Str.partsBetween z (Builtin.Str.occurrences z y 0 z.length (z.length + 1)) y.length).length≤sizeLine:=by
  have o1:=StrLaws.occ_length_le z y 0 z.length (z.length + 1)
  rw [length_partsBetween]; omega
 have fin:∀ (l:List (Str×Tok)) (k:Nat),l.map (·.1)=Txt.split z y→l.length≤sizeLine→EP X pins σ Q (.ref s.heap.objs.size) { s with toks:=k,heap:=s.heap.push { cls:=.type "list",data:=.seq (strValues l).toArray } }:=fun l k e hl=>by
  have hn:((Txt.split z y).map V.str).length≤sizeLine:=by rw [← e]; simpa using hl
  refine ⟨.ref s.heap.objs.size,_,I.laid (t':=k) (fun b o w=>Heap.get?_push_of_some _ w) (Nat.le_refl _) (show ObjOk X.prog X.w _ _ _ (.lst ((Txt.split z y).map V.str)) from ⟨hn,strValues l,0,?_,Heap.get?_push_size _ rfl⟩),rfl,q _ (I.hok.fresh (Nat.le_refl _))⟩
  rw [← e]
  exact l9 l
 cases c1:(decide (z.length < y.length) || decide (Builtin.Str.strKind z < Builtin.Str.strKind y))
 ·cases c2:(Builtin.Str.occurrences z y 0 z.length (z.length + 1)).isEmpty
  ·refine call_meets PySem.F.slot_str_split (typeIs_str _ _ _) PySem.F.entry_str_split (PySem.F.args_str_split_2 _ _) (meets_str_split_sep z y t t' c1 hy c2 (by omega) np) ?_
   show wants _ _ _ { s with toks:=_,heap:=s.heap.push { cls:=.type "list",data:=.seq (strsFrom s.toks (Builtin.Str.partsBetween z (Builtin.Str.occurrences z y 0 z.length (z.length + 1)) y.length)).toArray } }
   rw [strsFrom_eq]
   have e:(numbered s.toks (Builtin.Str.partsBetween z (Builtin.Str.occurrences z y 0 z.length (z.length + 1)) y.length)).map (·.1)=Txt.split z y:=(numbered_texts s.toks (Builtin.Str.partsBetween z (Builtin.Str.occurrences z y 0 z.length (z.length + 1)) y.length)).trans ((if_neg (ne_true_of_eq_false c1)).trans (if_neg (ne_true_of_eq_false c2))).symm
   refine fin (numbered s.toks _) _ e ?_
   have e2:=congrArg List.length (numbered_texts s.toks (Builtin.Str.partsBetween z (Builtin.Str.occurrences z y 0 z.length (z.length + 1)) y.length))
   rw [List.length_map] at e2
   rw [e2]
   exact np
  ·exact call_meets PySem.F.slot_str_split (typeIs_str _ _ _) PySem.F.entry_str_split (PySem.F.args_str_split_2 _ _) (meets_str_split_not_found z y t t' c1 hy c2) (fin [(z,t)] s.toks ((if_neg (ne_true_of_eq_false c1)).trans (if_pos c2)).symm (by show 1≤sizeLine; decide))
 ·exact call_meets PySem.F.slot_str_split (typeIs_str _ _ _) PySem.F.entry_str_split (PySem.F.args_str_split_2 _ _) (meets_str_split_cannot_occur z y t t' c1) (fin [(z,t)] s.toks (if_pos c1).symm (by show 1≤sizeLine; decide))
def eqT (y:Str):Value→Bool
 | .str a _=>a == y
 | _=>false
theorem rS:∀ {xs:List V} {us:List Value} {i:Nat} {x:V},Vals xs us→xs[i]? = some x→∃ u,us[i]? = some u∧RelV x u
 | _,_,_,_,.nil,e=>by simp at e
 | _,_,0,_,.cons r _,e=>by simp at e; subst e; exact ⟨_,rfl,r⟩
 | _,_,i + 1,x,.cons _ t,e=>by
  obtain ⟨u,h1,h2⟩:=rS (i:=i) (x:=x) t (by simpa using e)
  exact ⟨u,by simpa using h1,h2⟩
theorem An:MtR X "list.index" (fun x vs H Q=>∃ (a:Addr) (ys:List Str) (y:Str) (j:Nat),x=.ref a∧vs=[.str y]∧SqL X.K H a (ys.map V.str)∧ys[j]? = some y∧(∀ m,m < j→ys[m]?≠some y)∧Q (.int j) H):=by
 intro pins s σ H x vs v us Q I rx rv h
 obtain ⟨a,ys,y,j,rfl,rfl,hq,hj,hno,q⟩:=h
 cases rx
 obtain ⟨u,rfl,ru⟩:=vals1 rv
 obtain ⟨t',rfl⟩:=ru
 obtain ⟨its,rw',pl,hz⟩:=I.list hq
 have hlen:ys.length=its.length:=by have:=rw'.length; simpa using this
 have at_:∀ m (h:m < its.length),∃ t,its[m]=.str (ys[m]'(by omega)) t:=fun m h=>by
  obtain ⟨u,k1,k2⟩:=rS rw' (i:=m) (x:=.str (ys[m]'(by omega))) (by simp)
  rw [List.getElem?_eq_getElem h] at k1
  cases k1
  exact k2
 have ht:=pl.isList.typeIs
 obtain ⟨⟨c,d,dt,sl⟩,n,eo,hc,hd,hs⟩:=pl
 dsimp only at hc hd hs
 subst hc hd hs
 have hjl:j < ys.length:=(List.getElem?_eq_some_iff.mp hj).1
 have hjy:ys[j]=y:=(List.getElem?_eq_some_iff.mp hj).2
 have hz':(j:Int) < 2 ^ 63 - 1:=by
  have h1:j < sizeLine:=Nat.lt_of_lt_of_le hjl (by simpa using hz)
  have h2:(sizeLine:Int)≤2 ^ 63 - 1:=by decide
  omega
 refine call_meets PySem.F.slot_list_index ht PySem.F.entry_list_index (PySem.F.args_list_index_2 _ _) (PySem.SeqAt.list_indexAt a its.toArray n none sl (.str y t') (eqT y) j (by simpa [← hlen] using hjl) hz' ?_ fun m hm hmj=>?_) ⟨eo,fun v hv=>?_,⟨.int j,H,I.tok _,⟨_,rfl⟩,q⟩⟩
 ·obtain ⟨t,k⟩:=at_ j (by omega)
  show eqT y its[j]=true
  rw [k,hjy]
  exact beq_self_eq_true y
 ·have hm':m < its.length:=by simpa using hm
  obtain ⟨t,k⟩:=at_ m hm'
  show eqT y its[m]=false
  rw [k]
  exact beq_false_of_ne fun z=>hno m hmj (by rw [List.getElem?_eq_getElem (by omega),z])
 ·obtain ⟨m,hm,hv'⟩:=List.getElem_of_mem (show v∈its by simpa using hv)
  obtain ⟨t,k⟩:=at_ m hm
  rw [← hv',k]
  exact PySem.SeqAt.EqAt.str_str _ t y t'
theorem xH:CallR X (.type "str") (fun xs H Q=>∃ x,xs=[.str x]∧Q (.str x) H):=by
 intro pins s σ H xs us Q I r h
 obtain ⟨x,rfl,q⟩:=h
 obtain ⟨u,rfl,t,rfl⟩:=vals1 r
 exact PySem.P.str_of_str ⟨.str x,H,I,⟨t,rfl⟩,q⟩
end
end L2
namespace D
open PySem PySem.Spec PyProof.Rows L2
section
variable {X:Cx} {pos:Pos}
def jv:PyData→PyData→Option PyData
 | .str z,.str y=>if (y.length == 0)=false∧z.length + 2≤sizeLine then some (.list ((Txt.split z y).map .str)) else none
 | _,_=>none
theorem AJ {o e:Expr} {fo fe:FE} {apos cpos:Pos} (ho:DE X o fo) (he:DE X e fe)
  (hbase:attributeBase o "split" X.env (eval o X.env)=eval o X.env:=by rfl)
  (hfew:((backTo cpos (starEach [e] X.env)).all (fun x=>!x.1) && (backToKw cpos (keywordEach [] X.env)).all (fun x=>x.1.isSome)
   && decide (([e]:List Expr).length + ([]:List Keyword).length + (if ([]:List Keyword).isEmpty then 0 else 1) < 30))=true:=by exact hZ rfl)
  (hline:(apos.endLine == cpos.line)=true:=by rfl) (hse:starEach [e] X.env=(false,eval e X.env)::starEach [] X.env:=by exact bc rfl) (hplain:(backTo cpos (starEach [] X.env)).any (·.1)=false:=by exact bE rfl) :
  DE X (.Call (.Attribute o "split" apos) [e] [] cpos) (ag jv fo fe):=by
 refine ⟨?_⟩
 refine aX (gh PySem.F.plainAttrs_str PySem.F.slot_str_split PySem.F.type_str_split Al ho.pe (bF he.pe cj hse) hbase hfew hline hse hplain) fun σ H Q=>?_
 rintro ⟨O,ts,ρ,T,w,T',hc,re,e,q⟩
 obtain ⟨w1,T1,e1,e⟩:=aA e
 obtain ⟨w2,T2,e2,e⟩:=aA e
 obtain ⟨x,y,d,h1,h2,h3,rfl,rfl⟩:=f6 e
 unfold jv at h3
 split at h3
 ·rename_i z y
  split at h3
  ·rename_i hz
   cases h3
   cases my h1
   refine ⟨O,ts,ρ,T,_,T1,hc,re,e1,fun v1 H1 s1 hc1 r1=>?_⟩
   cases (show Rep X.K O H1 v1 _ from r1)
   refine ⟨rfl,O,ts,ρ,T1,w2,T',hc1,re.mono hc s1,e2,fun v2 H2 s2 hc2 r2=>?_⟩
   cases (hc2.view r2 h2).str
   exact ⟨z,y,rfl,rfl,hz.1,hz.2,fun l hl=>q _ _ (s1.trans (s2.trans (.new hl _))) (hc2.new hl _) (hc2.newL hl (jg _))⟩
  ·cases h3
 ·cases h3
def hV (y:Str):List Str→Option Nat
 | []=>none
 | x::r=>if x=y then some 0 else (hV y r).map (· + 1)
theorem sI {y:Str}:∀ {ys:List Str} {j:Nat},hV y ys=some j→ys[j]? = some y∧∀ m,m < j→ys[m]?≠some y
 | [],_,h=>by cases h
 | x::r,j,h=>by
  unfold hV at h
  split at h
  ·rename_i hx
   cases h
   exact ⟨by simp [hx],fun m hm=>absurd hm (Nat.not_lt_zero _)⟩
  ·rename_i hx
   obtain ⟨i,h1,rfl⟩:=Option.map_eq_some_iff.mp h
   obtain ⟨k1,k2⟩:=sI h1
   refine ⟨by simpa using k1,fun m hm=>?_⟩
   cases m with
   | zero=>simpa using hx
   | succ m=>simpa using k2 m (by omega)
def oB (xs:List PyData) (w:W) (T:Tp):Option (W×Tp):=match w with
 | .d (.str y)=>(match cm xs with
  | some ys=>(match hV y ys with
   | some j=>some (.d (.int (j:Int)),T)
   | none=>none)
  | none=>none)
 | _=>none
def oF (fo fe:FE):FE:=fun ρ T=>bnd (fo ρ T) fun w T1=>match w with
 | .d (.list xs)=>bnd (fe ρ T1) (oB xs)
 | _=>none
theorem AL {o e:Expr} {fo fe:FE} {apos cpos:Pos} (ho:DE X o fo) (he:DE X e fe)
  (hbase:attributeBase o "index" X.env (eval o X.env)=eval o X.env:=by rfl)
  (hfew:((backTo cpos (starEach [e] X.env)).all (fun x=>!x.1) && (backToKw cpos (keywordEach [] X.env)).all (fun x=>x.1.isSome)
   && decide (([e]:List Expr).length + ([]:List Keyword).length + (if ([]:List Keyword).isEmpty then 0 else 1) < 30))=true:=by exact hZ rfl)
  (hline:(apos.endLine == cpos.line)=true:=by rfl) (hse:starEach [e] X.env=(false,eval e X.env)::starEach [] X.env:=by exact bc rfl) (hplain:(backTo cpos (starEach [] X.env)).any (·.1)=false:=by exact bE rfl) :
  DE X (.Call (.Attribute o "index" apos) [e] [] cpos) (oF fo fe):=by
 refine ⟨?_⟩
 refine aX (gh PySem.F.plainAttrs_list PySem.F.slot_list_index PySem.F.type_list_index An ho.pe (bF he.pe cj hse) hbase hfew hline hse hplain) fun σ H Q=>?_
 rintro ⟨O,ts,ρ,T,w,T',hc,re,e,q⟩
 obtain ⟨w1,T1,e1,e⟩:=aA e
 split at e
 ·rename_i xs
  obtain ⟨w2,T2,e2,e⟩:=aA e
  refine ⟨O,ts,ρ,T,_,T1,hc,re,e1,fun v1 H1 s1 hc1 r1=>?_⟩
  obtain ⟨a1,vs1,rfl,t1,q1⟩:=(Vw.rep (show Rep X.K O H1 v1 (.list xs) from r1)).lst
  refine ⟨.inl ⟨rfl,vs1,t1⟩,O,ts,ρ,T1,w2,T2,hc1,re.mono hc s1,e2,fun v2 H2 s2 hc2 r2=>?_⟩
  have r1':=Rep.mono (hc1.le s2) r1
  obtain ⟨a2,vs2,ea,t2,q2⟩:=(Vw.rep (show Rep X.K O H2 (.ref a1) (.list xs) from r1')).lst
  cases ea
  unfold oB at e
  split at e
  ·rename_i y
   split at e
   ·rename_i ss hs
    split at e
    ·rename_i j h1
     cases e
     obtain ⟨k1,k2⟩:=sI h1
     rw [iA q2 hs] at t2
     cases (show Rep X.K O H2 v2 _ from r2)
     exact ⟨a1,ss,_,j,rfl,rfl,t2,k1,k2,q _ H2 (s1.trans s2) hc2 (.int _)⟩
    ·cases e
   ·cases e
  ·cases e
 ·cases e
def g9:List PyData→Option PyData
 | [.int i]=>if i.natAbs.log2 < 1920 then some (.str (toString i)) else none
 | [.str x]=>some (.str x)
 | _=>none
theorem uu:dm X (.type "str") g9:=⟨_,call_str_int.or xH,fun O ts H T vs xs d Q hc h e q=>by
 unfold g9 at e
 split at e
 ·split at e
  ·rename_i hz
   cases e
   obtain ⟨v,rfl,g⟩:=bL h
   cases g.int
   exact .inl ⟨_,rfl,hz,q _ H (.refl _ _) hc (.str _)⟩
  ·cases e
 ·cases e
  obtain ⟨v,rfl,g⟩:=bL h
  cases g.str
  exact .inr ⟨_,rfl,q _ H (.refl _ _) hc (.str _)⟩
 ·cases e⟩
def jE (i:Nat) (ρ:Rho) (x y:Option PyData) (T:Tp):Option ((Fl×Rho)×Tp):=match x,y with
 | some (.list xs),some (.list ys)=>if xs.length + ys.length≤sizeLine then some ((.nx,ρ.set i (some (.loc (.list (xs++ys))))),T) else none
 | _,_=>none
def cU (i:Nat) (fa fb:FE):FS:=fun ρ T=>bnd (fa ρ T) fun w1 T1=>bnd (fb ρ T1) fun w2 T2=>jE i ρ (view T2 w1) (view T2 w2) T2
theorem m8 {i:Nat} {x:Str} {a b:Expr} {fa fb:FE} {pos' bpos:Pos} (hN:X.N.Nodup) (ha:DE X a fa) (hb:DE X b fb) (hi:X.N[i]? = some x:=by rfl) (hx:Loc X.env.scope x:=by first | exact Or.inl rfl | exact Or.inr rfl) (hs:swapsWith (.BinOp a .Add b bpos) (some (.Name x pos')) pos.line X.env=pure false:=by rfl)
  (hf:X.fn x=true∨X.env.scope.names.lookup x=some .local:=by first | exact .inl rfl | exact .inr rfl | assumption):DS X (.Assign [.Name x pos'] (.BinOp a .Add b bpos) pos) (cU i fa fb):=by
 refine ⟨?_⟩
 refine bV (fY hN hi hx (uI sk ha.pe hb.pe) hs hf) fun D σ H=>?_
 rintro ⟨O₀,H₀,F,ts,O,ρ,T,fl,ρ',T',rs,e,q⟩
 obtain ⟨w1,T1,e1,e⟩:=aA e
 obtain ⟨w2,T2,e2,e⟩:=aA e
 refine ⟨O,ts,ρ,T,w1,T1,rs.hc,rs.re,e1,fun v1 H1 s1 hc1 r1=>?_⟩
 have rs1:=rs.step s1 hc1
 refine ⟨O,ts,ρ,T1,w2,T2,hc1,rs1.re,e2,fun v2 H2 s2 hc2 r2=>?_⟩
 have rs2:=rs1.step s2 hc2
 unfold jE at e
 split at e
 ·rename_i xs ys h1 h2
  split at e
  ·rename_i hz
   cases e
   obtain ⟨a1,vs,rfl,t1,q1⟩:=(hc2.view (r1.mono hc1 s2) h1).lst
   obtain ⟨b1,us,rfl,t2,q2⟩:=(hc2.view r2 h2).lst
   exact ⟨a1,b1,vs,us,rfl,rfl,t1,t2,by rw [q1.length,q2.length]; exact hz,fun p hp=>q _ _ _ (rs2.own hp (q1.append q2))⟩
  ·cases e
 ·cases e
structure Ini (P:Program) (w:World) (K:Frag) (mg:Str→Option Value) (base:Heap) (C:Addr) (ps:List Str) (k:Nat) (sp:Sp):Prop where
 ex:∃ f fd,FnOk P w K mg base CX0 k f fd ps sp∧L2.Binds K fd ps []∧Mk K C f
def oG (K:Frag) (C:Addr):Bool:=PySem.W.plainGet K C Str.empty && PySem.W.hasDictIn K C && PySem.W.plainOver K C && (match PySem.W.findIn K (.ref C) "__setattr__" with
 | some (some (.builtin s))=>s == "object.__setattr__"
 | _=>false)
theorem BV {K:Frag} {C:Addr} (h:oG K C=true):Cls K C:=by
 unfold oG at h
 rw [Bool.and_eq_true,Bool.and_eq_true,Bool.and_eq_true] at h
 obtain ⟨⟨⟨h1,h2⟩,h3⟩,h4⟩:=h
 refine ⟨h1,h2,h3,?_⟩
 split at h4
 ·rename_i s e
  rw [e,beq_iff_eq.mp h4]
 ·cases h4
def noB (K:Frag) (C:Addr) (f:Str):Bool:=match PySem.W.findIn K (.ref C) f with
 | some none=>true
 | _=>false
theorem nR {K:Frag} {C:Addr} {f:Str} (h:noB K C f=true):NoAttr K C f:=by
 unfold noB at h
 split at h
 ·rename_i e
  exact e
 ·cases h
def mkB (K:Frag) (C:Addr):Bool:=PySem.W.makesIn K C && PySem.W.keepIn K (.ref C)
structure DfM (K:Frag) (C:Addr) (name qual:Str) (st:Stmt):Prop where
 ex:∃ (f:Addr) (oc:Value) (od an:Option Addr) (sl:Array (Option Value)) (kV dc pm cd ct:Value),PySem.W.findIn K (.ref C) name=some (some (.ref f)) ∧
  K.lookup f=some ⟨oc,od,.func (PySem.W.fnOf name qual (dD st) (cG st) (aE st) .none kV dc pm an cd ct),sl⟩∧PySem.W.codeIn K cd qual=true∧PySem.W.keepIn K (.ref f)=true∧PySem.W.isFn K (.ref f)=true
theorem Dt {K:Frag} {C:Addr} {name qual:Str} {st:Stmt} {f:Addr} {oc:Value} {od an:Option Addr} {sl:Array (Option Value)} {kV dc pm cd ct:Value} (a:PySem.W.findIn K (.ref C) name=some (some (.ref f)))
  (l:K.lookup f=some ⟨oc,od,.func (PySem.W.fnOf name qual (dD st) (cG st) (aE st) .none kV dc pm an cd ct),sl⟩) (c:PySem.W.codeIn K cd qual=true) (k:PySem.W.keepIn K (.ref f)=true) (n:PySem.W.isFn K (.ref f)=true):DfM K C name qual st:=⟨f,oc,od,an,sl,kV,dc,pm,cd,ct,a,l,c,k,n⟩
theorem DfM.mth {P:Program} {w:World} {K:Frag} {mg:Str→Option Value} {base:Heap} {C:Addr} {name qual:Str} {st:Stmt} {ps:List Str} {k:Nat} {sp:Sp} (d:DfM K C name qual st)
  (hb:∀ (kV doc pm:Value) (an:Option Addr) (cdv ct:Value) (us:List Value),us.length=ps.length→bindArgs (PySem.W.fnOf name qual (dD st) (cG st) (aE st) .none kV doc pm an cdv ct) ⟨us,[]⟩=pure (ps.zip us))
  (ok:∀ f fd,Fun K name qual st f fd→FnOk P w K mg base CX0 k f fd ps sp):Mth P w K mg base C name ps k sp:=by
 obtain ⟨f,oc,od,an,sl,kV,dc,pm,cd,ct,a,l,c,kp,fn⟩:=d.ex
 have F:=kY (st:=st) l c kp
 exact ⟨f,_,ok f _ F,F.binds hb,⟨a,fn,kp⟩⟩
theorem DfM.ini {P:Program} {w:World} {K:Frag} {mg:Str→Option Value} {base:Heap} {C:Addr} {qual:Str} {st:Stmt} {ps:List Str} {k:Nat} {sp:Sp} (d:DfM K C "__init__" qual st) (m:mkB K C=true)
  (hb:∀ (kV doc pm:Value) (an:Option Addr) (cdv ct:Value) (us:List Value),us.length=ps.length→bindArgs (PySem.W.fnOf "__init__" qual (dD st) (cG st) (aE st) .none kV doc pm an cdv ct) ⟨us,[]⟩=pure (ps.zip us))
  (ok:∀ f fd,Fun K "__init__" qual st f fd→FnOk P w K mg base CX0 k f fd ps sp):Ini P w K mg base C ps k sp:=by
 obtain ⟨f,oc,od,an,sl,kV,dc,pm,cd,ct,a,l,c,kp,fn⟩:=d.ex
 have F:=kY (st:=st) l c kp
 unfold mkB at m
 rw [Bool.and_eq_true] at m
 exact ⟨f,_,ok f _ F,F.binds hb,⟨m.1,a,fn,m.2⟩⟩
theorem Do {C:Addr} {e:Expr} {fe:FE} {fr:FS} {rest:List Stmt} {cn x:Str} {p pos' cpos:Pos} {ps:List Str} {k i:Nat} {m:FnM} (G:Ini X.prog X.w X.K X.mg X.base C ps k (spM X.K ps.length m)) (hr:Room (k + 1) X.A) (hg:Gl X cn) (hm:X.mg cn=some (.ref C)) (hN:X.N.Nodup) (he:DE X e fe) (hrest:DSs X rest fr)
  (h2:ps.length=2:=by rfl) (hi:X.N[i]? = some x:=by rfl) (hx:Loc X.env.scope x:=by first | exact Or.inl rfl | exact Or.inr rfl) (hdb:(cn == ("__debug__" : Str))=false:=by decide)
  (hse:starEach [e] X.env=(false,eval e X.env)::starEach [] X.env:=by exact bc rfl) (hpl:(backTo cpos (starEach [] X.env)).any (·.1)=false:=by exact bE rfl)
  (hs:swapsWith (.Call (.Name cn p) [e] [] cpos) (some (.Name x pos')) pos.line X.env=pure false:=by rfl) (hf:X.fn x=true∨X.env.scope.names.lookup x=some .local:=by first | exact .inl rfl | exact .inr rfl | assumption) :
  DSs X (.Assign [.Name x pos'] (.Call (.Name cn p) [e] [] cpos) pos::rest) (g6 i C m fe fr):=by
 obtain ⟨f,fd,F1,F2,M⟩:=G.ex
 exact AB M F1 F2 hr hg hm hN he hrest h2 hi hx hdb hse hpl hs hf
theorem pQ {P:Program} {w:World}:∀ {kvs:List (Key×V)} {vs:List (Key×Value)} {us:List Value},KV kvs vs→us.length=vs.length→(∀ (j:Nat) (v:Value),us[j]? = some v→∃ k x,vs[j]? = some (k,x)∧(bu P w).is k v=true)→Vals (kvs.map fun p=>kV p.1) us
 | [],[],[],_,_,_=>.nil
 | _::_,[],_,r,_,_=>by cases r
 | [],_::_,_,r,_,_=>by cases r
 | _,[],_::_,_,h,_=>by simp at h
 | _,_::_,[],_,h,_=>by simp at h
 | (k,v)::kvs,(k',x)::vs,u::us,r,h,f=>by
  cases r with
  | cons r1 r2=>
   refine .cons ?_ (pQ (P:=P) (w:=w) r2 (by simpa using h) fun j v e=>?_)
   ·obtain ⟨k2,x2,e2,e3⟩:=f 0 u rfl
    cases e2
    have:k=k':=r1.1
    subst this
    exact keyV e3
   ·obtain ⟨k2,x2,e2,e3⟩:=f (j + 1) v (by simpa using e)
    exact ⟨k2,x2,by simpa using e2,e3⟩
theorem xh (hcm:X.calm=true):CallR X (.type "list") (fun xs H Q=>∃ a kvs,xs=[V.ref a]∧Rd H a (.dK kvs)∧∀ l,H l=none→Q (.ref l) (upd H l (.lst (kvs.map fun p=>kV p.1)))):=by
 intro pins s σ H xs us Q I r h
 obtain ⟨a,kvs,rfl,ha,q⟩:=h
 obtain ⟨u,rfl,ru⟩:=vals1 r
 cases ru
 obtain ⟨z,y,vs,kv,dd⟩:=eO I.hok ha
 obtain ⟨ep,dd⟩:=dd.dictAt
 have hl:=kv.length
 refine PySem.W.kdl_call (PySem.W.kdl_dict (prog:=X.prog) (w:=X.w) (knd:=bu X.prog X.w) (kvs:=vs) (ep:=ep) y) (I.ok.hd hcm) dd (by omega) fun h' tk acc c k1 k2 k3=>?_
 have hv:Vals (kvs.map fun p=>kV p.1) acc.toList:=pQ (P:=X.prog) (w:=X.w) kv (by rw [Array.length_toList]; exact k3.1) fun j v e=>k3.2 j v (by simpa using e)
 have hn:H s.heap.objs.size=none:=I.hok.fresh (Nat.le_refl _)
 exact ⟨.ref s.heap.objs.size,_,I.laid (t':=tk) (o:=.lst (kvs.map fun p=>kV p.1)) k1 (Nat.le_refl _) ⟨by simp; omega,acc.toList,c,hv,by simpa using k2⟩,rfl,q _ hn⟩
def gZ (ds:List (PyData×PyData)):List PyData:=ds.map (·.1)
theorem pZ {K:Frag} {O:Addr→Prop} {H:Hp} {O':Addr→Prop} {H':Hp}:∀ {kvs:List (Key×V)} {ds:List (PyData×PyData)},RepK K O H kvs ds→Reps K O' H' (kvs.map fun p=>kV p.1) (gZ ds)
 | _,_,.nil=>.nil
 | _,_,.cons (k:=k) _ t=>.cons (se k) (pZ t)
def fw:List PyData→Option PyData
 | [.list xs]=>some (.list xs)
 | [.tuple xs]=>some (.list xs)
 | [.dict ds]=>some (.list (gZ ds))
 | _=>none
theorem kN (hcm:X.calm=true:=by rfl):dm X (.type "list") fw:=⟨_,call_list_of.or (xh hcm),fun O ts H T vs xs d Q hc h e q=>by
 unfold fw at e
 split at e
 ·cases e
  obtain ⟨v,rfl,g⟩:=bL h
  obtain ⟨a,vs,rfl,t,r⟩:=g.lst
  exact .inl ⟨a,vs,rfl,.inl t,fun p hp=>q _ _ (.new hp _) (hc.new hp _) (hc.newL hp r)⟩
 ·cases e
  obtain ⟨v,rfl,g⟩:=bL h
  obtain ⟨a,vs,rfl,t,r⟩:=g.tup
  exact .inl ⟨a,vs,rfl,.inr t.sq,fun p hp=>q _ _ (.new hp _) (hc.new hp _) (hc.newL hp r)⟩
 ·cases e
  obtain ⟨v,rfl,g⟩:=bL h
  obtain ⟨a,kvs,rfl,t,r⟩:=g.dct
  exact .inr ⟨a,kvs,rfl,t,fun p hp=>q _ _ (.new hp _) (hc.new hp _) (hc.newL hp (pZ r))⟩
 ·cases e⟩
end
theorem tW:∀ a b:List Nat,ltCps a b=false→ltCps b a=false→a=b
 | [],[],_,_=>rfl
 | [],_::_,h,_=>by simp [ltCps] at h
 | _::_,[],_,h=>by simp [ltCps] at h
 | x::r,y::t,h,g=>by
  simp [ltCps] at h g
  have:x=y:=by omega
  subst this
  rw [tW r t (by simpa using h) (by simpa using g)]
theorem sA:∀ a b:List Nat,ltCps a b=true→ltCps b a=false
 | [],[],h=>by simp [ltCps] at h
 | [],_::_,_=>rfl
 | _::_,[],h=>by simp [ltCps] at h
 | x::r,y::t,h=>by
  simp [ltCps] at h ⊢
  rcases h with h | h
  ·omega
  ·refine ⟨by omega,fun e=>?_⟩
   exact sA r t h.2
theorem qf:∀ a b c:List Nat,ltCps b a=false→ltCps c b=false→ltCps c a=false
 | a,[],c,h,g=>by
  cases a with
  | nil=>exact g
  | cons x r=>simp [ltCps] at h
 | [],b,c,h,g=>by cases c <;> rfl
 | x::r,y::t,[],h,g=>by simp [ltCps] at g
 | x::r,y::t,z::u,h,g=>by
  simp [ltCps] at h g ⊢
  refine ⟨by omega,fun e=>?_⟩
  subst e
  by_cases q:z=y
  ·subst q
   exact qf r t u (h.2 rfl) (g.2 rfl)
  ·exfalso
   omega
def leS (a b:Str):Bool:=!ltCps b.cps.toList a.cps.toList
theorem BF (a b:Str):leS a b=true∨leS b a=true:=by
 unfold leS
 cases h:ltCps b.cps.toList a.cps.toList with
 | false=>exact .inl rfl
 | true=>
  refine .inr ?_
  cases g:ltCps a.cps.toList b.cps.toList with
  | false=>rfl
  | true=>
   exfalso
   have:=sA _ _ h
   rw [g] at this
   cases this
theorem Ap {a b:Str} (h:leS a b=true) (g:leS b a=true):a=b:=by
 unfold leS at h g
 have:=tW a.cps.toList b.cps.toList (by simpa using g) (by simpa using h)
 cases a; cases b
 simp at this
 rw [this]
theorem qi {a b c:Str} (h:leS a b=true) (g:leS b c=true):leS a c=true:=by
 unfold leS at *
 have:=qf a.cps.toList b.cps.toList c.cps.toList (by simpa using h) (by simpa using g)
 rw [this]; rfl
def hU (x:Str):List Str→List Str
 | []=>[x]
 | y::r=>if leS x y=true then x::y::r else y::hU x r
def cA:List Str→List Str
 | []=>[]
 | x::r=>hU x (cA r)
theorem mq (x:Str):∀ l:List Str,(hU x l).Perm (x::l)
 | []=>.refl _
 | y::r=>by
  unfold hU
  split
  ·exact .refl _
  ·exact ((mq x r).cons y).trans (.swap _ _ _)
theorem jf:∀ l:List Str,(cA l).Perm l
 | []=>.refl _
 | x::r=>(mq x _).trans ((jf r).cons x)
theorem oV (x:Str):∀ l:List Str,l.Pairwise (fun a b=>leS a b=true)→(hU x l).Pairwise (fun a b=>leS a b=true)
 | [],_=>by simp [hU]
 | y::r,h=>by
  obtain ⟨h1,h2⟩:=List.pairwise_cons.mp h
  unfold hU
  split
  ·rename_i hx
   refine List.pairwise_cons.mpr ⟨fun z hz=>?_,h⟩
   rcases List.mem_cons.mp hz with e | e
   ·rw [e]; exact hx
   ·exact qi hx (h1 z e)
  ·rename_i hx
   refine List.pairwise_cons.mpr ⟨fun z hz=>?_,oV x r h2⟩
   rcases List.mem_cons.mp ((mq x r).mem_iff.mp hz) with e | e
   ·rw [e]; exact (BF x y).resolve_left hx
   ·exact h1 z e
theorem oP:∀ l:List Str,(cA l).Pairwise (fun a b=>leS a b=true)
 | []=>.nil
 | x::r=>oV x _ (oP r)
theorem oQ:∀ {a b:List Str},a.Perm b→a.Pairwise (fun a b=>leS a b=true)→b.Pairwise (fun a b=>leS a b=true)→a=b
 | [],b,p,_,_=>(List.nil_perm.mp p).symm
 | x::r,[],p,_,_=>absurd (List.perm_nil.mp p) (by simp)
 | x::r,y::t,p,h,g=>by
  obtain ⟨h1,h2⟩:=List.pairwise_cons.mp h
  obtain ⟨g1,g2⟩:=List.pairwise_cons.mp g
  have e:x=y:=by
   rcases List.mem_cons.mp (p.mem_iff.mp List.mem_cons_self) with e | e
   ·exact e
   ·rcases List.mem_cons.mp (p.mem_iff.mpr List.mem_cons_self) with e' | e'
    ·exact e'.symm
    ·exact Ap (h1 y e') (g1 x e)
  subst e
  rw [oQ (List.perm_cons _ |>.mp p) h2 g2]
theorem pY:∀ (x:Str) (l:List Str),risingS x l=true→(x::l).Pairwise (fun a b=>leS a b=true)
 | x,[],_=>by simp
 | x,y::r,h=>by
  have h':leS x y=true∧risingS y r=true:=by
   unfold leS
   simpa [risingS] using h
  have ih:=pY y r h'.2
  refine List.pairwise_cons.mpr ⟨fun z hz=>?_,ih⟩
  rcases List.mem_cons.mp hz with e | e
  ·rw [e]; exact h'.1
  ·exact qi h'.1 ((List.pairwise_cons.mp ih).1 z e)
theorem yp {l:List Str} (h:sortedS l=true):l.Pairwise (fun a b=>leS a b=true):=by
 cases l with
 | nil=>exact .nil
 | cons x r=>exact pY x r h
theorem qN:∀ {ss:List Str} {us:List Value},Vals (ss.map V.str) us→StrsAre us ss
 | [],_,h=>by cases h; exact .nil
 | x::r,_,h=>by
  cases h with
  | cons h1 h2=>
   obtain ⟨t,rfl⟩:=h1
   exact .cons x t (qN h2)
theorem o7:∀ {us:List Value} {ss:List Str},StrsAre us ss→Vals (ss.map V.str) us
 | _,_,.nil=>.nil
 | _,_,.cons y t r=>.cons ⟨t,rfl⟩ (o7 r)
section
variable {X:Cx} {pos:Pos}
theorem yh:CallR X (.builtin "sorted") (fun xs H Q=>∃ p ss,xs=[V.ref p]∧SqL X.K H p (ss.map V.str)∧ss.length < 64∧∀ l,H l=none→Q (.ref l) (upd H l (.lst ((cA ss).map V.str)))):=by
 intro pins s σ H xs us Q I r h
 obtain ⟨p,ss,rfl,hq,hlen,q⟩:=h
 obtain ⟨u,rfl,ru⟩:=vals1 r
 cases ru
 obtain ⟨its,rv,pl,hz⟩:=I.list hq
 have hl:its.length=ss.length:=by have:=rv.length; simpa using this.symm
 refine sorted_strs pl.isList (qN rv) (by omega) fun out ss' h1 h2 h3=>?_
 have e:ss'=cA ss:=oQ (h2.trans (jf ss).symm) (yp h3) (oP ss)
 subst e
 obtain ⟨ep,he⟩:=sortedAll_at s.heap its out
 have k:∀ b o,s.heap.get? b=some o→(sortedAll s.heap its out).get? b=some o:=fun b o z=>sortedAll_old z
 have hn:H (s.heap.objs.size + 1)=none:=I.hok.fresh (Nat.le_succ _)
 have hlen2:(cA ss).length=ss.length:=(jf ss).length_eq
 exact ⟨.ref (s.heap.objs.size + 1),_,I.laid (t':=s.toks) (o:=.lst ((cA ss).map V.str)) k (Nat.le_succ _) ⟨by simp; exact Nat.le_of_lt (Nat.lt_of_lt_of_le (by omega:(cA ss).length < 64) (by decide)),out.toList,ep,o7 h1,by simpa [seqObj] using he⟩,rfl,q _ hn⟩
def og (o:Option (List Str)):Option PyData:=match o with
 | some ss=>if ss.length < 64 then some (.list ((cA ss).map .str)) else none
 | none=>none
def iR:List PyData→Option PyData
 | [.list xs]=>og (cm xs)
 | _=>none
theorem rN:dm X (.builtin "sorted") iR:=⟨_,yh,fun O ts H T vs xs d Q hc h e q=>by
 unfold iR at e
 split at e
 ·rename_i ys
  unfold og at e
  split at e
  ·rename_i ss hs
   split at e
   ·rename_i hl
    cases e
    obtain ⟨v,rfl,g⟩:=bL h
    obtain ⟨a,vs,rfl,t,r⟩:=g.lst
    have:=iA r hs
    subst this
    exact ⟨a,ss,rfl,t,hl,fun p hp=>q _ _ (.new hp _) (hc.new hp _) (hc.newL hp (jg _))⟩
   ·cases e
  ·cases e
 ·cases e⟩
end
theorem zv {prog:Program} {w:World} {A:Around} {E:Value→Shared→Prop} {s:Shared} {Q:Int→Shared→Prop} (h:Q (PySem.reduceHash 4238894112) { s with toks:=s.toks + 1 }):wpAny (model prog w) A (pyHash .none) Q E s:=by
 show wpAny (model prog w) A (pyHashByItsType .none) Q E s
 refine PySem.W.pyHash_slot (T:="NoneType") (by first | rfl | trivial | exact ⟨_,rfl⟩ | simp [Shared.TypeIs]) PySem.F.slot_NoneType_hash PySem.F.entry_NoneType_hash (PySem.F.args_NoneType_hash_1 _) rfl (.inl rfl) ?_
 unfold PySem.Builtin.«NoneType.__hash__»
 refine wpAny_bind ?_
 unfold slotArgs
 simp only []
 rw [if_neg (by decide),if_neg (by decide)]
 refine wpAny_pure ?_
 unfold retInt
 refine wpAny_bind ?_
 first
  | exact wpAny_mkInt (wpAny_pure ⟨_,_,rfl,h⟩)
  | exact wpAny_mkInt (wpAny_ret ⟨_,_,rfl,h⟩)
def vD:Option Key→Value→Bool
 | none,.none=>true
 | none,_=>false
 | some k,v=>dY k v
def okH (w:World):Option Key→Int
 | none=>PySem.reduceHash 4238894112
 | some k=>vK w k
theorem dQ {k:Option Key} {v:Value} (h:vD k v=true):(k=none∧v=.none)∨(∃ i t,k=some (.inl i)∧v=.int i t)∨∃ x t,k=some (.inr x)∧v=.str x t:=by
 cases k with
 | none=>cases v <;> first | exact .inl ⟨rfl,rfl⟩ | cases h
 | some k=>
  rcases dw (show dY k v=true from h) with ⟨i,t,rfl,rfl⟩ | ⟨x,t,rfl,rfl⟩
  ·exact .inr (.inl ⟨i,t,rfl,rfl⟩)
  ·exact .inr (.inr ⟨x,t,rfl,rfl⟩)
theorem rE (k:Key):decide ((none:Option Key)=some k)=false:=decide_eq_false (fun q=>nomatch q)
theorem qr (k:Key):decide (some k=(none:Option Key))=false:=decide_eq_false (fun q=>nomatch q)
theorem kl (a b:Key):decide (some a=some b)=decide (a=b):=by
 by_cases h:a=b
 ·subst h; simp
 ·rw [decide_eq_false h,decide_eq_false (fun q=>h (Option.some.inj q))]
def mS (prog:Program) (w:World):PySem.KeyKind prog w (Option Key) where
 is:=vD
 hash:=okH w
 inj:=fun v a b ha hb=>by
  rcases dQ ha with ⟨rfl,rfl⟩ | ⟨i,t,rfl,rfl⟩ | ⟨x,t,rfl,rfl⟩
  ·rcases dQ hb with ⟨rfl,_⟩ | ⟨j,u,rfl,e⟩ | ⟨y,u,rfl,e⟩
   ·rfl
   ·exact nomatch e
   ·exact nomatch e
  ·rcases dQ hb with ⟨rfl,e⟩ | ⟨j,u,rfl,e⟩ | ⟨y,u,rfl,e⟩
   ·exact nomatch e
   ·injection e with e1 _; rw [e1]
   ·exact nomatch e
  ·rcases dQ hb with ⟨rfl,e⟩ | ⟨j,u,rfl,e⟩ | ⟨y,u,rfl,e⟩
   ·exact nomatch e
   ·exact nomatch e
   ·injection e with e1 _; rw [e1]
 byValue:=fun k v h=>by
  rcases dQ h with ⟨rfl,rfl⟩ | ⟨i,t,rfl,rfl⟩ | ⟨x,t,rfl,rfl⟩ <;> rfl
 pyHash:=fun hv h=>by
  rcases dQ hv with ⟨rfl,rfl⟩ | ⟨i,t,rfl,rfl⟩ | ⟨x,t,rfl,rfl⟩
  ·exact zv h
  ·exact wpAny_pyHash_int h
  ·exact wpAny_pyHash_str h
 eqBool:=fun hu hv h=>by
  rcases dQ hu with ⟨rfl,rfl⟩ | ⟨i,t,rfl,rfl⟩ | ⟨x,t,rfl,rfl⟩
  ·rcases dQ hv with ⟨rfl,rfl⟩ | ⟨j,u,rfl,rfl⟩ | ⟨y,u,rfl,rfl⟩
   ·rw [show decide ((none:Option Key)=none)=true by simp] at h; exact SeqAt.EqAt.same .none _ _ _ _ h
   ·rw [rE] at h; exact SeqAt.EqAt.none_int j u _ _ _ _ h
   ·rw [rE] at h; exact SeqAt.EqAt.none_str y u _ _ _ _ h
  ·rcases dQ hv with ⟨rfl,rfl⟩ | ⟨j,u,rfl,rfl⟩ | ⟨y,u,rfl,rfl⟩
   ·rw [qr] at h; exact SeqAt.EqAt.int_none i t _ _ _ _ h
   ·rw [kl,ua] at h; exact wpAny_eqBool_int h
   ·rw [kl,t7] at h; exact SeqAt.EqAt.int_str i t y u _ _ _ _ h
  ·rcases dQ hv with ⟨rfl,rfl⟩ | ⟨j,u,rfl,rfl⟩ | ⟨y,u,rfl,rfl⟩
   ·rw [qr] at h; exact SeqAt.EqAt.str_none x t _ _ _ _ h
   ·rw [kl,tZ] at h; exact SeqAt.EqAt.str_int x t j u _ _ _ _ h
   ·rw [kl,tY] at h; exact wpAny_eqBool_str h
 «strs»:=fun k x t v h=>by
  rcases dQ h with ⟨rfl,e⟩ | ⟨i,u,rfl,e⟩ | ⟨y,u,rfl,e⟩
  ·exact nomatch e
  ·exact nomatch e
  ·injection e with e1 _
   subst e1
   cases v <;> rfl
theorem qb {P:Program} {w:World}:∀ {es:List DictEntry} {vs:List (Key×Value)},Pairs (bu P w) es vs→Pairs (mS P w) es (vs.map fun p=>(some p.1,p.2))
 | _,_,.nil=>.nil
 | _,_,.cons h1 h2 t=>.cons h1 h2 (qb t)
theorem AI {P:Program} {w:World} {h:Heap} {a:Addr} {vs:List (Key×Value)} (d:h.DictOf (bu P w) a vs):h.DictOf (mS P w) a (vs.map fun p=>(some p.1,p.2)):=by
 obtain ⟨o,es,ep,e1,e2,e3,e4,e5,e6⟩:=d
 refine ⟨o,es,ep,e1,e2,e3,fun e he=>?_,qb e5,?_⟩
 ·obtain ⟨k,k1,k2⟩:=e4 e he
  exact ⟨some k,k1,k2⟩
 ·rw [List.map_map]
  show (vs.map fun p=>some p.1).Nodup
  have:(vs.map fun p=>some p.1)=(vs.map (·.1)).map some:=by rw [List.map_map]; rfl
  rw [this]
  exact List.pairwise_map.mpr (List.Pairwise.imp (fun h q=>h (Option.some.inj q)) e6)
theorem qI:∀ (vs:List (Key×Value)),valueAt (vs.map fun p=>((some p.1:Option Key),p.2)) none=none
 | []=>rfl
 | p::r=>by
  have:=qI r
  unfold valueAt at this ⊢
  rw [List.map_cons,List.find?_cons]
  simpa using this
section
variable {X:Cx}
theorem yw:OpR X (compareOp .In) (fun x y H Q=>∃ a kvs,x=.non∧y=.ref a∧Rd H a (.dK kvs)∧Q (.bl false) H):=by
 intro pins s σ H x y v u Q I rx ry h
 obtain ⟨a,kvs,rfl,rfl,e,q⟩:=h
 cases (show v=Value.none from rx)
 cases (show u=Value.ref a from ry)
 obtain ⟨z,hd,vs,rel,dd⟩:=eO I.hok e
 refine wpAny_in_of (knd:=mS X.prog X.w) (k:=none) rfl hd (AI dd).mapOf ?_
 rw [qI]
 exact ⟨.bl false,H,I.tok _,rfl,q⟩
theorem CV {k:Nat} (hr:Room k X.A):OpR X (compareOp .In) (fun x y H Q=>∃ a kvs s,x=.str s∧y=.ref a∧Rd H a (.dK kvs)∧Q (.bl (bo kvs (Sum.inr s:Key)).isSome) H):=by
 intro pins s σ H x y v u Q I rx ry h
 obtain ⟨a,kvs,z,rfl,rfl,e,q⟩:=h
 cases (show u=Value.ref a from ry)
 exact FB (om hr) I (DGet.rd (k:=Sum.inr z) e) (show RelV (kV (Sum.inr z)) v from rx) fun s' I'=>⟨.bl _,H,I',rfl,q⟩
theorem C6 {k:Nat} (hr:Room k X.A):IxR X (fun x y H Q=>∃ a kvs s v,x=.ref a∧y=.str s∧Rd H a (.dK kvs)∧bo kvs (Sum.inr s:Key)=some v∧Q v H):=by
 intro value slice pins s σ H x y v u Q I rx ry h hs
 obtain ⟨a,kvs,z,v0,rfl,rfl,e,l,q⟩:=h
 cases (show v=Value.ref a from rx)
 have g:DGet H a (kV (Sum.inr z)) (some v0):=by rw [← l]; exact DGet.rd e
 unfold subscriptTail
 refine wpAny_bind ?_
 rw [getitemInPython_of_ne (oW I g).not_modules]
 refine wpAny_bind (wpAny_specialOf (oW I g) PySem.F.slot_dict_getitem.lookup ?_)
 have fin:wpAny (model X.prog X.w) X.A (subscripted slice false (Value.ref a) u) (fun r s₃=>wpAny (model X.prog X.w) X.A (letTemporaryGo value (Value.ref a) r >>= fun _=>pure r) (EP X pins σ Q) X.xe s₃) X.xe s:=by
  rw [hs]
  exact wpAny_operating (zH (om hr) I g (show RelV (kV (Sum.inr z)) u from ry) fun w' s' I' rw'=>wpAny_bind (wpAny_letTemporaryGo (wpAny_pure ⟨v0,H,I',rw',q⟩)))
 first
  | exact wpAny_pure (wpAny_bind fin)
  | exact wpAny_bind (wpAny_pure (wpAny_bind fin))
  | exact wpAny_bind fin
def inK (s:PyData) (ds:List (PyData×PyData)):Option Bool:=match s with
 | .str s=>some (aM ds s).isSome
 | .none=>some false
 | _=>none
def inB (x y:PyData):Option Bool:=match y with
 | .dict ds=>inK x ds
 | y=>inS x y
def inA (x y:PyData):Option PyData:=(inB x y).map .bool
def CZ (x y:PyData):Option PyData:=match x,y with
 | .str s,.dict ds=>some (.bool (!(aM ds s).isSome))
 | _,.dict _=>none
 | x,y=>(inS x y).map fun b=>.bool (!b)
theorem iU {k:Nat} (hr:Room k X.A):OpD X (compareOp .In) inA:=⟨_,(op_in_str.or qc).or ((CV hr).or yw),fun O ts H T v1 v2 x y d Q hc h1 h2 e q=>by
 unfold inA at e
 by_cases hd:∃ ds,y=.dict ds
 ·obtain ⟨ds,rfl⟩:=hd
  obtain ⟨a,kvs,rfl,t,r⟩:=h2.dct
  obtain ⟨b,hb,rfl⟩:=Option.map_eq_some_iff.mp e
  have hb':inK x ds=some b:=hb
  unfold inK at hb'
  split at hb'
  ·rename_i s
   cases hb'
   cases h1.str
   refine .inr (.inl ⟨a,kvs,s,rfl,rfl,t,?_⟩)
   have e:(bo kvs (Sum.inr s:Key)).isSome=(aM ds s).isSome:=by
    rcases ji (s:=s) r with ⟨z1,z2⟩ | ⟨v,d,z1,z2,_⟩ <;> rw [z1,z2] <;> rfl
   rw [e]
   exact q _ H (.refl _ _) hc (.bl _)
  ·cases hb'
   cases h1.non
   exact .inr (.inr ⟨a,kvs,rfl,rfl,t,q _ H (.refl _ _) hc (.bl _)⟩)
  ·cases hb'
 ·have e':(inS x y).map .bool=some d:=by
   cases y with
   | dict ds=>exact absurd ⟨ds,rfl⟩ hd
   | _=>exact e
  exact .inl (nF false O ts H T v1 v2 x y d Q hc h1 h2 e' q)⟩
def ixA (x y:PyData):Option PyData:=match x,y with
 | .dict ds,.str s=>aM ds s
 | .dict _,_=>none
 | x,y=>ixD x y
theorem gc {k:Nat} (hr:Room k X.A):IxD X ixA:=by
 obtain ⟨r0,h0,s0⟩:=aL (X:=X)
 refine ⟨_,h0.or (C6 hr),fun O ts H T v1 v2 x y d Q hc h1 h2 e q=>?_⟩
 by_cases hd:∃ ds,x=.dict ds
 ·obtain ⟨ds,rfl⟩:=hd
  obtain ⟨a,kvs,rfl,t,r⟩:=h1.dct
  cases y with
  | str s=>
   have e':aM ds s=some d:=e
   cases h2.str
   rcases ji (s:=s) r with ⟨z1,z2⟩ | ⟨v,d',z1,z2,rv⟩
   ·rw [z1] at e'; cases e'
   ·rw [z1] at e'
    cases e'
    exact .inr ⟨a,kvs,s,v,rfl,rfl,t,z2,q _ H (.refl _ _) hc rv⟩
  | _=>cases e
 ·refine .inl (s0 O ts H T v1 v2 x y d Q hc h1 h2 ?_ q)
  cases x with
  | dict ds=>exact absurd ⟨ds,rfl⟩ hd
  | _=>exact e
end
section
variable {X:Cx} {pins:List (Addr×Obj)} {σ:L2.St} {H H2:Hp} {s s2:Shared}
theorem As (I:Inv X pins σ H s) {a:Addr} {kvs:List (Key×V)} {o:Obj} (e:H a=some (.dK kvs)) (I2:Inv X pins σ H2 s2) (e2:H2 a=some (.frz o (.dK kvs))):Inv X pins σ (upd H2 a (.dK kvs)) s2:=by
 have U:∀ {b:Addr} {u:HO},H2 b=some u→(∀ o ks,u≠.frz o ks)→upd H2 a (.dK kvs) b=some u:=fun {b u} q n=>by
  rw [aK (fun z=>by subst z; rw [e2] at q; cases q; exact n _ _ rfl)]
  exact q
 have N:∀ {b:Addr},H2 b=none→upd H2 a (.dK kvs) b=none:=fun {b} q=>by
  rw [aK (fun z=>by subst z; rw [e2] at q; cases q)]
  exact q
 have hok:HOk X.prog X.w (upd H2 a (.dK kvs)) s2.heap:=fun b u q=>by
  by_cases hb:b=a
  ·subst hb
   rw [aZ] at q
   cases q
   exact ObjOk.stay (I2.hok b _ e2).2 (fun _ _ _ q=>q) (fun c q=>U q (fun _ _ z=>nomatch z)) fun c xs q=>U q (fun _ _ z=>nomatch z)
  ·rw [aK hb] at q
   exact (I2.hok b u q).stay (fun _ _ _ q=>q) (fun c q=>U q (fun _ _ z=>nomatch z)) fun c xs q=>U q (fun _ _ z=>nomatch z)
 refine ⟨I2.ok,I2.os,I2.bare,⟨I2.base.keep,I2.base.slot,fun b ob q n hx=>N (I2.base.free b ob q n hx),I2.base.there,fun b xs q=>U (I2.base.tups b xs q) (fun _ _ z=>nomatch z),fun b ob u q=>?_,fun b ps q=>?_⟩,I2.loc,I2.cell,N I2.free,fun x c q=>N (I2.freeC x c q),fun p hp=>?_,hok,I2.len⟩
 ·have h1:=I.base.frzs b ob u q
  rw [aK (fun z=>by subst z; rw [e] at h1; cases h1)]
  exact I2.base.frzs b ob u q
 ·obtain ⟨more,h1⟩:=I2.base.tbls b ps q
  exact ⟨more,U h1 (fun _ _ z=>nomatch z)⟩
 ·obtain ⟨k1,k2,k3⟩:=I2.pin p hp
  exact ⟨k1,N k2,k3⟩
end
inductive Ln (P:Hp→VK→Prop):Hp→VK→Prop where
 | done {H:Hp} {Q:VK}:P H Q→Ln P H Q
 | frz {H:Hp} {Q:VK} {a:Addr} {kvs:List (Key×V)}:H a=some (.dK kvs)→(∀ o,Ln P (upd H a (.frz o (.dK kvs))) (fun v H2=>H2 a=some (.frz o (.dK kvs))∧Q v (upd H2 a (.dK kvs))))→Ln P H Q
section
variable {K:Frag}
theorem TupAt.keep {H H':Hp} (h:∀ b o,H b=some o→(∀ ks,o≠.dK ks)→(∀ ob ks,o≠.frz ob (.dK ks))→H' b=some o) {a:Addr} {vs:List V} (t:TupAt K (fun _=>False) H a vs):TupAt K (fun _=>False) H' a vs:=by
 rcases t with ⟨n,t | ⟨o,t⟩⟩ | t
 ·exact .inl ⟨n,.inl (h _ _ t (fun _ z=>nomatch z) (fun _ _ z=>nomatch z))⟩
 ·exact .inl ⟨n,.inr ⟨o,h _ _ t (fun _ z=>nomatch z) (fun _ _ z=>nomatch z)⟩⟩
 ·exact .inr t
mutual
theorem Rep.keep {H H':Hp} (h:∀ b o,H b=some o→(∀ ks,o≠.dK ks)→(∀ ob ks,o≠.frz ob (.dK ks))→H' b=some o):∀ {v:V} {d:PyData},Rep K (fun _=>False) H v d→cX d=true→Rep K (fun _=>False) H' v d
 | _,_,.non,_=>.non
 | _,_,.bl b,_=>.bl b
 | _,_,.int i,_=>.int i
 | _,_,.str x,_=>.str x
 | _,_,.tup t r,e=>.tup (t.keep h) (Reps.keep h r (by simpa [cX] using e))
 | _,_,.lst t r,e=>by simp [cX] at e
 | _,_,.dct n t r,e=>by simp [cX] at e
theorem Reps.keep {H H':Hp} (h:∀ b o,H b=some o→(∀ ks,o≠.dK ks)→(∀ ob ks,o≠.frz ob (.dK ks))→H' b=some o):∀ {vs:List V} {ds:List PyData},Reps K (fun _=>False) H vs ds→gf ds=true→Reps K (fun _=>False) H' vs ds
 | _,_,.nil,_=>.nil
 | _,_,.cons (d:=d) (ds:=ds) r t,e=>by
  have e':(cX d && gf ds)=true:=by simpa [gf] using e
  rw [Bool.and_eq_true] at e'
  exact .cons (Rep.keep h r e'.1) (Reps.keep h t e'.2)
end
end
def uQ:W→Option W
 | .d x=>some (.d x)
 | .loc x=>some (.d x)
 | .tp _=>none
def eJ (ρ:Rho):Rho:=ρ.map fun o=>o.bind uQ
section
variable {K:Frag} {O:Addr→Prop} {ts:List Addr} {H0 H:Hp} {T:Tp} {σ:L2.St} {ρ:Rho}
end
section
variable {X:Cx} {pos:Pos} {e:Expr} {fe:FE}
def eM (i:Nat):FS:=fun ρ T=>some ((.nx,ρ.set i (some (.loc (.dict [])))),T)
theorem kH {i:Nat} {x:Str} {pos' dpos:Pos} (hN:X.N.Nodup) (hi:X.N[i]? = some x:=by rfl) (hx:Loc X.env.scope x:=by first | exact Or.inl rfl | exact Or.inr rfl)
  (hs:swapsWith (.Dict [] [] dpos) (some (.Name x pos')) pos.line X.env=pure false:=by rfl) (hf:X.fn x=true∨X.env.scope.names.lookup x=some .local:=by first | exact .inl rfl | exact .inr rfl | assumption):DS X (.Assign [.Name x pos'] (.Dict [] [] dpos) pos) (eM i):=by
 refine ⟨?_⟩
 refine bV (fY hN hi hx qW hs hf) fun D σ H=>?_
 rintro ⟨O₀,H₀,F,ts,O,ρ,T,fl,ρ',T',rs,e,q⟩
 cases e
 intro p hp
 exact q _ _ _ (rs.ownO hp (.inr (.inl ⟨_,rfl⟩)) fun le=>⟨[],aZ,.nil⟩)
theorem yL:CallR X (.type "dict") (fun xs H Q=>∃ a kvs,xs=[V.ref a]∧Rd H a (.dK kvs)∧∀ p,H p=none→Q (.ref p) (upd H p (.dK kvs))):=by
 intro pins s σ H xs us Q I r h
 obtain ⟨a,kvs,rfl,ha,q⟩:=h
 obtain ⟨u,rfl,ru⟩:=vals1 r
 cases ru
 exact AN I ha fun p s' hp I'=>⟨.ref p,_,I',rfl,q p hp⟩
def ia (o:Option PyData):Option (List (PyData×PyData)):=match o with
 | some (.dict ds)=>some ds
 | _=>none
def nI (i:Nat) (ρ:Rho) (o:Option (List (PyData×PyData))) (T:Tp):Option ((Fl×Rho)×Tp):=match o with
 | some ds=>some ((.nx,ρ.set i (some (.loc (.dict ds)))),T)
 | none=>none
def Dh (i:Nat) (f:FE):FS:=fun ρ T=>bnd (f ρ T) fun w T1=>nI i ρ (ia (view T1 w)) T1
theorem BS {o:Option PyData} {ds:List (PyData×PyData)} (h:ia o=some ds):o=some (.dict ds):=by
 unfold ia at h
 split at h
 ·cases h; rfl
 ·cases h
def lI (o:Option (List (PyData×PyData))) (T:Tp):Option (W×Tp):=match o with
 | some ds=>some (.d (.dict ds),T)
 | none=>none
def iZ (f:FE):FE:=fun ρ T=>bnd (f ρ T) fun w T1=>lI (ia (view T1 w)) T1
theorem sU {p cpos:Pos} (hm:X.mg "dict" = none) (he:DE X e fe) (hg:Gl X "dict":=by rfl)
  (hse:starEach [e] X.env=(false,eval e X.env)::starEach [] X.env:=by exact bc rfl) (hpl:(backTo cpos (starEach [] X.env)).any (·.1)=false:=by exact bE rfl):DE X (.Call (.Name "dict" p) [e] [] cpos) (iZ fe):=by
 refine ⟨?_⟩
 refine aX (oh (qa yL hg hm boot_dict (bF he.pe cj hse) (by decide) (by decide) hse hpl)) fun σ H Q=>?_
 rintro ⟨O,ts,ρ,T,w,T',hc,re,e,q⟩
 obtain ⟨w1,T1,e1,e⟩:=aA e
 unfold lI at e
 split at e
 ·rename_i ds hd
  cases e
  have hv:=BS hd
  refine ⟨O,ts,ρ,T,w1,T',hc,re,e1,fun v H1 s1 hc1 r1=>?_⟩
  obtain ⟨a,kvs,rfl,t,r⟩:=(hc1.view r1 hv).dct
  refine ⟨a,kvs,rfl,t,fun p hp=>.frz aZ fun o=>.done ?_⟩
  rw [rT]
  exact q _ _ (s1.trans (.new hp _)) (hc1.new hp _) (.dct (hc1.fresh hp) aZ (r.mono (hc1.leNew hp _)))
 ·cases e
def putN (ds:List (PyData×PyData)) (s:Str) (x:PyData):List (PyData×PyData):=if (aM ds s).isSome=true then dh ds s x else ds++[(.str s,x)]
theorem RepK.app {K:Frag} {O:Addr→Prop} {H:Hp} {s:Str} {v:V} {x:PyData} (rx:Rep K O H v x):∀ {kvs:List (Key×V)} {ds:List (PyData×PyData)},RepK K O H kvs ds→RepK K O H (kvs++[(Sum.inr s,v)]) (ds++[(.str s,x)])
 | _,_,.nil=>.cons (k:=Sum.inr s) rx .nil
 | _,_,.cons r t=>.cons r (RepK.app rx t)
theorem Bg {K:Frag} {O:Addr→Prop} {H:Hp} {s:Str} {v:V} {x:PyData} (rx:Rep K O H v x) {kvs:List (Key×V)} {ds:List (PyData×PyData)} (r:RepK K O H kvs ds):RepK K O H (putK kvs (Sum.inr s) v) (putN ds s x):=by
 unfold putN
 rcases ji (s:=s) r with ⟨z1,z2⟩ | ⟨v',d',z1,z2,_⟩
 ·rw [z1,if_neg (by simp),zZ v z2]
  exact r.app rx
 ·rw [z1,if_pos (show (some d').isSome=true by rfl)]
  have hany:(kvs.any fun kv=>decide (kv.1=(Sum.inr s:Key)))=true:=yN (by rw [z2]; rfl)
  unfold putK
  rw [if_pos hany]
  exact mj rx r
def lr (i:Nat) (ρ:Rho) (ds:List (PyData×PyData)) (w k:W) (T:Tp):Option ((Fl×Rho)×Tp):=match w,k with
 | .d x,.d (.str s)=>if ds.length≤1000 then some ((.nx,ρ.set i (some (.loc (.dict (putN ds s x))))),T) else none
 | _,_=>none
def lq (i:Nat) (fk:FE) (ρ:Rho) (w:W) (T:Tp) (o:Option (Option W)):Option ((Fl×Rho)×Tp):=match o with
 | some (some (.loc (.dict ds)))=>bnd (fk ρ T) (lr i ρ ds w)
 | _=>none
def eN (i:Nat) (fk fv:FE):FS:=fun ρ T=>bnd (fv ρ T) fun w T1=>lq i fk ρ w T1 ρ[i]?
theorem kI {i:Nat} {x:Str} {kx:Expr} {fk fv:FE} {p pos':Pos} {k:Nat} (hr:Room k X.A) (hk:DE X kx fk) (he:DE X e fv) (hN:X.N[i]? = some x:=by rfl) (hv:Vis X.env.scope x:=by first | exact Or.inl rfl | exact Or.inr (Or.inl rfl) | exact Or.inr (Or.inr rfl)) (hd:(x == ("__debug__" : Str))=false:=by decide)
  (hcd:(x == ("__classdict__" : Str))=false:=by decide) (hs:swapsWith e (some (.Subscript (.Name x p) kx pos')) pos.line X.env=pure false:=by rfl):DS X (.Assign [.Subscript (.Name x p) kx pos'] e pos) (eN i fk fv):=by
 refine ⟨?_⟩
 refine bV (Bm (om hr) (pv i hN hv hd hcd) hk.pe he.pe hs) fun D σ H=>?_
 rintro ⟨O₀,H₀,F,ts,O,ρ,T,fl,ρ',T',rs,e,q⟩
 obtain ⟨w,T1,e1,e⟩:=aA e
 refine ⟨O,ts,ρ,T,w,T1,rs.hc,rs.re,e1,fun v H1 s1 hc1 r1=>?_⟩
 have rs1:=rs.step s1 hc1
 unfold lq at e
 split at e
 ·rename_i ds c3
  obtain ⟨wk,T3,e3,e⟩:=aA e
  unfold lr at e
  split at e
  ·rename_i xv s _
   split at e
   ·rename_i c2
    cases e
    obtain ⟨u,k1,a,rfl,k2,k3,kvs,k4,k5⟩:=rs1.re i _ c3
    refine ⟨_,k1,O,ts,ρ,T1,_,_,rs1.hc,rs1.re,e3,fun y H3 s3 hc3 r3=>?_⟩
    have rs3:=rs1.step s3 hc3
    cases (show Rep X.K O H3 y (.str s) from r3)
    have k4':H3 a=some (.dK kvs):=s3 _ _ k3 k4
    have k5':RepK X.K O H3 kvs ds:=k5.mono (hc1.le s3)
    have hlen:kvs.length < sizeLine:=by
     rw [qT k5']
     exact Nat.lt_of_le_of_lt c2 (by decide)
    have rx:Rep X.K O H3 v xv:=RepW.mono (w:=.d xv) r1 hc1 s3
    refine ⟨a,_,rfl,DPut.k (k:=(Sum.inr s:Key)) k4' hlen,?_⟩
    exact q O σ _ (rs3.putO c3 k1 (.inr (.inl ⟨_,rfl⟩)) fun le=>⟨_,aZ,Bg (Rep.mono le rx) (k5'.mono le)⟩)
   ·cases e
  ·cases e
 ·cases e
end
def u5 (n:Nat):W→Option W
 | .tp k=>if k < n then some (.tp k) else none
 | w=>some w
def g7 (n:Nat) (ρ:Rho):Rho:=ρ.map fun o=>o.bind (u5 n)
def iC (n:Nat) (o:Option ((Fl×Rho)×Tp)):Option ((Fl×Rho)×Tp):=match o with
 | some ((fl,ρ'),T3)=>(match gX T3 with
  | some (T4,_)=>if T4.length=n then some ((fl,g7 n ρ'),T4) else none
  | none=>none)
 | none=>none
def openK (i:Nat) (fr:FS) (ρ:Rho) (o:Option (List PyData)) (T1:Tp):Option ((Fl×Rho)×Tp):=match o with
 | some xs=>if xs.length≤1000 then iC T1.length (fr (ρ.set i (some (.tp T1.length))) (T1++[xs])) else none
 | none=>none
def iM (i:Nat) (g:FA) (fr:FS):FS:=fun ρ T=>bnd (g ρ T) fun ws T1=>openK i fr ρ (dj ws) T1
section
variable {K:Frag} {O₀:Addr→Prop} {H₀:Hp} {F:List ((Addr→Prop)×Hp)} {ts:List Addr} {O:Addr→Prop} {H:Hp} {σ:L2.St} {ρ:Rho} {T:Tp}
theorem RS.openR {i:Nat} {p:Addr} {vs:List V} {xs:List PyData} (r:RS K O₀ H₀ F ts O H σ ρ T) (hp:H p=none) (rv:Reps K O H vs xs) :
  RS K (fun b=>O₀ b∨b=p) H₀ F (ts++[p]) (fun b=>O b∨b=p) (upd H p (.lst vs)) (σ.set i (some (.ref p))) (ρ.set i (some (.tp T.length))) (T++[xs]):=by
 have nO:=r.hc.fresh hp
 have nt:p∉ts:=fun z=>nO (r.hc.own _ z)
 have le:Le O H (fun b=>O b∨b=p) (upd H p (.lst vs)):=fun a o n e=>by
  have z1:a≠p:=bN e hp
  exact ⟨fun q=>q.elim n z1,by rw [aK z1]; exact e⟩
 have hw:∀ ys,W.tp T.length≠.loc ys:=fun _ z=>nomatch z
 refine ⟨⟨fun b hb=>?_,fun b hb=>?_,?_,by simp [r.hc.len],fun j b zs q1 q2=>?_⟩,fun j w e=>?_,fun b hb=>hb.elim (fun z=>.inl (r.sub b z)) .inr,fun b hb=>?_,fun b o n e=>?_,fun j xs a e1 e2=>?_,fun j k xs ys v e1 e2 e3 e4=>?_,fun f hf=>(r.frs f hf).trans le,by simp [r.len]⟩
 ·rcases List.mem_append.mp hb with z | z
  ·exact .inl (r.hc.own b z)
  ·exact .inr (List.mem_singleton.mp z)
 ·by_cases z:b=p
  ·rw [z,aZ]; exact .inl ⟨_,rfl⟩
  ·rw [aK z]; exact r.hc.trk b (hb.resolve_right z)
 ·rw [List.nodup_append]
  exact ⟨r.hc.nd,by simp,fun b hb c hc z=>nt (by rw [← List.mem_singleton.mp hc,← z]; exact hb)⟩
 ·by_cases hj:j < ts.length
  ·rw [List.getElem?_append_left hj] at q1
   rw [List.getElem?_append_left (by rw [← r.hc.len]; exact hj)] at q2
   exact (r.hc.tape j b zs q1 q2).mono (fun o h1=>by rw [aK (bN h1 hp)]; exact h1) le
  ·have hj2:j=ts.length:=by
    have:=(List.getElem?_eq_some_iff.mp q1).1
    simp at this
    omega
   subst hj2
   have e1:b=p:=by simpa using q1.symm
   have e2:zs=xs:=by rw [r.hc.len] at q2; simpa using q2.symm
   subst e1 e2
   exact .inl ⟨rv.notO,vs,aZ,rv.mono le⟩
 ·by_cases z:i=j
  ·subst z
   have hl:i < ρ.length:=by
    have:=(List.getElem?_eq_some_iff.mp e).1
    simpa using this
   rw [List.getElem?_set_self hl] at e
   cases e
   exact ⟨.ref p,by rw [List.getElem?_set_self (by rw [r.len]; exact hl)],p,by rw [← r.hc.len]; simp,rfl⟩
  ·rw [List.getElem?_set_ne z] at e
   obtain ⟨x,h1,h2⟩:=r.re j w e
   refine ⟨x,by rw [List.getElem?_set_ne z]; exact h1,?_⟩
   cases w with
   | d y=>exact Rep.mono le h2
   | tp k=>
    obtain ⟨a,k1,k2⟩:=h2
    exact ⟨a,by rw [List.getElem?_append_left (List.getElem?_eq_some_iff.mp k1).1]; exact k1,k2⟩
   | loc ys=>
    obtain ⟨a,e1,m1,m2,m3⟩:=h2
    have na:a≠p:=fun z=>nO (z ▸ m1)
    refine ⟨a,e1,.inl m1,fun z=>?_,m3.mono (fun o' q=>by rw [aK na]; exact q) le⟩
    rcases List.mem_append.mp z with z | z
    ·exact m2 z
    ·exact na (List.mem_singleton.mp z)
 ·rcases List.mem_append.mp hb with z | z
  ·exact .inl (r.ots b z)
  ·exact .inr (List.mem_singleton.mp z)
 ·have nb:b∉ts:=fun z=>n (List.mem_append_left _ z)
  have e1:=r.same b o nb e
  rw [aK (bN e1 hp)]
  exact e1
 ·obtain ⟨n,e⟩:=cR hw e1
  rw [List.getElem?_set_ne (Ne.symm n)] at e2
  obtain ⟨f1,f2⟩:=r.fresh j xs a e e2
  refine ⟨f1,fun z=>z.elim f2 fun z=>?_⟩
  obtain ⟨v,h1,a',ea,m1,_⟩:=r.re j _ e
  rw [e2] at h1
  cases h1
  cases ea
  exact nO (z ▸ m1)
 ·obtain ⟨n1,e1⟩:=cR hw e1
  obtain ⟨n2,e2⟩:=cR hw e2
  rw [List.getElem?_set_ne (Ne.symm n1)] at e3
  rw [List.getElem?_set_ne (Ne.symm n2)] at e4
  exact r.dist j k xs ys v e1 e2 e3 e4
theorem RS.closeR {p:Addr} {row:List PyData} (ots:∀ b∈ts,O₀ b) (nt:p∉ts) (h0:H₀ p=none) (n0:¬ O₀ p) (r:RS K (fun b=>O₀ b∨b=p) H₀ F (ts++[p]) O H σ ρ (T++[row])):RS K O₀ H₀ F ts O H σ (g7 T.length ρ) T:=by
 have lenT:ts.length=T.length:=by have:=r.hc.len; simp at this; exact this
 have at_:∀ {j:Nat} {w:W},(g7 T.length ρ)[j]? = some (some w)→ρ[j]? = some (some w)∧∀ k,w=.tp k→k < T.length:=fun {j w} e=>by
  unfold g7 at e
  rw [List.getElem?_map] at e
  cases hu:ρ[j]? with
  | none=>rw [hu] at e; cases e
  | some u=>
   cases u with
   | none=>rw [hu] at e; cases e
   | some u=>
    rw [hu] at e
    have e':u5 T.length u=some w:=Option.some.inj e
    cases u with
    | d x=>cases e'; exact ⟨rfl,fun k z=>nomatch z⟩
    | loc x=>cases e'; exact ⟨rfl,fun k z=>nomatch z⟩
    | tp k=>
     have e2:(if k < T.length then some (W.tp k) else none)=some w:=e'
     split at e2
     ·rename_i hk
      cases e2
      exact ⟨rfl,fun k' z=>by cases z; exact hk⟩
     ·cases e2
 refine ⟨⟨fun b hb=>r.hc.own b (List.mem_append_left _ hb),r.hc.trk,(List.nodup_append.mp r.hc.nd).1,lenT,fun j b zs q1 q2=>?_⟩,fun j w e=>?_,fun b hb=>r.sub b (.inl hb),ots,fun b o n e=>?_,fun j xs a e1 e2=>?_,fun j k xs ys v e1 e2 e3 e4=>?_,r.frs,by simp [g7,r.len]⟩
 ·have hj:j < ts.length:=(List.getElem?_eq_some_iff.mp q1).1
  exact r.hc.tape j b zs (by rw [List.getElem?_append_left hj]; exact q1) (by rw [List.getElem?_append_left (by rw [← lenT]; exact hj)]; exact q2)
 ·obtain ⟨e1,hk⟩:=at_ e
  obtain ⟨v,h1,h2⟩:=r.re j w e1
  refine ⟨v,h1,?_⟩
  cases w with
  | d x=>exact h2
  | tp k=>
   obtain ⟨a,k1,k2⟩:=h2
   have:=hk k rfl
   exact ⟨a,by rw [List.getElem?_append_left (by rw [lenT]; exact this)] at k1; exact k1,k2⟩
  | loc x=>
   obtain ⟨a,k1,k2,k3,k4⟩:=h2
   exact ⟨a,k1,k2,fun z=>k3 (List.mem_append_left _ z),k4⟩
 ·refine r.same b o (fun z=>?_) e
  rcases List.mem_append.mp z with z | z
  ·exact n z
  ·rw [List.mem_singleton.mp z,h0] at e; cases e
 ·obtain ⟨f1,f2⟩:=r.fresh j xs a (at_ e1).1 e2
  exact ⟨f1,fun z=>f2 (.inl z)⟩
 ·exact r.dist j k xs ys v (at_ e1).1 (at_ e2).1 e3 e4
end
section
variable {X:Cx} {pos:Pos} {rest:List Stmt} {fr:FS}
theorem Bu {i:Nat} {p:Addr} {vs:List V} {xs:List PyData} {D:Ends} {O₀:Addr→Prop} {H₀:Hp} {F:List ((Addr→Prop)×Hp)} {ts:List Addr} {O:Addr→Prop} {H:Hp} {σ:L2.St} {ρ:Rho} {T:Tp} {fl:Fl} {ρ':Rho} {T':Tp}
  (rs:RS X.K O₀ H₀ F ts O H σ ρ T) (hp:H p=none) (rv:Reps X.K O H vs xs) (e:iC T.length (fr (ρ.set i (some (.tp T.length))) (T++[xs]))=some ((fl,ρ'),T')) (q:vj X.K O₀ H₀ F ts D ρ' T' fl):oj X.K fr D (σ.set i (some (.ref p))) (upd H p (.lst vs)):=by
 have nO:=rs.hc.fresh hp
 have nt:p∉ts:=fun z=>nO (rs.hc.own _ z)
 have h0:H₀ p=none:=by
  cases e:H₀ p with
  | none=>rfl
  | some o=>rw [rs.same p o nt e] at hp; cases hp
 have n0:¬ O₀ p:=fun z=>nO (rs.sub p z)
 have rs1:=rs.openR (i:=i) hp rv
 generalize hE:fr (ρ.set i (some (.tp T.length))) (T++[xs])=E at e
 unfold iC at e
 split at e
 ·rename_i fl1 ρ1 T3
  split at e
  ·rename_i T4 row hT
   split at e
   ·rename_i hlen
    have eT:=rf hT
    subst eT
    cases e
    have lb:∀ {G:Hp},Le (fun b=>O₀ b∨b=p) G O₀ G:=fun a o n e=>⟨fun z=>n (.inl z),e⟩
    have lenB:∀ {G:Hp} {B:Addr→Prop},HC X.K B (ts++[p]) G (T'++[row])→ts.length=T'.length:=fun h=>by have:=h.len; simp at this; exact this
    have sameB:∀ {G:Hp},SameX (ts++[p]) H₀ G→SameX ts H₀ G:=fun s b o n e=>s b o (fun z=>by
     rcases List.mem_append.mp z with z | z
     ·exact n z
     ·rw [List.mem_singleton.mp z,h0] at e; cases e) e
    refine ⟨_,H₀,F,ts++[p],_,_,_,fl,ρ1,T'++[row],rs1,hE,?_⟩
    have lenE:T.length=T'.length:=hlen.symm
    cases fl with
    | nx=>exact fun O' σ' H' r=>q O' σ' H' (by rw [lenE]; exact RS.closeR rs.ots nt h0 n0 r)
    | bk=>exact fun O' σ' H' r=>q O' σ' H' (by rw [lenE]; exact RS.closeR rs.ots nt h0 n0 r)
    | ct=>exact fun O' σ' H' r=>q O' σ' H' (by rw [lenE]; exact RS.closeR rs.ots nt h0 n0 r)
    | rt y=>
     intro v H' s1 c1 r1
     refine q v H' (sameB s1) ⟨rs.ots,fun b hb=>c1.trk b (.inl hb),rs.hc.nd,lenB c1,fun j b zs q1 q2=>?_⟩ (Rep.mono lb r1)
     have hj:j < ts.length:=(List.getElem?_eq_some_iff.mp q1).1
     exact (c1.tape j b zs (by rw [List.getElem?_append_left hj]; exact q1) (by rw [List.getElem?_append_left (by rw [← lenB c1]; exact hj)]; exact q2)).mono (fun _ h=>h) lb
    | ro y=>
     intro A v H' s1 hA c1 o1
     have lb2:Le (fun b=>(O₀ b∨b=p)∨A b) H' (fun b=>O₀ b∨A b) H':=fun b o n e=>⟨fun z=>n (z.elim (fun z=>.inl (.inl z)) .inr),e⟩
     refine q A v H' (sameB s1) (fun b hb=>⟨(hA b hb).1,fun z=>(hA b hb).2 (.inl z)⟩) ⟨fun b hb=>.inl (rs.ots b hb),fun b hb=>c1.trk b (hb.elim (fun z=>.inl (.inl z)) .inr),rs.hc.nd,lenB c1,fun j b zs q1 q2=>?_⟩ (OwnV.mono lb2 o1)
     have hj:j < ts.length:=(List.getElem?_eq_some_iff.mp q1).1
     exact (c1.tape j b zs (by rw [List.getElem?_append_left hj]; exact q1) (by rw [List.getElem?_append_left (by rw [← lenB c1]; exact hj)]; exact q2)).mono (fun _ h=>h) lb2
   ·cases e
  ·cases e
 ·cases e
theorem qp {i:Nat} {x:Str} {pos' lpos:Pos} {es:List Expr} {g:FA} (hN:X.N.Nodup) (he:DA X es g) (hrest:DSs X rest fr) (hi:X.N[i]? = some x:=by rfl) (hx:Loc X.env.scope x:=by first | exact Or.inl rfl | exact Or.inr rfl)
  (hs:swapsWith (.List es lpos) (some (.Name x pos')) pos.line X.env=pure false:=by rfl) (hf:X.fn x=true∨X.env.scope.names.lookup x=some .local:=by first | exact .inl rfl | exact .inr rfl | assumption):DSs X (.Assign [.Name x pos'] (.List es lpos) pos::rest) (iM i g fr):=by
 refine ⟨?_⟩
 refine iB (gK (fY hN hi hx (nP he.pe) hs hf) hrest.pe) fun D σ H=>?_
 rintro ⟨O₀,H₀,F,ts,O,ρ,T,fl,ρ',T',rs,e,q⟩
 obtain ⟨ws,T1,e1,e⟩:=aA e
 refine ⟨O,ts,ρ,T,ws,T1,rs.hc,rs.re,e1,fun vs H1 s1 hc1 r1=>?_⟩
 unfold openK at e
 split at e
 ·rename_i xs h1
  split at e
  ·rename_i h2
   have rv:=jk r1 h1
   exact ⟨kA (by rw [rv.length]; exact h2),fun p hp=>Bu (rs.step s1 hc1) hp rv e q⟩
  ·cases e
 ·cases e
end
section
variable {X:Cx} {pos:Pos}
end
section
variable {X:Cx}
def d3 (k:Kd):Bool:=decide (k=.tup) || decide (k=.lst)
theorem gY (K:Frag) (a:Kd):PySem.W.kitAny K (.type a.name) [.type "tuple",.type "list"]=some (d3 a):=by
 have h1:=e9 a .tup (by decide)
 have h2:=e9 a .lst (by decide)
 have e1:PySem.W.kitOne K (.type a.name) (.type "tuple")=some (bw a .tup):=h1
 have e2:PySem.W.kitOne K (.type a.name) (.type "list")=some (bw a .lst):=h2
 cases a <;> (simp only [PySem.W.kitAny,e1,e2]; rfl)
theorem yK:CallR X (.builtin "isinstance") (fun xs H Q=>∃ (x:V) (tp:Addr) (O:Addr→Prop) (d:PyData),xs=[x,.ref tp]∧Vw X.K O H x d∧H tp=some (.tup [.ty "tuple",.ty "list"])∧Q (.bl (d3 (kd d))) H):=by
 intro pins s σ H xs us Q I r h
 obtain ⟨x,tp,O,d,rfl,vw,ht,q⟩:=h
 obtain ⟨u,w',rfl,ru,rw'⟩:=vals2 r
 cases (show w'=Value.ref tp from rw')
 have fin:∀ tk,EP X pins σ Q (.bool (d3 (kd d))) { s with toks:=tk }:=fun tk=>⟨.bl _,H,I.tok _,rfl,q⟩
 obtain ⟨_,its,rv,⟨dd,c,n,sl⟩,e0,e1,m,e2⟩:=(show ObjOk X.prog X.w H s.heap tp (.tup [.ty "tuple",.ty "list"]) from I.hok tp _ ht)
 obtain ⟨u1,u2,rfl,r1,r2⟩:=vals2 rv
 cases (show u1=Value.type "tuple" from r1)
 cases (show u2=Value.type "list" from r2)
 dsimp only at e1 e2
 subst e1 e2
 cases d with
 | none=>cases vw.non; cases (show u=Value.none from ru); exact PySem.W.kia_tup PySem.W.kitx_none I.kIn True.intro e0 (gY X.K .non) (fun z=>nomatch z) fin
 | bool b=>cases vw.bl; cases (show u=Value.bool b from ru); exact PySem.W.kia_tup PySem.W.kitx_bool I.kIn True.intro e0 (gY X.K .bl) (fun z=>nomatch z) fin
 | int i=>cases vw.int; obtain ⟨t,e⟩:=(show ∃ t,u=Value.int i t from ru); cases e; exact PySem.W.kia_tup PySem.W.kitx_int I.kIn True.intro e0 (gY X.K .int) (fun z=>nomatch z) fin
 | str z=>cases vw.str; obtain ⟨t,e⟩:=(show ∃ t,u=Value.str z t from ru); cases e; exact PySem.W.kia_tup PySem.W.kitx_str I.kIn True.intro e0 (gY X.K .str) (fun z=>nomatch z) fin
 | list ds=>
  obtain ⟨a,vs,rfl,t,r⟩:=vw.lst
  cases (show u=Value.ref a from ru)
  obtain ⟨its,_,pl,_⟩:=I.list t
  obtain ⟨o,n,e,c1,_⟩:=pl
  exact PySem.W.kia_tup PySem.W.kitx_list I.kIn ⟨o,e,c1⟩ e0 (gY X.K .lst) (fun z=>nomatch z) fin
 | tuple ds=>
  obtain ⟨a,vs,rfl,t,r⟩:=vw.tup
  cases (show u=Value.ref a from ru)
  obtain ⟨its,_,pl,_⟩:=I.tuple t.sq
  obtain ⟨o,e,c1,_⟩:=pl
  exact PySem.W.kia_tup PySem.W.kitx_tuple I.kIn ⟨o,e,c1⟩ e0 (gY X.K .tup) (fun z=>nomatch z) fin
 | dict ds=>
  obtain ⟨a,vs,rfl,t,r⟩:=vw.dct
  cases (show u=Value.ref a from ru)
  obtain ⟨_,_,_,_,o,_,_,e,c1,_⟩:=eO I.hok t
  exact PySem.W.kia_tup PySem.W.kitx_dict I.kIn ⟨o,e,c1.1⟩ e0 (gY X.K .dct) (fun z=>nomatch z) fin
def fz (x:PyData):Option PyData:=some (.bool (d3 (kd x)))
theorem AK {e:Expr} {f:FE} {p1 p2 p' pos tpos:Pos} {k:Nat} (hi:X.mg "isinstance" = none) (he:DE X e f) (hm1:X.mg "tuple" = none) (hm2:X.mg "list" = none) (hg:Gl X "isinstance":=by rfl) (hT1:Gl X "tuple":=by rfl) (hT2:Gl X "list":=by rfl)
  (hs:starEach [e,.Tuple [.Name "tuple" p1,.Name "list" p2] k tpos] X.env=(false,eval e X.env)::starEach [.Tuple [.Name "tuple" p1,.Name "list" p2] k tpos] X.env:=by exact bc rfl)
  (hs2:starEach [.Tuple [.Name "tuple" p1,.Name "list" p2] k tpos] X.env=(false,eval (.Tuple [.Name "tuple" p1,.Name "list" p2] k tpos) X.env)::starEach [] X.env:=by exact bc rfl)
  (hs3:starEach [.Name "tuple" p1,.Name "list" p2] X.env=(false,eval (.Name "tuple" p1) X.env)::starEach [.Name "list" p2] X.env:=by exact bc rfl) (hs4:starEach [.Name "list" p2] X.env=(false,eval (.Name "list" p2) X.env)::starEach [] X.env:=by exact bc rfl)
  (hpl:(backTo pos (starEach [.Tuple [.Name "tuple" p1,.Name "list" p2] k tpos] X.env)).any (·.1)=false:=by exact bE rfl) :
  DE X (.Call (.Name "isinstance" p') [e,.Tuple [.Name "tuple" p1,.Name "list" p2] k tpos] [] pos) (fUn fz f):=by
 refine ⟨?_⟩
 refine aX (mF yK hg hi PyProof.Rows.boot_isinstance (bF he.pe (bF (nN (bF (mR (v:=.ty "tuple") hT1 hm1 boot_tuple rfl) (bF (mR (v:=.ty "list") hT2 hm2 boot_list rfl) cj hs4) hs3)) cj hs2) hs) (by decide) (by decide) hs hpl) fun σ H Q=>?_
 rintro ⟨O,ts,ρ,T,w,T',hc,re,e,q⟩
 obtain ⟨w1,T1,e1,e⟩:=aA e
 obtain ⟨x,d,h1,h3,rfl,rfl⟩:=gN e
 cases h3
 refine ⟨O,ts,ρ,T,w1,T',hc,re,e1,fun v1 H1 s1 hc1 r1=>?_⟩
 refine ⟨by decide,fun tp htp=>?_⟩
 have hc2:=hc1.new htp (.tup [.ty "tuple",.ty "list"])
 have s2:SameX ts H1 (upd H1 tp (.tup [.ty "tuple",.ty "list"])):=.new htp _
 exact ⟨v1,tp,O,x,rfl,hc2.view (r1.mono hc1 s2) h1,aZ,q _ _ (s1.trans s2) hc2 (.bl _)⟩
end
theorem Ax {P:Program} {w:World} {K:Frag} {mg:Str→Option Value} {base:Heap} {CX:CXT} {k:Nat} {f:Addr} {fd:FuncData} {ps:List Str} {sp sp':Sp} (F:FnOk P w K mg base CX k f fd ps sp) (i:∀ vs H Q E,sp' vs H Q E→sp vs H Q E):FnOk P w K mg base CX k f fd ps sp':=⟨fun vs H Q E h=>F.1 vs H Q E (i _ _ _ _ h),fun A outer s H args us vs Q E a b c d h=>F.2 A outer s H args us vs Q E a b c d (i _ _ _ _ h)⟩
theorem zi {K:Frag} {m:FnM} (hm:∀ ns:List Int,ns.length≤63→∃ T',m [.d (cy ns)] []=some (.bool true,T')):∀ vs H Q E,lj K vs H Q E→spM K 1 m vs H Q E:=by
 intro vs H Q E h
 obtain ⟨a,ns,rfl,hS,hl,q⟩:=h
 obtain ⟨T',e⟩:=hm ns hl
 have ra:LstAt K (fun _=>False) H a (ns.map V.int):=by
  rcases hS with h | h
  ·exact .inl ⟨fun z=>z,h⟩
  ·exact .inr (.inr h)
 refine ⟨fun _=>False,[],[],[.d (cy ns)],.bool true,T',⟨fun b hb=>(by cases hb),fun b hb=>hb.elim,List.nodup_nil,rfl,fun i a xs e1 _=>by simp at e1⟩,.cons (show Rep K (fun _=>False) H (.ref a) (cy ns) from .lst ra (p0 ns)) .nil,rfl,e,fun v H' _ _ r=>?_⟩
 cases r
 exact q H'
def Fe:PyData→PyData→Option PyData:=iop fun i j=>if 0≤j then some (.int (i / 2 ^ j.toNat)) else none
@[simp] theorem GM {i j:Int}:Fe (.int i) (.int j)=if 0≤j then some (.int (i / 2 ^ j.toNat)) else none:=rfl
section
variable {X:Cx}
theorem Am:MtR X "str.join" (fun x vs H Q=>∃ (z:Str) (l:Addr) (ys:List Str),x=.str z∧vs=[.ref l]∧SqT X.K H l (ys.map V.str)∧(ys.map (·.length)).sum + ys.length * z.length≤16777216∧Q (.str (Str.join z ys)) H):=by
 intro pins s σ H x vs v us Q I rx rv h
 obtain ⟨z,l,ys,rfl,rfl,hq,hz,q⟩:=h
 obtain ⟨t,rfl⟩:=rx
 obtain ⟨u,rfl,ru⟩:=vals1 rv
 cases ru
 obtain ⟨its,rw',pl,_⟩:=I.tuple hq
 refine join_tuple (ys:=ys) pl (by simpa using pb rw') hz fun t' k=>⟨.str _,H,I.tok _,⟨t',?_⟩,q⟩
 show Value.str (Builtin.Str.glued z ys) t'=_
 rw [StrLaws.glued_eq_join]
theorem vm {K:Frag} {O:Addr→Prop} {ts:List Addr} {H:Hp} {T:Tp} {v:V} {w:W} {z:Str} (r:RepW K O ts H v w) (h:view T w=some (.str z)):v=.str z:=by
 cases w with
 | d x=>cases h; cases (show Rep K O H v _ from r); rfl
 | tp k=>
  have h1':(T[k]?).bind gq=some (PyData.str z):=h
  cases hk:T[k]? with
  | none=>rw [hk] at h1'; cases h1'
  | some xs=>
   rw [hk] at h1'
   have e2:(if isO xs=true then none else some (PyData.list xs))=some (PyData.str z):=h1'
   split at e2 <;> cases e2
 | loc zs=>cases zs <;> cases h
def g0:PyData→PyData→Option PyData
 | .str z,.list xs=>match cm xs with
  | some ys=>if (ys.map (·.length)).sum + ys.length * z.length≤16777216 then some (.str (Str.join z ys)) else none
  | none=>none
 | .str z,.tuple xs=>match cm xs with
  | some ys=>if (ys.map (·.length)).sum + ys.length * z.length≤16777216 then some (.str (Str.join z ys)) else none
  | none=>none
 | _,_=>none
theorem rF {o e:Expr} {fo fe:FE} {apos cpos:Pos} (ho:DE X o fo) (he:DE X e fe)
  (hbase:attributeBase o "join" X.env (eval o X.env)=eval o X.env:=by rfl)
  (hfew:((backTo cpos (starEach [e] X.env)).all (fun x=>!x.1) && (backToKw cpos (keywordEach [] X.env)).all (fun x=>x.1.isSome)
   && decide (([e]:List Expr).length + ([]:List Keyword).length + (if ([]:List Keyword).isEmpty then 0 else 1) < 30))=true:=by exact hZ rfl)
  (hline:(apos.endLine == cpos.line)=true:=by rfl) (hse:starEach [e] X.env=(false,eval e X.env)::starEach [] X.env:=by exact bc rfl) (hplain:(backTo cpos (starEach [] X.env)).any (·.1)=false:=by exact bE rfl) :
  DE X (.Call (.Attribute o "join" apos) [e] [] cpos) (ag g0 fo fe):=by
 refine ⟨?_⟩
 refine aX (gh PySem.F.plainAttrs_str PySem.F.slot_str_join PySem.F.type_str_join (mt_joinG.or Am) ho.pe (bF he.pe cj hse) hbase hfew hline hse hplain) fun σ H Q=>?_
 rintro ⟨O,ts,ρ,T,w,T',hc,re,e,q⟩
 obtain ⟨w1,T1,e1,e⟩:=aA e
 obtain ⟨w2,T2,e2,e⟩:=aA e
 obtain ⟨x,y,d,h1,h2,h3,rfl,rfl⟩:=f6 e
 unfold g0 at h3
 refine ⟨O,ts,ρ,T,w1,T1,hc,re,e1,fun v1 H1 s1 hc1 r1=>?_⟩
 split at h3
 ·rename_i z xs
  split at h3
  ·rename_i ys hy
   split at h3
   ·rename_i hz
    cases h3
    have ev:=vm r1 h1
    subst ev
    refine ⟨rfl,O,ts,ρ,T1,w2,T',hc1,re.mono hc s1,e2,fun v2 H2 s2 hc2 r2=>?_⟩
    obtain ⟨a,vs,rfl,t,r⟩:=(hc2.view r2 h2).lst
    rw [iA r hy] at t
    exact .inl ⟨z,a,ys,rfl,rfl,t,hz,q _ H2 (s1.trans s2) hc2 (.str _)⟩
   ·cases h3
  ·cases h3
 ·rename_i z xs
  split at h3
  ·rename_i ys hy
   split at h3
   ·rename_i hz
    cases h3
    have ev:=vm r1 h1
    subst ev
    refine ⟨rfl,O,ts,ρ,T1,w2,T',hc1,re.mono hc s1,e2,fun v2 H2 s2 hc2 r2=>?_⟩
    obtain ⟨a,vs,rfl,t,r⟩:=(hc2.view r2 h2).tup
    have t:=t.sq
    rw [iA r hy] at t
    exact .inr ⟨z,a,ys,rfl,rfl,t,hz,q _ H2 (s1.trans s2) hc2 (.str _)⟩
   ·cases h3
  ·cases h3
 ·cases h3
end
end D
namespace L2
open PySem PySem.Spec PyProof.Rows
structure CSn (osc:Scope) (N:List Str) (xs:List Str) (scope:Scope) (N':List Str):Prop where
 kind:scope.kind=.function
 nocell:∀ y∈scope.names,y.2≠.cell
 names:∀ y∈scope.names,y.2=.local→scope.names.lookup y.1=some .local
 hx:∀ x∈xs,scope.names.lookup x=some .local
 only:∀ y∈scope.names,y.2=.local→y.1∈xs∨y.1 = ".0"
 free:∀ y∈scope.names,y.2=.free→osc.names.lookup y.1=some .cell∨osc.names.lookup y.1=some .free
 nd:(xs++N').Nodup
 n0:(".0" : Str)∉N'
 len:N'.length=N.length
 rel:∀ p∈N'.zip N,p.1=p.2∨∀ q∈scope.names,q.1≠p.1
section
variable {X:Cx} {pins:List (Addr×Obj)} {σ:St} {H:Hp} {s:Shared} {xs:List Str} {scope:Scope} {N':List Str}
end
section
variable {X:Cx} {xs:List Str} {scope:Scope} {N':List Str} {tg elt iter:Expr} {ifs:List Expr} {pos:Pos} {wi:TI} {g:TG} {te:TE} {tt:TT}
end
end L2
namespace D
open PySem PySem.Spec PyProof.Rows L2
theorem rV {X:Cx} {pins:List (Addr×Obj)} {σ:L2.St} {H:Hp} {s:Shared} {h':Heap} {t':Nat} {fp:List Addr} (I:Inv X pins σ H s) (k:∀ b o,b∉fp→s.heap.get? b=some o→h'.get? b=some o) (hf:∀ b∈fp,c8 X pins H b):Inv X pins σ H { s with heap:=h',toks:=t' }:=by
 have nit:∀ b u,H b=some u→b∉fp:=fun b u e z=>by rw [(hf b z).1] at e; cases e
 have hL:X.env.locals∉fp:=fun z=>(hf _ z).2.1 rfl
 refine I.step (g':=s.gens) (d':=s.drawn) (ch:=fp) (fun b hb=>?_) (fun b o _ _ hc e _=>k b o hc e) (fun b o _ _ hc e _=>⟨o.slots,k b o hc e⟩) (fun _ _ _ _ n=>n)
  (fun b o hc e=>⟨o,k b o hc e⟩) (fun _ _ e=>e) (fun _ _ _ e=>e) (fun b ps e=>⟨#[],by rw [e]; simp⟩) (fun m hm=>?_) (fun b u e=>?_) I.bare
 ·obtain ⟨_,f1,_,f3,f4,f5⟩:=hf b hb
  exact ⟨f3,f1,f4,f5⟩
 ·obtain ⟨o,es,ep,ho,r⟩:=hm
  exact ⟨o,es,ep,k _ o hL ho,r⟩
 ·refine (I.hok b u e).stay (fun c v hc q=>k c v ?_ q) (fun _ q=>q) fun _ _ q=>q
  rcases hc with z | z
  ·rw [z]; exact nit b u e
  ·exact nit c _ z
section
variable {X:Cx} {pos:Pos}
end
section
variable {X:Cx}
variable {pos:Pos} {e e':Expr} {fe fk:FE}
theorem Fy {e f:Expr} {env:Env} {cpos:Pos} (h:noStar e=true) (h2:noStar f=true):((backTo cpos (starEach [e,f] env)).all (fun x=>!x.1) && (backToKw cpos (keywordEach [] env)).all (fun x=>x.1.isSome)
   && decide (([e,f]:List Expr).length + ([]:List Keyword).length + (if ([]:List Keyword).isEmpty then 0 else 1) < 30))=true:=by
 rw [yS h,kh h2]
 rfl
end
section
variable {K:Frag} {O₀:Addr→Prop} {H₀:Hp} {F:List ((Addr→Prop)×Hp)} {ts:List Addr} {O A:Addr→Prop} {H H1:Hp} {σ:L2.St} {ρ:Rho} {T T1:Tp}
theorem RS.widen (r:RS K O₀ H₀ F ts O H σ ρ T) (s:SameX ts H H1) (hA:∀ b,A b→H b=none∧¬ O b) (c:HC K (fun b=>O b∨A b) ts H1 T1):RS K O₀ H₀ F ts (fun b=>O b∨A b) H1 σ ρ T1:=by
 have le:Le O H (fun b=>O b∨A b) H1:=fun a o n e=>⟨fun z=>z.elim n fun z=>(by rw [(hA a z).1] at e; cases e),s a o (fun z=>n (r.hc.own a z)) e⟩
 refine ⟨c,fun i w e=>?_,fun b hb=>.inl (r.sub b hb),r.ots,r.same.trans s,r.fresh,r.dist,fun f hf=>(r.frs f hf).trans le,r.len⟩
 obtain ⟨v,h1,h2⟩:=r.re i w e
 refine ⟨v,h1,?_⟩
 cases w with
 | d x=>exact Rep.mono le h2
 | tp k=>exact h2
 | loc ys=>
  obtain ⟨a,ea,m1,m2,m3⟩:=h2
  exact ⟨a,ea,.inl m1,m2,m3.mono (fun o q=>s _ _ m2 q) le⟩
theorem RS.hold {i:Nat} {a:Addr} {xs:PyData} (r:RS K O₀ H₀ F ts O H σ ρ T) (ha:O a) (nt:a∉ts) (hf:H₀ a=none∧¬ O₀ a) (nh:∀ (j:Nat) (ys:PyData),ρ[j]? = some (some (W.loc ys))→σ[j]? = some (some (V.ref a))→False) (rv:OwnAt K O H a xs) :
  RS K O₀ H₀ F ts O H (σ.set i (some (.ref a))) (ρ.set i (some (.loc xs))) T:=by
 refine ⟨r.hc,fun j w e=>?_,r.sub,r.ots,r.same,fun j ys b e1 e2=>?_,fun j k ys zs v e1 e2 e3 e4=>?_,r.frs,by simp [r.len]⟩
 ·by_cases z:i=j
  ·subst z
   have hl:i < ρ.length:=by
    have:=(List.getElem?_eq_some_iff.mp e).1
    simpa using this
   rw [List.getElem?_set_self hl] at e
   cases e
   exact ⟨.ref a,by rw [List.getElem?_set_self (by rw [r.len]; exact hl)],a,rfl,ha,nt,rv⟩
  ·rw [List.getElem?_set_ne z] at e
   obtain ⟨x,h1,h2⟩:=r.re j w e
   exact ⟨x,by rw [List.getElem?_set_ne z]; exact h1,h2⟩
 ·by_cases z:i=j
  ·subst z
   have hl:i < ρ.length:=by
    have:=(List.getElem?_eq_some_iff.mp e1).1
    simpa using this
   rw [List.getElem?_set_self (by rw [r.len]; exact hl)] at e2
   cases e2
   exact hf
  ·rw [List.getElem?_set_ne z] at e1 e2
   exact r.fresh j ys b e1 e2
 ·by_cases z:i=j
  ·by_cases z':i=k
   ·rw [← z,← z']
   ·exfalso
    subst z
    have hl:i < ρ.length:=by
     have:=(List.getElem?_eq_some_iff.mp e1).1
     simpa using this
    rw [List.getElem?_set_self (by rw [r.len]; exact hl)] at e3
    cases e3
    rw [List.getElem?_set_ne z'] at e2 e4
    exact nh k zs e2 e4
  ·by_cases z':i=k
   ·exfalso
    subst z'
    have hl:i < ρ.length:=by
     have:=(List.getElem?_eq_some_iff.mp e2).1
     simpa using this
    rw [List.getElem?_set_self (by rw [r.len]; exact hl)] at e4
    cases e4
    rw [List.getElem?_set_ne z] at e1 e3
    exact nh j ys e1 e3
   ·rw [List.getElem?_set_ne z] at e1 e3
    rw [List.getElem?_set_ne z'] at e2 e4
    exact r.dist j k ys zs v e1 e2 e3 e4
theorem RS.keep (r:RS K O₀ H₀ F ts O H σ ρ T) (hA:∀ b,A b→O b):HC K (fun b=>O₀ b∨A b) ts H T∧Le O H (fun b=>O₀ b∨A b) H:=by
 have le:Le O H (fun b=>O₀ b∨A b) H:=fun a o n e=>⟨fun z=>n (z.elim (r.sub a) (hA a)),e⟩
 exact ⟨⟨fun b hb=>.inl (r.ots b hb),fun b hb=>r.hc.trk b (hb.elim (r.sub b) (hA b)),r.hc.nd,r.hc.len,fun i a xs e1 e2=>(r.hc.tape i a xs e1 e2).mono (fun _ h=>h) le⟩,le⟩
end
def nK (i j:Nat) (ρ:Rho) (T:Tp) (o1 o2:Option (Option W)):Option ((Fl×Rho)×Tp):=match o1,o2 with
 | some (some (.loc x)),some (some (.loc y))=>if i=j then none else some ((.ro (.tuple [x,y]),ρ),T)
 | _,_=>none
def jA (i j:Nat):FS:=fun ρ T=>nK i j ρ T ρ[i]? ρ[j]?
section
variable {X:Cx} {pos:Pos}
theorem AF {i j:Nat} {x y:Str} {k:Nat} {px py tp:Pos} (hN:X.N[i]? = some x:=by rfl) (hv:Vis X.env.scope x:=by first | exact Or.inl rfl | exact Or.inr (Or.inl rfl) | exact Or.inr (Or.inr rfl)) (hd:(x == ("__debug__" : Str))=false:=by decide) (hcd:(x == ("__classdict__" : Str))=false:=by decide)
  (hN2:X.N[j]? = some y:=by rfl) (hv2:Vis X.env.scope y:=by first | exact Or.inl rfl | exact Or.inr (Or.inl rfl) | exact Or.inr (Or.inr rfl)) (hd2:(y == ("__debug__" : Str))=false:=by decide) (hcd2:(y == ("__classdict__" : Str))=false:=by decide)
  (hs1:starEach [.Name x px,.Name y py] X.env=(false,eval (.Name x px) X.env)::starEach [.Name y py] X.env:=by exact bc rfl) (hs2:starEach [.Name y py] X.env=(false,eval (.Name y py) X.env)::starEach [] X.env:=by exact bc rfl) :
  DS X (.Return (some (.Tuple [.Name x px,.Name y py] k tp)) pos) (jA i j):=by
 refine ⟨?_⟩
 refine bV (nM (nN (bF (pv i hN hv hd hcd) (bF (pv j hN2 hv2 hd2 hcd2) cj hs2) hs1))) fun D σ H=>?_
 rintro ⟨O₀,H₀,F,ts,O,ρ,T,fl,ρ',T',rs,e,q⟩
 unfold jA nK at e
 split at e
 ·rename_i x1 y1 h1 h2
  split at e
  ·cases e
  ·rename_i hij
   cases e
   obtain ⟨v1,k1,a,rfl,a2,a3,a4⟩:=rs.re i _ h1
   obtain ⟨v2,k2,b,rfl,b2,b3,b4⟩:=rs.re j _ h2
   have hab:a≠b:=fun z=>hij (rs.dist i j x1 y1 (.ref a) h1 h2 k1 (by rw [z]; exact k2))
   refine ⟨_,k1,_,k2,by show (2:Nat)≤sizeLine; decide,fun p hp=>?_⟩
   have nO:=rs.hc.fresh hp
   have np:∀ {c:Addr},O c→c≠p:=fun hc z=>nO (z ▸ hc)
   obtain ⟨c1,le1⟩:=rs.keep (A:=fun c=>c=a∨c=b) (fun c hc=>by rcases hc with rfl | rfl <;> assumption)
   have s2:SameX ts H (upd H p (.tup [.ref a,.ref b])):=.new hp _
   have le2:=c1.leNew hp (.tup [.ref a,.ref b])
   refine q (fun c=>c=a∨c=b) (.ref p) _ (rs.same.trans s2) (fun c hc=>?_) (c1.new hp _) ⟨p,a,b,rfl,hab,fun c=>Iff.rfl,c1.fresh hp,aZ,?_,?_⟩
   ·rcases hc with rfl | rfl
    ·exact rs.fresh i x1 _ h1 k1
    ·exact rs.fresh j y1 _ h2 k2
   ·exact a4.mono (fun o h=>by rw [aK (np a2)]; exact h) (le1.trans le2)
   ·exact b4.mono (fun o h=>by rw [aK (np b2)]; exact h) (le1.trans le2)
 ·cases e
end
def kZ (o:Option ((Fl×Rho)×Tp)):Option (PyData×Tp):=bnd o fun p T=>match p with
 | (.ro x,_)=>some (x,T)
 | _=>none
def gW (N:Nat) (f:FS):FnM:=fun ws T=>if dW ws=true then kZ (f (ws.map some++List.replicate (N - ws.length) none) T) else none
inductive SpOP (K:Frag) (n:Nat) (m:FnM) (vs:List V) (H:Hp) (Q:VK):Prop where
 | mk (O:Addr→Prop) (ts:List Addr) (T:Tp) (ws:List W) (x:PyData) (T':Tp) (hc:HC K O ts H T) (r:gm K O ts H vs ws) (hl:ws.length=n) (e:m ws T=some (x,T'))
  (q:∀ (A:Addr→Prop) v H',SameX ts H H'→(∀ b,A b→H b=none∧¬ O b)→HC K (fun b=>O b∨A b) ts H' T'→OwnV K (fun b=>O b∨A b) A H' v x→Q v H'):SpOP K n m vs H Q
def spO (K:Frag) (n:Nat) (m:FnM):Sp:=fun vs H Q _=>SpOP K n m vs H Q
theorem vN {P:Program} {w:World} {K:Frag} {mg:Str→Option Value} {base:Heap} {x qual:Str} {st:Stmt} {f:Addr} {fd:FuncData} {N ps:List Str} {k:Nat} {m:FS} (F:Fun K x qual st f fd) (S:FnScope N ps (aE st))
  (hbody:∀ (cdv:Value) (A:Around) (outer:List Env) (s:Shared) (H:Hp) (E:XK),Room k (A.deeper (envOfC qual (aE st) s.heap.objs.size f cdv))→DSs (gs CX0 P w K mg base N qual (aE st) f cdv A outer s H E).nox (cG st) m) :
  FnOk P w K mg base CX0 (k + 1) f fd ps (spO K ps.length (gW N.length m)):=by
 refine F.ok S (fun vs H Q E h=>?_) (fun cdv A outer s H vs Q E hr h=>⟨_,(hbody cdv A outer s H E hr).pe,?_⟩)
 ·obtain ⟨O,ts,T,ws,x,T',hc,rw',hl,_⟩:=h
  rw [← hl]
  exact Paired.length rw'
 obtain ⟨O,ts,T,ws,x,T',hc,rw',hl,e,q⟩:=h
 unfold gW at e
 split at e
 ·rename_i hn
  obtain ⟨⟨fl,ρ'⟩,T1,e1,e⟩:=aA e
  have hlen:vs.length=ws.length:=Paired.length rw'
  have noL:∀ {i:Nat} {xs:PyData},(ws.map some++List.replicate (N.length - ws.length) none)[i]? = some (some (W.loc xs))→False:=fun {i xs} e=>j6 hn (List.mem_of_getElem? (j5 e))
  refine ⟨O,H,[],ts,O,_,T,fl,ρ',T1,⟨hc,fun i u e=>?_,fun _ h=>h,hc.own,.refl _ _,fun i xs a e1 _=>(noL e1).elim,fun i j xs ys v e1 _ _ _=>(noL e1).elim,fun f hf=>absurd hf (by simp),by simp [L2.start,hlen]⟩,e1,?_⟩
  ·obtain ⟨v,h1,h2⟩:=mf rw' (j5 e)
   refine ⟨v,?_,h2⟩
   unfold L2.start
   have hi:i < vs.length:=(List.getElem?_eq_some_iff.mp h1).1
   rw [List.getElem?_append_left (by simpa using hi),List.getElem?_map,h1]
   rfl
  ·cases fl with
   | ro y=>cases e; exact q
   | _=>cases e
 ·cases e
section
variable {X:Cx} {pos:Pos}
end
section
variable {X:Cx}
abbrev FP:=Rho→Tp→Option (List (Str×PyData)×Tp)
def EO (l:List (Str×PyData)):List (PyData×PyData):=l.map fun p=>(.str p.1,p.2)
def Fs (p:Str×V):Key×V:=(Sum.inr p.1,p.2)
structure DP (X:Cx) (pos:Pos) (keys:List (Option Expr)) (values:List Expr) (g:FP):Prop where
 ex:∃ trs,PPs X pos keys values trs∧∀ (σ:L2.St) (H:Hp) (Q:List (V×V)→Hp→Prop) (O:Addr→Prop) (ts:List Addr) (ρ:Rho) (T:Tp) (l:List (Str×PyData)) (T':Tp),HC X.K O ts H T→RelE X.K O ts H σ ρ→g ρ T=some (l,T') →
  (∀ (kvs:List (Str×V)) (H':Hp),SameX ts H H'→HC X.K O ts H' T'→kvs.map (·.1)=l.map (·.1)→RepK X.K O H' (kvs.map Fs) (EO l)→Q (kvs.map fun p=>(V.str p.1,p.2)) H')→ny trs σ H Q
end
section
variable {X:Cx} {pos:Pos}
theorem qd:MtM X "dict.clear" (fun x vs H Q=>∃ (a:Addr) (kvs:List (Key×V)),x=.ref a∧vs=[]∧H a=some (.dK kvs)∧Q .non (upd H a (.dK []))):=by
 intro pins s σ H x vs v us Q I rx rv h
 obtain ⟨a,kvs,rfl,rfl,hA,q⟩:=h
 cases rx
 have hus:=rv.zero
 subst hus
 obtain ⟨za,hda,va,ra,da⟩:=u6 I.hok hA
 refine call_meetsIn PySem.F.slot_dict_clear da.typeIs PySem.F.entry_dict_clear (PySem.F.args_dict_clear_1 _) (meets_dict_clear (bu X.prog X.w) a) ⟨va,da,by rw [← ra.length]; exact za,fun h' d1 hs=>?_⟩
 have he:∃ q,h'.get? a=some q:=let ⟨q,_,_,hq,_⟩:=d1; ⟨q,hq⟩
 exact ⟨.non,_,ng I (by rw [hA]; exact True.intro) hs he (nX (kvs:=[]) (by simp) hda .nil d1),rfl,q⟩
end
section
variable {X:Cx} {pos:Pos} {rest:List Stmt} {fr:FS}
end
section
variable {X:Cx} {pos:Pos}
end
section
set_option maxRecDepth 100000
variable {prog:Program} {w:World} {K:Type} [DecidableEq K] {knd:KeyKind prog w K} {A:Around} {E:Value→Shared→Prop} {s:Shared}
end
section
variable {X:Cx}
end
section
set_option maxRecDepth 100000
variable {prog:Program} {w:World} {A:Around} {E:Value→Shared→Prop} {s:Shared}
end
section
set_option maxRecDepth 100000
variable {X:Cx}
end
section
variable {X:Cx}
end
section
set_option maxRecDepth 100000
variable {X:Cx}
end
end D
namespace XE
open PySem PySem.Spec PyProof.Rows L2
abbrev vE:List Value:=[.type "ValueError",.type "Exception",.type "BaseException",.type "object"]
def XCl (K:Frag) (C:Addr) (tl:List Value):Prop:=∃ nm q N bs sn sub ab col dd k0 k1 k2 k3 k5,K.lookup C=some (excClassObj nm q C N bs tl true sn sub ab col dd k0 k1 k2 k3 k5 "ValueError.__new__")∧PySem.W.nsOkIn K N=true
section
variable {prog:Program} {w:World} {A:Around} {E:Value→Shared→Prop} {h:Heap} {g:Array GenState} {d:Drawn} {t:Nat} {os:OsState} {K:Frag} {C R fI:Addr}
end
end XE
namespace XE
open PySem PySem.Spec PyProof.Rows L2
def XAt (e C:Addr) (od:Option Addr):Heap→Prop:=fun h=>∃ t,h.get? e=some { cls:=.ref C,dict:=od,data:=.fields #[.ref t,.none,.none,.none,.bool false,.none] }
section
variable {X:Cx} {C R:Addr}
end
section
open Builtin Builtin.ObjectAttr
variable {prog:Program} {w:World} {A:Around} {E:Value→Shared→Prop} {h:Heap} {g:Array GenState} {d:Drawn} {t:Nat} {os:OsState} {K:Frag} {C R e:Addr} {name:Str} {v:Value} {vs:Array Value}
end
end XE
namespace XE
open PySem PySem.Spec PyProof.Rows L2
section
variable {X:Cx} {C R:Addr}
end
end XE
namespace XE
open PySem PySem.Spec PyProof.Rows L2
def spI (C:Addr) (f:Str):Sp:=fun vs H Q _=>∃ a x,vs=[.ref a,.str x]∧H a=some (.ext (XAt a C none))∧(reprText x).length + 1000≤sizeLine ∧
 ∀ dx,H dx=none→dx≠a→Q .non (upd (upd H dx (.xd [(f,.str x)])) a (.ext (XAt a C (some dx))))
structure XIni (P:Program) (w:World) (K:Frag) (mg:Str→Option Value) (base:Heap) (C R:Addr) (f:Str) (k:Nat):Prop where
 ex:∃ fI fd ps,FnOk P w K mg base CX0 k fI fd ps (spI C f)∧Binds K fd ps []∧PySem.W.findIn K (.ref C) "__init__" = some (some (.ref fI))∧PySem.W.isFn K (.ref fI)=true
 c:XCl K C (.ref R::vE)
 r:XCl K R vE
 ri:PySem.W.ownIn K "__init__" (.ref R)=some none
 kp:PySem.W.keepIn K (.ref C)=true
section
variable {X:Cx} {C R:Addr} {f:Str} {k:Nat}
end
end XE
namespace XE
open PySem PySem.Spec PyProof.Rows L2
structure Kp (xs fs:List Addr) (h h':Heap):Prop where
 keep:∀ b o,h.get? b=some o→b∉xs→b∉fs→h'.get? b=some o
 slot:∀ b o,h.get? b=some o→b∉xs→b∈fs→∃ sl,h'.get? b=some { o with slots:=sl }
 there:∀ b o,h.get? b=some o→∃ o',h'.get? b=some o'
def XR (e C dx:Addr) (tb:Value) (h:Heap):Prop:=∃ t,h.get? e=some { cls:=.ref C,dict:=some dx,data:=.fields #[.ref t,tb,.none,.none,.bool false,.none] }
def TB (T:Addr) (fl:Value) (h:Heap):Prop:=∃ oT ts,h.get? T=some oT∧oT.data=.fields ts∧ts[3]? = some fl
section
variable {M:Model} {A:Around} {E:Value→Shared→Prop} {s:Shared} {base:Heap} {env:Env} {outer:List Env} {L e C dx T:Addr}
end
end XE
namespace XE
open PySem PySem.Spec PyProof.Rows L2
def forget (a:Addr) (H:Hp):Hp:=fun b=>if b=a then none else H b
theorem j8 {a b:Addr} {H:Hp} (h:b≠a):forget a H b=H b:=by unfold forget; rw [if_neg h]
theorem jY {a:Addr} {H:Hp}:forget a H a=none:=by unfold forget; rw [if_pos rfl]
theorem j4 {a:Addr} {H:Hp} {o:HO} (h:H a=none):forget a (upd H a o)=H:=by
 funext b
 unfold forget upd
 by_cases e:b=a
 ·rw [if_pos e,e,h]
 ·rw [if_neg e,if_neg e]
section
variable {P:Program} {w:World} {K:Frag} {mg:Str→Option Value} {base:Heap} {N:List Str} {qual:Str} {scope:Scope} {f C R:Addr} {cdv:Value} {A:Around} {outer:List Env} {s0:Shared} {H0:Hp} {E:XK}
end
end XE
namespace XE
open PySem PySem.Spec PyProof.Rows L2
section
variable {X:Cx} {pins:List (Addr×Obj)} {σ:L2.St} {H:Hp} {s:Shared}
theorem name_goes {A:Around} {E:Value→Shared→Prop} {i:Nat} {n:Str} {pos:Pos} {Q:Unit→Shared→Prop} (I:L2.Inv X pins σ H s) (hN:X.N.Nodup) (hi:X.N[i]? = some n) (hl:X.env.scope.names.lookup n=some .local)
  (k:∀ s',L2.Inv X pins (σ.set i none) H s'→Q () s'):wpAny (model X.prog X.w) A (do bindName X.env n .none; unbindBehindTheSuite X.env n pos) Q E s:=by
 obtain ⟨m,hn,hm⟩:=id I.loc
 have hp:(X.env.scope.kind == .class || (X.env.scope.kind == .module && X.env.locals != X.env.globals))=false:=by rw [I.ok.kind]; rfl
 have hk:X.env.kindOf n=some .local:=hl
 refine wpAny_bind (wpAny_bindName (wpAny_storeName_local hk hn (fun h1 hn1 hs1=>?_) hp))
 unfold unbindBehindTheSuite
 refine wpAny_onRaise ?_
 unfold unbindName
 refine wpAny_bind (wpAny_point (wpAny_bind ?_))
 unfold deleteName
 simp only [hk,hp]
 rw [if_neg (by decide)]
 refine wpAny_bind (wpAny_nsDel_keeps hn1 fun h2 v hn2 hs2=>?_)
 simp only [if_true,Option.isSome_some,Bool.not_true,Bool.false_eq_true,if_false]
 refine wpAny_pure (wpAny_point (k _ ?_))
 have hs:=hs1.trans hs2
 have cne:=I.cne
 obtain ⟨oL,_,_,hoL,_⟩:=id hn
 have hiσ:i < σ.length:=by rw [I.len]; exact (List.getElem?_eq_some_iff.mp hi).1
 refine ⟨I.ok,I.os,I.bare,⟨fun b o e n hb hx=>?_,fun b o e n hb hx=>?_,I.base.free,fun b o e hx=>?_,I.base.tups,I.base.frzs,I.base.tbls⟩,⟨_,hn2,fun j y v' e1 e2 e3=>?_⟩,fun y c e=>?_,I.free,I.freeC,fun p hp=>?_,fun b ob e=>?_,by simpa using I.len⟩
 ·exact (hs.2 b (Nat.ne_of_lt (Nat.lt_of_lt_of_le (Heap.lt_size e) I.ok.above))).trans (I.base.keep b o e n hb hx)
 ·obtain ⟨sl,e1⟩:=I.base.slot b o e n hb hx
  exact ⟨sl,(hs.2 b (Nat.ne_of_lt (Nat.lt_of_lt_of_le (Heap.lt_size e) I.ok.above))).trans e1⟩
 ·obtain ⟨o',e1⟩:=I.base.there b o e hx
  exact ⟨o',(hs.2 b (Nat.ne_of_lt (Nat.lt_of_lt_of_le (Heap.lt_size e) I.ok.above))).trans e1⟩
 ·by_cases hj:j=i
  ·subst hj
   rw [List.getElem?_set_self hiσ] at e2
   cases e2
  ·rw [List.getElem?_set_ne (Ne.symm hj)] at e2
   obtain ⟨u',r',q⟩:=hm j y v' e1 e2 e3
   refine ⟨u',r',?_⟩
   rcases q with ⟨k,e⟩ | ⟨k,c,e,z⟩
   ·refine .inl ⟨k,?_⟩
    have:y≠n:=fun e=>hj (mH hN e1 (e ▸ hi))
    simp [this,e]
   ·exact .inr ⟨k,c,e,z.sameBut hs (cne y c e)⟩
 ·obtain ⟨w',z⟩:=I.cell y c e
  exact ⟨w',z.sameBut hs (cne y c e)⟩
 ·obtain ⟨e,n,ne,nf,d⟩:=I.pin p hp
  exact ⟨(hs.2 p.1 ne).trans e,n,ne,nf,d⟩
 ·refine (I.hok b ob e).stay (fun c w' hc q=>(hs.2 c ?_).trans q) (fun _ q=>q) fun _ _ q=>q
  rintro rfl
  rcases hc with rfl | hc
  ·rw [I.free] at e; cases e
  ·rw [I.free] at hc; cases hc
theorem yf {A:Around} {v:Option Value}:(A.mark v).frames=A.frames:=rfl
end
end XE
namespace XE
open PySem PySem.Spec PyProof.Rows L2
section
variable {X:Cx} {C R fa:Addr} {k:Nat} {fd:FuncData} {ps:List Str} {sp:Sp}
end
end XE
namespace XE
open PySem PySem.Spec PyProof.Rows L2
section
variable {prog:Program} {w:World} {A:Around} {E:Value→Shared→Prop} {h:Heap} {g:Array GenState} {d:Drawn} {t:Nat} {os:OsState} {K:Frag} {C R x:Addr} {ox:Obj} {od:Option Obj} {name:Str}
structure XIs (K:Frag) (C:Addr):Prop where
 bm:PySem.W.mroIn K C (.type "BaseException")=some true
 gt:PySem.W.findIn K (.ref C) "__getattr__" = some none
 ga:PySem.W.findIn K (.ref C) "__getattribute__" = some (some (.builtin "BaseException.__getattribute__"))
 hc:(PySem.W.clsIn K C).isSome=true
 ca:PySem.W.findIn K (.ref C) "__class__" = some (some (.builtin "object.__class__"))
 hn:PySem.W.specialIn K (.builtin "object.__class__") "__get__" = some (some (.builtin "getset_descriptor.__get__"))
 tk:PySem.W.takesIn K (.builtin "object.__class__")=some true
 hm:PySem.W.mroIn K C (.type "object")=some true
end
end XE
namespace XE
open PySem PySem.Spec PyProof.Rows L2
section
variable {X:Cx} {C e dx:Addr} {oe:Obj}
structure Cau (X:Cx) (C e dx:Addr) (oe:Obj):Prop where
 pin:(e,oe)∈X.pn
 cls:oe.cls=.ref C
 dict:oe.dict=some dx
 data:∃ vs,oe.data=.fields vs
 is:XIs X.K C
 hd:PySem.W.hasDictIn X.K C=true
end
end XE
namespace XE
open PySem PySem.Spec PyProof.Rows L2 D
structure XB (K:Frag) (C R:Addr) (f:Str) (Ds:List Addr):Prop where
 c:XCl K C (.ref R::vE)
 r:XCl K R vE
 ri:PySem.W.ownIn K "__init__" (.ref R)=some none
 kp:PySem.W.keepIn K (.ref C)=true
 is:XIs K C
 hd:PySem.W.hasDictIn K C=true
 nn:PySem.W.findIn K (.ref C) f=some none
 sa:PySem.W.findIn K (.ref C) "__setattr__" = some (some (.builtin "object.__setattr__"))
 rd:PySem.W.readsIn K R (.type "type")=true
 fc:PySem.W.findCls K (.ref R) (.type "type") "__init__" = some (.val (.builtin "ValueError.__init__"))
 kC:PySem.W.kitOne K (.ref C) (.ref C)=some true
 kV:PySem.W.kitOne K (.ref C) (.type "ValueError")=some true
 kD:PySem.W.kitAny K (.ref C) (Ds.map Value.ref)=some false
def Er:Obj→Bool
 | ⟨_,_,.dict es _,_⟩=>es.toList.all fun e=>match e.key with
  | .str _ _=>true
  | _=>false
 | _=>false
end XE
namespace XE
open PySem PySem.Spec PyProof.Rows L2
section
variable {X:Cx} {C R:Addr}
end
end XE
namespace XE
open PySem PySem.Spec PyProof.Rows L2 D
def spG (P:V→Prop) (C:Addr) (f:Str):Sp:=fun vs H Q _=>∃ a v,vs=[.ref a,v]∧H a=some (.ext (XAt a C none))∧P v ∧
 ∀ dx,H dx=none→dx≠a→Q .non (upd (upd H dx (.xd [(f,v)])) a (.ext (XAt a C (some dx))))
structure XIniG (A:V→Prop) (P:Program) (w:World) (K:Frag) (mg:Str→Option Value) (base:Heap) (C R:Addr) (f:Str) (k:Nat):Prop where
 ex:∃ fI fd ps,FnOk P w K mg base CX0 k fI fd ps (spG A C f)∧Binds K fd ps []∧PySem.W.findIn K (.ref C) "__init__" = some (some (.ref fI))∧PySem.W.isFn K (.ref fI)=true
 c:XCl K C (.ref R::vE)
 r:XCl K R vE
 ri:PySem.W.ownIn K "__init__" (.ref R)=some none
 kp:PySem.W.keepIn K (.ref C)=true
section
variable {X:Cx} {C R:Addr} {f:Str} {k:Nat}
end
end XE
namespace XE
open PySem PySem.Spec PyProof.Rows L2 D
end XE
namespace D
open PySem PySem.Spec PyProof.Rows L2
section
variable {X:Cx}
end
section
variable {X:Cx}
variable {pos:Pos} {e:Expr} {fe:FE}
end
section
variable {prog:Program} {w:World} {A:Around} {E:Value→Shared→Prop}
end
section
variable {X:Cx} {pos:Pos}
def nums2 (lo:Int) (n:Nat):List PyData:=(List.range n).map fun (k:Nat)=>PyData.int (lo + (k:Int) * 2)
end
section
variable {X:Cx} {pos:Pos} {e:Expr} {fe:FE}
end
section
variable {X:Cx}
end
section
variable {X:Cx} {pos:Pos} {e:Expr} {fe:FE}
end
section
variable {X:Cx} {pos:Pos}
def nH (i:Nat) (ρ:Rho) (x:PyData) (T:Tp):Option ((Fl×Rho)×Tp):=match x with
 | .list xs=>some ((.nx,ρ.set i (some (.loc (.list xs)))),T)
 | .none=>some ((.nx,ρ.set i (some (.d .none))),T)
 | _=>none
def k6 (i:Nat) (m:FnM) (g:FA):FS:=fun ρ T=>bnd (g ρ T) fun ws T1=>bnd (m ws T1) (nH i ρ)
theorem AD {i:Nat} {name x:Str} {ps:List Str} {kk:Nat} {m:FnM} {e:Expr} {es:List Expr} {g:FA} {p cpos pos':Pos} (F:Fn X.prog X.w X.K X.mg X.base name ps kk (spO X.K ps.length m)) (hr:Room kk X.A) (hg:Gl X name) (hN:X.N.Nodup) (ha:DA X (e::es) g) (hl:eW g ps.length) (hdb:(name == ("__debug__" : Str))=false:=by decide)
  (he:starEach (e::es) X.env=(false,eval e X.env)::starEach es X.env:=by exact bc rfl) (hpl:(backTo cpos (starEach es X.env)).any (·.1)=false:=by exact bE rfl) (hi:X.N[i]? = some x:=by rfl) (hx:Loc X.env.scope x:=by first | exact Or.inl rfl | exact Or.inr rfl)
  (hs:swapsWith (.Call (.Name name p) (e::es) [] cpos) (some (.Name x pos')) pos.line X.env=pure false:=by rfl) (hf:X.fn x=true∨X.env.scope.names.lookup x=some .local:=by first | exact .inl rfl | exact .inr rfl | assumption) :
  DS X (.Assign [.Name x pos'] (.Call (.Name name p) (e::es) [] cpos) pos) (k6 i m g):=by
 refine ⟨?_⟩
 refine bV (fY hN hi hx (jF F hr hg ha.pe hdb he hpl) hs hf) fun D σ H=>?_
 rintro ⟨O₀,H₀,F,ts,O,ρ,T,fl,ρ',T',rs,e,q⟩
 obtain ⟨ws,T1,e1,e⟩:=aA e
 obtain ⟨x0,T2,e2,e⟩:=aA e
 refine ⟨O,ts,ρ,T,ws,T1,rs.hc,rs.re,e1,fun vs H1 s1 hc1 r1=>?_⟩
 have rs1:=rs.step s1 hc1
 refine ⟨O,ts,T1,ws,_,_,hc1,by rw [List.append_nil]; exact r1,hl _ _ _ _ e1,e2,fun A v H2 s2 hA hc2 ov=>?_⟩
 have rs2:=rs1.widen s2 hA hc2
 cases x0 with
 | list xs=>
  cases e
  obtain ⟨a,rfl,hAA,oa⟩:=ov
  have hAa:=hA a ((hAA a).mpr rfl)
  have nta:a∉ts:=fun z=>hAa.2 (hc1.own a z)
  have h0:H₀ a=none:=by
   cases z:H₀ a with
   | none=>rfl
   | some o=>have:=rs1.same a o nta z; rw [hAa.1] at this; cases this
  exact q _ _ _ (rs2.hold (i:=i) (.inr ((hAA a).mpr rfl)) nta ⟨h0,fun z=>hAa.2 (rs1.sub a z)⟩ (fun j ys q1 q2=>by
   obtain ⟨v,h1,b,ea,h2,h3,h4⟩:=rs1.re j _ q1
   rw [q2] at h1
   cases h1
   cases ea
   obtain ⟨o',h5⟩:=h4.some
   rw [hAa.1] at h5
   cases h5) oa)
 | none=>
  cases e
  obtain ⟨rfl,hno⟩:=ov
  exact q _ _ _ (rs2.set (i:=i) (v:=.non) (w:=.d .none) .non fun _ z=>nomatch z)
 | _=>cases e
end
def EY (_ j:Int):Prop:=0 < j∧j < 18446744073709551616
def dZ:PyData→PyData→Option PyData:=iop fun i j=>if 0 < j∧j < 18446744073709551616 then some (.int (i / j)) else none
theorem Es {x y:Int} (h:y.natAbs < 18446744073709551616):Builtin.divisionGoesByPylong x y=false:=by
 refine PyProof.noPylong_of_log2 ?_
 by_cases h0:y.natAbs=0
 ·rw [h0]; decide +kernel
 ·have h30:y.natAbs.log2 < 64:=(Nat.log2_lt h0).mpr h
  omega
section
variable {X:Cx}
theorem Ae:OpR X (binaryOp .FloorDiv) (rI EY fun i j=>.int (i / j)):=opI fun i j _ _ _ _ _ hc q=>by
 have h1:(0:Int) < j:=hc.1
 have h2:j < 18446744073709551616:=hc.2
 exact floordiv_int (by omega) (by rw [Int.fdiv_eq_ediv_of_nonneg i (by omega)]; exact q) (.inl (Es (by omega)))
theorem jp:OpD X (binaryOp .FloorDiv) dZ:=⟨_,Ae,nE fun i j d e=>by
 split at e
 ·rename_i h; cases e; exact ⟨h,fun _ _=>.int _⟩
 ·cases e⟩
end
end D
namespace L2
open PySem PySem.Spec PyProof.Rows
section
variable {prog:Program} {w:World} {A:Around} {E:Value→Shared→Prop} {s:Shared}
end
section
variable {X:Cx} {e:Expr} {te:TE} {x y:Str} {p p' pos pos':Pos}
end
end L2
namespace D
open PySem PySem.Spec PyProof.Rows L2
def EA:PyData→Option PyData
 | .list xs=>some (.list xs.reverse)
 | _=>none
@[simp] theorem Hf {xs:List PyData}:EA (.list xs)=some (.list xs.reverse):=rfl
section
variable {X:Cx} {pos pos' p p':Pos} {e:Expr} {f:FE}
end
section
variable {X:Cx} {pos:Pos}
end
def dd:List Str→List Str
 | []=>[]
 | a::r=>if a∈r then dd r else a::dd r
def tK (ρ:Rho) (w:W) (T:Tp):Option ((Fl×Rho)×Tp):=match w with
 | .d (.list xs)=>some ((.ro (.list xs),ρ),T)
 | _=>none
def nW (f:FE):FS:=fun ρ T=>bnd (f ρ T) (tK ρ)
section
variable {X:Cx} {pos:Pos}
theorem AE {x:Str} {scope osc:Scope} {N N':List Str} {elt iter:Expr} {ifs:List Expr} {px cpos:Pos} {it:FI} {c:FT} {f:FE} (S:CS osc N x scope N') (hi:DI X (.Name x px) iter it)
  (he:∀ C s0 H0 ex,DE (bQ X x scope C s0 H0 ex N') elt f) (ht:∀ C s0 H0 ex,DTs (bQ X x scope C s0 H0 ex N') ifs c) (hc:X.calm=true:=by rfl) (hs:X.env.scope=osc:=by rfl) (hN:X.N=N:=by rfl)
  (hf:∀ v,foldedSetIterable iter X.env v=pure v:=by intro _; rfl):DS X (.Return (some (.ListComp elt [⟨.Name x px,iter,ifs,0⟩] scope cpos)) pos) (nW (b9 it c f)):=by
 refine ⟨?_⟩
 refine bV (nM (qX (wi:=lD X.K it) (tt:=liftT X.K c) (te:=lift X.K f) S hi.pe (fun C s0 H0 ex=>(he C s0 H0 ex).pe) (fun C s0 H0 ex=>(ht C s0 H0 ex).pe) hc hs hN hf)) fun D σ H=>?_
 rintro ⟨O₀,H₀,F,ts,O,ρ,T,fl,ρ',T',rs,e,q⟩
 obtain ⟨w,T0,e0,e⟩:=aA e
 obtain ⟨ds,T1,e1,e0⟩:=aA e0
 obtain ⟨ys,T2,e2,e0⟩:=aA e0
 cases e0
 have e':some ((Fl.ro (.list ys),ρ),T0)=some ((fl,ρ'),T'):=e
 cases e'
 refine ⟨O,ts,ρ,T,ds,T1,rs.hc,rs.re,e1,fun J H1 s1 hc1 ok hz=>?_⟩
 refine ni hc1 (rs.re.mono rs.hc s1) ok hz e2 fun vs H' s2 hc2 r2 p hp=>?_
 have rs1:=rs.step (s1.trans s2) hc2
 have nO:=rs1.hc.fresh hp
 have nt:p∉ts:=fun z=>nO (rs1.hc.own p z)
 have h0:H₀ p=none:=by
  cases z:H₀ p with
  | none=>rfl
  | some o=>rw [rs1.same p o nt z] at hp; cases hp
 have le:Le O H' (fun b=>O₀ b∨b=p) (upd H' p (.lst vs)):=fun b o n z=>by
  have nb:b≠p:=bN z hp
  exact ⟨fun y=>y.elim (fun y=>n (rs1.sub b y)) nb,by rw [aK nb]; exact z⟩
 refine q (fun b=>b=p) (.ref p) _ (rs1.same.trans (.new hp _)) (fun b hb=>by rw [hb]; exact ⟨h0,fun z=>nO (rs1.sub p z)⟩) ⟨fun b hb=>.inl (rs1.ots b hb),fun b hb=>?_,rs1.hc.nd,rs1.hc.len,fun j b ys q1 q2=>?_⟩ ⟨p,rfl,fun c=>Iff.rfl,vs,aZ,r2.mono le⟩
 ·by_cases z:b=p
  ·subst z; rw [aZ]; exact .inl ⟨_,rfl⟩
  ·rw [aK z]; exact rs1.hc.trk b (rs1.sub b (hb.resolve_right z))
 ·exact (rs1.hc.tape j b ys q1 q2).mono (fun o h=>by rw [aK (bN h hp)]; exact h) le
end
end D
namespace L2
open PySem PySem.Spec PyProof.Rows
section
variable {P:Program} {w:World} {A:Around} {E:Value→Shared→Prop} {s:Shared}
end
def keyV:Value→Str
 | .str k _=>k
 | _=>""
section
variable {P:Program} {w:World} {A:Around} {s:Shared}
end
section
set_option maxRecDepth 100000
variable {P:Program} {w:World} {A:Around} {E:Value→Shared→Prop} {s:Shared}
end
section
set_option maxRecDepth 100000
set_option maxHeartbeats 3200000
variable {P:Program} {w:World} {A:Around} {E:Value→Shared→Prop} {s:Shared}
end
section
set_option maxRecDepth 100000
set_option maxHeartbeats 3200000
variable {P:Program} {w:World} {A:Around} {E:Value→Shared→Prop} {s:Shared}
end
section
set_option maxRecDepth 100000
variable {P:Program} {w:World} {A:Around} {E:Value→Shared→Prop} {s:Shared}
end
section
set_option maxRecDepth 100000
variable {P:Program} {w:World} {A:Around} {E:Value→Shared→Prop} {s:Shared}
def TupAt (h:Heap) (q:Addr) (pl:Array Value):Prop:=∃ o n,h.get? q=some o∧o.data=.seq pl n
end
section
set_option maxRecDepth 100000
variable {P:Program} {w:World} {A:Around} {E:Value→Shared→Prop} {s:Shared}
end
section
set_option maxRecDepth 100000
variable {P:Program} {w:World} {A:Around} {E:Value→Shared→Prop} {s:Shared}
end
end L2
namespace D
open PySem PySem.Spec PyProof.Rows L2
section
set_option maxRecDepth 100000
variable {X:Cx}
end
section
set_option maxRecDepth 100000
variable {P:Program} {w:World} {A:Around} {E:Value→Shared→Prop} {s:Shared}
open PySem.SeqAt in
open PySem.SeqAt in
end
section
variable {X:Cx} {pins:List (Addr×Obj)} {σ:L2.St} {H:Hp} {s:Shared} {O:Addr→Prop} {A:Around}
end
theorem zM:bootBuiltins "enumerate" = some (.type "enumerate"):=by decide +kernel
section
set_option maxRecDepth 100000
variable {P:Program} {w:World} {A:Around} {E:Value→Shared→Prop} {s:Shared}
end
section
variable {X:Cx} {pos:Pos}
end
def vT (K:Frag) (a:Addr):It:=⟨fun i H=>∃ xs,SqL K H a xs∧i < xs.length,fun i H x H'=>∃ p v,H p=none∧(∀ xs,SqL K H a xs→xs[i]? = some v)∧x=.ref p∧H'=upd H p (.tup [.int (i:Int),v]),fun i H=>∃ xs,SqL K H a xs∧i=xs.length⟩
theorem ym {P:Program} {w:World} {K:Frag} {elts:List Expr} {x1:Nat} {tpos:Pos} {l e it:Addr} (hei:e≠it) (hle:l≠e) (hli:l≠it):Turn P w K (.Tuple elts x1 tpos) (vT K l) [e,it] e (fun i h=>(∃ old,IsEnum h e it i old)∧h.IsListIter it l i) where
 mem:=by simp
 obj:=fun i h st b hb=>by
  obtain ⟨⟨old,a1⟩,⟨o4,a4,_,d4⟩⟩:=st
  simp only [List.mem_cons,List.not_mem_nil,or_false] at hb
  rcases hb with e | e <;> subst e
  ·exact ⟨_,a1,fun v z=>nomatch (show Data.fields _=Data.cell v from z)⟩
  ·exact ⟨_,a4,fun v z=>by rw [d4] at z; cases z⟩
 keep:=fun i h h' st k=>by
  obtain ⟨⟨old,a1⟩,⟨o4,a4,r⟩⟩:=st
  exact ⟨⟨old,k e (by simp) _ a1⟩,o4,k it (by simp) _ a4,r⟩
 item:=by
  intro X hP hw hK hc i pins s σ H E I hf st hg
  subst hP hw hK
  obtain ⟨xs,hx,k1⟩:=hg
  obtain ⟨⟨old,a1⟩,a4⟩:=st
  obtain ⟨its,rx,px,_⟩:=I.list hx
  obtain ⟨u,hu,ru⟩:=rx.get (List.getElem?_eq_getElem k1)
  have hlen:=rx.length
  have hIT:s.heap.IsList l its.toArray:=px.isList
  refine wpAny_pyNext_enum_itemD (Draws.list (A:=X.A.in1) (by simp [I.ok.hd hc]) it l hli its.toArray) a1 ⟨a4,hIT⟩ (by simp; omega) hei (by simp only [List.mem_cons,List.not_mem_nil,or_false,not_or]; exact ⟨hei,Ne.symm hle⟩) fun x h' tk hx' b1 b2 b3 b4 b5=>?_
  have ex:x=u:=by
   have h2:its.toArray[i]? = some u:=by simpa using hu
   rw [h2] at hx'
   exact (Option.some.inj hx').symm
  subst ex
  refine ⟨.ref s.heap.objs.size,rfl,wpAny_letOwnedTupleGo_enum b1 fun h'' c1 c2=>?_⟩
  have hn:H s.heap.objs.size=none:=I.hok.fresh (Nat.le_refl _)
  have le:e < s.heap.objs.size:=Heap.lt_size a1
  have l1:it < s.heap.objs.size:=by obtain ⟨_,e,_⟩:=a4; exact Heap.lt_size e
  have T1:IsTup (s.heap.push { cls:=.type "tuple",data:=.seq #[.int i tk,x] }) s.heap.objs.size #[.int i tk,x]:=IsTup.new ..
  have I1:Inv X pins σ (upd H s.heap.objs.size (.tup [.int (i:Int),xs[i]])) { s with heap:=s.heap.push { cls:=.type "tuple",data:=.seq #[.int i tk,x] } }:=
   I.laid (t':=s.toks) (o:=.tup [.int (i:Int),xs[i]]) (fun b ob e=>Heap.get?_push_of_some _ e) (Nat.le_refl _) ⟨by show 2≤sizeLine; decide,[.int i tk,x],.cons ⟨tk,rfl⟩ (.cons ru .nil),T1⟩
  have nn:∀ b∈[e,it],b≠s.heap.objs.size:=fun b hb q=>by
   simp only [List.mem_cons,List.not_mem_nil,or_false] at hb
   rcases hb with z | z <;> rw [q] at z
   ·exact Nat.ne_of_gt le z
   ·exact Nat.ne_of_gt l1 z
  have f':∀ b∈[e,it],c8 X pins (upd H s.heap.objs.size (.tup [.int (i:Int),xs[i]])) b:=fun b hb=>by
   obtain ⟨f0,fr⟩:=hf b hb
   exact ⟨by rw [aK (nn b hb)]; exact f0,fr⟩
  have I2:Inv X pins σ (upd H s.heap.objs.size (.tup [.int (i:Int),xs[i]])) { s with heap:=h'',toks:=tk + 1 }:=rV (s:={ s with heap:=s.heap.push { cls:=.type "tuple",data:=.seq #[.int i tk,x] } }) (t':=tk + 1) (h':=h'') (fp:=[e,it]) I1 (fun b ob hb q=>by
   simp only [List.mem_cons,List.not_mem_nil,or_false,not_or] at hb
   by_cases z:b=s.heap.objs.size
   ·subst z
    have q':some _=some ob:=(Heap.get?_push_size _ rfl).symm.trans q
    cases q'
    exact (c2.2 _ hb.1).trans b3
   ·rw [Heap.get?_push_ne _ _ _ z] at q
    exact (c2.2 b hb.1).trans (b5 b ob hb.1 hb.2 q)) f'
  refine ⟨.ref s.heap.objs.size,_,I2,rfl,⟨s.heap.objs.size,xs[i],hn,fun xs' h=>by rw [I.list_inj h hx]; exact List.getElem?_eq_getElem k1,rfl,rfl⟩,?_,fun b hb=>(f' b hb).1⟩
  obtain ⟨o,eo,ro⟩:=b2.1
  exact ⟨⟨_,c1⟩,o,(c2.2 it (Ne.symm hei)).trans eo,ro⟩
 done:=by
  intro X hP hw hK hc i pins s σ H E I hf st hg
  subst hP hw hK
  obtain ⟨xs,hx,k⟩:=hg
  obtain ⟨⟨old,a1⟩,a4⟩:=st
  obtain ⟨its,rx,px,_⟩:=I.list hx
  have h1:=rx.length
  have hIT:s.heap.IsList l its.toArray:=px.isList
  have hs:its.toArray.size=i:=by simp; omega
  refine wpAny_pyNext_enum_endD (Draws.list (A:=X.A.in1) (by simp [I.ok.hd hc]) it l hli its.toArray) a1 ⟨by rw [hs]; exact a4,hIT⟩ fun h' b7=>⟨rfl,rV (t':=s.toks) (fp:=[e,it]) I (fun b ob hb q=>?_) hf⟩
  simp only [List.mem_cons,List.not_mem_nil,or_false,not_or] at hb
  exact b7 b ob hb.2 q
 self:=fun _ _ _ _ _ st h=>let ⟨old,he⟩:=st.1; wpAny_pyIter_enum he h
section
variable {X:Cx} {pos:Pos}
def De (K:Frag) (ta:TA):TI:=fun σ H R=>ta σ H fun vs H1=>∃ a xs,vs=[.ref a]∧SqL K H1 a xs∧(xs.length≤sizeLine→R (vT K a) H1)
theorem z8 {a:Expr} {ta:TA} {elts:List Expr} {x1:Nat} {tpos p:Pos} (hg:Gl X "enumerate") (hm:X.mg "enumerate" = none) (ha:PA X [a] ta) (hs:starEach [a] X.env=[(false,eval a X.env)]) :
  PI X (.Tuple elts x1 tpos) (.Call (.Name "enumerate" p) [a] [] pos) (De X.K ta):=by
 intro pins s σ H R I h
 refine Call_ (jy I hg hm zM (PyProof.Rows.callWith_type1 (thn (ha pos pins s σ H _ I h) fun us s1 ⟨vs,H1,I1,r1,q1⟩=>?_) hs rfl))
 obtain ⟨l,xs,e,hx,q⟩:=q1
 subst e
 cases r1 with
 | cons r rr=>
  cases rr
  cases r
  obtain ⟨its,rx,px,zx⟩:=I1.list hx
  have hIT:s1.heap.IsList l its.toArray:=px.isList
  have L1:l < s1.heap.objs.size:=by obtain ⟨_,e,_⟩:=hIT; exact Heap.lt_size e
  refine call_enumerate_list hIT fun h' c1 c2 c3 c7=>?_
  have I2:Inv X pins σ H1 { s1 with heap:=h' }:=I1.kept (t':=s1.toks) c7
  refine wpAny_pyIter_enum c1 ⟨s1.heap.objs.size + 1,[s1.heap.objs.size + 1,s1.heap.objs.size],_,_,H1,rfl,I2,ym (Nat.succ_ne_self _) (Nat.ne_of_lt (Nat.lt_succ_of_lt L1)) (Nat.ne_of_lt L1),⟨⟨_,c1⟩,c2⟩,fun b hb=>?_,q zx⟩
  have hb':s1.heap.objs.size≤b:=by
   simp only [List.mem_cons,List.not_mem_nil,or_false] at hb
   rcases hb with q | q <;> rw [q] <;> first | exact Nat.le_add_right _ _ | exact Nat.le_refl _
  exact I1.fpOk hb' (I1.hok.fresh hb')
end
def iX (i j:Nat) (body:FS):Nat→List PyData→FS
 | n,x::xs=>fun ρ T=>bnd (body ((ρ.set i (some (.d (.int (n:Int))))).set j (some (.d x))) T) fun p T1=>match p with
  | (.nx,ρ1)=>iX i j body (n + 1) xs ρ1 T1
  | (.ct,ρ1)=>iX i j body (n + 1) xs ρ1 T1
  | (.bk,ρ1)=>some ((.nx,ρ1),T1)
  | (.rt x,ρ1)=>some ((.rt x,ρ1),T1)
  | (.ro x,ρ1)=>some ((.ro x,ρ1),T1)
 | _,[]=>aJ
def uc (i j:Nat) (body:FS) (ρ:Rho) (w:W) (T:Tp):Option ((Fl×Rho)×Tp):=match w with
 | .d (.list xs)=>iX i j body 0 xs ρ T
 | _=>none
def k7 (i j:Nat) (f:FE) (body:FS):FS:=fun ρ T=>bnd (f ρ T) fun w T1=>uc i j body ρ w T1
theorem AG {X:Cx} {pos:Pos} {i j:Nat} {x y:Str} {a:Expr} {f:FE} {g:FS} {body:List Stmt} {k:Nat} {px py tpos zp cpos:Pos} (hm:X.mg "enumerate" = none) (hN:X.N.Nodup) (ha:DE X a f) (hb:DSs X body g) (hg:Gl X "enumerate":=by rfl) (hi:X.N[i]? = some x:=by rfl) (hj:X.N[j]? = some y:=by rfl) (hx:Loc X.env.scope x:=by first | exact Or.inl rfl | exact Or.inr rfl) (hy:Loc X.env.scope y:=by first | exact Or.inl rfl | exact Or.inr rfl)
  (hf:X.fn x=true∨X.env.scope.names.lookup x=some .local:=by first | exact .inl rfl | exact .inr rfl | assumption) (hf':X.fn y=true∨X.env.scope.names.lookup y=some .local:=by first | exact .inl rfl | exact .inr rfl | assumption) (hp:PassesOwn (model X.prog X.w) X.A X.env X.xe:=by exact PassesOwn.never) (hc:X.calm=true:=by rfl)
  (hs1:starEach [a] X.env=[(false,eval a X.env)]:=by exact kh rfl) (hs2:starEach [] X.env=[]:=by rfl) (hs:∀ v,foldedSetIterable (.Call (.Name "enumerate" zp) [a] [] cpos) X.env v=pure v:=by intro _; rfl) :
  DS X (.For (.Tuple [.Name x px,.Name y py] k tpos) (.Call (.Name "enumerate" zp) [a] [] cpos) body [] pos) (k7 i j f g):=by
 refine ⟨?_⟩
 refine bV (tN hp hc (z8 (ta:=n9 (lift X.K f) lQ) hg hm (bF ha.pe cj (by rw [hs1,hs2])) hs1) (CC hc (qV (mQ hN hi hx hf) (qV (mQ hN hj hy hf') Bp))) hb.pe hs) fun D σ H=>?_
 rintro ⟨O₀,H₀,F,ts,O,ρ,T,fl,ρ',T',rs,e,q⟩
 obtain ⟨w1,T1,e1,e⟩:=aA e
 refine ⟨O,ts,ρ,T,w1,T1,rs.hc,rs.re,e1,fun v1 H1 s1 hc1 r1=>?_⟩
 have rs1:=rs.step s1 hc1
 have hw:∃ dx,w1=.d (.list dx):=by
  unfold uc at e
  split at e
  ·exact ⟨_,rfl⟩
  ·cases e
 obtain ⟨dx,rfl⟩:=hw
 have r1':Rep X.K O H1 v1 (.list dx):=r1
 cases r1' with
 | @lst la vx _ tx rx=>
 refine ⟨la,vx,rfl,tx.sq,fun zx=>?_⟩
 have lx:=rx.length
 refine ⟨fun n m σ H=>m=dx.length - n∧n≤dx.length∧∃ O' ρk Tk,RS X.K O₀ H₀ ((O,H1)::F) ts O' H σ ρk Tk∧iX i j g n (dx.drop n) ρk Tk=some ((fl,ρ'),T'),⟨_,rfl,Nat.zero_le _,O,ρ,T1,rs1.more,e⟩,?_⟩
 rintro n m σ3 H3 ⟨rfl,hk,O',ρk,Tk,rs3,ek⟩
 have le:=rs3.frs _ List.mem_cons_self
 have tx3:=(tx.mono le).sq
 by_cases hlt:n < dx.length
 ·refine .inr ⟨⟨vx,tx3,by omega⟩,fun σ3 H3=>∃ O' ρk Tk,RS X.K O₀ H₀ ((O,H1)::F) ts O' H3 σ3 ρk Tk∧iX i j g (n + 1) (dx.drop (n + 1)) ρk Tk=some ((fl,ρ'),T'),fun σ3 H3 nn=>⟨dx.length - (n + 1),by omega,rfl,hlt,nn⟩,fun v H4 yy=>?_⟩
  obtain ⟨p,v',hpn,kx,rfl,rfl⟩:=yy
  obtain ⟨d1,hd1,rd1⟩:=rx.get (kx vx tx3)
  have hdx:dx.drop n=d1::dx.drop (n + 1):=by rw [List.drop_eq_getElem_cons hlt,(List.getElem?_eq_some_iff.mp hd1).2]
  rw [hdx] at ek
  obtain ⟨⟨fl1,ρ1⟩,T3,e3,ek⟩:=aA ek
  have rs4:=rs3.step (.new hpn (.tup [.int (n:Int),v'])) (rs3.hc.new hpn _)
  have le2:=le.trans (rs3.hc.leNew hpn (.tup [.int (n:Int),v']))
  refine ⟨p,_,rfl,SqT.of aZ,rfl,_,_,rfl,_,_,rfl,rfl,O₀,H₀,(O,H1)::F,ts,O',_,Tk,fl1,ρ1,T3,(rs4.set (i:=i) (w:=.d (.int (n:Int))) (Rep.int _) (fun _ z=>nomatch z)).set (i:=j) (w:=.d d1) (Rep.mono le2 rd1) (fun _ z=>nomatch z),e3,?_⟩
  cases fl1 with
  | nx=>exact fun O3 σ3 H3 rs3=>⟨O3,ρ1,T3,rs3,ek⟩
  | ct=>exact fun O3 σ3 H3 rs3=>⟨O3,ρ1,T3,rs3,ek⟩
  | bk=>
   cases ek
   exact fun O3 σ3 H3 rs3=>q O3 σ3 H3 rs3.less
  | rt x=>
   cases ek
   exact q
  | ro x=>
   cases ek
   exact q
 ·rw [List.drop_eq_nil_of_le (show dx.length≤n by omega)] at ek
  cases ek
  exact .inl ⟨⟨vx,tx3,by omega⟩,q O' σ3 H3 rs3.less⟩
section
variable {X:Cx} {pos:Pos} {e:Expr} {fe:FE}
end
section
variable {K:Frag} {O₀:Addr→Prop} {H₀:Hp} {F:List ((Addr→Prop)×Hp)} {ts:List Addr} {O:Addr→Prop} {H H1:Hp} {σ:L2.St} {ρ:Rho} {T T1:Tp}
theorem ke {i j:Nat} {w:W} (e:(ρ.set i none)[j]? = some (some w)):i≠j∧ρ[j]? = some (some w):=by
 by_cases z:i=j
 ·subst z
  rw [List.getElem?_set_self'] at e
  cases h:ρ[i]? with
  | none=>rw [h] at e; cases e
  | some u=>rw [h] at e; cases e
 ·rw [List.getElem?_set_ne z] at e
  exact ⟨z,e⟩
theorem RS.unset {i:Nat} {v:V} (r:RS K O₀ H₀ F ts O H σ ρ T):RS K O₀ H₀ F ts O H (σ.set i (some v)) (ρ.set i none) T where
 hc:=r.hc
 re:=fun j u e=>by
  obtain ⟨z,e⟩:=ke e
  obtain ⟨x,h1,h2⟩:=r.re j u e
  exact ⟨x,by rw [List.getElem?_set_ne z]; exact h1,h2⟩
 sub:=r.sub
 ots:=r.ots
 same:=r.same
 fresh:=fun j xs a e1 e2=>by
  obtain ⟨z,e⟩:=ke e1
  rw [List.getElem?_set_ne z] at e2
  exact r.fresh j xs a e e2
 dist:=fun j k xs ys u e1 e2 e3 e4=>by
  obtain ⟨z1,e1⟩:=ke e1
  obtain ⟨z2,e2⟩:=ke e2
  rw [List.getElem?_set_ne z1] at e3
  rw [List.getElem?_set_ne z2] at e4
  exact r.dist j k xs ys u e1 e2 e3 e4
 frs:=r.frs
 len:=by simp [r.len]
end
section
variable {X:Cx} {pos:Pos}
def jr (x:PyData) (T:Tp):Option (W×Tp):=match x with
 | .tuple [.dict d,.dict e]=>some (.d (.tuple [.dict d,.dict e]),T)
 | _=>none
theorem yM {x:PyData} {T T':Tp} {w:W} (h:jr x T=some (w,T')):∃ d e,x=.tuple [.dict d,.dict e]∧w=.d x∧T'=T:=by
 unfold jr at h
 split at h
 ·cases h; exact ⟨_,_,rfl,rfl,rfl⟩
 ·cases h
def iF (m:FnM) (g:FA):FE:=fun ρ T=>bnd (g ρ T) fun ws T1=>bnd (m ws T1) jr
theorem qt {name:Str} {ps:List Str} {k:Nat} {m:FnM} {e:Expr} {es:List Expr} {g:FA} {p cpos:Pos} (F:Fn X.prog X.w X.K X.mg X.base name ps k (spO X.K ps.length m)) (hr:Room k X.A) (hg:Gl X name) (ha:DA X (e::es) g) (hl:eW g ps.length) (hdb:(name == ("__debug__" : Str))=false:=by decide)
  (he:starEach (e::es) X.env=(false,eval e X.env)::starEach es X.env:=by exact bc rfl) (hpl:(backTo cpos (starEach es X.env)).any (·.1)=false:=by exact bE rfl):DE X (.Call (.Name name p) (e::es) [] cpos) (iF m g):=by
 refine ⟨?_⟩
 refine aX (oh (jF F hr hg ha.pe hdb he hpl)) fun σ H Q=>?_
 rintro ⟨O,ts,ρ,T,w,T',hc,re,e,q⟩
 obtain ⟨ws,T1,e1,e⟩:=aA e
 obtain ⟨x,T2,e2,e⟩:=aA e
 obtain ⟨d,d',rfl,rfl,rfl⟩:=yM e
 refine ⟨O,ts,ρ,T,ws,T1,hc,re,e1,fun vs H1 s1 hc1 r1=>?_⟩
 refine ⟨O,ts,T1,ws,_,_,hc1,by rw [List.append_nil]; exact r1,hl _ _ _ _ e1,e2,fun A v H2 s2 hA hc2 ov=>?_⟩
 obtain ⟨p,a,b,rfl,hab,hAA,np,hp,⟨ka,h1,h2⟩,⟨kb,h3,h4⟩⟩:=ov
 have hAa:=hA a ((hAA a).mpr (.inl rfl))
 have hAb:=hA b ((hAA b).mpr (.inr rfl))
 have nta:a∉ts:=fun z=>hAa.2 (hc1.own a z)
 have ntb:b∉ts:=fun z=>hAb.2 (hc1.own b z)
 have hpa:p≠a:=fun z=>np (.inr ((hAA p).mpr (.inl z)))
 have hpb:p≠b:=fun z=>np (.inr ((hAA p).mpr (.inr z)))
 refine .frz h1 fun o=>.frz ((aK (Ne.symm hab)).trans h3) fun o'=>.done ?_
 have old:∀ c,c≠a→c≠b→upd (upd H2 a (.frz o (.dK ka))) b (.frz o' (.dK kb)) c=H2 c:=fun c z z'=>by rw [aK z',aK z]
 have le:Le (fun b=>O b∨A b) H2 O (upd (upd H2 a (.frz o (.dK ka))) b (.frz o' (.dK kb))):=fun c u n z=>⟨fun y=>n (.inl y),by
  rw [old c (fun y=>n (.inr ((hAA c).mpr (.inl y)))) (fun y=>n (.inr ((hAA c).mpr (.inr y))))]; exact z⟩
 refine q _ _ (fun c u n z=>?_) ⟨hc1.own,fun c hb=>?_,hc2.nd,hc2.len,fun j c ys q1 q2=>?_⟩ (.tup (.inl ⟨fun z=>np (.inl z),.inl ((old p hpa hpb).trans hp)⟩) (.cons (.dct hAa.2 ((aK hab).trans aZ) (h2.mono le)) (.cons (.dct hAb.2 aZ (h4.mono le)) .nil)))
 ·have z1:=s1 c u n z
  rw [old c (fun y=>by rw [y,hAa.1] at z1; cases z1) (fun y=>by rw [y,hAb.1] at z1; cases z1)]
  exact s2 c u n z1
 ·rw [old c (fun y=>hAa.2 (y ▸ hb)) (fun y=>hAb.2 (y ▸ hb))]
  exact hc2.trk c (.inl hb)
 ·have hm:=List.mem_of_getElem? q1
  exact (hc2.tape j c ys q1 q2).mono (fun _ h=>by rw [old c (fun z=>nta (z ▸ hm)) (fun z=>ntb (z ▸ hm))]; exact h) le
end
section
variable {X:Cx} {pos pos2 pos3:Pos}
end
inductive LnT (P:Hp→(Bool→Hp→Prop)→Prop):Hp→(Bool→Hp→Prop)→Prop where
 | done {H:Hp} {Q:Bool→Hp→Prop}:P H Q→LnT P H Q
 | frz {H:Hp} {Q:Bool→Hp→Prop} {a:Addr} {kvs:List (Key×V)}:H a=some (.dK kvs)→(∀ o,LnT P (upd H a (.frz o (.dK kvs))) (fun b H2=>H2 a=some (.frz o (.dK kvs))∧Q b (upd H2 a (.dK kvs))))→LnT P H Q
theorem Ec {X:Cx} {e:Expr} {t:TT} (h:PT X e t):PT X e (fun σ H Q=>LnT (t σ) H Q):=fun pins s σ H Q I q=>by
 have key:∀ {H:Hp} {Q:Bool→Hp→Prop},LnT (t σ) H Q→Inv X pins σ H s→wpAny (model X.prog X.w) X.A (isTrue e X.env (eval e X.env)) (TP X pins σ Q) X.xe s:=by
  intro H Q q
  induction q with
  | done q=>exact fun I=>h pins s σ _ _ I q
  | frz ea _ ih=>
   intro I
   obtain ⟨o,I'⟩:=sH I ea
   refine thn (ih o I') fun u s' ⟨H2,I2,e2,q2⟩=>?_
   exact ⟨_,As I ea I2 e2,q2⟩
 exact key q I
def tT (ρ:Rho):Bool:=ρ.all fun o=>match o with
 | some (.loc _)=>false
 | _=>true
def uJ (ix:Nat) (ft:FT) (fb fr:FS) (ρ:Rho) (T:Tp) (o:Option (Bool×Tp)):Option ((Fl×Rho)×Tp):=match o with
 | some (true,_)=>(match fb (ρ.set ix none) T with
  | some ((.rt z,ρ'),T')=>some ((.rt z,ρ'),T')
  | _=>none)
 | some (false,_)=>fr (ρ.set ix none) T
 | none=>none
def uK (ix:Nat) (ft:FT) (fb fr:FS) (ρ:Rho) (y:PyData) (T:Tp):Option ((Fl×Rho)×Tp):=match y with
 | .tuple [.dict d,.dict e]=>if ix < ρ.length∧tT ρ=true then uJ ix ft fb fr ρ T (ft (eJ (ρ.set ix (some (.d (.tuple [.dict d,.dict e]))))) []) else none
 | _=>none
def kj (ix:Nat) (m:FnM) (g:FA) (ft:FT) (fb fr:FS):FS:=fun ρ T=>bnd (g ρ T) fun ws T1=>bnd (m ws T1) fun y T2=>uK ix ft fb fr ρ y T2
section
variable {X:Cx} {pos pos2 pos3 pos4:Pos}
theorem yg {ix:Nat} {name x:Str} {ps:List Str} {kk:Nat} {m:FnM} {e ce:Expr} {es:List Expr} {body rest:List Stmt} {g:FA} {ft:FT} {fb fr:FS} {p cpos pos' p2 p3 sp ip sp3 ip3 apos cpos3 apos4 cpos4:Pos} {j j':_} (F:Fn X.prog X.w X.K X.mg X.base name ps kk (spO X.K ps.length m)) (hr:Room kk X.A) (hg:Gl X name) (hN:X.N.Nodup) (ha:DA X (e::es) g) (hl:eW g ps.length) (hce:DT X ce ft) (hb:DSs X body fb) (hrest:DSs X rest fr) (hdb:(name == ("__debug__" : Str))=false:=by decide)
  (he:starEach (e::es) X.env=(false,eval e X.env)::starEach es X.env:=by exact bc rfl) (hpl:(backTo cpos (starEach es X.env)).any (·.1)=false:=by exact bE rfl) (hi:X.N[ix]? = some x:=by rfl) (hx:Loc X.env.scope x:=by first | exact Or.inl rfl | exact Or.inr rfl)
  (hs:swapsWith (.Call (.Name name p) (e::es) [] cpos) (some (.Name x pos')) pos.line X.env=pure false:=by rfl) (hf:X.fn x=true∨X.env.scope.names.lookup x=some .local:=by first | exact .inl rfl | exact .inr rfl | assumption)
  (hv:Vis X.env.scope x:=by first | exact Or.inl rfl | exact Or.inr (Or.inl rfl) | exact Or.inr (Or.inr rfl)) (hd:(x == ("__debug__" : Str))=false:=by decide) (hcd:(x == ("__classdict__" : Str))=false:=by decide)
  (hbase:attributeBase (.Subscript (.Name x p2) (.Constant (.int 0) j ip) sp) "clear" X.env (eval (.Subscript (.Name x p2) (.Constant (.int 0) j ip) sp) X.env)=eval (.Subscript (.Name x p2) (.Constant (.int 0) j ip) sp) X.env:=by rfl) (hline:(apos.endLine == cpos3.line)=true:=by rfl)
  (hs3:swapsWith (.Call (.Attribute (.Subscript (.Name x p2) (.Constant (.int 0) j ip) sp) "clear" apos) [] [] cpos3) none pos3.line X.env=pure false:=by rfl)
  (hbase4:attributeBase (.Subscript (.Name x p3) (.Constant (.int 1) j' ip3) sp3) "clear" X.env (eval (.Subscript (.Name x p3) (.Constant (.int 1) j' ip3) sp3) X.env)=eval (.Subscript (.Name x p3) (.Constant (.int 1) j' ip3) sp3) X.env:=by rfl) (hline4:(apos4.endLine == cpos4.line)=true:=by rfl)
  (hs4:swapsWith (.Call (.Attribute (.Subscript (.Name x p3) (.Constant (.int 1) j' ip3) sp3) "clear" apos4) [] [] cpos4) none pos4.line X.env=pure false:=by rfl) :
  DSs X (.Assign [.Name x pos'] (.Call (.Name name p) (e::es) [] cpos) pos::.If ce body [] pos2::.Expr (.Call (.Attribute (.Subscript (.Name x p2) (.Constant (.int 0) j ip) sp) "clear" apos) [] [] cpos3) pos3::.Expr (.Call (.Attribute (.Subscript (.Name x p3) (.Constant (.int 1) j' ip3) sp3) "clear" apos4) [] [] cpos4) pos4::rest) (kj ix m g ft fb fr):=by
 refine ⟨?_⟩
 refine iB (gK (fY hN hi hx (jF F hr hg ha.pe hdb he hpl) hs hf) (gK (uH (Ec hce.pe) hb.pe si) (gK (jn (tQ PySem.F.plainAttrs_dict PySem.F.slot_dict_clear PySem.F.type_dict_clear qd (lu nT (pv ix hi hv hd hcd) kR (fun _ _=>rfl)) hbase hline) hs3) (gK (jn (tQ PySem.F.plainAttrs_dict PySem.F.slot_dict_clear PySem.F.type_dict_clear qd (lu nT (pv ix hi hv hd hcd) kR (fun _ _=>rfl)) hbase4 hline4) hs4) hrest.pe)))) fun D σ H=>?_
 rintro ⟨O₀,H₀,F,ts,O,ρ,T,fl,ρ',T',rs,e,q⟩
 obtain ⟨ws,T1,e1,e⟩:=aA e
 obtain ⟨y0,T2,e2,e⟩:=aA e
 refine ⟨O,ts,ρ,T,ws,T1,rs.hc,rs.re,e1,fun vs H1 s1 hc1 r1=>?_⟩
 have rs1:=rs.step s1 hc1
 refine ⟨O,ts,T1,ws,_,_,hc1,by rw [List.append_nil]; exact r1,hl _ _ _ _ e1,e2,fun A v H2 s2 hA hc2 ov=>?_⟩
 unfold uK at e
 split at e
 rotate_left
 ·cases e
 rename_i d d'
 split at e
 rotate_left
 ·cases e
 rename_i hchk
 obtain ⟨hix,hno⟩:=hchk
 obtain ⟨c,a,a',rfl,hab,hAA,np,hp,⟨ka,h1,h2⟩,⟨kb,h3,h4⟩⟩:=ov
 have hAa:=(hAA a).mpr (.inl rfl)
 have hAb:=(hAA a').mpr (.inr rfl)
 have nta:a∉ts:=fun z=>(hA a hAa).2 (hc1.own a z)
 have ntb:a'∉ts:=fun z=>(hA a' hAb).2 (hc1.own a' z)
 have hca:c≠a:=fun z=>np (.inr ((hAA c).mpr (.inl z)))
 have hcb:c≠a':=fun z=>np (.inr ((hAA c).mpr (.inr z)))
 have hσ:(σ.set ix (some (V.ref c)))[ix]? = some (some (.ref c)):=List.getElem?_set_self (by rw [rs.len]; exact hix)
 have st:∀ Hx:Hp,(∀ w u,w≠a→w≠a'→H2 w=some u→Hx w=some u)→RS X.K O₀ H₀ F ts O Hx (σ.set ix (some (.ref c))) (ρ.set ix none) T2:=fun Hx hk=>by
  have le:Le (fun b=>O b∨A b) H2 O Hx:=fun w u n z=>⟨fun y=>n (.inl y),hk w u (fun y=>n (.inr (y ▸ hAa))) (fun y=>n (.inr (y ▸ hAb))) z⟩
  refine RS.unset (rs1.step (fun w u n z=>?_) ⟨hc1.own,fun w hw=>(hc2.trk w (.inl hw)).to fun u z=>hk w u (fun y=>(hA a hAa).2 (y ▸ hw)) (fun y=>(hA a' hAb).2 (y ▸ hw)) z,hc2.nd,hc2.len,fun i w ys q1 q2=>?_⟩)
  ·exact hk w u (fun y=>by rw [y,(hA a hAa).1] at z; cases z) (fun y=>by rw [y,(hA a' hAb).1] at z; cases z) (s2 w u n z)
  ·have hm:=List.mem_of_getElem? q1
   exact (hc2.tape i w ys q1 q2).mono (fun u z=>hk w u (fun y=>nta (y ▸ hm)) (fun y=>ntb (y ▸ hm)) z) le
 refine .frz h1 fun o=>.frz ((aK (Ne.symm hab)).trans h3) fun o'=>.done ?_
 have old:∀ w,w≠a→w≠a'→upd (upd H2 a (.frz o (.dK ka))) a' (.frz o' (.dK kb)) w=H2 w:=fun w z z'=>by rw [aK z',aK z]
 have le2:Le (fun b=>O b∨A b) H2 (fun _=>False) (upd (upd H2 a (.frz o (.dK ka))) a' (.frz o' (.dK kb))):=fun w u n z=>⟨fun y=>y,by
  rw [old w (fun y=>n (.inr (y ▸ hAa))) (fun y=>n (.inr (y ▸ hAb)))]; exact z⟩
 have le1:Le O H1 (fun _=>False) (upd (upd H2 a (.frz o (.dK ka))) a' (.frz o' (.dK kb))):=fun w u n z=>⟨fun y=>y,by
  rw [old w (fun y=>by rw [y,(hA a hAa).1] at z; cases z) (fun y=>by rw [y,(hA a' hAb).1] at z; cases z)]
  exact s2 w u (fun y=>n (hc1.own w y)) z⟩
 cases et:ft (eJ (ρ.set ix (some (.d (.tuple [.dict d,.dict d']))))) [] with
 | none=>rw [et] at e; cases e
 | some bt=>
  obtain ⟨b,Tb⟩:=bt
  rw [et] at e
  refine ⟨fun _=>False,[],_,[],b,Tb,⟨fun b hb=>(by cases hb),fun b hb=>hb.elim,List.nodup_nil,rfl,fun i a xs e1 _=>by simp at e1⟩,fun jj w ew=>?_,et,fun H' s' _=>?_⟩
  ·unfold eJ at ew
   rw [List.getElem?_map] at ew
   by_cases z:ix=jj
   ·subst z
    rw [List.getElem?_set_self hix] at ew
    cases ew
    exact ⟨.ref c,hσ,.tup (.inl ⟨fun z=>z,.inl ((old c hca hcb).trans hp)⟩) (.cons (.dct (fun z=>z) ((aK hab).trans aZ) (h2.mono le2)) (.cons (.dct (fun z=>z) aZ (h4.mono le2)) .nil))⟩
   ·rw [List.getElem?_set_ne z] at ew
    cases hu:ρ[jj]? with
    | none=>rw [hu] at ew; cases ew
    | some u=>
     cases u with
     | none=>rw [hu] at ew; cases ew
     | some u=>
      rw [hu] at ew
      have e':uQ u=some w:=Option.some.inj ew
      obtain ⟨v,g1,g2⟩:=rs1.re jj u hu
      refine ⟨v,by rw [List.getElem?_set_ne z]; exact g1,?_⟩
      cases u with
      | d x=>cases e'; exact Rep.mono le1 g2
      | tp k=>cases e'
      | loc x=>
       have:=List.all_eq_true.mp hno _ (List.mem_of_getElem? hu)
       cases this
  ·have g3:H' a'=some (.frz o' (.dK kb)):=s' _ _ (by simp) aZ
   have g1:upd H' a' (.dK kb) a=some (.frz o (.dK ka)):=by
    rw [aK hab]
    exact s' _ _ (by simp) ((aK hab).trans aZ)
   refine ⟨g3,g1,?_⟩
   have k3:∀ w u,w≠a→w≠a'→H2 w=some u→upd (upd H' a' (.dK kb)) a (.dK ka) w=some u:=fun w u z z' q=>by
    rw [aK z,aK z']
    exact s' _ _ (by simp) ((old w z z').trans q)
   cases b with
   | true=>
    have e0:(match fb (ρ.set ix none) T2 with
     | some ((.rt z,ρ'),T')=>some ((Fl.rt z,ρ'),T')
     | _=>none)=some ((fl,ρ'),T'):=e
    split at e0
    ·rename_i z ρ1 T3 eb
     cases e0
     exact eR ⟨O₀,H₀,F,ts,O,_,T2,.rt z,_,_,st _ k3,eb,q⟩
    ·cases e0
   | false=>
    refine eS ?_
    have e0:fr (ρ.set ix none) T2=some ((fl,ρ'),T'):=e
    have hp3:=k3 c _ hca hcb hp
    refine ⟨_,hσ,.inr (.inl ⟨c,[.ref a,.ref a'],0,.ref a,rfl,rfl,.inl (.inl hp3),rfl,.inr (.inr (.inl ⟨rfl,.inl ⟨ka,aZ⟩⟩)),a,ka,rfl,rfl,aZ,?_⟩)⟩
    have hp4:upd (upd (upd H' a' (.dK kb)) a (.dK ka)) a (.dK []) c=some (.tup [.ref a,.ref a']):=(aK hca).trans hp3
    have hb4:upd (upd (upd H' a' (.dK kb)) a (.dK ka)) a (.dK []) a'=some (.dK kb):=by rw [aK (Ne.symm hab),aK (Ne.symm hab),aZ]
    refine ⟨_,hσ,.inr (.inl ⟨c,[.ref a,.ref a'],1,.ref a',rfl,rfl,.inl (.inl hp4),rfl,.inr (.inr (.inl ⟨rfl,.inl ⟨kb,hb4⟩⟩)),a',kb,rfl,rfl,hb4,?_⟩)⟩
    exact ⟨O₀,H₀,F,ts,O,_,T2,fl,ρ',T',st _ (fun w u z z' q=>by rw [aK z',aK z]; exact k3 w u z z' q),e0,q⟩
end
section
variable {X:Cx} {pos:Pos}
end
end D
namespace XO
open PySem PySem.Spec PyProof.Rows L2
open XE (Kp forget j8 jY j4 XCl vE XAt)
def XR (e C:Addr) (dx:Option Addr) (tb:Value) (h:Heap):Prop:=∃ t,h.get? e=some { cls:=.ref C,dict:=dx,data:=.fields #[.ref t,tb,.none,.none,.bool false,.none] }
def TB (T:Addr) (fl:Value) (h:Heap):Prop:=∃ oT ts,h.get? T=some oT∧oT.data=.fields ts∧ts[3]? = some fl
section
variable {M:Model} {A:Around} {E:Value→Shared→Prop} {s:Shared} {base:Heap} {env:Env} {outer:List Env} {L e C T:Addr} {dx:Option Addr}
end
def CXo (P:Program) (w:World):CXT:=fun outer H s E v s'=>∃ e C dx T H',v=.ref e∧s'.os=s.os∧AllBare s'.gens∧Un (frs outer) [] H H' s.heap s'.heap∧HOk P w H' s'.heap∧s.heap.objs.size≤e∧s.heap.objs.size≤T∧T≠e ∧
 XR e C dx (.ref T) s'.heap∧TB T .none s'.heap∧H' e=none∧H' T=none∧E (.ref C) dx H'
section
variable {P:Program} {w:World} {K:Frag} {mg:Str→Option Value} {base:Heap} {N:List Str} {qual:Str} {scope:Scope} {f C R:Addr} {cdv:Value} {A:Around} {outer:List Env} {s0:Shared} {H0:Hp} {E:XK}
end
end XO
namespace XO
open PySem PySem.Spec PyProof.Rows L2 D
open XE (Kp forget j8 jY j4 XCl vE XAt)
structure XB0 (K:Frag) (C R:Addr):Prop where
 c:XCl K C (.ref R::vE)
 r:XCl K R vE
 ci:PySem.W.findIn K (.ref C) "__init__" = some (some (.builtin "ValueError.__init__"))
 ri:PySem.W.ownIn K "__init__" (.ref R)=some none
 kp:PySem.W.keepIn K (.ref C)=true
section
variable {prog:Program} {w:World} {A:Around} {E:Value→Shared→Prop} {h:Heap} {g:Array GenState} {d:Drawn} {t:Nat} {os:OsState} {K:Frag} {C R:Addr}
end
end XO
namespace XO
open PySem PySem.Spec PyProof.Rows L2 D
open XE (Kp forget j8 jY j4 XCl vE XAt)
abbrev FX:=Rho→Tp→Option (Nat×Tp)
inductive LiftXP (K:Frag) (cs:Nat→Addr) (E:XK) (f:FX) (σ:L2.St) (H:Hp):Prop where
 | mk (O₀:Addr→Prop) (H₀:Hp) (F:List ((Addr→Prop)×Hp)) (ts:List Addr) (O:Addr→Prop) (ρ:Rho) (T:Tp) (c:Nat) (T':Tp) (rs:RS K O₀ H₀ F ts O H σ ρ T) (e:f ρ T=some (c,T')) (q:∀ H',SameX ts H₀ H'→HC K O₀ ts H' T'→E (.ref (cs c)) none H'):LiftXP K cs E f σ H
def EB (K:Frag) (cs:Nat→Addr) (E:XK) (f:FX):TS:=fun _ σ H=>LiftXP K cs E f σ H
structure DX (X:Cx) (cs:Nat→Addr) (E:XK) (s:List Stmt) (f:FX):Prop where
 pe:PSs X s (EB X.K cs E f)
structure FnX (P:Program) (w:World) (K:Frag) (mg:Str→Option Value) (base:Heap) (name:Str) (ps:List Str) (k:Nat) (sp:Sp):Prop where
 ex:∃ f fd,FnOk P w K mg base (CXo P w) k f fd ps sp∧Binds K fd ps []∧PySem.W.keepIn K (.ref f)=true∧mg name=some (.ref f)
section
variable {X:Cx} {cs:Nat→Addr} {E:XK} {pos:Pos}
section
variable {name:Str} {ps:List Str} {k:Nat} {m:List W→Tp→Option (Nat×Tp)} {e:Expr} {es:List Expr} {g:FA} {p cpos:Pos} {sts:List Stmt}
end
end
section
variable {P:Program} {w:World} {K:Frag} {mg:Str→Option Value} {base:Heap} {N:List Str} {qual:Str} {scope:Scope} {f:Addr} {cdv:Value} {A:Around} {outer:List Env} {s0:Shared} {H0:Hp} {E:XK} {cs:Nat→Addr}
end
end XO
namespace XO
open PySem PySem.Spec PyProof.Rows L2 D
open XE (Kp forget j8 jY j4 XCl vE XAt name_goes yf)
inductive LiftYP (K:Frag) (cs:Nat→Addr) (E:XK) (f:FX) (σ:L2.St) (H:Hp):Prop where
 | mk (O₀:Addr→Prop) (H₀:Hp) (F:List ((Addr→Prop)×Hp)) (ts:List Addr) (O:Addr→Prop) (ρ:Rho) (T:Tp) (c:Nat) (T':Tp) (rs:RS K O₀ H₀ F ts O H σ ρ T) (e:f ρ T=some (c,T')) (q:∀ H',RS K O₀ H₀ F ts O H' σ ρ T'→E (.ref (cs c)) none H'):LiftYP K cs E f σ H
structure DF (X:Cx) (cs:Nat→Addr) (body:List Stmt) (f:FX):Prop where
 pe:∀ (pins:List (Addr×Obj)) (s:Shared) (σ:L2.St) (H:Hp) (Eh:XK),L2.Inv X pins σ H s→LiftYP X.K cs Eh f σ H→wpAny (model X.prog X.w) X.A (execs body X.env) (fun _ _=>False) (fun v s'=>∃ H1 s1,L2.Inv X pins σ H1 s1∧CXo X.prog X.w X.stack H1 s1 Eh v s') s
section
variable {X:Cx} {cs:Nat→Addr}
end
end XO
namespace XO
open PySem PySem.Spec PyProof.Rows L2
open XE (XIs)
section
variable {prog:Program} {w:World} {A:Around} {E:Value→Shared→Prop} {h:Heap} {g:Array GenState} {d:Drawn} {t:Nat} {os:OsState} {K:Frag} {C R x:Addr} {ox:Obj} {od:Option Obj} {name:Str}
end
section
variable {X:Cx} {C e:Addr}
end
end XO
namespace D
open PySem PySem.Spec PyProof.Rows L2
section
variable {X:Cx} {e:Expr} {fe:FE}
end
section
variable {X:Cx}
end
end D
namespace XO
open PySem PySem.Spec PyProof.Rows L2 D
open XE (XCl vE XIs Er)
structure XJ (K:Frag) (C R:Addr):Prop where
 b:XB0 K C R
 is:XIs K C
 kv:PySem.W.kitOne K (.ref C) (.type "ValueError")=some true
section
variable {X:Cx} {C e:Addr}
end
end XO
namespace XO
open PySem PySem.Spec PyProof.Rows L2 D
structure RoomH (k:Nat) (A:Around):Prop where
 dp:A.depth + 3 * k + 5 < recursionLimit
 un:A.units + 16 * k + 200 < cLine
structure FnOkH (P:Program) (w:World) (K:Frag) (mg:Str→Option Value) (base:Heap) (k:Nat) (f:Addr) (fd:FuncData) (ps:List Str) (sp:Sp):Prop where
 len:∀ vs H Q E,sp vs H Q E→vs.length=ps.length
 run:∀ (A:Around) (outer:List Env) (s:Shared) (H:Hp) (args:Args) (us:List Value) (vs:List V) (Q:VK),RoomH k A→Env0 P w K mg base A outer s H→BindsTo s fd args (ps.zip us)→Vals vs us→sp vs H Q E0→codeAny (model P w) A (.call (.ref f) args) (CR CX0 outer P w H s Q E0) s
section
variable {P:Program} {w:World} {K:Frag} {mg:Str→Option Value} {base:Heap}
end
structure FnH (P:Program) (w:World) (K:Frag) (mg:Str→Option Value) (base:Heap) (name:Str) (ps:List Str) (k:Nat) (sp:Sp):Prop where
 ex:∃ f fd,FnOkH P w K mg base k f fd ps sp∧Binds K fd ps []∧PySem.W.keepIn K (.ref f)=true∧mg name=some (.ref f)
end XO
namespace D
open PySem PySem.Spec PyProof.Rows L2
theorem BO (x:Str):Str.empty++x=x:=by
 have:(Str.empty++x).cps=x.cps:=by rw [PySem.Str.cps_append]; exact Array.empty_append
 cases x; exact congrArg Str.mk this
section
variable {X:Cx}
def E8 (i:Nat) (z1 z2:Str):TE:=fun σ H Q=>∃ x:Str,σ[i]? = some (some (.str x))∧z1.length + x.length + z2.length≤sizeLine∧Q (.str (z1++x++z2)) H
theorem CK {i:Nat} {n z1 z2:Str} {p p1 p2 p3 pos:Pos} (hn:PE X (.Name n p) (ou i)):PE X (.JoinedStr [.Constant (.str z1) 0 p1,.FormattedValue (.Name n p) (-1) none p2,.Constant (.str z2) 0 p3] pos) (E8 i z1 z2):=by
 intro pins s σ H Q I h
 obtain ⟨x,h0,hs,q⟩:=h
 have e0:Str.empty.length=0:=rfl
 refine wpAny_JoinedStr ?_
 refine Calls.Constant_str ⟨z1,_,rfl,by rw [strLen_append,e0]; omega,?_⟩
 have I0:=I.tok (s.toks + 1)
 refine wpAny_FormattedValue_plain (thn (hn pins _ σ H (fun v H'=>v=.str x∧H'=H) I0 ⟨_,h0,rfl,rfl⟩) fun u s1 ⟨v,H1,I1,r1,e1,e2⟩=>?_)
 subst e1 e2
 obtain ⟨t,rfl⟩:=r1
 have go:∀ (t2:Tok) (tk:Nat),∃ y t,Value.str x t2=.str y t∧(Str.empty++z1++y).length≤sizeLine∧Joins (model X.prog X.w) X.A X.xe (evalEach [.Constant (.str z2) 0 p3] X.env) (Str.empty++z1++y) (fun out s₁=>out.length≤sizeLine∧EP X pins σ Q (.str out s₁.toks) { s₁ with toks:=s₁.toks + 1 }) { s1 with toks:=tk }:=by
  intro t2 tk
  refine ⟨_,_,rfl,by rw [strLen_append,strLen_append,e0]; omega,?_⟩
  refine Calls.Constant_str ⟨_,_,rfl,?_,?_⟩
  ·rw [strLen_append,strLen_append,strLen_append,e0]; omega
  ·refine ⟨by rw [strLen_append,strLen_append,strLen_append,e0]; omega,.str _,H1,(I1.tok _).tok _,⟨_,rfl⟩,?_⟩
   rw [BO]
   exact q
 exact wpAny_formatField_str (go _ _) (go _ _) (by omega)
end
def lV (z1 z2:Str) (T:Tp) (o:Option (Option W)):Option (W×Tp):=match o with
 | some (some (.d (.str x)))=>if z1.length + x.length + z2.length≤sizeLine then some (.d (.str (z1++x++z2)),T) else none
 | _=>none
def jW (i:Nat) (z1 z2:Str):FE:=fun ρ T=>lV z1 z2 T ρ[i]?
theorem ur {X:Cx} {i:Nat} {n z1 z2:Str} {p p1 p2 p3 pos:Pos} (hN:X.N[i]? = some n:=by rfl) (hv:Vis X.env.scope n:=by first | exact Or.inl rfl | exact Or.inr (Or.inl rfl) | exact Or.inr (Or.inr rfl)) (hd:(n == ("__debug__" : Str))=false:=by decide) (hcd:(n == ("__classdict__" : Str))=false:=by decide) :
  DE X (.JoinedStr [.Constant (.str z1) 0 p1,.FormattedValue (.Name n p) (-1) none p2,.Constant (.str z2) 0 p3] pos) (jW i z1 z2):=by
 refine ⟨aX (CK (pv i hN hv hd hcd)) fun σ H Q=>?_⟩
 rintro ⟨O,ts,ρ,T,w,T',hc,re,e,q⟩
 unfold jW lV at e
 split at e
 ·rename_i x h1
  split at e
  ·rename_i hz
   cases e
   obtain ⟨v,h2,r⟩:=re i _ h1
   cases (show Rep X.K O H v (.str x) from r)
   exact ⟨x,h2,hz,q _ H (.refl _ _) hc (.str _)⟩
  ·cases e
 ·cases e
section
variable {X:Cx} {pos:Pos}
def spl (z y:Str) (k:Int):List Str:=Builtin.Str.partsBetween z (Builtin.Str.occurrences z y 0 z.length (PySem.limitOf z k)) y.length
def iQ (z y:Str) (k:Int):Bool:=!(decide (k < -(2 ^ 63:Int)) || decide (k≥2 ^ 63)) && !(decide (z.length < y.length) || decide (Builtin.Str.strKind z < Builtin.Str.strKind y)) && !(y.length == 0) && !(Builtin.Str.occurrences z y 0 z.length (PySem.limitOf z k)).isEmpty && decide (z.length≤sizeLine) && decide ((spl z y k).length≤sizeLine)
theorem ze:MtR X "str.split" (fun x vs H Q=>∃ (z y:Str) (k:Int),x=.str z∧vs=[.str y,.int k]∧iQ z y k=true∧∀ l,H l=none→Q (.ref l) (upd H l (.lst ((spl z y k).map V.str)))):=by
 intro pins s σ H x vs v us Q I rx rv h
 obtain ⟨z,y,k,rfl,rfl,hk,q⟩:=h
 obtain ⟨t,rfl⟩:=rx
 obtain ⟨u1,u2,rfl,r1,r2⟩:=vals2 rv
 obtain ⟨t1,rfl⟩:=r1
 obtain ⟨t2,rfl⟩:=r2
 unfold iQ at hk
 simp only [Bool.and_eq_true,Bool.not_eq_true',decide_eq_true_eq] at hk
 obtain ⟨⟨⟨⟨⟨h1,h2⟩,h3⟩,h4⟩,h5⟩,h6⟩:=hk
 refine call_meets PySem.F.slot_str_split (typeIs_str _ _ _) PySem.F.entry_str_split (PySem.F.args_str_split_3 _ _ _) (meets_str_split_sep_max z y k t t1 t2 h1 h2 h3 h4 h5 h6) ?_
 show wants _ _ _ { s with toks:=_,heap:=s.heap.push { cls:=.type "list",data:=.seq (strsFrom s.toks (spl z y k)).toArray } }
 rw [strsFrom_eq]
 have e:=numbered_texts s.toks (spl z y k)
 have hn:((spl z y k).map V.str).length≤sizeLine:=by simpa using h6
 refine ⟨.ref s.heap.objs.size,_,I.laid (fun b o w=>Heap.get?_push_of_some _ w) (Nat.le_refl _) (show ObjOk X.prog X.w _ _ _ (.lst ((spl z y k).map V.str)) from ⟨hn,strValues (numbered s.toks (spl z y k)),0,?_,Heap.get?_push_size _ rfl⟩),rfl,q _ (I.hok.fresh (Nat.le_refl _))⟩
 have:=l9 (numbered s.toks (spl z y k))
 rw [e] at this
 exact this
def ku (k:Int):PyData→PyData→Option PyData
 | .str z,.str y=>if iQ z y k=true then some (.list ((spl z y k).map .str)) else none
 | _,_=>none
theorem zF {o e:Expr} {fo fe:FE} {k:Int} {j:_} {kp apos cpos:Pos} (ho:DE X o fo) (he:DE X e fe)
  (hbase:attributeBase o "split" X.env (eval o X.env)=eval o X.env:=by rfl)
  (hfew:((backTo cpos (starEach [e,.Constant (.int k) j kp] X.env)).all (fun x=>!x.1) && (backToKw cpos (keywordEach [] X.env)).all (fun x=>x.1.isSome)
   && decide (([e,.Constant (.int k) j kp]:List Expr).length + ([]:List Keyword).length + (if ([]:List Keyword).isEmpty then 0 else 1) < 30))=true:=by exact Fy rfl rfl)
  (hline:(apos.endLine == cpos.line)=true:=by rfl) (hse:starEach [e,.Constant (.int k) j kp] X.env=(false,eval e X.env)::starEach [.Constant (.int k) j kp] X.env:=by exact bc rfl) (hse2:starEach [.Constant (.int k) j kp] X.env=(false,eval (.Constant (.int k) j kp) X.env)::starEach [] X.env:=by exact bc rfl) (hplain:(backTo cpos (starEach [.Constant (.int k) j kp] X.env)).any (·.1)=false:=by exact bE rfl) :
  DE X (.Call (.Attribute o "split" apos) [e,.Constant (.int k) j kp] [] cpos) (ag (ku k) fo fe):=by
 refine ⟨?_⟩
 refine aX (gh PySem.F.plainAttrs_str PySem.F.slot_str_split PySem.F.type_str_split ze ho.pe (bF he.pe (bF kR cj hse2) hse) hbase hfew hline hse hplain) fun σ H Q=>?_
 rintro ⟨O,ts,ρ,T,w,T',hc,re,e,q⟩
 obtain ⟨w1,T1,e1,e⟩:=aA e
 obtain ⟨w2,T2,e2,e⟩:=aA e
 obtain ⟨x,y,d,h1,h2,h3,rfl,rfl⟩:=f6 e
 unfold ku at h3
 split at h3
 ·rename_i z y
  split at h3
  ·rename_i hz
   cases h3
   cases my h1
   refine ⟨O,ts,ρ,T,_,T1,hc,re,e1,fun v1 H1 s1 hc1 r1=>?_⟩
   cases (show Rep X.K O H1 v1 _ from r1)
   refine ⟨rfl,O,ts,ρ,T1,w2,T',hc1,re.mono hc s1,e2,fun v2 H2 s2 hc2 r2=>?_⟩
   cases (hc2.view r2 h2).str
   exact ⟨z,y,k,rfl,rfl,hz,fun l hl=>q _ _ (s1.trans (s2.trans (.new hl _))) (hc2.new hl _) (hc2.newL hl (jg _))⟩
  ·cases h3
 ·cases h3
end
theorem AC {X:Cx} {body:List Stmt} {fb:FS} {h0:ExceptHandler} {hs:List ExceptHandler} {pos:Pos} (h:DSs X body fb) (hx:∀ v s,¬ X.xe v s):DS X (.Try body (h0::hs) [] [] pos) fb:=
 ⟨fun pins s σ H D I q=>wpAny_Try_except (wpAny_mono (h.pe pins s σ H D I q) (fun fl s1 z=>match fl,z with
  | .next,z=>wpAny_execs_nil z
  | .brk,z=>z
  | .cont,z=>z
  | .ret _,z=>z) fun _ _ z=>(hx _ _ z).elim)⟩
theorem z5 (its:List Value):slicePick its.toArray none none (some (-1))=its.reverse.toArray:=by
 have hr:=zW its
 rw [← hr]
 unfold slicePick sliceRange
 have hb:sliceBounds none none (some (-1)) its.toArray.size=((its.length:Int) - 1,-1,-1):=by simp [sliceBounds]
 rw [hb]
 have hc:(if (-1:Int) > 0 then (if ((its.length:Int) - 1) < -1 then (-1 - ((its.length:Int) - 1) + -1 - 1) / -1 else 0) else (if ((its.length:Int) - 1) > -1 then (((its.length:Int) - 1) - -1 - -1 - 1) / (- -1) else 0))=(its.length:Int):=by
  rw [if_neg (by decide)]
  by_cases h:((its.length:Int) - 1) > -1
  ·rw [if_pos h,show (- -1:Int)=1 by decide,Int.ediv_one]; omega
  ·rw [if_neg h]; omega
 dsimp only
 rw [hc,List.filterMap_map,Int.toNat_natCast]
 congr 2
 funext m
 show its.toArray[((its.length:Int) - 1 + -1 * (m:Int)).toNat]? = _
 rw [show (-1:Int) * (m:Int)=(m:Int) * -1 from Int.mul_comm _ _]
def jM:PyData→Option PyData
 | .list xs=>some (.list xs.reverse)
 | _=>none
theorem BR {X:Cx} {e:Expr} {f:FE} {j:Nat} {p1 p2 p3 pos:Pos} (he:DE X e f):DE X (.Subscript e (.Slice none none (some (.UnaryOp .USub (.Constant (.int 1) j p1) p3)) p2) pos) (fUn jM f):=by
 refine ⟨?_⟩
 intro pins s σ H Q I h
 obtain ⟨O,ts,ρ,T,w,T',hc,re,e0,q⟩:=h
 obtain ⟨w1,T1,e1,e2⟩:=aA e0
 obtain ⟨x,d,h1,h3,rfl,rfl⟩:=gN e2
 unfold jM at h3
 split at h3
 ·cases h3
  rename_i xs
  refine Subscript_ (thn (he.pe pins s σ H (fun v H1=>SameX ts H H1∧HC X.K O ts H1 T'∧RepW X.K O ts H1 v w1) I ⟨O,ts,ρ,T,w1,T',hc,re,e1,fun v1 H1 s1 hc1 r1=>⟨s1,hc1,r1⟩⟩) fun v s1 ⟨x,H1,I1,r1,sx,hc1,rw1⟩=>?_)
  obtain ⟨a,vs,rfl,ta,ra⟩:=(hc1.view rw1 h1).lst
  cases r1
  refine wpAny_Slice ?_
  rw [evalPart_none]
  refine wpAny_pure (wpAny_pure ?_)
  rw [evalPart_some]
  refine UnaryOp_ (wpAny_Constant_int (neg_int ?_))
  have I2:Inv X pins σ H1 { s1 with heap:=s1.heap.push { cls:=.type "slice",data:=.fields #[.none,.none,.int (-1) (s1.toks + 1)] },toks:=s1.toks + 1 + 1 }:=I1.kept fun b ob q=>Heap.get?_push_of_some _ q
  obtain ⟨its,rv,it,hz⟩:=I2.list ta
  have hlen:=rv.length
  refine tail_any (T:="list") (ops:=[.ref a,.ref s1.heap.objs.size]) it.isList.typeIs slot_list_getitem.lookup ?_ (by with_unfolding_all rfl)
  refine wpAny_getItem_list_slice it.isList (Heap.IsSliceOf.new ..) .none .none (.int (-1) _) (by simp) ?_ (by rw [List.size_toArray]; omega)
  rw [z5]
  refine ⟨.ref _,_,I2.laid (o:=.lst vs.reverse) (fun b ob q=>Heap.get?_push_of_some _ q) (Nat.le_refl _) ⟨by simpa using hz,_,0,rv.reverse,Heap.get?_push_size _ rfl⟩,rfl,?_⟩
  have hp:=I2.hok.fresh (Nat.le_refl _)
  exact q _ _ (sx.trans (.new hp _)) (hc1.new hp _) (hc1.newL hp ra.rev)
 ·cases h3
end D
namespace G
open PySem PySem.Spec PyProof.Rows L2 D

theorem bj (k:Nat) (h:0 < k):∃ j,k=j + 1:=⟨k - 1,by omega⟩
def d8 (C:Addr):FnM:=aS 2 (aq (g5 C "parted" (aa 0) (ag jv (aa 1) (fC (.str " ")))) (aq (g5 C "place" (aa 0) (fC (.int 0))) (g5 C "begun" (aa 0) (fC (.int 0)))))
def cN (C:Addr):FnM:=aS 1 (aw (eV (aB (ag ltD (d6 C "place" (aa 0)) (fCB bf (ae (d6 C "parted" (aa 0)) ai)))) (ag ixD (d6 C "parted" (aa 0)) (d6 C "place" (aa 0))) (fC (.str ""))))
def dv (C:Addr):FnM:=aS 2 (aq (fIf (cV (bg (aa 1))) jK aJ) (g5 C "place" (aa 0) (ag aG (d6 C "place" (aa 0)) (fC (.int 1)))))
def fM (C:Addr):FnM:=aS 3 (aq (dM (bX C "take" (dv C) (aa 0) (ae (bp (aa 1) (bp (ag ltD (aa 2) (fC (.int 20))) (ag ltD (d6 C "begun" (aa 0)) (fC (.int 60))))) ai))) (g5 C "begun" (aa 0) (ag aG (d6 C "begun" (aa 0)) (fC (.int 1)))))
def eX (C:Addr):FnM:=aS 1 (fIf (aB (ag ltD (d6 C "place" (aa 0)) (fCB bf (ae (d6 C "parted" (aa 0)) ai)))) jK aJ)
def gF:FnM:=aS 1 (aw (bp (fUn (bx .int) (aa 0)) (iY (fUn (bx .bl) (aa 0)))))
def df:FnM:=aS 2 (aw (fCB gu (ae (b9 (b8 (aa 0)) bv (ag inD (aa 0) (aa 2))) ai)))
def fU:FnM:=aS 1 (aw (bp (fUn (bx .str) (aa 0)) (bp (k8 leD leD (fC (.int 1)) (fCB bf (ae (aa 0) ai)) (fC (.int 8))) (ar df (ae (aa 0) (ae (fC (.str "abcdefghijklmnopqrstuvwxyz")) ai))))))
def gB:FnM:=aS 1 (aq (fIf (bg (ar gF (ae (aa 0) ai))) (aw (ag leD (fCB lX (ae (aa 0) ai)) (ag hG (fC (.int 10)) (fC (.int 18))))) aJ) (aw (bp (fUn (bx .str) (aa 0)) (bp (ag leD (fCB bf (ae (aa 0) ai)) (fC (.int 20))) (ar df (ae (aa 0) (ae (fC (.str "abcdefghijklmnopqrstuvwxyz0123456789-")) ai)))))))
def de:Nat→FnM
 | 0=>fun _ _=>none
 | n + 1=>aS 2 (aq (fIf (cV (bg (fUn (bx .tup) (aa 0)))) (aw (ar gB (ae (aa 0) ai))) aJ) (aq (fIf (bD (aB (ag eqD (aa 1) (fC (.int 0)))) (aB (ag gtD (fCB bf (ae (aa 0) ai)) (fC (.int 8))))) (aw (fC (.bool false))) aJ) (aw (fCB gu (ae (b9 (b8 (aa 0)) bv (ar (de n) (ae (aa 0) (ae (ag dN (aa 2) (fC (.int 1))) ai)))) ai)))))
def eh:Nat→FnM
 | 0=>fun _ _=>none
 | n + 1=>aS 1 (aq (fIf (cV (bg (fUn (bx .tup) (aa 0)))) (aw (fC (.int 1))) aJ) (aw (ag aG (fC (.int 1)) (fCB lR (ae (b9 (b8 (aa 0)) bv (ar (eh n) (ae (aa 0) ai))) ai)))))
def gG:FnM:=aS 1 (aw (bp (ar (de 25) (ae (aa 0) (ae (fC (.int 4)) ai))) (ag leD (ar (eh 25) (ae (aa 0) ai)) (fC (.int 40)))))
def d9:FnM:=aS 1 (aq (fIf (bD (aB (ag eqD (ag ixD (aa 0) (fC (.int 0))) (fC (.str "put")))) (aB (ag eqD (ag ixD (aa 0) (fC (.int 0))) (fC (.str "got"))))) (aw (aR .list ai)) aJ) (aq (fIf (aB (ag eqD (ag ixD (aa 0) (fC (.int 0))) (fC (.str "row")))) (aw (fCB gj (ae (ag ixD (aa 0) (fC (.int 1))) ai))) aJ) (aw (fCB gj (ae (fSl (aa 0) (fP (fC (.int 1))) cf) ai)))))
def gx:FnM:=aS 2 (aw (eV (aB (ag inD (aa 0) (fC (.tuple [.str "want",.str "peek"])))) (ag aG (aa 1) (fC (.int 1))) (aa 1)))
def ie:FnM:=aS 1 (aw (fCB iR (ae (ag aG (fCB fw (ae (ag ixD (aa 0) (fC (.int 0))) ai)) (fCB fw (ae (ag ixD (aa 0) (fC (.int 1))) ai))) ai)))
def ij:FnM:=aS 2 (aq (fIf (aB (ag inA (aa 1) (ag ixD (aa 0) (fC (.int 0))))) (aw (fC (.str "told"))) aJ) (aq (fIf (aB (ag inA (aa 1) (ag ixD (aa 0) (fC (.int 1))))) (aw (fC (.str "made"))) aJ) (aw (fC (.str "lacks")))))
def cP:Nat→FnM
 | 0=>fun _ _=>none
 | n + 1=>aS 1 (aq (fIf (bg (ar gF (ae (aa 0) ai))) (aw (fCB eP (ae (aa 0) ai))) aJ) (aq (fIf (bg (fUn (bx .str) (aa 0))) (aw (ag aG (fC (.str "'")) (aa 0))) aJ) (aw (ag aG (ag aG (fC (.str "(")) (ag gk (fC (.str ",")) (b9 (b8 (aa 0)) bv (ar (cP n) (ae (aa 0) ai))))) (fC (.str ")"))))))
def ef:FnM:=aS 1 (aq (fIf (bD (aB (ag eqD (aa 0) (fC (.str "")))) (cV (bg (ar df (ae (aa 0) (ae (fC (.str "0123456789")) ai)))))) (aw (fC (.bool false))) aJ) (aw (lW (ag eqD (aa 0) (fC (.str "0"))) (iY (ag fX (aa 0) (fC (.str "0")))))))
def gA:FnM:=aS 2 (aq (aO 1 (eV (bg (ag fX (aa 0) (fC (.str "-")))) (fSl (aa 0) (fP (fC (.int 1))) cf) (aa 0))) (aq (fIf (bD (aB (ag eqD (aa 0) (fC (.str "-0")))) (bD (aB (ag gtD (fCB bf (ae (aa 1) ai)) (fC (.int 19)))) (cV (bg (ar ef (ae (aa 1) ai)))))) (aw (fC .none)) aJ) (aw (fCB intD (ae (aa 0) ai)))))
def gz:FnM:=aS 1 (aq (fIf (bg (ag fX (aa 0) (fC (.str "'")))) (aw (fSl (aa 0) (fP (fC (.int 1))) cf)) aJ) (aw (ar gA (ae (aa 0) ai))))
def fQ:FnM:=aS 4 (aq (aO 2 (aa 1)) (aq (dF (fD (aB (ag ltD (aa 2) (fCB bf (ae (aa 0) ai)))) (aB (ag kS (ag ixD (aa 0) (aa 2)) (fC (.str "(),"))))) (aO 2 (ag aG (aa 2) (fC (.int 1)))) 100000) (aq (aO 3 (ar gz (ae (fSl (aa 0) (fP (aa 1)) (fP (aa 2))) ai))) (aw (eV (aB (ag isD (aa 3) (fC .none))) (fC .none) (aR .tuple (ae (aa 3) (ae (aa 2) ai))))))))
mutual
def fV:Nat→FnM
 | 0=>fun _ _=>none
 | n + 1=>aS 6 (aq (fIf (aB (ag eqD (fSl (aa 0) (fP (aa 1)) (fP (ag aG (aa 1) (fC (.int 1))))) (fC (.str ")")))) (aw (aR .tuple (ae (aR .tuple ai) (ae (ag aG (aa 1) (fC (.int 1))) ai)))) aJ) (aq (fB 3 ai) (dF (bg (fC (.bool true))) (aq (aO 4 (ar (cE n) (ae (aa 0) (ae (aa 1) (ae (aa 2) ai))))) (aq (fIf (aB (ag isD (aa 4) (fC .none))) (aw (fC .none)) aJ) (aq (cM 3 (ag ixD (aa 4) (fC (.int 0)))) (aq (aO 1 (ag aG (ag ixD (aa 4) (fC (.int 1))) (fC (.int 1)))) (aq (aO 5 (fSl (aa 0) (fP (ag ixD (aa 4) (fC (.int 1)))) (fP (aa 1)))) (aq (fIf (aB (ag eqD (aa 5) (fC (.str ")")))) (aw (aR .tuple (ae (fCB fi (ae (aa 3) ai)) (ae (aa 1) ai)))) aJ) (fIf (aB (ag neD (aa 5) (fC (.str ",")))) (aw (fC .none)) aJ))))))) 100000)))
def cE:Nat→FnM
 | 0=>fun _ _=>none
 | n + 1=>aS 3 (aq (fIf (aB (ag neD (fSl (aa 0) (fP (aa 1)) (fP (ag aG (aa 1) (fC (.int 1))))) (fC (.str "(")))) (aw (ar fQ (ae (aa 0) (ae (aa 1) ai)))) aJ) (aq (fIf (aB (ag eqD (aa 2) (fC (.int 0)))) (aw (fC .none)) aJ) (aw (ar (fV n) (ae (aa 0) (ae (ag aG (aa 1) (fC (.int 1))) (ae (ag dN (aa 2) (fC (.int 1))) ai)))))))
end
def fS:FnM:=aS 2 (aq (aO 1 (ar (cE 25) (ae (aa 0) (ae (fC (.int 0)) (ae (fC (.int 4)) ai))))) (aq (fIf (bD (aB (ag isD (aa 1) (fC .none))) (aB (ag ltD (ag ixD (aa 1) (fC (.int 1))) (fCB bf (ae (aa 0) ai))))) (aw (fC .none)) aJ) (aw (eV (bg (ar gG (ae (ag ixD (aa 1) (fC (.int 0))) ai))) (ag ixD (aa 1) (fC (.int 0))) (fC .none)))))
def dP:FnM:=aS 1 (aq (fIf (aB (ag eqD (ag ixD (aa 0) (fC (.int 0))) (fC (.str "put")))) (aw (aR .list (ae (ar (cP 25) (ae (ag ixD (aa 0) (fC (.int 1))) ai)) ai))) aJ) (aq (fIf (aB (ag eqD (ag ixD (aa 0) (fC (.int 0))) (fC (.str "got")))) (aw (aR .list (ae (fCB eP (ae (ag ixD (aa 0) (fC (.int 1))) ai)) ai))) aJ) (aq (fIf (aB (ag eqD (ag ixD (aa 0) (fC (.int 0))) (fC (.str "row")))) (aw (aR .list (ae (fCB eP (ae (fCB bf (ae (ag ixD (aa 0) (fC (.int 1))) ai)) ai)) ai))) aJ) (aw (aR .list ai)))))
def cC:Nat→FnM
 | 0=>fun _ _=>none
 | n + 1=>aS 3 (aq (cU 1 (aR .list (ae (ag ixD (aa 0) (fC (.int 0))) ai)) (ar dP (ae (aa 0) ai))) (aq (cw 2 (b8 (ar d9 (ae (aa 0) ai))) (dO 1 (ar (cC n) (ae (aa 2) ai)))) (aw (aa 1))))
def c9:Nat→FnM
 | 0=>fun _ _=>none
 | n + 1=>aS 3 (aq (fIf (aB (ag eqD (ag ixD (aa 0) (fC (.int 0))) (fC (.str "fail")))) (aw (aR .list (ae (ag ixD (aa 0) (fC (.int 0))) (ae (ag ixD (aa 0) (fC (.int 1))) ai)))) aJ) (aq (cU 1 (aR .list (ae (ag ixD (aa 0) (fC (.int 0))) ai)) (ar (cC 25) (ae (ag ixD (aa 0) (fC (.int 1))) ai))) (aq (cw 2 (b8 (fSl (aa 0) (fP (fC (.int 2))) cf)) (dO 1 (ar (c9 n) (ae (aa 2) ai)))) (aw (aa 1)))))
def ib:FnM:=aS 1 (aw (ag g0 (fC (.str " ")) (ar (c9 25) (ae (aa 0) ai))))
def iq (C:Addr):FnM:=aS 2 (aq (aO 1 (ar fS (ae (bX C "ahead" (cN C) (aa 0) ai) ai))) (aq (dM (bX C "take" (dv C) (aa 0) (ae (ag iL (aa 1) (fC .none)) ai))) (aw (aa 1))))
def gw (C:Addr):FnM:=aS 4 (aq (aO 2 (b9 (cH (aa 1)) bv (fCB eP (ae (aa 0) ai)))) (aq (aO 3 (bX C "ahead" (cN C) (aa 0) ai)) (aq (dM (bX C "take" (dv C) (aa 0) (ae (ag inD (aa 3) (aa 2)) ai))) (aw (oF (aa 2) (aa 3))))))
mutual
def gH (C:Addr):Nat→FnM
 | 0=>fun _ _=>none
 | n + 1=>aS 4 (aw (fCB fi (ae (b9 (cH (aa 1)) bv (ar (dz C n) (ae (aa 1) (ae (aa 3) (ae (aa 4) ai))))) ai)))
def dz (C:Addr):Nat→FnM
 | 0=>fun _ _=>none
 | n + 1=>aS 4 (aq (aO 3 (bX C "ahead" (cN C) (aa 0) ai)) (aq (dM (bX C "begin" (fM C) (aa 0) (ae (lW (ag inD (aa 3) (fC (.tuple [.str "put",.str "got",.str "row"]))) (fUn (inT [("many",1),("part",2),("sum",2),("join",2),("same",2),("less",2)]) (aa 3))) (ae (aa 1) ai)))) (aq (fIf (aB (ag eqD (aa 3) (fC (.str "put")))) (aw (aR .tuple (ae (aa 3) (ae (ar (iq C) (ae (aa 0) ai)) ai)))) aJ) (aq (fIf (aB (ag eqD (aa 3) (fC (.str "got")))) (aw (aR .tuple (ae (aa 3) (ae (ar (gw C) (ae (aa 0) (ae (aa 2) ai))) ai)))) aJ) (aq (fIf (aB (ag eqD (aa 3) (fC (.str "row")))) (aw (aR .tuple (ae (aa 3) (ae (ar (gH C n) (ae (aa 0) (ae (ar (gw C) (ae (aa 0) (ae (ag aG (fC (.int 8)) (fC (.int 1))) ai))) (ae (ag aG (aa 1) (fC (.int 1))) (ae (aa 2) ai))))) ai)))) aJ) (aw (ag aG (aR .tuple (ae (aa 3) ai)) (ar (gH C n) (ae (aa 0) (ae (fUn (atT [("many",1),("part",2),("sum",2),("join",2),("same",2),("less",2)]) (aa 3)) (ae (ag aG (aa 1) (fC (.int 1))) (ae (aa 2) ai))))))))))))
end
def ik (C:Addr):FnM:=aS 2 (aq (aO 1 (bX C "ahead" (cN C) (aa 0) ai)) (aq (dM (bX C "take" (dv C) (aa 0) (ae (ar fU (ae (aa 1) ai)) ai))) (aw (aa 1))))
def cD (C:Addr):Nat→FnM
 | 0=>fun _ _=>none
 | n + 1=>aS 6 (aq (aO 3 (bX C "ahead" (cN C) (aa 0) ai)) (aq (dM (bX C "begin" (fM C) (aa 0) (ae (bp (fUn (inT [("say",0),("fail",0),("want",1),("peek",1),("when",2)]) (aa 3)) (iY (bp (ag inD (aa 3) (fC (.tuple [.str "want",.str "peek"]))) (ag eqD (aa 2) (fC (.int 12)))))) (ae (aa 1) ai)))) (aq (fIf (aB (ag eqD (aa 3) (fC (.str "fail")))) (aw (aR .tuple (ae (aa 3) (ae (ar (ik C) (ae (aa 0) ai)) ai)))) aJ) (aq (aO 4 (ar (dz C 25) (ae (aa 0) (ae (ag aG (aa 1) (fC (.int 1))) (ae (aa 2) ai))))) (aq (aO 5 (ar gx (ae (aa 3) (ae (aa 2) ai)))) (aw (ag aG (aR .tuple (ae (aa 3) (ae (aa 4) ai))) (fCB fi (ae (b9 (cH (fUn (atT [("say",0),("fail",0),("want",1),("peek",1),("when",2)]) (aa 3))) bv (ar (cD C n) (ae (aa 1) (ae (ag aG (aa 2) (fC (.int 1))) (ae (aa 6) ai))))) ai)))))))))
def ic (C:Addr):FnM:=aS 3 (g6 1 C (d8 C) (aa 0) (aq (aO 2 (ar (cD C 25) (ae (aa 1) (ae (fC (.int 0)) (ae (fC (.int 0)) ai))))) (aq (dM (bX C "finish" (eX C) (aa 1) ai)) (aw (aa 2)))))
def fN:FnM:=aS 2 (aq (fIf (aB (ag eqD (ar ij (ae (aa 0) (ae (aa 1) ai))) (fC (.str "told")))) (aw (ag aG (jW 1 "told " " ") (ar (cP 25) (ae (ag ixA (ag ixD (aa 0) (fC (.int 0))) (aa 1)) ai)))) aJ) (aw (ag aG (jW 1 "made " " ") (ar ib (ae (ag ixA (ag ixD (aa 0) (fC (.int 1))) (aa 1)) ai)))))
def fO:FnM:=gW 1 (nW (b9 (b8 (ar ie (ae (aa 0) ai))) bv (ar fN (ae (aa 1) (ae (aa 0) ai)))))
def jd (C:Addr):FnM:=aS 1 (aw (ar (ic C) (ae (aa 0) ai)))
def gy (C:Addr):FnM:=aS 2 (aq (fIf (aB (ag eqD (aa 0) (fC (.str "told")))) (aw (ar fS (ae (aa 1) ai))) aJ) (aq (fIf (aB (ag eqD (aa 0) (fC (.str "made")))) (aw (ar (jd C) (ae (aa 1) ai))) aJ) (aw (fC .none))))
def gE (C:Addr):FnM:=aS 3 (aq (aO 1 (ag (ku 2) (aa 0) (fC (.str " ")))) (aq (fIf (bD (aB (ag ltD (fCB bf (ae (aa 1) ai)) (fC (.int 3)))) (cV (bg (ar fU (ae (ag ixD (aa 1) (fC (.int 1))) ai))))) (aw (fC .none)) aJ) (aq (aO 2 (ar (gy C) (ae (ag ixD (aa 1) (fC (.int 0))) (ae (ag ixD (aa 1) (fC (.int 2))) ai)))) (aw (eV (aB (ag isD (aa 2) (fC .none))) (fC .none) (aR .tuple (ae (ag ixD (aa 1) (fC (.int 0))) (ae (ag ixD (aa 1) (fC (.int 1))) (ae (aa 2) ai)))))))))
def cO (C:Addr):FnM:=gW 6 (aq (eM 1) (aq (eM 2) (aq (k7 3 4 (aa 0) (aq (aO 5 (ar (gE C) (ae (aa 4) ai))) (aq (fIf (bD (aB (ag isD (aa 5) (fC .none))) (bD (aB (ag geD (aa 3) (fC (.int 40)))) (bD (aB (ag inA (ag ixD (aa 5) (fC (.int 1))) (aa 1))) (aB (ag inA (ag ixD (aa 5) (fC (.int 1))) (aa 2)))))) jK aJ) (fIf (aB (ag eqD (ag ixD (aa 5) (fC (.int 0))) (fC (.str "told")))) (eN 1 (ag ixD (aa 5) (fC (.int 1))) (ag ixD (aa 5) (fC (.int 2)))) (eN 2 (ag ixD (aa 5) (fC (.int 1))) (ag ixD (aa 5) (fC (.int 2)))))))) (jA 1 2))))
def cB:FnM:=aS 2 (aq (fIf (aB (ag ltD (aa 1) (fCB bf (ae (aa 0) ai)))) (aw (ag ixD (aa 0) (aa 1))) aJ) (aw (fC (.int 0))))
def eZ:FnM:=aS 6 (aq (fB 2 ai) (aq (aO 3 (fC (.int 0))) (aq (fIf (aB (ag geD (aa 0) (ag hG (fC (.int 10)) (fC (.int 18))))) (aO 3 (aa 0)) aJ) (aq (aO 4 (ag aG (ag bC (aa 0) (fC (.int 2147483629))) (fC (.int 48271)))) (aq (cw 5 (cH (aa 1)) (aq (aO 4 (ag bC (ag aG (ag aG (ag bB (aa 4) (aa 4)) (ag bB (fC (.int 48271)) (aa 4))) (ag bB (fC (.int 7)) (aa 5))) (fC (.int 2147483647)))) (fIf (aB (ag gtD (aa 3) (fC (.int 0)))) (aq (cM 2 (ag bC (aa 3) (fC (.int 720720)))) (aO 3 (ag dZ (aa 3) (fC (.int 720720))))) (cM 2 (ag dZ (ag bC (ag aG (ag bB (aa 4) (fC (.int 69621))) (ag bB (fC (.int 13)) (aa 5))) (fC (.int 2147483629))) (fC (.int 3))))))) (aw (aa 2)))))))
def a7:FnM:=aS 2 (aq (oE (aa 0) (fC (.int 1)) (ag aG (ag ixD (aa 0) (fC (.int 1))) (fC (.int 1)))) (aw (ag bC (ag ixD (ag ixD (aa 0) (fC (.int 0))) (ag bC (ag dN (ag ixD (aa 0) (fC (.int 1))) (fC (.int 1))) (fCB bf (ae (ag ixD (aa 0) (fC (.int 0))) ai)))) (aa 1))))
def cx:Nat→FnM
 | 0=>fun _ _=>none
 | n + 1=>aS 1 (aq (fIf (bg (fUn (bx .tup) (aa 0))) (aw (ag aG (ag aG (fC (.str "(")) (ag gk (fC (.str ",")) (b9 (b8 (aa 0)) bv (ar (cx n) (ae (aa 0) ai))))) (fC (.str ")")))) aJ) (aq (fIf (bg (fUn (bx .str) (aa 0))) (aw (ag aG (fC (.str "'")) (aa 0))) aJ) (aw (fCB eP (ae (aa 0) ai)))))
def aY:Nat→FnM
 | 0=>fun _ _=>none
 | n + 1=>aS 2 (aq (fIf (bg (fUn fz (aa 1))) (aq (fIf (bD (aB (ag neD (fUn (bx .tup) (aa 0)) (fUn (bx .tup) (aa 1)))) (aB (ag neD (fUn (bx .lst) (aa 0)) (fUn (bx .lst) (aa 1))))) (aw (fC (.bool false))) aJ) (aw (bp (ag eqD (fCB bf (ae (aa 0) ai)) (fCB bf (ae (aa 1) ai))) (fCB gu (ae (b9 (cH (fCB bf (ae (aa 1) ai))) bv (ar (aY n) (ae (ag ixA (aa 1) (aa 0)) (ae (ag ixA (aa 2) (aa 0)) ai)))) ai))))) aJ) (aq (fIf (bg (fUn (bx .dct) (aa 1))) (aq (fIf (bD (cV (bg (fUn (bx .dct) (aa 0)))) (aB (ag neD (fCB bf (ae (aa 0) ai)) (fCB bf (ae (aa 1) ai))))) (aw (fC (.bool false))) aJ) (aw (fCB gu (ae (b9 (b8 (aa 1)) bv (bp (ag inA (aa 0) (aa 1)) (ar (aY n) (ae (ag ixA (aa 1) (aa 0)) (ae (ag ixA (aa 2) (aa 0)) ai))))) ai)))) aJ) (aq (fIf (bD (bg (fUn (bx .bl) (aa 1))) (aB (ag isD (aa 1) (fC .none)))) (aw (bp (ag eqD (fUn (bx .bl) (aa 0)) (fUn (bx .bl) (aa 1))) (ag eqD (aa 0) (aa 1)))) aJ) (aq (fIf (bg (fUn (bx .int) (aa 1))) (aw (bp (fUn (bx .int) (aa 0)) (bp (iY (fUn (bx .bl) (aa 0))) (ag eqD (aa 0) (aa 1))))) aJ) (aw (bp (fUn (bx .str) (aa 0)) (ag eqD (aa 0) (aa 1))))))))
def eg:FnM:=aS 7 (aq (aO 2 (fC (.str "abcdefghijklmnopqrstuvwxyz"))) (aq (aO 3 (ar a7 (ae (aa 0) (ae (fC (.int 4)) ai)))) (aq (aO 4 (ar a7 (ae (aa 0) (ae (fC (.int 12)) ai)))) (aq (fIf (aB (ag eqD (aa 3) (fC (.int 0)))) (aq (aO 5 (aR .list (ae (fC (.str "told")) (ae (fC (.str "made")) (ae (fC (.str "say")) (ae (fC (.str "want")) (ae (fC (.str "wants")) (ae (fC (.str "fails")) (ae (fC (.str "put")) (ae (fC (.str "got")) (ae (fC (.str "row")) (ae (fC (.str "peek")) (ae (fC (.str "when")) (ae (fC (.str "kind")) ai)))))))))))))) (aw (fSl (ag aG (fSl (aa 5) (fP (aa 4)) cf) (fSl (aa 5) cf (fP (aa 4)))) cf (fP (aa 1))))) aJ) (aq (fIf (aB (ag eqD (aa 3) (fC (.int 1)))) (aw (b9 (cH (aa 1)) bv (ag bB (ag ixD (aa 3) (ag aG (aa 5) (ag dZ (aa 0) (fC (.int 8))))) (ag aG (fC (.int 1)) (ag bC (aa 0) (fC (.int 8))))))) aJ) (aq (aO 6 (ag bB (ag ixD (aa 2) (aa 4)) (ar a7 (ae (aa 0) (ae (ag dN (fC (.int 8)) (ag bC (aa 4) (fC (.int 7)))) ai))))) (aw (b9 (cH (aa 1)) bv (ag aG (ag aG (ag bB (ag ixD (aa 3) (aa 5)) (ag bC (aa 5) (fC (.int 7)))) (ag ixD (aa 3) (ag bC (ag aG (aa 5) (aa 0)) (fC (.int 26))))) (aa 7))))))))))
def bM:Nat→FnM
 | 0=>fun _ _=>none
 | n + 1=>aS 5 (aq (aO 3 (ar a7 (ae (aa 0) (ae (fC (.int 10)) ai)))) (aq (aO 4 (aR .list (ae (fC (.int 0)) (ae (fC (.int 1)) (ae (fUn jT (fC (.int 1))) (ae (fC (.int 2)) (ae (ag hG (fC (.int 10)) (fC (.int 18))) (ae (fUn jT (ag hG (fC (.int 10)) (fC (.int 18)))) (ae (fC (.str "")) (ae (fC (.str "a")) (ae (fC (.str "0")) (ae (fC (.str "-")) (ae (ag bB (fC (.str "a")) (fC (.int 20))) (ae (aR .tuple ai) ai)))))))))))))) (aq (fIf (bD (aB (ag ltD (aa 3) (fC (.int 6)))) (fD (aB (ag eqD (aa 2) (fC (.int 0)))) (aB (ag gtD (aa 3) (fC (.int 7)))))) (aw (ag ixD (aa 4) (ar a7 (ae (aa 0) (ae (fC (.int 12)) ai))))) aJ) (aq (fIf (aB (ag ltD (aa 3) (fC (.int 8)))) (aw (ag ixD (aa 1) (ar a7 (ae (aa 0) (ae (fCB bf (ae (aa 1) ai)) ai))))) aJ) (aw (fCB fi (ae (b9 (cH (ar a7 (ae (aa 0) (ae (fC (.int 4)) ai)))) bv (ar (bM n) (ae (aa 1) (ae (aa 2) (ae (ag dN (aa 3) (fC (.int 1))) ai))))) ai)))))))
def eY:FnM:=aS 3 (aq (fIf (fD (aB (ag gtD (aa 2) (fC (.int 0)))) (aB (ag gtD (ar a7 (ae (aa 0) (ae (fC (.int 3)) ai))) (fC (.int 0))))) (aw (aR .tuple (ae (fC (.str "got")) (ae (ar a7 (ae (aa 0) (ae (aa 2) ai))) ai)))) aJ) (aw (aR .tuple (ae (fC (.str "put")) (ae (ar (bM 25) (ae (aa 0) (ae (aa 1) (ae (fC (.int 1)) ai)))) ai)))))
def e7:FnM:=aS 6 (aq (aO 3 (ar a7 (ae (aa 0) (ae (fC (.int 10)) ai)))) (aq (aO 4 (ar eY (ae (aa 0) (ae (aa 1) (ae (aa 2) ai))))) (aq (fIf (aB (ag ltD (aa 3) (fC (.int 5)))) (aw (ag ixD (aR .list (ae (aa 4) (ae (aR .tuple (ae (fC (.str "many")) (ae (aa 4) ai))) ai))) (ag dZ (aa 3) (fC (.int 4))))) aJ) (aq (aO 5 (ar eY (ae (aa 0) (ae (aa 1) (ae (aa 2) ai))))) (aq (fIf (aB (ag eqD (aa 3) (fC (.int 5)))) (aw (aR .tuple (ae (fC (.str "row")) (ae (fSl (aR .tuple (ae (aa 4) (ae (aa 5) ai))) cf (fP (ar a7 (ae (aa 0) (ae (fC (.int 3)) ai))))) ai)))) aJ) (aw (aR .tuple (ae (ag ixD (aR .list (ae (fC (.str "sum")) (ae (fC (.str "join")) (ae (fC (.str "same")) (ae (fC (.str "less")) (ae (fC (.str "part")) ai)))))) (ar a7 (ae (aa 0) (ae (fC (.int 5)) ai)))) (ae (aa 4) (ae (aa 5) ai))))))))))
def bq:Nat→FnM
 | 0=>fun _ _=>none
 | n + 1=>aS 9 (aq (aO 5 (ar a7 (ae (aa 0) (ae (fC (.int 8)) ai)))) (aq (aO 6 (ar e7 (ae (aa 0) (ae (aa 1) (ae (aa 3) ai))))) (aq (fIf (fD (aB (ag gtD (aa 2) (fC (.int 0)))) (aB (ag ltD (aa 5) (fC (.int 4))))) (aq (aO 7 (ag ixD (aR .list (ae (fC (.str "want")) (ae (fC (.str "peek")) ai))) (fCB intD (ae (bp (aa 4) (ag eqD (ar a7 (ae (aa 0) (ae (fC (.int 4)) ai))) (fC (.int 0)))) ai)))) (aq (fIf (aB (ag gtD (ar a7 (ae (aa 0) (ae (fC (.int 5)) ai))) (fC (.int 0)))) (aO 6 (aR .tuple (ae (fC (.str "put")) (ae (ag ixD (aa 1) (ar a7 (ae (aa 0) (ae (fCB bf (ae (aa 1) ai)) ai)))) ai)))) aJ) (aw (aR .tuple (ae (aa 7) (ae (aa 6) (ae (ar (bq n) (ae (aa 0) (ae (aa 1) (ae (ag dN (aa 2) (fC (.int 1))) (ae (ag aG (aa 3) (fC (.int 1))) (ae (aa 4) ai)))))) ai))))))) aJ) (aq (fIf (fD (aB (ag gtD (aa 2) (fC (.int 1)))) (aB (ag ltD (aa 5) (fC (.int 6))))) (aq (aO 8 (ar (bq n) (ae (aa 0) (ae (aa 1) (ae (ag dN (aa 2) (fC (.int 2))) (ae (aa 3) (ae (aa 4) ai))))))) (aw (aR .tuple (ae (fC (.str "when")) (ae (aa 6) (ae (aa 8) (ae (ar (bq n) (ae (aa 0) (ae (aa 1) (ae (ag dN (aa 2) (fC (.int 2))) (ae (aa 3) (ae (aa 4) ai)))))) ai))))))) aJ) (aq (fIf (fD (aB (ag eqD (aa 5) (fC (.int 6)))) (aB (ag eqD (ar a7 (ae (aa 0) (ae (fC (.int 2)) ai))) (fC (.int 0))))) (aw (aR .tuple (ae (fC (.str "fail")) (ae (ag ixD (ag aG (aa 1) (aR .list (ae (fC (.str "kind")) (ae (fC (.str "name")) ai)))) (ar a7 (ae (aa 0) (ae (ag aG (fCB bf (ae (aa 1) ai)) (fC (.int 2))) ai)))) ai)))) aJ) (aw (aR .tuple (ae (fC (.str "say")) (ae (aa 6) ai)))))))))
def gD:FnM:=aS 10 (iM 3 (ae (ar eZ (ae (ar cB (ae (aa 0) (ae (aa 1) ai))) (ae (fC (.int 24)) ai))) (ae (fC (.int 0)) ai)) (aq (aO 4 (ag aG (fC (.int 3)) (ar a7 (ae (aa 3) (ae (fC (.int 8)) ai))))) (aq (aO 5 (ar eg (ae (aa 3) (ae (ag aG (aa 4) (fC (.int 2))) ai)))) (aq (eM 6) (aq (eM 7) (aq (cw 8 (cH (aa 4)) (iM 9 (ae (ar eZ (ae (ag aG (ar cB (ae (aa 0) (ae (ag aG (ag aG (aa 1) (fC (.int 1))) (aa 8)) ai))) (ag bB (fC (.int 977)) (aa 8))) (ae (fC (.int 60)) ai))) (ae (fC (.int 0)) ai)) (fIf (aB (ag eqD (ar a7 (ae (aa 9) (ae (fC (.int 4)) ai))) (fC (.int 0)))) (eN 6 (ag ixD (aa 5) (aa 8)) (ar (bM 25) (ae (aa 9) (ae (aa 5) (ae (fC (.int 2)) ai))))) (eN 7 (ag ixD (aa 5) (aa 8)) (ar (bq 25) (ae (aa 9) (ae (aa 5) (ae (ag aG (fC (.int 1)) (ar a7 (ae (aa 9) (ae (fC (.int 4)) ai)))) (ae (fC (.int 0)) (ae (aa 2) ai)))))))))) (aw (aR .tuple (ae (aa 6) (ae (aa 7) ai))))))))))
def br:Nat→FnM
 | 0=>fun _ _=>none
 | n + 1=>aS 4 (aq (fIf (aB (ag eqD (ag ixD (aa 0) (fC (.int 0))) (fC (.str "put")))) (aw (aR .list (ae (fC (.str "put")) (ae (ar (cx 25) (ae (ag ixD (aa 0) (fC (.int 1))) ai)) ai)))) aJ) (aq (fIf (aB (ag inD (ag ixD (aa 0) (fC (.int 0))) (aR .tuple (ae (fC (.str "got")) (ae (fC (.str "fail")) ai))))) (aw (aR .list (ae (ag ixD (aa 0) (fC (.int 0))) (ae (fCB g9 (ae (ag ixD (aa 0) (fC (.int 1))) ai)) ai)))) aJ) (aq (fB 1 (ae (ag ixD (aa 0) (fC (.int 0))) ai)) (aq (aO 2 (fSl (aa 0) (fP (fC (.int 1))) cf)) (aq (fIf (aB (ag eqD (ag ixD (aa 0) (fC (.int 0))) (fC (.str "row")))) (aq (aO 2 (ag ixD (aa 0) (fC (.int 1)))) (cM 1 (fCB g9 (ae (fCB bf (ae (aa 2) ai)) ai)))) aJ) (aq (cw 3 (b8 (aa 2)) (cU 1 (aa 1) (ar (br n) (ae (aa 3) ai)))) (aw (aa 1))))))))
def jI (C:Addr):FnM:=aS 10 (aq (aO 1 (ar gD (ae (aa 0) (ae (fC (.int 1)) (ae (ag eqD (ag bC (ar cB (ae (aa 0) (ae (fC (.int 0)) ai))) (fC (.int 3))) (fC (.int 0))) ai))))) (aq (aO 2 (aR .tuple (ae (iZ (ag ixD (aa 1) (fC (.int 0)))) (ae (iZ (ag ixD (aa 1) (fC (.int 1)))) ai)))) (aq (fB 3 ai) (aq (cw 4 (b8 (fCB iR (ae (ag aG (fCB fw (ae (ag ixD (aa 1) (fC (.int 0))) ai)) (fCB fw (ae (ag ixD (aa 1) (fC (.int 1))) ai))) ai))) (fIf (aB (ag inA (aa 4) (ag ixD (aa 1) (fC (.int 0))))) (cM 3 (ag aG (ag aG (ag aG (fC (.str "told ")) (aa 4)) (fC (.str " "))) (ar (cx 25) (ae (ag ixA (ag ixD (aa 1) (fC (.int 0))) (aa 4)) ai)))) (cM 3 (ag aG (ag aG (ag aG (fC (.str "made ")) (aa 4)) (fC (.str " "))) (ag g0 (fC (.str " ")) (ar (br 25) (ae (ag ixA (ag ixD (aa 1) (fC (.int 1))) (aa 4)) ai))))))) (aq (cw 5 (cH (fC (.int 2))) (aq (k6 6 fO (ae (aa 1) ai)) (aq (fIf (cV (bg (iN (aY 25) (ae (aa 6) (ae (aa 3) ai))))) (aw (fC (.bool false))) aJ) (aq (cM 6 (fC (.str "x"))) (h9 6 aJ))))) (aq (aO 7 (ag bC (ag dZ (ar cB (ae (aa 0) (ae (fC (.int 0)) ai))) (fC (.int 3))) (fCB bf (ae (aa 3) ai)))) (h9 3 (aq (cw 8 (b8 (aR .list (ae (aa 3) (ae (ag aG (fSl (aa 3) (fP (aa 7)) cf) (fSl (aa 3) cf (fP (aa 7)))) (ae (fUn jM (aa 3)) ai))))) (aq (aO 9 (fCB gj (ae (aa 8) ai))) (kj 6 (cO C) (ae (aa 9) ai) (bD (cV (bg (iN (aY 25) (ae (aa 6) (ae (aa 2) ai))))) (aB (ag neG (aa 9) (aa 8)))) (aw (fC (.bool false))) aJ))) (aw (bp (ar (aY 25) (ae (iF (cO C) (ae (aa 3) ai)) (ae (aa 2) ai))) (bp (ar (aY 25) (ae (aa 1) (ae (aa 2) ai))) (ar (aY 25) (ae (iF (cO C) (ae (aR .list ai) ai)) (ae (aR .tuple (ae (fC (.dict [])) (ae (fC (.dict [])) ai))) ai))))))))))))))
end G
namespace K1
open PySem
structure Sh (d:PyData) (k n:Nat):Prop where
 sh:d.showable=true
 lv:d.leavesShort 200=true
 dp:d.depth≤k
 wt:d.weight≤n
structure Shs (ds:List PyData) (k n:Nat):Prop where
 sh:PyData.showableAll ds=true
 lv:PyData.leavesShortAll 200 ds=true
 dp:PyData.depthAll ds≤k
 wt:PyData.weightAll ds≤n
theorem Dg {s x:Str} (hs:∀ c∈s.cps.toList,c < 128) (h:has s x=true):∀ c∈x.cps.toList,c < 128:=fun c hc=>
 hs c (of_decide_eq_true (List.all_eq_true.mp h c hc))
theorem Du:∀ c∈TXT.cps.toList,c < 128:=by decide +kernel
end K1
namespace K1
open PySem
def Good (d:PyData):Prop:=Sh d 60 60000
end K1
namespace G
open PySem PySem.Spec PyProof.Rows L2 D
open K1 (has LET TXT single aF aD lsz isName aT tdp a8 ldp)
mutual
def smB:PyData→Bool
 | .str x=>decide (x.length≤60000) && x.cps.toList.all fun c=>decide (c < 128)
 | .tuple ds=>gp ds
 | _=>true
def gp:List PyData→Bool
 | []=>true
 | d::r=>smB d && gp r
end
def Sm (d:PyData):Prop:=smB d=true
theorem Sm.both {x:Str} (h:Sm (.str x)):x.length≤60000∧∀ c∈x.cps.toList,c < 128:=by
 have h':(decide (x.length≤60000) && x.cps.toList.all fun c=>decide (c < 128))=true:=by
  have:smB (.str x)=true:=h
  rw [smB] at this
  exact this
 rw [Bool.and_eq_true,List.all_eq_true] at h'
 exact ⟨of_decide_eq_true h'.1,fun c hc=>of_decide_eq_true (h'.2 c hc)⟩
theorem Sm.str {x:Str} (h:Sm (.str x)):x.cps.size≤60000:=h.both.1
theorem Sm.mkS {x:Str} (h:x.length≤60000) (h2:∀ c∈x.cps.toList,c < 128):Sm (.str x):=by
 show smB (.str x)=true
 rw [smB,Bool.and_eq_true,List.all_eq_true]
 exact ⟨decide_eq_true h,fun c hc=>decide_eq_true (h2 c hc)⟩
theorem qO:∀ {ds:List PyData} {d:PyData},gp ds=true→d∈ds→smB d=true
 | e::r,d,h,hd=>by
  have h':(smB e && gp r)=true:=by simpa [gp] using h
  rw [Bool.and_eq_true] at h'
  rcases List.mem_cons.mp hd with z | z
  ·rw [z]; exact h'.1
  ·exact qO h'.2 z
theorem Sm.part {ds:List PyData} {d:PyData} (h:Sm (.tuple ds)) (hd:d∈ds):Sm d:=qO (by simpa [Sm,smB] using h) hd
theorem rZ:∀ {ds:List PyData},(∀ d∈ds,Sm d)→gp ds=true
 | [],_=>by simp [gp]
 | d::r,h=>by
  have h1:smB d=true:=h d List.mem_cons_self
  simp [gp,h1,rZ (ds:=r) fun x hx=>h x (List.mem_cons_of_mem _ hx)]
theorem Sm.tup {ds:List PyData} (h:∀ d∈ds,Sm d):Sm (.tuple ds):=by simp [Sm,smB,rZ h]
def whole:PyData→Bool
 | .int _=>true
 | _=>false
theorem ju (x:PyData) (T:Tp):gF [.d x] T=some (.bool (whole x),T):=by cases x <;> rfl
theorem yU (y x:Str):(D.signs x).all (tI y)=has y x:=by
 unfold D.signs has
 rw [List.all_map]
 congr 1
 funext c
 exact rl y c
theorem oq {x y:Str} (T:Tp) (h:x.length≤sizeLine):df [.d (.str x),.d (.str y)] T=some (.bool (has y x),T):=by
 have hc:bK bv (ag inD (aa 0) (aa 2)) [some (.d (.str x)),some (.d (.str y))] (D.signs x) T=some ((D.signs x).map fun d=>.bool (tI y d),T):=cQ fun d hd=>by
  obtain ⟨c,_,rfl⟩:=yT hd
  rfl
 simp [df,h,hc,yU]
theorem AX {d:PyData} (T:Tp) (h:Sm d):gB [.d d] T=some (.bool (single d),T):=by
 cases d with
 | str x=>
  have hz:x.length≤sizeLine:=Nat.le_trans h.str (by decide)
  have hh:∀ T,df [.d (.str x),.d (.str "abcdefghijklmnopqrstuvwxyz0123456789-")] T=some (.bool (has TXT x),T):=fun T=>oq T hz
  have e:single (.str x)=(decide (x.length≤20) && has TXT x):=rfl
  have hi:bw .str .str=true:=rfl
  by_cases hk:x.length≤20
  ·have hk':(x.length:Int)≤20:=by omega
   simp [gB,ju,whole,hh,hz,hi,e,hk,hk']
  ·have hk':¬ (x.length:Int)≤20:=by omega
   simp [gB,ju,whole,hh,hz,hi,e,hk,hk']
 | _=>rfl
theorem kX {d:PyData} (h:kd d=.tup):∃ ds,d=.tuple ds:=by cases d <;> first | exact ⟨_,rfl⟩ | cases h
theorem sr {d:PyData} (h:kd d≠.tup):bw (kd d) .tup=false:=by
 revert h
 cases kd d <;> simp [bw]
theorem oZ {n:Nat} {d:PyData} (h:kd d≠.tup):aF n d=single d:=by cases d <;> first | (cases n <;> rfl) | exact absurd rfl h
theorem pB {n:Nat} {d:PyData} (h:kd d≠.tup):aD n d=1:=by cases d <;> first | (cases n <;> rfl) | exact absurd rfl h
theorem EZ {d:PyData} (h:tdp 0 d=true):kd d≠.tup:=by
 intro z
 cases d <;> first | cases h; done | cases z
theorem jz:bw .tup .tup=true:=rfl
theorem tm:∀ (n k:Nat) (d:PyData) (T:Tp),Sm d→n < k→de k [.d d,.d (.int n)] T=some (.bool (aF n d),T)
 | n,0,d,T,_,hk=>absurd hk (Nat.not_lt_zero _)
 | n,k + 1,d,T,hg,hk=>by
  by_cases ht:kd d=.tup
  ·obtain ⟨ds,rfl⟩:=kX ht
   cases n with
   | zero=>simp [de,jz,aF]
   | succ n=>
    have e:aF (n + 1) (.tuple ds)=(decide (ds.length≤8) && ds.all (aF n)):=rfl
    have h0:¬ ((n + 1:Nat):Int)=0:=by omega
    have h0':¬ (n:Int) + 1=0:=by omega
    by_cases h8:ds.length≤8
    ·have h8':¬ (8:Int) < (ds.length:Int):=by omega
     have hs:((n + 1:Nat):Int) - 1=(n:Int):=by omega
     have hc:bK bv (ar (de k) (ae (aa 0) (ae (ag dN (aa 2) (fC (.int 1))) ai))) [some (.d (.tuple ds)),some (.d (.int ((n + 1:Nat):Int)))] ds T=some (ds.map fun x=>.bool (aF n x),T):=cQ fun x hx=>by
      have:=tm n k x T (hg.part hx) (by omega)
      simp [hs,this]
     simp [de,jz,e,h0,h0',h8,h8'] at hc ⊢
     simp [hc]
    ·have h8':(8:Int) < (ds.length:Int):=by omega
     simp [de,jz,e,h0,h0',h8,h8']
  ·simp [de,sr ht,oZ ht,AX T hg]
theorem uz:∀ (n k:Nat) (d:PyData) (T:Tp),tdp n d=true→n < k→eh k [.d d] T=some (.int (aD n d),T)
 | n,0,d,T,_,hk=>absurd hk (Nat.not_lt_zero _)
 | n,k + 1,d,T,hg,hk=>by
  by_cases ht:kd d=.tup
  ·cases n with
   | zero=>exact absurd ht (EZ hg)
   | succ n=>
    obtain ⟨ds,rfl⟩:=kX ht
    have hg':ds.all (tdp n)=true:=hg
    have e:aD (n + 1) (.tuple ds)=1 + (ds.map (aD n)).sum:=rfl
    have hc:bK bv (ar (eh k) (ae (aa 0) ai)) [some (.d (.tuple ds))] ds T=some (ds.map fun x=>.int (aD n x),T):=cQ fun x hx=>by
     have:=uz n k x T (List.all_eq_true.mp hg' x hx) (by omega)
     simp [this]
    simp [eh,jz,e,hc]
  ·simp [eh,sr ht,pB ht]
theorem B5 {d:PyData} (T:Tp) (h:Sm d):gG [.d d] T=some (.bool (aT d),T):=by
 have h1:=tm 4 25 d T h (by decide)
 have h1':de 25 [.d d,.d (.int 4)] T=some (.bool (aF 4 d),T):=h1
 have e:aT d=(aF 4 d && decide (aD 4 d≤40)):=rfl
 cases hb:aF 4 d with
 | false=>simp [gG,h1',e,hb]
 | true=>
  have h2:=uz 4 25 d T (K1.qA 4 d hb) (by decide)
  simp [gG,h1',h2,e,hb]
variable {R:Tp}
open K1 (has LET TXT single aF aD lsz isName aT tdp a8 ldp Good Sh Shs)
variable {R:Tp}
theorem f9 {α:Type} {xs:List α} {i:Int} (h0:0≤i) (h1:i < (xs.length:Int)):∃ a,atI xs i=some a∧a∈xs:=by
 have h:i.toNat < xs.length:=by omega
 refine ⟨xs[i.toNat],?_,List.getElem_mem h⟩
 unfold atI ixN
 rw [if_pos h0,if_pos h1]
 show xs[i.toNat]? = _
 rw [List.getElem?_eq_getElem h]
theorem BE:(LET.cps.toList.length:Int)=26:=by decide +kernel
theorem rB {z:Str} {xs:List PyData} {ys:List Str} (h:cm xs=some ys):gk (.str z) (.list xs)=if (ys.map (·.length)).sum + ys.length * z.length≤16777216 then some (.str (Str.join z ys)) else none:=by
 show (match cm xs with | some (ys:List Str)=>if (ys.map fun x:Str=>x.length).sum + ys.length * z.length≤16777216 then some (PyData.str (Str.join z ys)) else none | none=>none)=_
 rw [h]
theorem mG (n:Nat):(ba 0 n).length=n:=by simp [ba]
theorem dR {j:Int} (h0:0≤j) (h1:j≤1000):iS j=true:=decide_eq_true (by omega)
theorem mZ:LET.length≤sizeLine:=by decide +kernel
theorem l5 {x:Str} (h:isName (.str x)=true):single (.str x)=true:=by
 have h':(decide (1≤x.length) && decide (x.length≤8) && has LET x)=true:=h
 rw [Bool.and_eq_true,Bool.and_eq_true] at h'
 have h8:=of_decide_eq_true h'.1.2
 show (decide (x.length≤20) && has TXT x)=true
 rw [decide_eq_true (by omega)]
 have sub:∀ c∈LET.cps.toList,c∈TXT.cps.toList:=by decide +kernel
 exact List.all_eq_true.mpr fun c hc=>decide_eq_true (sub c (of_decide_eq_true (List.all_eq_true.mp h'.2 c hc)))
theorem dy {i:Int} (h : -1000000000000000000≤i) (h':i≤1000000000000000000):single (.int i)=true:=by
 show decide ((if i < 0 then -i else i)≤10 ^ 18)=true
 refine decide_eq_true ?_
 split <;> omega
theorem bT {n:Nat} {d:PyData} (h:single d=true):aF n d=true∧aD n d=1:=by
 cases d with
 | int i=>exact ⟨by cases n <;> exact h,by cases n <;> rfl⟩
 | str x=>exact ⟨by cases n <;> exact h,by cases n <;> rfl⟩
 | _=>cases h
theorem tG {f:PyData→Int} {q:Int}:∀ {l:List PyData},(∀ d∈l,f d≤q)→(l.map f).sum≤l.length * q
 | [],_=>by simp
 | a::r,h=>by
  have h1:=h a List.mem_cons_self
  have h2:=tG (l:=r) fun d hd=>h d (List.mem_cons_of_mem _ hd)
  rw [List.map_cons,List.sum_cons,List.length_cons]
  have:((r.length + 1:Nat):Int) * q=r.length * q + q:=by rw [Int.natCast_add,Int.add_mul]; simp
  omega
end G
namespace D
open PySem PySem.Spec PyProof.Rows L2
def cd (x:Str):List Nat:=x.cps.toList
theorem dI {x y:Str} (h:cd x=cd y):x=y:=by
 obtain ⟨x⟩:=x
 obtain ⟨y⟩:=y
 have h':x.toList=y.toList:=h
 exact congrArg Str.mk (Array.toList_inj.mp h')
theorem b6 (x:Str):(cd x).length=x.length:=Array.length_toList
theorem iP (x y:Str):cd (x++y)=cd x++cd y:=cps_toList_append x y
theorem p7 {α:Type} (xs:List α) (a:Nat):∀ k:Nat,(List.range k).filterMap (fun m=>xs[a + m]?)=(xs.drop a).take k
 | 0=>by simp
 | k + 1=>by
  rw [List.range_succ,List.filterMap_append,p7 xs a k,List.take_add_one]
  congr 1
  simp only [List.filterMap_cons,List.filterMap_nil,List.getElem?_drop]
  cases xs[a + k]? <;> rfl
theorem qP {x:Str} {i j:Int} (h0:0≤i) (h1:0≤j):cd (Txt.slice x (some i) (some j))=((cd x).drop i.toNat).take (j.toNat - i.toNat):=by
 have hl:x.cps.toList.length=x.length:=Array.length_toList
 have e:Builtin.Str.strSliceIndices (some i) (some j) 1 x.length=(List.range ((min j.toNat x.length) - (min i.toNat x.length))).map fun k=>min i.toNat x.length + k:=by
  unfold Builtin.Str.strSliceIndices sliceRange
  simp only [show (1:Int) > 0 by decide,if_true,show ¬ i < 0 by omega,show ¬ j < 0 by omega,if_false]
  have ea:max 0 (min i (x.length:Int))=((min i.toNat x.length:Nat):Int):=by omega
  have eb:max 0 (min j (x.length:Int))=((min j.toNat x.length:Nat):Int):=by omega
  rw [ea,eb]
  have ec:(if ((min i.toNat x.length:Nat):Int) < ((min j.toNat x.length:Nat):Int) then (((min j.toNat x.length:Nat):Int) - ((min i.toNat x.length:Nat):Int) + 1 - 1) / 1 else 0).toNat=(min j.toNat x.length) - (min i.toNat x.length):=by
   split
   ·rw [Int.ediv_one]; omega
   ·omega
  rw [ec]
  refine List.map_congr_left fun k _=>?_
  omega
 have pk:(Builtin.Str.strSliceIndices (some i) (some j) 1 x.length).filterMap (x.cps[·]?)=(x.cps.toList.drop (min i.toNat x.length)).take ((min j.toNat x.length) - (min i.toNat x.length)):=by
  rw [e,List.filterMap_map,← p7]
  congr 1
  funext m
  simp
 have fin:(x.cps.toList.drop (min i.toNat x.length)).take ((min j.toNat x.length) - (min i.toNat x.length))=((cd x).drop i.toNat).take (j.toNat - i.toNat):=by
  unfold cd
  by_cases hi:i.toNat≤x.length
  ·have e1:min i.toNat x.length=i.toNat:=by omega
   rw [e1]
   by_cases hj:j.toNat≤x.length
   ·have e2:min j.toNat x.length=j.toNat:=by omega
    rw [e2]
   ·have e2:min j.toNat x.length=x.length:=by omega
    rw [e2,List.take_of_length_le (by rw [List.length_drop,hl]; omega),List.take_of_length_le (by rw [List.length_drop,hl]; omega)]
  ·have e1:min i.toNat x.length=x.length:=by omega
   rw [e1,List.drop_eq_nil_of_le (by omega),List.drop_eq_nil_of_le (by omega)]
   simp
 unfold Txt.slice
 split
 ·rename_i h
  have h':(Builtin.Str.strSliceIndices (some i) (some j) 1 x.length).length=x.length:=by simpa using h
  rw [e,List.length_map,List.length_range] at h'
  rw [← fin]
  show x.cps.toList=_
  by_cases hz:x.length=0
  ·have:x.cps.toList=[]:=List.length_eq_zero_iff.mp (by omega)
   rw [this]; simp
  ·have e1:min i.toNat x.length=0:=by omega
   have e2:min j.toNat x.length=x.length:=by omega
   rw [e1,e2,List.drop_zero,Nat.sub_zero,List.take_of_length_le (by omega)]
 ·rw [← fin,← pk]
  rfl
theorem ph {x:Str} {i:Int} (h0:0≤i) (h1:i≤(x.length:Int)):cd (Txt.slice x (some i) none)=(cd x).drop i.toNat:=by
 rw [slice_from_eq h0 h1 rfl]
 show (List.take _ _)=_
 refine List.take_of_length_le ?_
 rw [List.length_drop]
 have:x.cps.toList.length=x.length:=Array.length_toList
 omega
def aV (c:List Nat):List (List Nat)→List Nat
 | []=>[]
 | [x]=>x
 | x::y::r=>x++c++aV c (y::r)
theorem iD (z:Str):∀ ys:List Str,cd (Str.join z ys)=aV (cd z) (ys.map cd)
 | []=>rfl
 | [x]=>by
  show cd (Str.join z [x])=cd x
  simp [Str.join]
 | x::y::r=>by
  have ih:=iD z (y::r)
  show cd ((x++z)++Str.join z (y::r))=_
  rw [iP,iP,ih]
  rfl
theorem jZ (c x:List Nat) (r:List (List Nat)):aV c (x::r)=x++(r.map (c++·)).flatten:=by
 induction r generalizing x with
 | nil=>simp [aV]
 | cons y r ih=>
  show x++c++aV c (y::r)=_
  rw [ih y]
  simp
theorem pd {x:Str} {c:Nat}:Txt.startswith x ⟨#[c]⟩=decide ((cd x).head? = some c):=by
 unfold Txt.startswith
 have hl:(⟨#[c]⟩:Str).length=1:=rfl
 rw [hl]
 obtain ⟨⟨l⟩⟩:=x
 cases l with
 | nil=>rfl
 | cons a r=>
  have h1:(0 + 1≤(⟨⟨a::r⟩⟩:Str).length):=by show 0 + 1≤(a::r).length; simp
  rw [decide_eq_true h1,Bool.true_and]
  show Builtin.Str.subAt ⟨⟨a::r⟩⟩ ⟨#[c]⟩ 0=decide ((a::r).head? = some c)
  have e:(⟨⟨a::r⟩⟩:Str).cps.extract 0 (0 + (⟨#[c]⟩:Str).length) = #[a]:=by
   rw [hl]
   apply Array.toList_inj.mp
   rw [Array.toList_extract]
   rfl
  unfold Builtin.Str.subAt
  rw [e,Bool.eq_iff_iff]
  simp
end D
namespace G
open PySem PySem.Spec PyProof.Rows L2 D
open K1 (has LET TXT single aF aD lsz isName aT tdp a8 ldp)
def mk (l:List Nat):Str:=⟨l.toArray⟩
theorem cu (l:List Nat):cd (mk l)=l:=by simp [cd,mk]
theorem oi (x:Str):mk (cd x)=x:=dI (cu _)
theorem bY (l:List Nat):(mk l).length=l.length:=by simp [mk,Str.length]
def FIG:Str:=Str.ofString "0123456789"
def dl (c:Nat):Bool:=decide (c∈cd "(),")
theorem k9 (c:Nat):dl c=decide (c=40∨c=41∨c=44):=by
 have e:cd "()," = [40,41,44]:=by decide +kernel
 unfold dl
 rw [e]
 simp
def W (l:List Nat):List Nat:=l.takeWhile fun c=>!dl c
def eU (w:List Nat):Bool:=!decide (w=[]) && w.all (fun c=>decide (c∈cd FIG)) && (decide (w=[48]) || !decide (w.head? = some 48))
theorem u3 {x:Str} {y:Str} {l:List Nat} (h:cd y=l):decide (x=y)=decide (cd x=l):=by refine decide_eq_decide.mpr ⟨fun e=>by rw [e,h],fun e=>dI (by rw [e,h])⟩
theorem DC {x:Str} (T:Tp) (h:x.length≤sizeLine):ef [.d (.str x)] T=some (.bool (eU (cd x)),T):=by
 have h1:∀ T,df [.d (.str x),.d (.str "0123456789")] T=some (.bool (has FIG x),T):=fun T=>oq T h
 have e1:decide (x=Str.ofString "")=decide (cd x=[]):=u3 (by decide +kernel)
 have e2:decide (x=Str.ofString "0")=decide (cd x=[48]):=u3 (by decide +kernel)
 have e3:Txt.startswith x "0" = decide ((cd x).head? = some 48):=by
  have:Str.ofString "0" = ⟨#[48]⟩:=dI (by decide +kernel)
  rw [this,pd]
 have e4:has FIG x=(cd x).all (fun c=>decide (c∈cd FIG)):=rfl
 have p1:(x=Str.ofString "")=(cd x=[]):=propext (by simpa using e1)
 have p2:(x=Str.ofString "0")=(cd x=[48]):=propext (by simpa using e2)
 unfold eU
 rw [← e4]
 by_cases hn:cd x=[]
 ·simp [ef,h1,p1,p2,e3,hn]
 ·cases hf:has FIG x with
  | false=>simp [ef,h1,p1,p2,e3,hn,hf]
  | true=>
   by_cases h0:cd x=[48]
   ·simp [ef,h1,p1,p2,e3,hn,hf,h0]
   ·simp [ef,h1,p1,p2,e3,hn,hf,h0]
def hI:Option Int→PyData
 | some i=>.int i
 | none=>.none
def jN:Option PyData→PyData
 | some i=>i
 | none=>.none
def Fz (w:List Nat):Bool:=w.all (fun c=>decide (c∈cd FIG))
theorem qm:cd FIG=[48,49,50,51,52,53,54,55,56,57]:=by decide +kernel
theorem Dr {w:List Nat} (h:Fz w=true):NumText.AllDigits w:=fun c hc=>by
 have:=of_decide_eq_true (List.all_eq_true.mp h c hc)
 rw [qm] at this
 simp at this
 omega
theorem Ay {w:List Nat} (h:eU w=true):NumText.AllDigits w∧w≠[]:=by
 unfold eU at h
 rw [Bool.and_eq_true,Bool.and_eq_true] at h
 exact ⟨Dr h.1.2,by simpa using h.1.1⟩
def fg (w:List Nat):List Nat:=if w.head? = some 45 then w.tail else w
def jQ (w:List Nat):Option Int:=if w=[45,48]∨19 < (fg w).length∨eU (fg w)=false then none else some (if w.head? = some 45 then -((NumText.digitsVal w.tail:Nat):Int) else ((NumText.digitsVal w:Nat):Int))
theorem pf {x y:Str} {c:Nat} (h:cd y=[c]):Txt.startswith x y=decide ((cd x).head? = some c):=by
 have:y=⟨#[c]⟩:=dI (by rw [h]; rfl)
 rw [this,pd]
theorem A0 {x:Str} (T:Tp) (h:x.length≤sizeLine):gA [.d (.str x)] T=some (hI (jQ (cd x)),T):=by
 have e1:Txt.startswith x "-" = decide ((cd x).head? = some 45):=pf (by decide +kernel)
 have p2:(x=Str.ofString "-0")=(cd x=[45,48]):=propext ⟨fun e=>by rw [e]; decide +kernel,fun e=>dI (by rw [e]; decide +kernel)⟩
 have hl:=b6 x
 obtain ⟨f,hf,hfl,hfe⟩:∃ f:Str,cd f=fg (cd x)∧f.length≤x.length∧∀ T,eV (bg (ag fX (aa 0) (fC (.str "-")))) (fSl (aa 0) (fP (fC (.int 1))) cf) (aa 0) [some (.d (.str x)),none] T=some (.d (.str f),T):=by
  by_cases hm:(cd x).head? = some 45
  ·have hne:1≤x.length:=by
    rw [← hl]
    cases hx:cd x with
    | nil=>rw [hx] at hm; cases hm
    | cons _ _=>simp
   refine ⟨Txt.slice x (some 1) none,?_,Txt.slice_le _ _ _,fun T=>by simp [e1,hm,h]⟩
   rw [ph (by decide) (by omega)]
   unfold fg
   rw [if_pos hm]
   simp
  ·refine ⟨x,?_,Nat.le_refl _,fun T=>by simp [e1,hm]⟩
   unfold fg
   rw [if_neg hm]
 have hfz:f.length≤sizeLine:=Nat.le_trans hfl h
 have h1:=fun T=>DC (x:=f) T hfz
 have hfl':f.length=(fg (cd x)).length:=by rw [← hf,b6]
 unfold jQ
 have start:gA [.d (.str x)] T=eK (bnd (bnd (eV (bg (ag fX (aa 0) (fC (.str "-")))) (fSl (aa 0) (fP (fC (.int 1))) cf) (aa 0) [some (.d (.str x)),none] T) (lS 1 [some (.d (.str x)),none])) (i6 (aq (fIf (bD (aB (ag eqD (aa 0) (fC (.str "-0")))) (bD (aB (ag gtD (fCB bf (ae (aa 1) ai)) (fC (.int 19)))) (cV (bg (ar ef (ae (aa 1) ai)))))) (aw (fC .none)) aJ) (aw (fCB intD (ae (aa 0) ai)))))):=by
  simp only [gA,lF,j9,kc,if_true,Dj,Di]
  rfl
 rw [start,hfe]
 by_cases c1:cd x=[45,48]
 ·rw [if_pos (.inl c1)]
  simp [p2,c1,hI]
 ·by_cases c2:19 < (fg (cd x)).length
  ·rw [if_pos (.inr (.inl c2))]
   have c2':(19:Int) < (f.length:Int):=by omega
   simp [p2,c1,hfz,c2',hI]
  ·have c2':¬ (19:Int) < (f.length:Int):=by omega
   cases c3:eU (fg (cd x)) with
   | false=>
    rw [if_pos (.inr (.inr rfl))]
    simp [p2,c1,hfz,c2',h1,hf,c3,hI]
   | true=>
    rw [if_neg (by simp [c1,c2])]
    obtain ⟨ad,ne⟩:=Ay c3
    have xl:x.length≤640:=by
     rw [← hl]
     have:(cd x).length≤(fg (cd x)).length + 1:=by
      unfold fg
      split
      ·rw [List.length_tail]; omega
      ·omega
     omega
    by_cases hm:(cd x).head? = some 45
    ·have ht:∃ cs,cd x=45::cs:=by
      cases hx:cd x with
      | nil=>rw [hx] at hm; cases hm
      | cons a r=>rw [hx] at hm; cases hm; exact ⟨r,rfl⟩
     obtain ⟨cs,hcs⟩:=ht
     have hfg:fg (cd x)=cs:=by unfold fg; rw [if_pos hm,hcs]; rfl
     rw [hfg] at ad ne
     have it:=intText_neg (x:=x) (cs:=cs) hcs ad ne (by omega)
     have it':intText? x=some (-((NumText.digitsVal (cd x).tail:Nat):Int)):=by rw [it,hcs]; rfl
     simp [p2,c1,hfz,c2',h1,hf,c3,hI,xl,it',hm]
    ·have hfg:fg (cd x)=cd x:=by unfold fg; rw [if_neg hm]
     rw [hfg] at ad ne
     have it:=intText_digits (x:=x) ad ne (by omega)
     have it':intText? x=some ((NumText.digitsVal (cd x):Nat):Int):=it
     simp [p2,c1,hfz,c2',h1,hf,c3,hI,xl,it',hm]
def fu (w:List Nat):Option PyData:=if w.head? = some 39 then some (.str (mk w.tail)) else (jQ w).map .int
theorem Ad (o:Option Int):hI o=jN (o.map .int):=by cases o <;> rfl
theorem AY {x:Str} (T:Tp) (h:x.length≤sizeLine):gz [.d (.str x)] T=some (jN (fu (cd x)),T):=by
 have e1:Txt.startswith x "'" = decide ((cd x).head? = some 39):=pf (by decide +kernel)
 unfold fu
 by_cases hm:(cd x).head? = some 39
 ·have hne:1≤x.length:=by
   rw [← b6]
   cases hx:cd x with
   | nil=>rw [hx] at hm; cases hm
   | cons _ _=>simp
  have es:Txt.slice x (some 1) none=mk (cd x).tail:=dI (by
   rw [ph (by decide) (by omega),cu]
   simp)
  rw [if_pos hm]
  simp [gz,e1,hm,h,es,jN]
 ·rw [if_neg hm,← Ad]
  simp [gz,e1,hm,A0 T h]
theorem EU {x:Str} {b:Nat} {a:Nat} {r:List Nat} (h:(cd x).drop b=a::r):atI x.cps.toList (b:Int)=some a∧b < x.length:=by
 have hb:b < (cd x).length:=by
  apply Decidable.byContradiction
  intro z
  rw [List.drop_eq_nil_of_le (by omega)] at h
  cases h
 refine ⟨kP ?_,by rw [← b6]; exact hb⟩
 have:(cd x)[b]? = ((cd x).drop b)[0]?:=by simp
 show (cd x)[b]? = some a
 rw [this,h]
 rfl
theorem r8 {t:Str} {at':PyData} {T:Tp} (ht:t.length≤sizeLine):∀ (n b:Nat),((cd t).drop b).length < n→b≤t.length →
  dF (fD (aB (ag ltD (aa 2) (fCB bf (ae (aa 0) ai)))) (aB (ag kS (ag ixD (aa 0) (aa 2)) (fC (.str "(),"))))) (aO 2 (ag aG (aa 2) (fC (.int 1)))) n [some (.d (.str t)),some (.d at'),some (.d (.int b)),none] T
   = some ((.nx,[some (.d (.str t)),some (.d at'),some (.d (.int ((b + (W ((cd t).drop b)).length:Nat):Int))),none]),T)
 | 0,b,h,_=>absurd h (Nat.not_lt_zero _)
 | n + 1,b,h,hb=>by
  unfold dF
  cases hd:(cd t).drop b with
  | nil=>
   have hl:t.length≤b:=by
    have:=congrArg List.length hd
    rw [List.length_drop,b6] at this
    simp at this
    omega
   have hn:¬ (b:Int) < (t.length:Int):=by omega
   simp [ht,hn,W]
  | cons a r=>
   obtain ⟨h1,h2⟩:=EU hd
   have hn:(b:Int) < (t.length:Int):=by omega
   have hin:kS (.str ⟨#[a]⟩) (.str "(),")=some (.bool (!dl a)):=by
    show some (PyData.bool (!hW "()," ⟨#[a]⟩))=_
    rw [rl]
    rfl
   cases hdl:dl a with
   | true=>simp [ht,hn,h1,hin,hdl,W]
   | false=>
    have hr:(cd t).drop (b + 1)=r:=by
     have:=congrArg List.tail hd
     simpa using this
    have ih:=r8 (at':=at') (T:=T) ht n (b + 1) (by rw [hr]; rw [hd] at h; simpa using h) (by omega)
    rw [hr] at ih
    have eb:((b + 1:Nat):Int)=(b:Int) + 1:=by omega
    rw [eb] at ih
    have ew:W (a::r)=a::W r:=by simp [W,hdl]
    have el:b + (a::W r).length=b + 1 + (W r).length:=by simp; omega
    rw [ew,el]
    simp [ht,hn,h1,hin,hdl,ih]
theorem AZ {t:Str} {b:Nat} (T:Tp) (ht:t.length≤60000) (hb:b≤t.length):fQ [.d (.str t),.d (.int b)] T=some ((match fu (W ((cd t).drop b)) with | none=>PyData.none | some v=>.tuple [v,.int ((b + (W ((cd t).drop b)).length:Nat):Int)]),T):=by
 have ht':t.length≤sizeLine:=Nat.le_trans ht (by decide)
 have hsc:=r8 (at':=.int b) (T:=T) ht' 100000 b (by rw [List.length_drop,b6]; omega) hb
 have hsl:cd (Txt.slice t (some (b:Int)) (some ((b + (W ((cd t).drop b)).length:Nat):Int)))=W ((cd t).drop b):=by
  rw [qP (by omega) (by omega)]
  have e:((b + (W ((cd t).drop b)).length:Nat):Int).toNat - ((b:Nat):Int).toNat=(W ((cd t).drop b)).length:=by omega
  rw [e]
  have e2:((b:Nat):Int).toNat=b:=by omega
  rw [e2]
  exact List.prefix_iff_eq_take.mp (List.takeWhile_prefix _) |>.symm
 have hlen:(Txt.slice t (some (b:Int)) (some ((b + (W ((cd t).drop b)).length:Nat):Int))).length≤sizeLine:=Nat.le_trans (Txt.slice_le _ _ _) ht'
 have hsb:=AY (x:=Txt.slice t (some (b:Int)) (some ((b + (W ((cd t).drop b)).length:Nat):Int))) T hlen
 rw [hsl] at hsb
 rw [Int.natCast_add] at hsb hsl hlen hsc
 rw [Int.natCast_add]
 cases hs:fu (W ((cd t).drop b)) with
 | none=>
  rw [hs] at hsb
  simp only [fQ,lF,j9,kc,if_true]
  simp [hsc,ht',hsb,jN,isNone]
 | some v=>
  have hv:isNone v=false:=by
   unfold fu at hs
   split at hs
   ·cases hs; rfl
   ·obtain ⟨i,_,rfl⟩:=Option.map_eq_some_iff.mp hs
    rfl
  rw [hs] at hsb
  simp only [fQ,lF,j9,kc,if_true]
  simp [hsc,ht',hsb,jN,hv]
def cY (n:Nat):Option (PyData×List Nat)→PyData
 | none=>.none
 | some (v,r)=>.tuple [v,.int ((n - r.length:Nat):Int)]
def eI (val:List Nat→Option (PyData×List Nat)):Nat→List PyData→List Nat→Option (PyData×List Nat)
 | 0,_,_=>none
 | n + 1,acc,l=>match val l with
  | none=>none
  | some (v,r)=>if r.head? = some 41 then some (.tuple (acc++[v]),r.tail) else if r.head? = some 44 then eI val n (acc++[v]) r.tail else none
def fq (l:List Nat):Option (PyData×List Nat):=(fu (W l)).map fun v=>(v,l.drop (W l).length)
def cW:Nat→List Nat→Option (PyData×List Nat)
 | 0,l=>if l.head? = some 40 then none else fq l
 | n + 1,l=>if l.head? = some 40 then (if l.tail.head? = some 41 then some (.tuple [],l.tail.tail) else eI (cW n) 100000 [] l.tail) else fq l
def Suf (val:List Nat→Option (PyData×List Nat)):Prop:=∀ l v r,val l=some (v,r)→r <:+ l
theorem qM {val:List Nat→Option (PyData×List Nat)} (h:Suf val):∀ n acc l v r,eI val n acc l=some (v,r)→r <:+ l
 | 0,acc,l,v,r,e=>by cases e
 | n + 1,acc,l,v,r,e=>by
  unfold eI at e
  cases hv:val l with
  | none=>rw [hv] at e; cases e
  | some p=>
   obtain ⟨v1,r1⟩:=p
   have s1:=h l v1 r1 hv
   rw [hv] at e
   dsimp only at e
   split at e
   ·cases e
    exact (List.tail_suffix _).trans s1
   ·split at e
    ·exact ((qM h n _ _ _ _ e).trans (List.tail_suffix _)).trans s1
    ·cases e
theorem qL:Suf fq:=fun l v r e=>by
 obtain ⟨v',_,e'⟩:=Option.map_eq_some_iff.mp e
 cases e'
 exact List.drop_suffix _ _
theorem rW:∀ n,Suf (cW n)
 | 0=>fun l v r e=>by
  unfold cW at e
  split at e
  ·cases e
  ·exact qL _ _ _ e
 | n + 1=>fun l v r e=>by
  unfold cW at e
  split at e
  ·split at e
   ·cases e
    exact (List.tail_suffix _).trans (List.tail_suffix _)
   ·exact (qM (rW n) _ _ _ _ _ e).trans (List.tail_suffix _)
  ·exact qL _ _ _ e
theorem kf {l:List Nat} {c:Nat} (h:l.head? = some c):l.length=l.tail.length + 1:=by
 cases l with
 | nil=>cases h
 | cons=>simp
theorem jx {t y:Str} {l:List Nat} {c:Nat} (hl:l <:+ cd t) (hy:cd y=[c]):(Txt.slice t (some ((t.length - l.length:Nat):Int)) (some (((t.length - l.length:Nat):Int) + 1))=y)=(l.head? = some c):=by
 have hd:(cd t).drop (t.length - l.length)=l:=by
  have:=List.suffix_iff_eq_drop.mp hl
  rw [b6] at this
  exact this.symm
 have e:cd (Txt.slice t (some ((t.length - l.length:Nat):Int)) (some (((t.length - l.length:Nat):Int) + 1)))=l.take 1:=by
  rw [qP (by omega) (by omega)]
  have e1:((t.length - l.length:Nat):Int).toNat=t.length - l.length:=by omega
  have e2:(((t.length - l.length:Nat):Int) + 1).toNat - (t.length - l.length)=1:=by omega
  rw [e1,e2,hd]
 refine propext ⟨fun z=>?_,fun z=>dI ?_⟩
 ·rw [z,hy] at e
  cases l with
  | nil=>cases e
  | cons a r=>simp at e; simp [e]
 ·rw [e,hy]
  cases l with
  | nil=>cases z
  | cons a r=>simp at z; simp [z]
theorem du {α:Type} {a b:α}:atI [a,b] 0=some a:=rfl
theorem dr {α:Type} {a b:α}:atI [a,b] 1=some b:=rfl
theorem pW {t:Str} {l:List Nat} (hl:l <:+ cd t) (T:Tp) (ht:t.length≤60000):fQ [.d (.str t),.d (.int ((t.length - l.length:Nat):Int))] T=some (cY t.length (fq l),T):=by
 have hd:(cd t).drop (t.length - l.length)=l:=by
  have:=List.suffix_iff_eq_drop.mp hl
  rw [b6] at this
  exact this.symm
 have hn:=hl.length_le
 rw [b6] at hn
 have h:=AZ (t:=t) (b:=t.length - l.length) T ht (by omega)
 rw [hd] at h
 rw [h]
 unfold fq
 have hw:(W l).length≤l.length:=(List.takeWhile_prefix _).length_le
 cases fu (W l) with
 | none=>rfl
 | some v=>
  show some (PyData.tuple [v,.int ((t.length - l.length + (W l).length:Nat):Int)],T)=some (PyData.tuple [v,.int ((t.length - (l.drop (W l).length).length:Nat):Int)],T)
  rw [List.length_drop]
  have:t.length - l.length + (W l).length=t.length - (l.length - (W l).length):=by omega
  rw [this]
def i8 (n:Nat):FS:=(aq (aO 4 (ar (cE n) (ae (aa 0) (ae (aa 1) (ae (aa 2) ai))))) (aq (fIf (aB (ag isD (aa 4) (fC .none))) (aw (fC .none)) aJ) (aq (cM 3 (ag ixD (aa 4) (fC (.int 0)))) (aq (aO 1 (ag aG (ag ixD (aa 4) (fC (.int 1))) (fC (.int 1)))) (aq (aO 5 (fSl (aa 0) (fP (ag ixD (aa 4) (fC (.int 1)))) (fP (aa 1)))) (aq (fIf (aB (ag eqD (aa 5) (fC (.str ")")))) (aw (aR .tuple (ae (fCB fi (ae (aa 3) ai)) (ae (aa 1) ai)))) aJ) (fIf (aB (ag neD (aa 5) (fC (.str ",")))) (aw (fC .none)) aJ)))))))
theorem tJ {t:Str} {T:Tp} {val:List Nat→Option (PyData×List Nat)} {n rows:Nat} (ht:t.length≤60000) (hs:Suf val) (hv:∀ l,l <:+ cd t→cE n [.d (.str t),.d (.int ((t.length - l.length:Nat):Int)),.d (.int rows)] T=some (cY t.length (val l),T)) :
  ∀ (k:Nat) (l:List Nat) (acc:List PyData) (o4 o5:Option D.W),l <:+ cd t→l.length < k→acc.length + l.length≤60000 →
  eK (dF (bg (fC (.bool true))) (i8 n) k [some (.d (.str t)),some (.d (.int ((t.length - l.length:Nat):Int))),some (.d (.int rows)),some (.loc (.list acc)),o4,o5] T)=some (cY t.length (eI val k acc l),T)
 | 0,l,acc,o4,o5,hl,hk,ha=>absurd hk (Nat.not_lt_zero _)
 | k + 1,l,acc,o4,o5,hl,hk,ha=>by
  have ht':t.length≤sizeLine:=Nat.le_trans ht (by decide)
  have ha':acc.length < sizeLine:=Nat.lt_of_le_of_lt (by omega:acc.length≤60000) (by decide)
  have h1:=hv l hl
  unfold dF eI
  cases hvl:val l with
  | none=>
   rw [hvl] at h1
   simp [i8,h1,cY,isNone]
  | some p=>
   obtain ⟨v,r⟩:=p
   have hr:=(hs l v r hvl)
   have hrt:=hr.trans hl
   have hrl:=hr.length_le
   have hll:=hl.length_le
   rw [b6] at hll
   have s1:=jx (c:=41) hrt (y:=Str.ofString ")") (by decide +kernel)
   have s2:=jx (c:=44) hrt (y:=Str.ofString ",") (by decide +kernel)
   rw [hvl] at h1
   have step:∀ c,r.head? = some c→(((t.length - r.length:Nat):Int) + 1)=((t.length - r.tail.length:Nat):Int):=fun c hc=>by
    have:=kf hc
    omega
   dsimp only
   by_cases c1:r.head? = some 41
   ·have e1:=step _ c1
    rw [if_pos c1]
    have goal:cY t.length (some (PyData.tuple (acc++[v]),r.tail))=.tuple [.tuple (acc++[v]),.int (((t.length - r.length:Nat):Int) + 1)]:=by
     rw [e1]
     rfl
    rw [goal]
    simp [i8,h1,cY,isNone,du,dr,ha',ht',s1,c1]
   ·rw [if_neg c1]
    by_cases c2:r.head? = some 44
    ·have e1:=step _ c2
     have e2:=kf c2
     have ih:=tJ ht hs hv k r.tail (acc++[v]) (some (.d (.tuple [v,.int ((t.length - r.length:Nat):Int)]))) (some (.d (.str (Txt.slice t (some ((t.length - r.length:Nat):Int)) (some (((t.length - r.length:Nat):Int) + 1)))))) ((List.tail_suffix _).trans hrt) (by omega) (by simp; omega)
     rw [← e1] at ih
     rw [if_pos c2,← ih]
     simp [i8,h1,cY,isNone,du,dr,ha',ht',s1,s2,c1,c2]
    ·rw [if_neg c2]
     simp [i8,h1,cY,isNone,du,dr,ha',ht',s1,s2,c1,c2]
def oy (val:List Nat→Option (PyData×List Nat)) (l:List Nat):Option (PyData×List Nat):=if l.head? = some 41 then some (.tuple [],l.tail) else eI val 100000 [] l
theorem B8 {t:Str} {T:Tp} {val:List Nat→Option (PyData×List Nat)} {n rows:Nat} (ht:t.length≤60000) (hs:Suf val) (hv:∀ l,l <:+ cd t→cE n [.d (.str t),.d (.int ((t.length - l.length:Nat):Int)),.d (.int rows)] T=some (cY t.length (val l),T)) {l:List Nat} (hl:l <:+ cd t) :
  fV (n + 1) [.d (.str t),.d (.int ((t.length - l.length:Nat):Int)),.d (.int rows)] T=some (cY t.length (oy val l),T):=by
 have ht':t.length≤sizeLine:=Nat.le_trans ht (by decide)
 have hll:=hl.length_le
 rw [b6] at hll
 have s1:=jx (c:=41) hl (y:=Str.ofString ")") (by decide +kernel)
 have hr:=tJ (T:=T) ht hs hv 100000 l [] none none hl (by omega) (by simp; omega)
 unfold oy
 by_cases c1:l.head? = some 41
 ·rw [if_pos c1]
  have goal:cY t.length (some (PyData.tuple [],l.tail))=.tuple [.tuple [],.int (((t.length - l.length:Nat):Int) + 1)]:=by
   have:=kf c1
   have e:(((t.length - l.length:Nat):Int) + 1)=((t.length - l.tail.length:Nat):Int):=by omega
   rw [e]
   rfl
  rw [goal]
  simp [fV,ht',s1,c1]
 ·rw [if_neg c1,← hr]
  have:fV (n + 1)=aS 6 (aq (fIf (aB (ag eqD (fSl (aa 0) (fP (aa 1)) (fP (ag aG (aa 1) (fC (.int 1))))) (fC (.str ")")))) (aw (aR .tuple (ae (aR .tuple ai) (ae (ag aG (aa 1) (fC (.int 1))) ai)))) aJ) (aq (fB 3 ai) (dF (bg (fC (.bool true))) (i8 n) 100000))):=by rw [fV]; rfl
  rw [this]
  simp [ht',s1,c1]
theorem tf {t:Str} {T:Tp} (ht:t.length≤60000):∀ (rows n:Nat),2 * rows + 1≤n→∀ l,l <:+ cd t→cE n [.d (.str t),.d (.int ((t.length - l.length:Nat):Int)),.d (.int rows)] T=some (cY t.length (cW rows l),T)
 | _,0,h,_,_=>absurd h (by omega)
 | 0,n + 1,h,l,hl=>by
  have ht':t.length≤sizeLine:=Nat.le_trans ht (by decide)
  have s1:=jx (c:=40) hl (y:=Str.ofString "(") (by decide +kernel)
  have sg:=pW hl T ht
  unfold cW
  by_cases c1:l.head? = some 40
  ·simp [cE,ht',s1,c1,cY]
  ·simp [cE,ht',s1,c1,sg]
 | rows + 1,n + 1,h,l,hl=>by
  have ht':t.length≤sizeLine:=Nat.le_trans ht (by decide)
  have s1:=jx (c:=40) hl (y:=Str.ofString "(") (by decide +kernel)
  have sg:=pW hl T ht
  have hll:=hl.length_le
  rw [b6] at hll
  unfold cW
  by_cases c1:l.head? = some 40
  ·obtain ⟨m,rfl⟩:∃ m,n=m + 1:=⟨n - 1,by omega⟩
   have rr:=B8 ht (rW rows) (tf (T:=T) ht rows m (by omega)) ((List.tail_suffix l).trans hl)
   have:=kf c1
   have e:(((t.length - l.length:Nat):Int) + 1)=((t.length - l.tail.length:Nat):Int):=by omega
   rw [← e] at rr
   have e2:((rows + 1:Nat):Int) - 1=(rows:Int):=by omega
   have e3:¬ ((rows + 1:Nat):Int)=0:=by omega
   rw [if_pos c1]
   show _=some (cY t.length (oy (cW rows) l.tail),T)
   rw [← e2] at rr
   generalize ((rows + 1:Nat):Int)=R at e3 rr
   simp [cE,ht',s1,c1,e3,rr]
  ·rw [if_neg c1]
   simp [cE,ht',s1,c1,sg]
def dg (m:Nat):List Nat:=(Nat.toDigits 10 m).map Char.toNat
theorem lH (m:Nat):NumText.AllDigits (dg m):=fun c hc=>by
 obtain ⟨ch,hch,e⟩:=List.mem_map.mp hc
 rw [← e]
 exact digit_range (Nat.isDigit_of_mem_toDigits (by decide) (by decide) hch)
theorem uk (m:Nat):NumText.digitsVal (dg m)=m:=W.KIN.val_back m
theorem oo (m:Nat):dg m≠[]:=fun e=>by
 have h:=toDigits_len_ge 10 m
 rw [List.map_eq_nil_iff.mp e] at h
 exact absurd h (by decide)
theorem lg {m:Nat} (h:m≤10 ^ 18):(dg m).length≤19:=by
 unfold dg
 rw [List.length_map]
 exact toDigits_len_pow (by decide) (by decide) (Nat.lt_of_le_of_lt h (by decide))
theorem sO (m:Nat):0 < m→(dg m).head?≠some 48:=by
 induction m using Nat.strongRecOn with
 | _ m ih=>
  intro hm
  by_cases h:m < 10
  ·have:∀ m:Nat,m < 10→0 < m→((Nat.toDigits 10 m).map Char.toNat).head?≠some 48:=by decide
   exact this m h hm
  ·have hm:m % 10 < 10:=Nat.mod_lt m (by decide)
   have t:Nat.toDigits 10 (m / 10)++Nat.toDigits 10 (m % 10)=Nat.toDigits 10 (10 * (m / 10) + m % 10):=Nat.toDigits_append_toDigits (by decide) (by omega) hm
   rw [Nat.div_add_mod] at t
   have e:dg m=dg (m / 10)++dg (m % 10):=by
    unfold dg
    rw [← t,List.map_append]
   have i1:=ih (m / 10) (by omega) (by omega)
   have i2:=oo (m / 10)
   rw [e]
   cases hd:dg (m / 10) with
   | nil=>exact absurd hd i2
   | cons a r=>rw [hd] at i1; simpa using i1
theorem BQ:dg 0=[48]:=by decide
theorem sP (m:Nat):eU (dg m)=true:=by
 unfold eU
 rw [Bool.and_eq_true,Bool.and_eq_true]
 refine ⟨⟨by simpa using oo m,List.all_eq_true.mpr fun c hc=>decide_eq_true ?_⟩,?_⟩
 ·rw [qm]
  have:=lH m c hc
  simp
  omega
 ·rcases Nat.eq_zero_or_pos m with h | h
  ·subst h
   rw [BQ]
   rfl
  ·rw [Bool.or_eq_true]
   right
   simpa using sO m h
def nc:Int→List Nat
 | .ofNat m=>dg m
 | .negSucc m=>45::dg (m + 1)
theorem Ew (i:Int):cd (Str.ofString (toString i))=nc i:=by
 cases i with
 | ofNat m=>exact W.KIN.signs_num m
 | negSucc m=>
  have e:toString (Int.negSucc m) = "-"++toString (m + 1):=rfl
  unfold cd
  rw [e,signs_ofString]
  show ("-"++Nat.repr (m + 1)).toList.map Char.toNat=_
  rw [String.toList_append,List.map_append,Nat.toList_repr]
  rfl
theorem kz (i:Int):∀ c∈nc i,c=45∨(48≤c∧c≤57):=by
 cases i with
 | ofNat m=>exact fun c hc=>.inr (lH m c hc)
 | negSucc m=>
  intro c hc
  rcases List.mem_cons.mp hc with h | h
  ·exact .inl h
  ·exact .inr (lH _ c h)
theorem Eu (i:Int):nc i≠[]:=by
 cases i with
 | ofNat m=>exact oo m
 | negSucc m=>exact fun h=>nomatch h
theorem l6 {i:Int} (h:single (.int i)=true):i.natAbs≤10 ^ 18:=by
 have h':(if i < 0 then -i else i)≤10 ^ 18:=of_decide_eq_true h
 have e:((10:Int) ^ 18)=1000000000000000000:=by decide
 have e2:((10:Nat) ^ 18)=1000000000000000000:=by decide
 rw [e] at h'
 rw [e2]
 split at h' <;> omega
theorem tU {i:Int} (h:single (.int i)=true):(nc i).length≤20:=by
 have h:=l6 h
 cases i with
 | ofNat m=>
  have:=lg (m:=m) h
  show (dg m).length≤20
  omega
 | negSucc m=>
  have:=lg (m:=m + 1) h
  show (dg (m + 1)).length + 1≤20
  omega
theorem mM (m:Nat):(dg m).head?≠some 45:=fun h=>by
 cases hd:dg m with
 | nil=>rw [hd] at h; cases h
 | cons a r=>
  rw [hd] at h
  cases h
  have:=lH m 45 (by rw [hd]; exact List.mem_cons_self)
  omega
theorem mU {i:Int} (h:single (.int i)=true):jQ (nc i)=some i:=by
 have h:=l6 h
 unfold jQ
 cases i with
 | ofNat m=>
  show (if dg m=[45,48]∨19 < (fg (dg m)).length∨eU (fg (dg m))=false then none else some (if (dg m).head? = some 45 then -((NumText.digitsVal (dg m).tail:Nat):Int) else ((NumText.digitsVal (dg m):Nat):Int)))=_
  have e:fg (dg m)=dg m:=by unfold fg; rw [if_neg (mM m)]
  have l:=lg (m:=m) h
  rw [e,if_neg (mM m),uk,sP,if_neg]
  ·rfl
  ·rintro (z | z | z)
   ·exact mM m (by rw [z]; rfl)
   ·omega
   ·cases z
 | negSucc m=>
  show (if 45::dg (m + 1)=[45,48]∨19 < (fg (45::dg (m + 1))).length∨eU (fg (45::dg (m + 1)))=false then none else some (if (45::dg (m + 1)).head? = some 45 then -((NumText.digitsVal (45::dg (m + 1)).tail:Nat):Int) else ((NumText.digitsVal (45::dg (m + 1)):Nat):Int)))=_
  have e:fg (45::dg (m + 1))=dg (m + 1):=rfl
  have l:=lg (m:=m + 1) h
  have e2:(45::dg (m + 1)).tail=dg (m + 1):=rfl
  rw [e,e2,uk,sP,if_pos (by rfl:(45::dg (m + 1)).head? = some 45),if_neg]
  ·rfl
  ·rintro (z | z | z)
   ·have z':dg (m + 1)=[48]:=(List.cons.inj z).2
    have:=sO (m + 1) (by omega)
    rw [z'] at this
    exact this rfl
   ·omega
   ·cases z
def cst:Nat→PyData→List Nat
 | n + 1,.tuple ds=>40::(aV [44] (ds.map (cst n))++[41])
 | 0,.tuple _=>[]
 | _,.int i=>nc i
 | _,.str x=>39::cd x
 | _,_=>[]
theorem kL (n:Nat) (i:Int):cst n (.int i)=nc i:=by cases n <;> rfl
theorem kJ (n:Nat) (x:Str):cst n (.str x)=39::cd x:=by cases n <;> rfl
theorem je {d:PyData} (h:single d=true):(∃ i,d=.int i)∨∃ x,d=.str x:=by cases d <;> first | exact .inl ⟨_,rfl⟩ | exact .inr ⟨_,rfl⟩ | cases h
theorem fR {n:Nat} {d:PyData} (h:aF n d=true):single d=true∨∃ m ds,n=m + 1∧d=.tuple ds∧ds.length≤8∧∀ x∈ds,aF m x=true:=by
 by_cases k:kd d=.tup
 ·obtain ⟨ds,rfl⟩:=kX k
  cases n with
  | zero=>cases h
  | succ m=>
   right
   have h':(decide (ds.length≤8) && ds.all (aF m))=true:=h
   rw [Bool.and_eq_true] at h'
   exact ⟨m,ds,rfl,rfl,of_decide_eq_true h'.1,List.all_eq_true.mp h'.2⟩
 ·left
  rw [oZ k] at h
  exact h
theorem txt_codes {x:Str} (h:has TXT x=true):∀ c∈cd x,dl c=false:=fun c hc=>by
 have h1:=of_decide_eq_true (List.all_eq_true.mp h c hc)
 have h2:∀ c∈TXT.cps.toList,dl c=false:=by decide +kernel
 exact h2 c h1
theorem Ak (i:Int):∀ c∈nc i,dl c=false:=fun c hc=>by
 rw [k9]
 have:=kz i c hc
 exact decide_eq_false (by omega)
theorem rj {a b:List Nat} (h:a≠[]):(a++b).head? = a.head?:=by
 cases a with
 | nil=>exact absurd rfl h
 | cons=>rfl
def lZ (l:List Nat):Prop:=∀ c,l.head? = some c→dl c=true
theorem vg {w l:List Nat} (hw:∀ c∈w,dl c=false) (hl:lZ l):W (w++l)=w:=by
 unfold W
 rw [List.takeWhile_append_of_pos (fun c hc=>by rw [hw c hc]; rfl)]
 cases l with
 | nil=>simp
 | cons a r=>
  have:=hl a rfl
  rw [List.takeWhile_cons,this]
  simp
theorem md {d:PyData} {n:Nat} {l:List Nat} (h:single d=true) (hl:lZ l):(cst n d++l).head?≠some 40∧(cst n d).head?≠some 41∧cst n d≠[]∧fq (cst n d++l)=some (d,l)∧(cst n d).length≤21:=by
 rcases je h with ⟨i,rfl⟩ | ⟨x,rfl⟩
 ·rw [kL]
  have hne:=Eu i
  have hs:=kz i
  have hh:∀ c,(nc i).head? = some c→c=45∨(48≤c∧c≤57):=fun c hc=>hs c (List.mem_of_head? hc)
  have h39:(nc i).head?≠some 39:=fun z=>by have:=hh _ z; omega
  refine ⟨?_,fun z=>by have:=hh _ z; omega,hne,?_,by have:=tU h; omega⟩
  ·rw [rj hne]
   exact fun z=>by have:=hh _ z; omega
  ·unfold fq
   rw [vg (Ak i) hl]
   unfold fu
   rw [if_neg h39,mU h]
   simp
 ·rw [kJ]
  have h':(decide (x.length≤20) && has TXT x)=true:=h
  rw [Bool.and_eq_true] at h'
  refine ⟨by simp,by simp,by simp,?_,?_⟩
  ·unfold fq
   rw [vg (w:=39::cd x) (fun c hc=>by
    rcases List.mem_cons.mp hc with z | z
    ·subst z; rw [k9]; rfl
    ·exact txt_codes h'.2 c z) hl]
   unfold fu
   rw [if_pos (by rfl:(39::cd x).head? = some 39)]
   show (some (PyData.str (mk (cd x)))).map _=_
   rw [oi]
   simp
  ·have:=of_decide_eq_true h'.1
   rw [List.length_cons,b6]
   omega
theorem qh {val:List Nat→Option (PyData×List Nat)} {f:PyData→List Nat} {post:List Nat}:∀ (ds:List PyData) (d:PyData) (k:Nat) (acc:List PyData),ds.length < k→(∀ x∈d::ds,∀ l,lZ l→val (f x++l)=some (x,l)) →
  eI val k acc (aV [44] ((d::ds).map f)++41::post)=some (.tuple (acc++d::ds),post)
 | ds,d,0,acc,h,_=>absurd h (Nat.not_lt_zero _)
 | [],d,k + 1,acc,h,hv=>by
  have:=hv d List.mem_cons_self (41::post) (fun c hc=>by cases hc; rw [k9]; rfl)
  unfold eI
  show (match val (f d++41::post) with | none=>none | some (v,r)=>_)=_
  rw [this]
  rfl
 | e::ds,d,k + 1,acc,h,hv=>by
  have h1:=hv d List.mem_cons_self (44::(aV [44] ((e::ds).map f)++41::post)) (fun c hc=>by cases hc; rw [k9]; rfl)
  have ih:=qh (post:=post) ds e k (acc++[d]) (by simpa using h) (fun x hx=>hv x (List.mem_cons_of_mem _ hx))
  have e1:aV [44] ((d::e::ds).map f)++41::post=f d++44::(aV [44] ((e::ds).map f)++41::post):=by
   show (f d++[44]++aV [44] ((e::ds).map f))++41::post=_
   simp
  unfold eI
  rw [e1,h1]
  simp only [List.append_assoc,List.cons_append,List.nil_append] at ih
  simpa using ih
theorem AO:∀ (n:Nat) (d:PyData),aF n d=true→cst n d≠[]∧(cst n d).head?≠some 41:=fun n d h=>by
 rcases fR h with h1 | ⟨m,ds,rfl,rfl,_,_⟩
 ·have:=md (n:=n) (l:=[]) h1 (fun c hc=>by cases hc)
  exact ⟨this.2.2.1,this.2.1⟩
 ·exact ⟨by simp [cst],by simp [cst]⟩
theorem zQ {n:Nat} {l:List Nat} (h:l.head?≠some 40):cW n l=fq l:=by
 cases n with
 | zero=>unfold cW; rw [if_neg h]
 | succ n=>unfold cW; rw [if_neg h]
theorem val_back:∀ (n:Nat) (d:PyData),aF n d=true→∀ l,lZ l→cW n (cst n d++l)=some (d,l)
 | n,d,h,l,hl=>by
  rcases fR h with h1 | ⟨m,ds,rfl,rfl,h8,hb⟩
  ·have:=md (n:=n) h1 hl
   rw [zQ this.1,this.2.2.2.1]
  ·have ih:=val_back m
   have e:cst (m + 1) (.tuple ds)++l=40::(aV [44] (ds.map (cst m))++41::l):=by
    show (40::(aV [44] (ds.map (cst m))++[41]))++l=_
    simp
   rw [e]
   unfold cW
   rw [if_pos (by rfl:(40::(aV [44] (ds.map (cst m))++41::l)).head? = some 40)]
   cases ds with
   | nil=>rfl
   | cons d ds=>
    have hh:=AO m d (hb d List.mem_cons_self)
    have e2:(40::(aV [44] ((d::ds).map (cst m))++41::l)).tail=aV [44] ((d::ds).map (cst m))++41::l:=rfl
    have e3:(aV [44] ((d::ds).map (cst m))++41::l).head?≠some 41:=by
     rw [List.map_cons,jZ,List.append_assoc,rj hh.1]
     exact hh.2
    rw [e2,if_neg e3]
    have:=qh (val:=cW m) (f:=cst m) (post:=l) ds d 100000 [] (by simp at h8; omega) (fun x hx l hl=>ih x (hb x hx) l hl)
    rw [this]
    rfl
termination_by n=>n
theorem q8 (n:Nat):∀ d,1≤aD n d:=by
 induction n with
 | zero=>intro d; cases d <;> exact Int.le_refl _
 | succ n ih=>
  intro d
  by_cases k:kd d=.tup
  ·obtain ⟨ds,rfl⟩:=kX k
   have:=K1.tH (aD n) ih ds
   show 1≤1 + (ds.map (aD n)).sum
   omega
  ·rw [pB k]
   exact Int.le_refl _
theorem qK {f:PyData→Int} (h:∀ d,0≤f d):∀ {ds:List PyData} {d:PyData},d∈ds→f d≤(ds.map f).sum
 | e::r,d,hd=>by
  have nn:∀ l:List PyData,0≤(l.map f).sum:=fun l=>by
   induction l with
   | nil=>exact Int.le_refl _
   | cons a l ih=>rw [List.map_cons,List.sum_cons]; have:=h a; omega
  rw [List.map_cons,List.sum_cons]
  rcases List.mem_cons.mp hd with z | z
  ·subst z
   have:=nn r
   omega
  ·have:=qK h (ds:=r) z
   have:=h e
   omega
theorem qe {n:Nat} {ds:List PyData} {d:PyData} (h:d∈ds):aD n d≤aD (n + 1) (.tuple ds):=by
 have:=qK (f:=aD n) (fun d=>by have:=q8 n d; omega) h
 show aD n d≤1 + (ds.map (aD n)).sum
 omega
theorem l7 (f:PyData→List Nat):∀ ds:List PyData,(ds.map fun d=>(f d).length).sum + ds.length≤(aV [44] (ds.map f)).length + 1∧(aV [44] (ds.map f)).length≤(ds.map fun d=>(f d).length).sum + ds.length
 | []=>by simp [aV]
 | [d]=>by simp [aV]
 | d::e::r=>by
  have ih:=l7 f (e::r)
  have e1:aV [44] ((d::e::r).map f)=f d++[44]++aV [44] ((e::r).map f):=rfl
  rw [e1]
  simp only [List.map_cons,List.sum_cons,List.length_cons,List.length_append,List.length_nil] at ih ⊢
  omega
theorem mY {n:Nat}:∀ {ds:List PyData},(∀ d∈ds,((cst n d).length:Int) + 1≤25 * aD n d)→(((ds.map fun d=>(cst n d).length).sum + ds.length:Nat):Int)≤25 * (ds.map (aD n)).sum
 | [],_=>by simp
 | d::r,h=>by
  have h1:=h d List.mem_cons_self
  have h2:=mY (ds:=r) fun x hx=>h x (List.mem_cons_of_mem _ hx)
  simp only [List.map_cons,List.sum_cons,List.length_cons]
  omega
theorem kK:∀ (n:Nat) (d:PyData),aF n d=true→((cst n d).length:Int) + 1≤25 * aD n d
 | n,d,h=>by
  rcases fR h with h1 | ⟨m,ds,rfl,rfl,h8,hb⟩
  ·have:=(md (n:=n) (l:=[]) h1 (fun c hc=>by cases hc)).2.2.2.2
   have:=q8 n d
   omega
  ·have ih:=kK m
   have h1:=mY (ds:=ds) fun d hd=>ih d (hb d hd)
   have h2:=(l7 (cst m) ds).2
   show (((40::(aV [44] (ds.map (cst m))++[41])).length:Nat):Int) + 1≤25 * (1 + (ds.map (aD m)).sum)
   simp only [List.length_cons,List.length_append,List.length_nil]
   omega
termination_by n=>n
theorem kE {i:Int} (h:single (.int i)=true):eP [.int i]=some (.str (mk (nc i))):=by
 have h1:=l6 h
 have h2:i.natAbs.log2 < 1920:=by
  by_cases z:i.natAbs=0
  ·rw [z]; decide
  ·exact Nat.lt_of_lt_of_le ((Nat.log2_lt (k:=64) z).mpr (Nat.lt_of_le_of_lt h1 (by decide))) (by decide)
 have e:Str.ofString (toString i)=mk (nc i):=dI (by rw [Ew,cu])
 show (if i.natAbs.log2 < 1920 then some (PyData.str (Str.ofString (toString i))) else none)=_
 rw [if_pos h2,e]
theorem iJ (a b:List Nat):mk a++mk b=mk (a++b):=dI (by rw [iP,cu,cu,cu])
theorem lit {s:String} {l:List Nat} (h:cd (Str.ofString s)=l):Str.ofString s=mk l:=dI (by rw [h,cu])
theorem iz {n:Nat} (h:n≤2000):n≤sizeLine:=Nat.le_trans h (by decide)
theorem su (f:PyData→List Nat) (ds:List PyData):((ds.map fun d=>mk (f d)).map (·.length)).sum=(ds.map fun d=>(f d).length).sum:=by
 rw [List.map_map]
 exact congrArg List.sum (List.map_congr_left fun d _=>bY _)
theorem sF (f:PyData→List Nat) (ds:List PyData):Str.join (mk [44]) (ds.map fun d=>mk (f d))=mk (aV [44] (ds.map f)):=dI (by
 rw [iD,cu,cu,List.map_map]
 exact congrArg (aV [44]) (List.map_congr_left fun d _=>cu _))
theorem nU:bw .str .str=true:=rfl
theorem C7:bw .tup .str=false:=rfl
theorem C8:bw .str .tup=false:=rfl
theorem C9:bw .int .tup=false:=rfl
theorem Da:bw .int .str=false:=rfl
theorem rK {m:Nat} {ds:List PyData} (hm:aD (m + 1) (.tuple ds)≤40) (hb:∀ x∈ds,aF m x=true):(aV [44] (ds.map (cst m))).length≤1000∧(ds.map fun d=>(cst m d).length).sum + ds.length≤1000:=by
 have h1:=mY (ds:=ds) fun d hd=>kK m d (hb d hd)
 have h2:=(l7 (cst m) ds).2
 have h3:1 + (ds.map (aD m)).sum≤40:=hm
 omega
theorem str_len {n:Nat} {x:Str} (h:single (.str x)=true):x.length≤20:=by
 have h':(decide (x.length≤20) && has TXT x)=true:=h
 rw [Bool.and_eq_true] at h'
 exact of_decide_eq_true h'.1
theorem nv:∀ (n k:Nat) (d:PyData) (T:Tp),aF n d=true→aD n d≤40→n < k→cP k [.d d] T=some (.str (mk (cst n d)),T)
 | n,0,d,T,h,hm,hk=>absurd hk (Nat.not_lt_zero _)
 | n,k + 1,d,T,h,hm,hk=>by
  have q1:=lit (s:="'") (l:=[39]) (by decide +kernel)
  have q2:=lit (s:="(") (l:=[40]) (by decide +kernel)
  have q3:=lit (s:=")") (l:=[41]) (by decide +kernel)
  have q4:=lit (s:=",") (l:=[44]) (by decide +kernel)
  rcases fR h with h1 | ⟨m,ds,rfl,rfl,h8,hb⟩
  ·rcases je h1 with ⟨i,rfl⟩ | ⟨x,rfl⟩
   ·simp [cP,ju,whole,kE h1,kL]
   ·have e:mk [39]++x=mk (39::cd x):=by rw [← oi x,iJ,cu]; rfl
    have l:(mk [39]).length + x.length≤sizeLine:=iz (by rw [bY]; have:=str_len (n:=0) h1; simp; omega)
    simp [cP,ju,whole,kJ,nU,q1,l,e]
  ·obtain ⟨l1,l2⟩:=rK hm hb
   have c:=cQ (e:=ar (cP k) (ae (aa 0) ai)) (ρ:=[some (.d (.tuple ds))]) (T:=T) (g:=fun d=>.str (mk (cst m d))) (ds:=ds) fun d hd=>by
    have:=nv m k d T (hb d hd) (Int.le_trans (qe hd) hm) (by omega)
    simp [this]
   have j:=rB (z:=mk [44]) (ma (fun d=>mk (cst m d)) ds)
   rw [su,sF,List.length_map,bY] at j
   rw [if_pos (by simp; omega)] at j
   have a1:(mk [40]).length + (mk (aV [44] (ds.map (cst m)))).length≤sizeLine:=iz (by rw [bY,bY]; simp; omega)
   have a2:(mk (40::aV [44] (ds.map (cst m)))).length + (mk [41]).length≤sizeLine:=iz (by rw [bY,bY]; simp; omega)
   have e1:mk [40]++mk (aV [44] (ds.map (cst m)))=mk (40::aV [44] (ds.map (cst m))):=by rw [iJ]; rfl
   have e2:mk (40::aV [44] (ds.map (cst m)))++mk [41]=mk (cst (m + 1) (.tuple ds)):=by rw [iJ]; rfl
   simp [cP,ju,whole,C7,q2,q3,q4,c,j,a1,a2,e1,e2]
theorem rO:∀ (n:Nat) (v:PyData),aF n v=true→Sm v
 | n,v,h=>by
  rcases fR h with h1 | ⟨m,ds,rfl,rfl,_,hd⟩
  ·rcases je h1 with ⟨i,rfl⟩ | ⟨x,rfl⟩
   ·show smB (.int i)=true
    rw [smB]
    intro _ z; cases z
    intro _ z; cases z
   ·have h2:(decide (x.length≤20) && has TXT x)=true:=h1
    rw [Bool.and_eq_true] at h2
    exact Sm.mkS (Nat.le_trans (of_decide_eq_true h2.1) (by decide)) (K1.Dg K1.Du h2.2)
  ·exact Sm.tup fun d hx=>rO m d (hd d hx)
termination_by n=>n
theorem Cd {v:PyData} (h:aT v=true):Sm v:=by
 have h':(aF 4 v && decide (aD 4 v≤40))=true:=h
 rw [Bool.and_eq_true] at h'
 exact rO 4 v h'.1
theorem fT {v:PyData} (h:aT v=true):aF 4 v=true∧aD 4 v≤40:=by
 have h':(aF 4 v && decide (aD 4 v≤40))=true:=h
 rw [Bool.and_eq_true] at h'
 exact ⟨h'.1,of_decide_eq_true h'.2⟩
theorem uA {v:PyData} (T:Tp) (h:aT v=true):fS [.d (.str (mk (cst 4 v)))] T=some (v,T):=by
 obtain ⟨hb,hm⟩:=fT h
 have hl:=kK 4 v hb
 have ht:(mk (cst 4 v)).length≤60000:=by rw [bY]; omega
 have ht':(mk (cst 4 v)).length≤sizeLine:=Nat.le_trans ht (by decide)
 have e:=tf (T:=T) ht 4 25 (by decide) (cst 4 v) (by rw [cu]; exact List.suffix_refl _)
 have b:=val_back 4 v hb [] (fun c hc=>by cases hc)
 rw [List.append_nil] at b
 rw [b,bY,Nat.sub_self] at e
 have e':cE 25 [.d (.str (mk (cst 4 v))),.d (.int 0),.d (.int 4)] T=some (.tuple [v,.int ((cst 4 v).length:Int)],T):=e
 have iv:=B5 T (Cd h)
 rw [h] at iv
 have hn:¬ ((cst 4 v).length:Int) < ((cst 4 v).length:Int):=by omega
 have hz:(mk (cst 4 v)).length=(cst 4 v).length:=bY _
 simp [fS,e',isNone,du,dr,ht',iv,hz]
 intro z
 rw [hz] at ht'
 omega
def N3 (l:List Nat):Prop:=∀ c∈l,c < 128∧c≠32
theorem N3.no {l:List Nat} (h:N3 l):32∉l:=fun z=>(h 32 z).2 rfl
theorem km (x:List Nat) (r:List (List Nat)):aV [32] (x::r)=x++(r.map ([32]++·)).flatten:=jZ [32] x r
theorem BZ {a b u v:List Nat} (ha:32∉a) (hb:32∉b) (hu:u=[]∨u.head? = some 32) (hv:v=[]∨v.head? = some 32) (h:a++u=b++v):a=b∧u=v:=by
 induction a generalizing b with
 | nil=>
  cases b with
  | nil=>exact ⟨rfl,h⟩
  | cons c b=>
   exfalso
   rw [List.nil_append] at h
   rcases hu with hu | hu
   ·rw [hu] at h; cases h
   ·rw [h] at hu
    have:c=32:=by simpa using hu
    exact hb (by simp [this])
 | cons x a ih=>
  cases b with
  | nil=>
   exfalso
   rw [List.nil_append] at h
   rcases hv with hv | hv
   ·rw [hv] at h; cases h
   ·rw [← h] at hv
    have:x=32:=by simpa using hv
    exact ha (by simp [this])
  | cons c b=>
   rw [List.cons_append,List.cons_append] at h
   injection h with h1 h2
   obtain ⟨k1,k2⟩:=ih (b:=b) (fun z=>ha (List.mem_cons_of_mem _ z)) (fun z=>hb (List.mem_cons_of_mem _ z)) h2
   exact ⟨by rw [h1,k1],k2⟩
theorem sJ (r:List (List Nat)):(r.map ([32]++·)).flatten=[]∨((r.map ([32]++·)).flatten).head? = some 32:=by
 cases r with
 | nil=>exact .inl rfl
 | cons a r=>exact .inr rfl
theorem sX:∀ (A B:List (List Nat)),A≠[]→B≠[]→(∀ a∈A,32∉a)→(∀ b∈B,32∉b)→aV [32] A=aV [32] B→A=B
 | [],_,h,_,_,_,_=>absurd rfl h
 | _::_,[],_,h,_,_,_=>absurd rfl h
 | a::A,b::B,_,_,hA,hB,h=>by
  rw [km,km] at h
  obtain ⟨h1,h2⟩:=BZ (hA a List.mem_cons_self) (hB b List.mem_cons_self) (sJ A) (sJ B) h
  rw [h1]
  congr 1
  cases A with
  | nil=>
   cases B with
   | nil=>rfl
   | cons b' B=>cases h2
  | cons a' A=>
   cases B with
   | nil=>cases h2
   | cons b' B=>
    have h3:a'++(A.map ([32]++·)).flatten=b'++(B.map ([32]++·)).flatten:=by
     have e:∀ (x:List Nat) (r:List (List Nat)),((x::r).map ([32]++·)).flatten=32::(x++(r.map ([32]++·)).flatten):=fun x r=>by simp
     rw [e,e] at h2
     injection h2
    refine sX (a'::A) (b'::B) (by simp) (by simp) (fun x hx=>hA x (List.mem_cons_of_mem _ hx)) (fun x hx=>hB x (List.mem_cons_of_mem _ hx)) ?_
    rw [km,km]
    exact h3
theorem zS (x y:Str):Txt.split x y≠[]:=by
 unfold Txt.split
 split
 ·simp
 ·split
  ·simp
  ·rw [StrLaws.partsBetween_eq]
   obtain ⟨p,r,e⟩:=StrLaws.partsFrom_ne x y.length 0 (Builtin.Str.occurrences x y 0 x.length (x.length + 1))
   rw [e]
   simp
def BL:Str:=Str.ofString " "
theorem i5:BL=⟨#[32]⟩:=by decide +kernel
theorem tV {A B:List Str} (h:A.map cd=B.map cd):A=B:=by
 induction A generalizing B with
 | nil=>cases B with
  | nil=>rfl
  | cons b B=>cases h
 | cons a A ih=>cases B with
  | nil=>cases h
  | cons b B=>
   simp only [List.map_cons] at h
   injection h with h1 h2
   rw [dI h1,ih h2]
theorem yo {ws:List Str} (hne:ws≠[]) (h:∀ w∈ws,32∉cd w):Txt.split (Str.join BL ws) BL=ws:=by
 have j:=StrLaws.join_split (Str.join BL ws) BL
 have f:∀ p∈Txt.split (Str.join BL ws) BL,32∉cd p:=by
  rw [i5]
  exact StrLaws.split_free _ 32
 generalize hA:Txt.split (Str.join BL ws) BL=A at j f
 have hA':A≠[]:=by rw [← hA]; exact zS _ _
 have c:cd (Str.join BL A)=cd (Str.join BL ws):=by rw [j]
 have b:cd BL=[32]:=by rw [i5]; rfl
 rw [iD,iD,b] at c
 refine tV (sX _ _ (by simpa using hA') (by simpa using hne) (fun a ha=>?_) (fun a ha=>?_) c)
 ·obtain ⟨p,hp,rfl⟩:=List.mem_map.mp ha
  exact f p hp
 ·obtain ⟨p,hp,rfl⟩:=List.mem_map.mp ha
  exact h p hp
open K1 (has LET TXT single aF aD lsz isName aT tdp a8 ldp Good Sh Shs)
@[simp] theorem Gu {a b:String}:Str.ofString a=Str.ofString b↔a=b:=by
 constructor
 ·intro h
  have h2:(Str.ofString a).cps.toList=(Str.ofString b).cps.toList:=by rw [h]
  rw [signs_ofString,signs_ofString] at h2
  have inj:Function.Injective Char.toNat:=fun x y e=>Char.ext (UInt32.toNat_inj.mp e)
  exact String.toList_inj.mp ((List.map_inj_right (fun x y e=>inj e)).mp h2)
 ·rintro rfl; rfl
theorem iu:∀ (n:Nat) (d:PyData),aF n d=true→aF (n + 1) d=true∧aD (n + 1) d=aD n d
 | n,d,h=>by
  rcases fR h with h1 | ⟨m,ds,rfl,rfl,h8,hd⟩
  ·exact ⟨(bT h1).1,by rw [(bT (n:=n + 1) h1).2,(bT (n:=n) h1).2]⟩
  ·have ih:=fun d hd'=>iu m d (hd d hd')
   refine ⟨?_,?_⟩
   ·show (decide (ds.length≤8) && ds.all (aF (m + 1)))=true
    rw [decide_eq_true h8,List.all_eq_true.mpr fun d hd'=>(ih d hd').1]
    rfl
   ·show 1 + (ds.map (aD (m + 1))).sum=1 + (ds.map (aD m)).sum
    rw [List.map_congr_left fun d hd'=>(ih d hd').2]
termination_by n=>n
@[simp] theorem G1 {f:FE} {ρ:Rho} {T:Tp}:EK f ρ T=bnd (f ρ T) fun w T1=>uF T1 w:=rfl
def sl (L:List Str):List PyData:=L.map .str
def i7 (C:Addr) (L:List Str) (p b:Int):List PyData:=[bS C,.tuple [.str "parted",.list (sl L)],.tuple [.str "place",.int p],.tuple [.str "begun",.int b]]
abbrev TW (C:Addr) (t0:List PyData) (L:List Str) (p b:Int):Tp:=[i7 C L p b]
section
variable {C:Addr} {t0:List PyData} {L:List Str} {p b:Int}
theorem iT:dU C (TW C t0 L p b) 0=some [.tuple [.str "parted",.list (sl L)],.tuple [.str "place",.int p],.tuple [.str "begun",.int b]]:=by simp [dU,i7,gr,bS]
theorem rp:fK C "parted" (.tp 0) (TW C t0 L p b)=some (.d (.list (sl L)),TW C t0 L p b):=by
 unfold fK
 dsimp only
 rw [iT]
 simp [dX]
theorem m7:fK C "place" (.tp 0) (TW C t0 L p b)=some (.d (.int p),TW C t0 L p b):=by
 unfold fK
 dsimp only
 rw [iT]
 simp [dX]
theorem BJ:fK C "begun" (.tp 0) (TW C t0 L p b)=some (.d (.int b),TW C t0 L p b):=by
 unfold fK
 dsimp only
 rw [iT]
 simp [dX]
theorem A9 {ρ:Rho} {q:Int}:di C "place" ρ (.d (.int q)) (.tp 0) (TW C t0 L p b)=some ((.nx,ρ),TW C t0 L q b):=by
 unfold di
 dsimp only
 rw [iT]
 simp [eQ,i7]
theorem Ba {ρ:Rho} {q:Int}:di C "begun" ρ (.d (.int q)) (.tp 0) (TW C t0 L p b)=some ((.nx,ρ),TW C t0 L p q):=by
 unfold di
 dsimp only
 rw [iT]
 simp [eQ,i7]
theorem kF {f:Str} {fo:FE} {ρ:Rho} {T:Tp}:d6 C f fo ρ T=bnd (fo ρ T) (fK C f):=rfl
theorem mL {f:Str} {fo fe:FE} {ρ:Rho} {T:Tp}:g5 C f fo fe ρ T=bnd (fe ρ T) fun w T1=>bnd (fo ρ T1) (di C f ρ w):=rfl
theorem dA {m:Str} {mm:FnM} {fo:FE} {g:FA} {ρ:Rho} {T:Tp}:bX C m mm fo g ρ T=bnd (fo ρ T) (jH C m mm g ρ):=rfl
theorem m_W {m:String} {mm:FnM} {g:FA} {ρ:Rho} (h:¬ m = "parted"∧¬ m = "place"∧¬ m = "begun"):jH C (Str.ofString m) mm g ρ (.tp 0) (TW C t0 L p b)=bnd (g ρ (TW C t0 L p b)) fun ws T2=>bnd (mm (.tp 0::ws) T2) fun x T3=>some (.d x,T3):=by
 unfold jH
 dsimp only
 rw [iT]
 have h1:¬ "parted" = m:=fun z=>h.1 z.symm
 have h2:¬ "place" = m:=fun z=>h.2.1 z.symm
 have h3:¬ "begun" = m:=fun z=>h.2.2 z.symm
 simp [dX,h1,h2,h3]
theorem dG:(sl L).length=L.length:=by simp [sl]
theorem D5 {k:Nat} {w:Str} (h:L[k]? = some w):atI (sl L) (k:Int)=some (.str w):=by
 refine kP ?_
 unfold sl
 rw [List.getElem?_map,h]
 rfl
theorem fh {k:Nat} {w:Str} (h:L[k]? = some w):cN C [.tp 0] (TW C t0 L (k:Int) b)=some (.str w,TW C t0 L (k:Int) b):=by
 have hk:k < L.length:=(List.getElem?_eq_some_iff.mp h).1
 have hk':(k:Int) < (L.length:Int):=by omega
 have a:=D5 h
 have ln:=dG (L:=L)
 simp [cN,kF,rp,m7,ln,hk',a]
theorem li:dv C [.tp 0,.d (.bool true)] (TW C t0 L p b)=some (.none,TW C t0 L (p + 1) b):=by simp [dv,kF,mL,m7,A9]
theorem iI {a:Int} (ha:a < 20) (hb:b < 60):fM C [.tp 0,.d (.bool true),.d (.int a)] (TW C t0 L p b)=some (.none,TW C t0 L (p + 1) (b + 1)):=by simp [fM,kF,mL,dA,BJ,m_W,ha,hb,li,Ba]
theorem AW {k:Nat} (h:L.length≤k):eX C [.tp 0] (TW C t0 L (k:Int) b)=some (.none,TW C t0 L (k:Int) b):=by
 have hk':¬ (k:Int) < (L.length:Int):=by omega
 have ln:=dG (L:=L)
 simp [eX,kF,rp,m7,ln,hk']
theorem qH {x:Str} (T:Tp) (h:isName (.str x)=true):fU [.d (.str x)] T=some (.bool true,T):=by
 have h':(decide (1≤x.length) && decide (x.length≤8) && has LET x)=true:=h
 rw [Bool.and_eq_true,Bool.and_eq_true] at h'
 have l1:=of_decide_eq_true h'.1.1
 have l8:=of_decide_eq_true h'.1.2
 have l1':(1:Int)≤(x.length:Int):=by omega
 have l8':(x.length:Int)≤8:=by omega
 have hz:x.length≤sizeLine:=Nat.le_trans l8 (by decide)
 have hh:=oq (y:=LET) T hz
 rw [h'.2] at hh
 have hh':df [.d (.str x),.d (.str "abcdefghijklmnopqrstuvwxyz")] T=some (.bool true,T):=hh
 simp [fU,nU,hz,l1',l8',hh']
theorem Dw {k:Nat} {w:Str} (h:L[k]? = some w) (hn:isName (.str w)=true):ik C [.tp 0] (TW C t0 L (k:Int) b)=some (.str w,TW C t0 L ((k:Int) + 1) b):=by
 have a:=fh (C:=C) (t0:=t0) (b:=b) h
 have i:=qH (TW C t0 L (k:Int) b) hn
 simp [ik,dA,m_W,a,i,li]
theorem notnone {v:PyData} (h:aT v=true):isNone v=false:=by
 cases v with
 | none=>cases h
 | _=>rfl
theorem EV {k:Nat} {v:PyData} (h:L[k]? = some (mk (cst 4 v))) (hv:aT v=true):iq C [.tp 0] (TW C t0 L (k:Int) b)=some (v,TW C t0 L ((k:Int) + 1) b):=by
 have a:=fh (C:=C) (t0:=t0) (b:=b) h
 have i:=uA (TW C t0 L (k:Int) b) hv
 have n:iL v .none=some (.bool true):=by
  have e:iL v .none=some (.bool (!isNone v)):=by cases v <;> rfl
  rw [e,notnone hv]
  rfl
 simp [iq,dA,m_W,a,i,li,n]
def ns (j:Nat):Str:=mk (nc (j:Int))
theorem CY {i j:Nat} (h1:i≤1000) (h2:j≤1000) (h:ns i=ns j):i=j:=by
 have e:cd (ns i)=cd (ns j):=by rw [h]
 unfold ns at e
 rw [cu,cu] at e
 have a:=mU (i:=(i:Int)) (dy (by omega) (by omega))
 have b:=mU (i:=(j:Int)) (dy (by omega) (by omega))
 rw [e,b] at a
 have:=Option.some.inj a
 omega
theorem Dd {n j:Nat} (hn:n≤1000) (hj:j < n):hV (ns j) ((List.range n).map ns)=some j:=by
 have key:∀ (l a:Nat),a + l≤1000→a≤j→j < a + l→hV (ns j) ((List.range' a l).map ns)=some (j - a):=by
  intro l
  induction l with
  | zero=>intro a _ h1 h2; omega
  | succ l ih=>
   intro a h0 h1 h2
   rw [List.range'_succ,List.map_cons]
   unfold hV
   by_cases z:a=j
   ·rw [if_pos (by rw [z]),z,Nat.sub_self]
   ·rw [if_neg (fun e=>z (CY (by omega) (by omega) e)),ih (a + 1) (by omega) (by omega) (by omega)]
    show some (j - (a + 1) + 1)=some (j - a)
    congr 1
    omega
 have:=key n 0 (by omega) (Nat.zero_le _) (by omega)
 rw [Nat.sub_zero] at this
 rw [List.range_eq_range']
 exact this
theorem kq:∀ l:List Str,cm (sl l)=some l
 | []=>rfl
 | x::r=>by
  have ih:=kq r
  unfold sl at ih ⊢
  rw [List.map_cons,cm,ih]
  rfl
theorem in_sl {w:Str} {l:List Str} (h:w∈l):inD (.str w) (.list (sl l))=some (.bool true):=by
 have e1:(sl l).all cT=true:=List.all_eq_true.mpr fun d hd=>by
  obtain ⟨x,_,rfl⟩:=List.mem_map.mp hd
  rfl
 have e2:((sl l).any fun y=>eqF y (.str w))=true:=List.any_eq_true.mpr ⟨.str w,List.mem_map.mpr ⟨w,h,rfl⟩,beq_self_eq_true w⟩
 have e3:inS (.str w) (.list (sl l))=if (cT (.str w) && (sl l).all cT)=true then some ((sl l).any fun y=>eqF y (.str w)) else none:=rfl
 unfold inD
 rw [e3,e1,e2]
 rfl
theorem vh {k n j:Nat} (h:L[k]? = some (ns j)) (hn:n≤100) (hj:j < n):gw C [.tp 0,.d (.int (n:Int))] (TW C t0 L (k:Int) b)=some (.int (j:Int),TW C t0 L ((k:Int) + 1) b):=by
 have a:=fh (C:=C) (t0:=t0) (b:=b) h
 have r:=dR (j:=(n:Int)) (by omega) (by omega)
 have c:=cQ (e:=fCB eP (ae (aa 0) ai)) (ρ:=[some (.tp 0),some (.d (.int (n:Int))),none,none]) (T:=TW C t0 L (k:Int) b) (g:=fun d=>match d with | .int i=>.str (mk (nc i)) | _=>.none) (ds:=ba 0 n) fun d hd=>by
  obtain ⟨i,hi,rfl⟩:=List.mem_map.mp hd
  have hi':=List.mem_range.mp hi
  have z:=kE (i:=(0:Int) + (i:Int)) (dy (by omega) (by omega))
  simp only [Int.zero_add] at z ⊢
  simp [z]
 have m:(ba 0 n).map (fun d=>match d with | .int i=>.str (mk (nc i)) | _=>PyData.none)=sl ((List.range n).map ns):=by
  unfold sl ba
  rw [List.map_map,List.map_map]
  refine List.map_congr_left fun i _=>?_
  simp [ns]
 rw [m] at c
 have i1:=in_sl (w:=ns j) (l:=(List.range n).map ns) (List.mem_map.mpr ⟨j,List.mem_range.mpr hj,rfl⟩)
 have i2:=Dd (n:=n) (j:=j) (by omega) hj
 have i3:=kq ((List.range n).map ns)
 simp [gw,dA,m_W,r,c,a,i1,li,oF,oB,i3,i2]
end
section
variable {C:Addr} {t0:List PyData} {L:List Str}
theorem er {p:Nat} {w:Str} {r:List Str} (h:L.drop p=w::r):L[p]? = some w∧L.drop (p + 1)=r:=by
 have h1:(L.drop p)[0]? = some w:=by rw [h]; rfl
 have h2:(L.drop p).tail=r:=by rw [h]; rfl
 exact ⟨by simpa using h1,by rw [← h2,List.tail_drop]⟩
def Rdx (C:Addr) (k:Nat) (m a:Int) (c:Nat) (ws:List Str) (e:PyData):Prop:=∀ (t0:List PyData) (L:List Str) (p b:Nat) (post:List Str),b + c≤60→L.drop p=ws++post→dz C k [.tp 0,.d (.int a),.d (.int m)] (TW C t0 L (p:Int) (b:Int))=some (e,TW C t0 L ((p + ws.length:Nat):Int) ((b + c:Nat):Int))
theorem qv {k:Nat} {m a:Int} {o1:Option D.W} {f:PyData→Nat×List Str} {post:List Str}:∀ (es ds:List PyData) (p b:Nat),ds.length=es.length→(∀ e∈es,Rdx C k m a (f e).1 (f e).2 e)→L.drop p=(es.map fun e=>(f e).2).flatten++post→b + (es.map fun e=>(f e).1).sum≤60 →
  bK bv (ar (dz C k) (ae (aa 1) (ae (aa 3) (ae (aa 4) ai)))) [some (.tp 0),o1,some (.d (.int a)),some (.d (.int m))] ds (TW C t0 L (p:Int) (b:Int))=some (es,TW C t0 L ((p + (es.map fun e=>(f e).2).flatten.length:Nat):Int) ((b + (es.map fun e=>(f e).1).sum:Nat):Int))
 | [],[],p,b,_,_,_,_=>by simp [bK]
 | [],_::_,_,_,h,_,_,_=>by cases h
 | _::_,[],_,_,h,_,_,_=>by cases h
 | e::es,d::ds,p,b,hl,hr,hd,hb=>by
  have h0:=hr e List.mem_cons_self
  simp only [List.map_cons,List.flatten_cons,List.sum_cons,List.append_assoc] at hd hb ⊢
  have r0:=h0 t0 L p b _ (by omega) hd
  have hd':L.drop (p + (f e).2.length)=(es.map fun e=>(f e).2).flatten++post:=by
   rw [← List.drop_drop,hd,List.drop_left]
  have ih:=qv (k:=k) (m:=m) (a:=a) (o1:=o1) (f:=f) (post:=post) es ds (p + (f e).2.length) (b + (f e).1) (by simpa using hl) (fun x hx=>hr x (List.mem_cons_of_mem _ hx)) hd' (by omega)
  have e1:p + ((f e).2++(es.map fun e=>(f e).2).flatten).length=p + (f e).2.length + (es.map fun e=>(f e).2).flatten.length:=by rw [List.length_append]; omega
  have e2:b + ((f e).1 + (es.map fun e=>(f e).1).sum)=b + (f e).1 + (es.map fun e=>(f e).1).sum:=by omega
  rw [e1,e2]
  generalize TW C t0 L ((p + (f e).2.length:Nat):Int) ((b + (f e).1:Nat):Int)=T1 at r0 ih
  simp [bK,r0,ih]
theorem sZ {k:Nat} {m a:Int} {f:PyData→Nat×List Str} {post:List Str} {es:List PyData} {p b:Nat} (hl:es.length≤8) (hr:∀ e∈es,Rdx C k m a (f e).1 (f e).2 e) (hd:L.drop p=(es.map fun e=>(f e).2).flatten++post) (hb:b + (es.map fun e=>(f e).1).sum≤60) :
  gH C (k + 1) [.tp 0,.d (.int (es.length:Int)),.d (.int a),.d (.int m)] (TW C t0 L (p:Int) (b:Int))=some (.tuple es,TW C t0 L ((p + (es.map fun e=>(f e).2).flatten.length:Nat):Int) ((b + (es.map fun e=>(f e).1).sum:Nat):Int)):=by
 have c:=qv (C:=C) (t0:=t0) (o1:=some (.d (.int (es.length:Int)))) (post:=post) es (ba 0 es.length) p b (mG _) hr hd hb
 have r:=dR (j:=(es.length:Int)) (by omega) (by omega)
 generalize TW C t0 L ((p + (es.map fun e=>(f e).2).flatten.length:Nat):Int) ((b + (es.map fun e=>(f e).1).sum:Nat):Int)=T1 at c ⊢
 simp [gH,r,c]
end
def vM (i:Nat) (ρ:Rho) (w:D.W) (T1:Tp) (o:Option (Option D.W)):Option ((Fl×Rho)×Tp):=match w,o with
 | .d (.list ys),some (some (.loc (.list xs)))=>if xs.length + ys.length≤sizeLine then some ((.nx,ρ.set i (some (.loc (.list (xs++ys))))),T1) else none
 | _,_=>none
theorem uf {i:Nat} {f:FE} {ρ:Rho} {T:Tp}:dO i f ρ T=bnd (f ρ T) fun w T1=>vM i ρ w T1 ρ[i]?:=rfl
theorem sL {i:Nat} {ρ:Rho} {xs ys:List PyData} {T:Tp} (h:xs.length + ys.length≤sizeLine):vM i ρ (.d (.list ys)) T (some (some (.loc (.list xs))))=some ((.nx,ρ.set i (some (.loc (.list (xs++ys))))),T):=if_pos h
theorem nG (a b:List Str):sl a++sl b=sl (a++b):=by simp [sl]
theorem gn {n:Nat} (h:n≤100000):n≤sizeLine:=Nat.le_trans h (by decide)
theorem rb {mw:FnM} {e0:PyData} {T:Tp} {g:PyData→List Str}:∀ (es:List PyData) (acc:List Str) (o2:Option D.W),(∀ e∈es,mw [.d e] T=some (.list (sl (g e)),T))→acc.length + (es.map g).flatten.length≤100000 →
  ∃ o2',forL 2 (dO 1 (ar mw (ae (aa 2) ai))) es [some (.d e0),some (.loc (.list (sl acc))),o2] T=some ((.nx,[some (.d e0),some (.loc (.list (sl (acc++(es.map g).flatten)))),o2']),T)
 | [],acc,o2,_,_=>⟨o2,by simp [forL]⟩
 | e::es,acc,o2,h,hl=>by
  simp only [List.map_cons,List.flatten_cons,List.length_append] at hl
  have h0:=h e List.mem_cons_self
  obtain ⟨o',ih⟩:=rb (mw:=mw) (e0:=e0) (T:=T) (g:=g) es (acc++g e) (some (.d e)) (fun x hx=>h x (List.mem_cons_of_mem _ hx)) (by rw [List.length_append]; omega)
  refine ⟨o',?_⟩
  have z:(sl acc).length + (sl (g e)).length≤sizeLine:=by rw [dG,dG]; exact gn (by omega)
  have k:=sL (i:=1) (ρ:=[some (.d e0),some (.loc (.list (sl acc))),some (.d e)]) (T:=T) z
  rw [nG] at k
  have st:dO 1 (ar mw (ae (aa 2) ai)) [some (.d e0),some (.loc (.list (sl acc))),some (.d e)] T=some ((.nx,[some (.d e0),some (.loc (.list (sl (acc++g e)))),some (.d e)]),T):=by
   rw [uf]
   simp [h0]
   exact k
  rw [forL]
  show bnd (dO 1 (ar mw (ae (aa 2) ai)) [some (.d e0),some (.loc (.list (sl acc))),some (.d e)] T) _=_
  rw [st]
  simp only [List.map_cons,List.flatten_cons]
  rw [← List.append_assoc]
  exact ih
theorem uw {a:PyData} {r:List PyData}:atI (a::r) 0=some a:=by simp [atI,ixN]
theorem j2 {k:Nat} {T:Tp} {w0:Str} {rest:List PyData} {fl:List Str} {es:List PyData} {g:PyData→List Str} (hf:dP [.d (.tuple (.str w0::rest))] T=some (.list (sl fl),T)) (hi:d9 [.d (.tuple (.str w0::rest))] T=some (.list es,T))
  (hr:∀ e∈es,cC k [.d e] T=some (.list (sl (g e)),T)) (hl:fl.length + (es.map g).flatten.length≤90000):cC (k + 1) [.d (.tuple (.str w0::rest))] T=some (.list (sl (w0::(fl++(es.map g).flatten))),T):=by
 obtain ⟨o2,lp⟩:=rb (mw:=cC k) (e0:=.tuple (.str w0::rest)) es (w0::fl) none hr (by rw [List.length_cons]; omega)
 have z:(sl fl).length + 1≤sizeLine:=by rw [dG]; exact gn (by omega)
 have z':1 + (sl fl).length≤sizeLine:=by omega
 have st:cU 1 (aR .list (ae (ag ixD (aa 0) (fC (.int 0))) ai)) (ar dP (ae (aa 0) ai)) [some (.d (.tuple (.str w0::rest))),none,none] T=some ((.nx,[some (.d (.tuple (.str w0::rest))),some (.loc (.list (sl (w0::fl)))),none]),T):=by
  unfold cU
  simp [uw,hf,jE,z']
  rfl
 have e0:cC (k + 1)=aS 3 (aq (cU 1 (aR .list (ae (ag ixD (aa 0) (fC (.int 0))) ai)) (ar dP (ae (aa 0) ai))) (aq (cw 2 (b8 (ar d9 (ae (aa 0) ai))) (dO 1 (ar (cC k) (ae (aa 2) ai)))) (aw (aa 1)))):=rfl
 rw [e0]
 simp [st,hi,lp]
theorem u9 {a:PyData} {r:List PyData}:cg (a::r) (some 1) none=r:=by
 have e:cg (a::r) (some ((1:Nat):Int)) none=r:=by
  unfold cg
  rw [HT.qQ,HT.r9]
  simp
 exact e
theorem mP:∀ (n k:Nat) (d:PyData) (T:Tp),aF n d=true→aD n d≤40→n < k→cx k [.d d] T=some (.str (mk (cst n d)),T)
 | n,0,d,T,h,hm,hk=>absurd hk (Nat.not_lt_zero _)
 | n,k + 1,d,T,h,hm,hk=>by
  have q1:=lit (s:="'") (l:=[39]) (by decide +kernel)
  have q2:=lit (s:="(") (l:=[40]) (by decide +kernel)
  have q3:=lit (s:=")") (l:=[41]) (by decide +kernel)
  have q4:=lit (s:=",") (l:=[44]) (by decide +kernel)
  rcases fR h with h1 | ⟨m,ds,rfl,rfl,h8,hb⟩
  ·rcases je h1 with ⟨i,rfl⟩ | ⟨x,rfl⟩
   ·simp [cx,C9,Da,kE h1,kL]
   ·have e:mk [39]++x=mk (39::cd x):=by rw [← oi x,iJ,cu]; rfl
    have l:(mk [39]).length + x.length≤sizeLine:=iz (by rw [bY]; have:=str_len (n:=0) h1; simp; omega)
    simp [cx,kJ,C8,nU,q1,l,e]
  ·obtain ⟨l1,l2⟩:=rK hm hb
   have c:=cQ (e:=ar (cx k) (ae (aa 0) ai)) (ρ:=[some (.d (.tuple ds))]) (T:=T) (g:=fun d=>.str (mk (cst m d))) (ds:=ds) fun d hd=>by
    have:=mP m k d T (hb d hd) (Int.le_trans (qe hd) hm) (by omega)
    simp [this]
   have j:=rB (z:=mk [44]) (ma (fun d=>mk (cst m d)) ds)
   rw [su,sF,List.length_map,bY] at j
   rw [if_pos (by simp; omega)] at j
   have a1:(mk [40]).length + (mk (aV [44] (ds.map (cst m)))).length≤sizeLine:=iz (by rw [bY,bY]; simp; omega)
   have a2:(mk (40::aV [44] (ds.map (cst m)))).length + (mk [41]).length≤sizeLine:=iz (by rw [bY,bY]; simp; omega)
   have e1:mk [40]++mk (aV [44] (ds.map (cst m)))=mk (40::aV [44] (ds.map (cst m))):=by rw [iJ]; rfl
   have e2:mk (40::aV [44] (ds.map (cst m)))++mk [41]=mk (cst (m + 1) (.tuple ds)):=by rw [iJ]; rfl
   simp [cx,jz,q2,q3,q4,c,j,a1,a2,e1,e2]
theorem oA {x:String}:inD (.str (Str.ofString x)) (.tuple [.str "got",.str "fail"])=some (.bool (decide (x = "got") || decide (x = "fail"))):=by
 have e:inD (.str (Str.ofString x)) (.tuple [.str "got",.str "fail"])=some (.bool (eqF (.str "got") (.str (Str.ofString x)) || (eqF (.str "fail") (.str (Str.ofString x)) || false))):=rfl
 have f:∀ a b:String,eqF (.str (Str.ofString a)) (.str (Str.ofString b))=decide (b=a):=fun a b=>by
  rw [Bool.eq_iff_iff,decide_eq_true_iff]
  simp [eqF]
  exact ⟨fun h=>h.symm,fun h=>h.symm⟩
 rw [e,f,f,Bool.or_false]
theorem BH {k:Nat} {T:Tp} {v:PyData} {x:Str} (h:cx 25 [.d v] T=some (.str x,T)):br (k + 1) [.d (.tuple [.str "put",v])] T=some (.list (sl [Str.ofString "put",x]),T):=by simp [br,h,sl,du,dr]
theorem sD {k:Nat} {T:Tp} {w:String} {v:PyData} {x:Str} (hw:w = "got"∨w = "fail") (h:g9 [v]=some (.str x)):br (k + 1) [.d (.tuple [.str (Str.ofString w),v])] T=some (.list (sl [Str.ofString w,x]),T):=by rcases hw with rfl | rfl <;> simp [br,h,sl,du,dr,oA]
theorem mI {mw:FnM} {e0:PyData} {T:Tp} {o2:Option D.W}:∀ (ps:List (PyData×List Str)) (acc:List Str) (o3:Option D.W),(∀ q∈ps,mw [.d q.1] T=some (.list (sl q.2),T))→acc.length + (ps.map (·.2)).flatten.length≤100000 →
  ∃ o3',forL 3 (cU 1 (aa 1) (ar mw (ae (aa 3) ai))) (ps.map (·.1)) [some (.d e0),some (.loc (.list (sl acc))),o2,o3] T=some ((.nx,[some (.d e0),some (.loc (.list (sl (acc++(ps.map (·.2)).flatten)))),o2,o3']),T)
 | [],acc,o3,_,_=>⟨o3,by simp [forL]⟩
 | q::ps,acc,o3,h,hl=>by
  simp only [List.map_cons,List.flatten_cons,List.length_append] at hl ⊢
  have h0:=h q List.mem_cons_self
  obtain ⟨o',ih⟩:=mI (mw:=mw) (e0:=e0) (T:=T) (o2:=o2) ps (acc++q.2) (some (.d q.1)) (fun x hx=>h x (List.mem_cons_of_mem _ hx)) (by rw [List.length_append]; omega)
  refine ⟨o',?_⟩
  have z:(sl acc).length + (sl q.2).length≤sizeLine:=by rw [dG,dG]; exact gn (by omega)
  have st:cU 1 (aa 1) (ar mw (ae (aa 3) ai)) [some (.d e0),some (.loc (.list (sl acc))),o2,some (.d q.1)] T=some ((.nx,[some (.d e0),some (.loc (.list (sl (acc++q.2)))),o2,some (.d q.1)]),T):=by
   unfold cU
   simp [h0,jE,view,z,nG]
  rw [forL]
  show bnd (cU 1 (aa 1) (ar mw (ae (aa 3) ai)) [some (.d e0),some (.loc (.list (sl acc))),o2,some (.d q.1)] T) _=_
  rw [st,← List.append_assoc]
  exact ih
theorem sf {k:Nat} {T:Tp} {w:String} {ps:List (PyData×List Str)} (hw:¬ w = "put"∧¬ w = "got"∧¬ w = "row"∧¬ w = "fail") (hr:∀ q∈ps,br k [.d q.1] T=some (.list (sl q.2),T)) (hl:(ps.map (·.2)).flatten.length≤90000) :
  br (k + 1) [.d (.tuple (.str (Str.ofString w)::ps.map (·.1)))] T=some (.list (sl (Str.ofString w::(ps.map (·.2)).flatten)),T):=by
 obtain ⟨n1,n2,n3,n4⟩:=hw
 obtain ⟨o3,lp⟩:=mI (mw:=br k) (e0:=.tuple (.str (Str.ofString w)::ps.map (·.1))) (o2:=some (.d (.tuple (ps.map (·.1))))) ps [Str.ofString w] none hr (by simp only [List.length_cons,List.length_nil]; omega)
 have e0:sl [Str.ofString w]=[.str (Str.ofString w)]:=rfl
 rw [e0] at lp
 unfold br
 simp [uw,n1,n2,n3,n4,oA,u9,lp]
theorem C2 {k:Nat} {T:Tp} {w:String} {es:List PyData} {f:PyData→List Str} (hw:¬ w = "put"∧¬ w = "got"∧¬ w = "row"∧¬ w = "fail") (hr:∀ e∈es,br k [.d e] T=some (.list (sl (f e)),T)) (hl:(es.map f).flatten.length≤90000) :
  br (k + 1) [.d (.tuple (.str (Str.ofString w)::es))] T=some (.list (sl (Str.ofString w::(es.map f).flatten)),T):=by
 have e1:(es.map fun e=>(e,f e)).map (·.1)=es:=by rw [List.map_map]; exact (List.map_congr_left fun _ _=>rfl).trans (List.map_id es)
 have e2:(es.map fun e=>(e,f e)).map (·.2)=es.map f:=by rw [List.map_map]; rfl
 have:=sf (k:=k) (T:=T) (w:=w) (ps:=es.map fun e=>(e,f e)) hw (fun q hq=>by obtain ⟨e,he,rfl⟩:=List.mem_map.mp hq; exact hr e he) (by rw [e2]; exact hl)
 rw [e1,e2] at this
 exact this
theorem BG {k:Nat} {T:Tp} {es:List PyData} {f:PyData→List Str} {x:Str} (hx:g9 [.int (es.length:Int)]=some (.str x)) (hr:∀ e∈es,br k [.d e] T=some (.list (sl (f e)),T)) (hl:(es.map f).flatten.length≤90000) :
  br (k + 1) [.d (.tuple [.str "row",.tuple es])] T=some (.list (sl (Str.ofString "row"::x::(es.map f).flatten)),T):=by
 have e1:(es.map fun e=>(e,f e)).map (·.1)=es:=by rw [List.map_map]; exact (List.map_congr_left fun _ _=>rfl).trans (List.map_id es)
 have e2:(es.map fun e=>(e,f e)).map (·.2)=es.map f:=by rw [List.map_map]; rfl
 obtain ⟨o3,lp⟩:=mI (mw:=br k) (T:=T) (e0:=.tuple [.str "row",.tuple es]) (o2:=some (.d (.tuple es))) (es.map fun e=>(e,f e)) [Str.ofString "row",x] none (fun q hq=>by obtain ⟨e,he,rfl⟩:=List.mem_map.mp hq; exact hr e he) (by rw [e2]; simp only [List.length_cons,List.length_nil]; omega)
 rw [e1,e2] at lp
 have e0:sl [Str.ofString "row",x]=[.str "row",.str x]:=rfl
 rw [e0] at lp
 have z:1 < sizeLine:=by decide
 unfold br
 simp [du,dr,oA,hx,z,lp]
structure EX (C:Addr) (m:Int) (n c:Nat) (ws:List Str) (e:PyData):Prop where
 n1:1≤n
 c1:1≤c
 c6:c≤60
 ln:ws.length≤2 * c
 ne:ws≠[]
 ok:∀ w∈ws,N3 (cd w)∧w.length≤1100
 pw:∀ k T,n < k→cC k [.d e] T=some (.list (sl ws),T)
 lw:∀ k T,n < k→br k [.d e] T=some (.list (sl ws),T)
 rd:∀ k a,2 * n≤k→a + (n:Int)≤20→Rdx C k m a c ws e
 bt:aF (2 * n + 5) e=true
def litOk (w:String):Bool:=(cd (Str.ofString w)).all (fun c=>decide (c < 128∧c≠32)) && decide ((Str.ofString w).length≤1100)
theorem iK {w:String} (h:litOk w=true):N3 (cd (Str.ofString w))∧(Str.ofString w).length≤1100:=by
 unfold litOk at h
 rw [Bool.and_eq_true] at h
 exact ⟨fun c hc=>of_decide_eq_true (List.all_eq_true.mp h.1 c hc),of_decide_eq_true h.2⟩
theorem pO:∀ (k n:Nat) (d:PyData),aF n d=true→aF (n + k) d=true
 | 0,_,_,h=>h
 | k + 1,n,d,h=>by
  have:=(iu (n + k) d (pO k n d h)).1
  rw [← Nat.add_assoc]
  exact this
theorem e8 {n m:Nat} {d:PyData} (h:aF n d=true) (l:n≤m):aF m d=true:=by
 have:=pO (m - n) n d h
 rwa [show n + (m - n)=m by omega] at this
theorem gJ {n:Nat} {ds:List PyData} (hl:ds.length≤8) (h:∀ d∈ds,aF n d=true):aF (n + 1) (.tuple ds)=true:=by
 show (decide (ds.length≤8) && ds.all (aF n))=true
 rw [decide_eq_true hl,List.all_eq_true.mpr h]
 rfl
theorem iW {w:String} (h:single (.str (Str.ofString w))=true) (n:Nat):aF n (.str (Str.ofString w))=true:=(bT h).1
theorem BU {c:Nat}:∀ (ls:List (List Nat)),c∈aV [44] ls→c=44∨∃ l∈ls,c∈l
 | [],h=>by cases h
 | x::r,h=>by
  rw [jZ] at h
  rcases List.mem_append.mp h with h | h
  ·exact .inr ⟨x,List.mem_cons_self,h⟩
  ·obtain ⟨y,hy,hc⟩:=List.mem_flatten.mp h
   obtain ⟨l,hl,rfl⟩:=List.mem_map.mp hy
   rcases List.mem_append.mp hc with z | z
   ·exact .inl (List.mem_singleton.mp z)
   ·exact .inr ⟨l,List.mem_cons_of_mem _ hl,z⟩
theorem zR:∀ c∈cd TXT,c < 128∧c≠32:=by decide +kernel
theorem rJ:∀ (n:Nat) (d:PyData),aF n d=true→N3 (cst n d)
 | n,d,h=>fun c z=>by
  rcases fR h with h1 | ⟨m,ds,rfl,rfl,_,hd⟩
  ·rcases je h1 with ⟨i,rfl⟩ | ⟨x,rfl⟩
   ·rw [kL] at z
    have:=kz i c z
    omega
   ·rw [kJ] at z
    have h2:(decide (x.length≤20) && has TXT x)=true:=h1
    rw [Bool.and_eq_true] at h2
    rcases List.mem_cons.mp z with z | z
    ·subst z; decide
    ·exact zR c (of_decide_eq_true (List.all_eq_true.mp h2.2 c z))
  ·have e:cst (m + 1) (.tuple ds)=40::(aV [44] (ds.map (cst m))++[41]):=rfl
   rw [e] at z
   rcases List.mem_cons.mp z with z | z
   ·subst z; decide
   ·rcases List.mem_append.mp z with z | z
    ·rcases BU _ z with z | ⟨l,hl,hc⟩
     ·subst z; decide
     ·obtain ⟨d,hd',rfl⟩:=List.mem_map.mp hl
      exact rJ m d (hd d hd') c hc
    ·have:=List.mem_singleton.mp z
     subst this; decide
termination_by n=>n
theorem mE {v:PyData} (h:aT v=true):N3 (cd (mk (cst 4 v)))∧(mk (cst 4 v)).length≤1100:=by
 obtain ⟨hb,hm⟩:=fT h
 have hl:=kK 4 v hb
 refine ⟨?_,by rw [bY]; omega⟩
 rw [cu]
 exact rJ 4 v hb
theorem uL (j:Nat) (h:j≤1000):N3 (cd (ns j))∧(ns j).length≤1100:=by
 have s:=kz (j:Int)
 have l:=tU (i:=(j:Int)) (dy (by omega) (by omega))
 unfold ns
 rw [cu,bY]
 exact ⟨fun c z=>by have:=s c z; omega,by omega⟩
@[simp] theorem Jq {α:Type} {a:α} {r:List α}:atI (a::r) 0=some a:=by simp [atI,ixN]
@[simp] theorem Jp {α:Type} {a b:α} {r:List α}:atI (a::b::r) 1=some b:=kP (show (a::b::r)[1]? = some b from rfl)
@[simp] theorem Jo {α:Type} {a b c:α} {r:List α}:atI (a::b::c::r) 2=some c:=kP (show (a::b::c::r)[2]? = some c from rfl)
theorem lU {x:String}:inD (.str (Str.ofString x)) (.tuple [.str "put",.str "got",.str "row"])=some (.bool (decide (x = "put") || (decide (x = "got") || decide (x = "row")))):=by
 have e:inD (.str (Str.ofString x)) (.tuple [.str "put",.str "got",.str "row"])=some (.bool (eqF (.str "put") (.str (Str.ofString x)) || (eqF (.str "got") (.str (Str.ofString x)) || (eqF (.str "row") (.str (Str.ofString x)) || false)))):=rfl
 have f:∀ a b:String,eqF (.str (Str.ofString a)) (.str (Str.ofString b))=decide (b=a):=fun a b=>by
  rw [Bool.eq_iff_iff,decide_eq_true_iff]
  simp [eqF]
  exact ⟨fun h=>h.symm,fun h=>h.symm⟩
 rw [e,f,f,f,Bool.or_false]
section
variable {C:Addr} {m:Int} {n:Nat}
theorem fG {t0:List PyData} {L:List Str} {p p' b b':Int} (h1:p=p') (h2:b=b'):TW C t0 L p b=TW C t0 L p' b':=by rw [h1,h2]
theorem DH {v:PyData} (hn:1≤n) (h:aT v=true):EX C m n 1 [Str.ofString "put",mk (cst 4 v)] (.tuple [.str "put",v]):=by
 obtain ⟨hb,hm⟩:=fT h
 have st:∀ T,cP 25 [.d v] T=some (.str (mk (cst 4 v)),T):=fun T=>nv 4 25 v T hb hm (by decide)
 have ls:∀ T,cx 25 [.d v] T=some (.str (mk (cst 4 v)),T):=fun T=>mP 4 25 v T hb hm (by decide)
 refine ⟨hn,by decide,by decide,by simp,by simp,fun w hw=>?_,fun k T hk=>?_,fun k T hk=>?_,fun k a hk ha t0 L p b post hb hd=>?_,?_⟩
 ·simp at hw
  rcases hw with rfl | rfl
  ·exact iK (by decide +kernel)
  ·exact mE h
 ·obtain ⟨k,rfl⟩:=bj k (by omega)
  exact j2 (k:=k) (T:=T) (fl:=[mk (cst 4 v)]) (es:=[]) (g:=fun _=>[]) (by simp [dP,st,sl]) (by simp [d9]) (fun e he=>by cases he) (by simp)
 ·obtain ⟨k,rfl⟩:=bj k (by omega)
  exact BH (ls T)
 ·obtain ⟨k,rfl⟩:=bj k (by omega)
  obtain ⟨a0,d0⟩:=er (w:=Str.ofString "put") (r:=mk (cst 4 v)::post) hd
  obtain ⟨a1,_⟩:=er d0
  have b1:=fh (C:=C) (t0:=t0) (b:=(b:Int)) a0
  have b2:=iI (C:=C) (t0:=t0) (L:=L) (p:=(p:Int)) (b:=(b:Int)) (a:=a) (by omega) (by omega)
  have b3:=EV (C:=C) (t0:=t0) (b:=(b:Int) + 1) a1 h
  simp only [Int.natCast_add,Int.cast_ofNat_Int] at b3
  have fin:TW C t0 L ((p + [Str.ofString "put",mk (cst 4 v)].length:Nat):Int) ((b + 1:Nat):Int)=TW C t0 L ((p:Int) + 1 + 1) ((b:Int) + 1):=fG (by show ((p + 2:Nat):Int)=_; omega) (by omega)
  rw [fin]
  simp [dz,dA,m_W,b1,lU,b2,b3]
 ·exact e8 (gJ (n:=4) (by simp) fun d hd=>by
   simp at hd
   rcases hd with rfl | rfl
   ·exact iW (by decide +kernel) 4
   ·exact hb) (by omega)
theorem nz {j:Nat} (h:j≤1000):eP [.int (j:Int)]=some (.str (ns j)):=kE (dy (by omega) (by omega))
theorem rX {j:Nat} (h:j≤1000):g9 [.int (j:Int)]=some (.str (ns j)):=nz h
theorem DJ {g j:Nat} (hn:1≤n) (hg:g≤12) (hj:j < g):EX C (g:Int) n 1 [Str.ofString "got",ns j] (.tuple [.str "got",.int (j:Int)]):=by
 have s1:=nz (j:=j) (by omega)
 have s2:=rX (j:=j) (by omega)
 refine ⟨hn,by decide,by decide,by simp,by simp,fun w hw=>?_,fun k T hk=>?_,fun k T hk=>?_,fun k a hk ha t0 L p b post hb hd=>?_,?_⟩
 ·simp at hw
  rcases hw with rfl | rfl
  ·exact iK (by decide +kernel)
  ·exact uL j (by omega)
 ·obtain ⟨k,rfl⟩:=bj k (by omega)
  exact j2 (k:=k) (T:=T) (fl:=[ns j]) (es:=[]) (g:=fun _=>[]) (by simp [dP,s1,sl]) (by simp [d9]) (fun e he=>by cases he) (by simp)
 ·obtain ⟨k,rfl⟩:=bj k (by omega)
  exact sD (w:="got") (.inl rfl) s2
 ·obtain ⟨k,rfl⟩:=bj k (by omega)
  obtain ⟨a0,d0⟩:=er (w:=Str.ofString "got") (r:=ns j::post) hd
  obtain ⟨a1,_⟩:=er d0
  have b1:=fh (C:=C) (t0:=t0) (b:=(b:Int)) a0
  have b2:=iI (C:=C) (t0:=t0) (L:=L) (p:=(p:Int)) (b:=(b:Int)) (a:=a) (by omega) (by omega)
  have b3:=vh (C:=C) (t0:=t0) (b:=(b:Int) + 1) (n:=g) a1 (by omega) hj
  simp only [Int.natCast_add,Int.cast_ofNat_Int] at b3
  have fin:TW C t0 L ((p + [Str.ofString "got",ns j].length:Nat):Int) ((b + 1:Nat):Int)=TW C t0 L ((p:Int) + 1 + 1) ((b:Int) + 1):=fG (by show ((p + 2:Nat):Int)=_; omega) (by omega)
  rw [fin]
  simp [dz,dA,m_W,b1,lU,b2,b3]
 ·exact e8 (gJ (n:=0) (by simp) fun d hd=>by
   simp at hd
   rcases hd with rfl | rfl
   ·exact iW (by decide +kernel) 0
   ·exact (bT (dy (by omega) (by omega))).1) (by omega)
theorem nV {f:PyData→Nat×List Str}:∀ {es:List PyData},(∀ e∈es,(f e).2.length≤2 * (f e).1)→(es.map fun e=>(f e).2).flatten.length≤2 * (es.map fun e=>(f e).1).sum
 | [],_=>by simp
 | e::es,h=>by
  have:=nV (es:=es) fun x hx=>h x (List.mem_cons_of_mem _ hx)
  have h0:=h e List.mem_cons_self
  simp only [List.map_cons,List.flatten_cons,List.sum_cons,List.length_append]
  omega
theorem u0 {f:PyData→Nat×List Str} {P:Str→Prop} {es:List PyData} (h:∀ e∈es,∀ w∈(f e).2,P w):∀ w∈(es.map fun e=>(f e).2).flatten,P w:=fun w hw=>by
 obtain ⟨l,hl,hw'⟩:=List.mem_flatten.mp hw
 obtain ⟨e,he,rfl⟩:=List.mem_map.mp hl
 exact h e he w hw'
theorem DG {f:PyData→Nat×List Str} {es:List PyData} (hl:es.length≤8) (h:∀ e∈es,EX C m n (f e).1 (f e).2 e) (hc:1 + (es.map fun e=>(f e).1).sum≤60) :
  EX C m (n + 1) (1 + (es.map fun e=>(f e).1).sum) (Str.ofString "row"::ns es.length::(es.map fun e=>(f e).2).flatten) (.tuple [.str "row",.tuple es]):=by
 have fl:=nV (f:=f) (es:=es) fun e he=>(h e he).ln
 have s1:=nz (j:=es.length) (by omega)
 have s2:=rX (j:=es.length) (by omega)
 refine ⟨by omega,by omega,hc,by simp only [List.length_cons]; omega,by simp,fun w hw=>?_,fun k T hk=>?_,fun k T hk=>?_,fun k a hk ha t0 L p b post hb hd=>?_,?_⟩
 ·rcases List.mem_cons.mp hw with rfl | hw
  ·exact iK (by decide +kernel)
  ·rcases List.mem_cons.mp hw with rfl | hw
   ·exact uL _ (by omega)
   ·exact u0 (P:=fun w=>N3 (cd w)∧w.length≤1100) (fun e he=>(h e he).ok) w hw
 ·obtain ⟨k,rfl⟩:=bj k (by omega)
  exact j2 (k:=k) (T:=T) (fl:=[ns es.length]) (es:=es) (g:=fun e=>(f e).2) (by simp [dP,s1,sl]) (by simp [d9]) (fun e he=>(h e he).pw k T (by omega)) (by simp only [List.length_cons,List.length_nil]; omega)
 ·obtain ⟨k,rfl⟩:=bj k (by omega)
  exact BG (f:=fun e=>(f e).2) s2 (fun e he=>(h e he).lw k T (by omega)) (by omega)
 ·obtain ⟨k,rfl⟩:∃ j,k=j + 2:=⟨k - 2,by omega⟩
  obtain ⟨a0,d0⟩:=er (w:=Str.ofString "row") (r:=ns es.length::((es.map fun e=>(f e).2).flatten++post)) hd
  obtain ⟨a1,d1⟩:=er d0
  have b1:=fh (C:=C) (t0:=t0) (b:=(b:Int)) a0
  have b2:=iI (C:=C) (t0:=t0) (L:=L) (p:=(p:Int)) (b:=(b:Int)) (a:=a) (by omega) (by omega)
  have b3:=vh (C:=C) (t0:=t0) (b:=(b:Int) + 1) (n:=9) a1 (by omega) (by omega)
  have b4:=sZ (C:=C) (t0:=t0) (L:=L) (k:=k) (m:=m) (a:=a + 1) (f:=f) (post:=post) (es:=es) (p:=p + 2) (b:=b + 1) hl (fun e he=>(h e he).rd k (a + 1) (by omega) (by omega)) d1 (by omega)
  have e4:TW C t0 L ((p + 2:Nat):Int) ((b + 1:Nat):Int)=TW C t0 L ((p:Int) + 1 + 1) ((b:Int) + 1):=fG (by omega) (by omega)
  rw [e4] at b4
  simp only [Int.natCast_add,Int.cast_ofNat_Int] at b3
  have fin:TW C t0 L ((p + (Str.ofString "row"::ns es.length::(es.map fun e=>(f e).2).flatten).length:Nat):Int) ((b + (1 + (es.map fun e=>(f e).1).sum):Nat):Int)=TW C t0 L ((p + 2 + (es.map fun e=>(f e).2).flatten.length:Nat):Int) ((b + 1 + (es.map fun e=>(f e).1).sum:Nat):Int):=fG (by simp only [List.length_cons]; omega) (by omega)
  rw [fin]
  generalize TW C t0 L ((p + 2 + (es.map fun e=>(f e).2).flatten.length:Nat):Int) ((b + 1 + (es.map fun e=>(f e).1).sum:Nat):Int)=T9 at b4 ⊢
  simp [dz,dA,m_W,b1,lU,b2,b3,b4]
 ·exact e8 (gJ (n:=2 * n + 6) (by simp) fun d hd=>by
   simp at hd
   rcases hd with rfl | rfl
   ·exact iW (by decide +kernel) _
   ·exact gJ hl fun e he=>(h e he).bt) (by omega)
end
def PWX:List String:=["part","sum","join","same","less"]
def jX:List (Str×Int):=[("many",1),("part",2),("sum",2),("join",2),("same",2),("less",2)]
def Wide (w:String) (k:Nat):Prop:=(w = "many"∧k=1)∨(w∈PWX∧k=2)
theorem zO {w:String} {k:Nat} (h:Wide w k):inT jX (.str (Str.ofString w))=some (.bool true)∧D.atT jX (.str (Str.ofString w))=some (.int (k:Int)):=by
 rcases h with ⟨rfl,rfl⟩ | ⟨hw,rfl⟩
 ·simp [inT,D.atT,jX]
 ·simp [PWX] at hw
  rcases hw with rfl | rfl | rfl | rfl | rfl <;> simp [inT,D.atT,jX]
theorem A3 {w:String} {k:Nat} (h:Wide w k):¬ w = "put"∧¬ w = "got"∧¬ w = "row"∧¬ w = "fail":=by
 rcases h with ⟨rfl,_⟩ | ⟨hw,_⟩
 ·simp
 ·simp [PWX] at hw
  rcases hw with rfl | rfl | rfl | rfl | rfl <;> simp
theorem zP {w:String} {k:Nat} (h:Wide w k):litOk w=true∧single (.str (Str.ofString w))=true∧k≤2:=by
 have key:∀ w∈"many"::PWX,litOk w=true∧single (.str (Str.ofString w))=true:=by decide +kernel
 rcases h with ⟨rfl,rfl⟩ | ⟨hw,rfl⟩
 ·obtain ⟨a,b⟩:=key "many" (by simp)
  exact ⟨a,b,by decide⟩
 ·obtain ⟨a,b⟩:=key w (List.mem_cons_of_mem _ hw)
  exact ⟨a,b,by decide⟩
section
variable {C:Addr} {m:Int} {n:Nat}
theorem tq {w:String} {f:PyData→Nat×List Str} {es:List PyData} (hw:Wide w es.length) (h:∀ e∈es,EX C m n (f e).1 (f e).2 e) (hc:1 + (es.map fun e=>(f e).1).sum≤60) :
  EX C m (n + 1) (1 + (es.map fun e=>(f e).1).sum) (Str.ofString w::(es.map fun e=>(f e).2).flatten) (.tuple (.str (Str.ofString w)::es)):=by
 have fl:=nV (f:=f) (es:=es) fun e he=>(h e he).ln
 obtain ⟨n1,n2,n3,n4⟩:=A3 hw
 obtain ⟨t1,t2⟩:=zO hw
 obtain ⟨l1,l2,l3⟩:=zP hw
 unfold jX at t1 t2
 refine ⟨by omega,by omega,hc,by simp only [List.length_cons]; omega,by simp,fun w hw=>?_,fun k T hk=>?_,fun k T hk=>?_,fun k a hk ha t0 L p b post hb hd=>?_,?_⟩
 ·rcases List.mem_cons.mp hw with rfl | hw
  ·exact iK l1
  ·exact u0 (P:=fun w=>N3 (cd w)∧w.length≤1100) (fun e he=>(h e he).ok) w hw
 ·obtain ⟨k,rfl⟩:=bj k (by omega)
  exact j2 (k:=k) (T:=T) (fl:=[]) (es:=es) (g:=fun e=>(f e).2) (by simp [dP,n1,n2,n3,sl]) (by simp [d9,n1,n2,n3,u9]) (fun e he=>(h e he).pw k T (by omega)) (by simp only [List.length_nil]; omega)
 ·obtain ⟨k,rfl⟩:=bj k (by omega)
  exact C2 (f:=fun e=>(f e).2) ⟨n1,n2,n3,n4⟩ (fun e he=>(h e he).lw k T (by omega)) (by omega)
 ·obtain ⟨k,rfl⟩:∃ j,k=j + 2:=⟨k - 2,by omega⟩
  obtain ⟨a0,d0⟩:=er (w:=Str.ofString w) (r:=(es.map fun e=>(f e).2).flatten++post) hd
  have b1:=fh (C:=C) (t0:=t0) (b:=(b:Int)) a0
  have b2:=iI (C:=C) (t0:=t0) (L:=L) (p:=(p:Int)) (b:=(b:Int)) (a:=a) (by omega) (by omega)
  have b4:=sZ (C:=C) (t0:=t0) (L:=L) (k:=k) (m:=m) (a:=a + 1) (f:=f) (post:=post) (es:=es) (p:=p + 1) (b:=b + 1) (by omega) (fun e he=>(h e he).rd k (a + 1) (by omega) (by omega)) d0 (by omega)
  have e4:TW C t0 L ((p + 1:Nat):Int) ((b + 1:Nat):Int)=TW C t0 L ((p:Int) + 1) ((b:Int) + 1):=fG (by omega) (by omega)
  rw [e4] at b4
  have fin:TW C t0 L ((p + (Str.ofString w::(es.map fun e=>(f e).2).flatten).length:Nat):Int) ((b + (1 + (es.map fun e=>(f e).1).sum):Nat):Int)=TW C t0 L ((p + 1 + (es.map fun e=>(f e).2).flatten.length:Nat):Int) ((b + 1 + (es.map fun e=>(f e).1).sum:Nat):Int):=fG (by simp only [List.length_cons]; omega) (by omega)
  rw [fin]
  have z:1 + es.length≤sizeLine:=gn (by omega)
  have z':es.length + 1≤sizeLine:=gn (by omega)
  generalize TW C t0 L ((p + 1 + (es.map fun e=>(f e).2).flatten.length:Nat):Int) ((b + 1 + (es.map fun e=>(f e).1).sum:Nat):Int)=T9 at b4 ⊢
  simp [dz,dA,m_W,b1,lU,n1,n2,n3,t1,t2,b2,b4,z,z']
 ·exact e8 (gJ (n:=2 * n + 5) (by simp only [List.length_cons]; omega) fun d hd=>by
   rcases List.mem_cons.mp hd with rfl | hd
   ·exact iW l2 _
   ·exact (h d hd).bt) (by omega)
def EW (C:Addr) (m:Int) (n:Nat) (q:Int) (e:PyData):Prop:=∃ c ws,EX C m n c ws e∧(c:Int)≤q
theorem ot {q:Int} {es:List PyData} (h:∀ d∈es,EW C m n q d):∃ f:PyData→Nat×List Str,∀ d∈es,EX C m n (f d).1 (f d).2 d∧((f d).1:Int)≤q:=by
 classical
 refine ⟨fun d=>if h':d∈es then ((h d h').choose,(h d h').choose_spec.choose) else (0,[]),fun d hd=>?_⟩
 simp only [dif_pos hd]
 exact (h d hd).choose_spec.choose_spec
theorem kQ {f:PyData→Nat×List Str} {q:Int}:∀ {l:List PyData},(∀ d∈l,((f d).1:Int)≤q)→(((l.map fun d=>(f d).1).sum:Nat):Int)≤l.length * q
 | [],_=>by simp
 | d::l,h=>by
  have h2:=h d List.mem_cons_self
  have i1:=kQ (l:=l) fun x hx=>h x (List.mem_cons_of_mem _ hx)
  simp only [List.map_cons,List.sum_cons,List.length_cons]
  have e:((l.length + 1:Nat):Int) * q=l.length * q + q:=by
   rw [Int.natCast_add,Int.add_mul]
   simp
  rw [e]
  omega
theorem DK {q Q:Int} {es:List PyData} (hl:es.length≤8) (h:∀ d∈es,EW C m n q d) (hQ:es.length * q + 1≤Q) (hQ2:Q≤60):EW C m (n + 1) Q (.tuple [.str "row",.tuple es]):=by
 obtain ⟨f,hf⟩:=ot h
 have s:=kQ (f:=f) (q:=q) (l:=es) fun d hd=>(hf d hd).2
 exact ⟨_,_,DG hl (fun d hd=>(hf d hd).1) (by omega),by omega⟩
theorem Cc {q Q:Int} {e:PyData} (h:EW C m n q e) (hQ:q + 1≤Q) (hQ2:Q≤60):EW C m (n + 1) Q (.tuple [.str "many",e]):=by
 obtain ⟨f,hf⟩:=ot (es:=[e]) fun d hd=>by rw [List.mem_singleton.mp hd]; exact h
 have s:=kQ (f:=f) (q:=q) (l:=[e]) fun d hd=>(hf d hd).2
 simp only [List.length_cons,List.length_nil] at s
 exact ⟨_,_,tq (w:="many") (es:=[e]) (.inl ⟨rfl,rfl⟩) (fun d hd=>(hf d hd).1) (by omega),by omega⟩
theorem Cb {q Q:Int} {w:String} {a b:PyData} (hw:w∈PWX) (ha:EW C m n q a) (hb:EW C m n q b) (hQ:q + q + 1≤Q) (hQ2:Q≤60):EW C m (n + 1) Q (.tuple [.str (Str.ofString w),a,b]):=by
 obtain ⟨f,hf⟩:=ot (es:=[a,b]) fun d hd=>by
  simp at hd
  rcases hd with rfl | rfl
  ·exact ha
  ·exact hb
 have s:=kQ (f:=f) (q:=q) (l:=[a,b]) fun d hd=>(hf d hd).2
 simp only [List.length_cons,List.length_nil] at s
 exact ⟨_,_,tq (w:=w) (es:=[a,b]) (.inr ⟨hw,rfl⟩) (fun d hd=>(hf d hd).1) (by omega),by omega⟩
end
variable {R:Tp} {C:Addr}
theorem qg {mw:FnM} {e0:PyData} {T:Tp}:∀ (ps:List (PyData×List Str)) (acc:List Str) (o2:Option D.W),(∀ q∈ps,mw [.d q.1] T=some (.list (sl q.2),T))→acc.length + (ps.map (·.2)).flatten.length≤100000 →
  ∃ o2',forL 2 (dO 1 (ar mw (ae (aa 2) ai))) (ps.map (·.1)) [some (.d e0),some (.loc (.list (sl acc))),o2] T=some ((.nx,[some (.d e0),some (.loc (.list (sl (acc++(ps.map (·.2)).flatten)))),o2']),T)
 | [],acc,o2,_,_=>⟨o2,by simp [forL]⟩
 | q::ps,acc,o2,h,hl=>by
  simp only [List.map_cons,List.flatten_cons,List.length_append] at hl ⊢
  have h0:=h q List.mem_cons_self
  obtain ⟨o',ih⟩:=qg (mw:=mw) (e0:=e0) (T:=T) ps (acc++q.2) (some (.d q.1)) (fun x hx=>h x (List.mem_cons_of_mem _ hx)) (by rw [List.length_append]; omega)
  refine ⟨o',?_⟩
  have z:(sl acc).length + (sl q.2).length≤sizeLine:=by rw [dG,dG]; exact gn (by omega)
  have k:=sL (i:=1) (ρ:=[some (.d e0),some (.loc (.list (sl acc))),some (.d q.1)]) (T:=T) z
  rw [nG] at k
  have st:dO 1 (ar mw (ae (aa 2) ai)) [some (.d e0),some (.loc (.list (sl acc))),some (.d q.1)] T=some ((.nx,[some (.d e0),some (.loc (.list (sl (acc++q.2)))),some (.d q.1)]),T):=by
   rw [uf]
   simp [h0]
   exact k
  rw [forL]
  show bnd (dO 1 (ar mw (ae (aa 2) ai)) [some (.d e0),some (.loc (.list (sl acc))),some (.d q.1)] T) _=_
  rw [st,← List.append_assoc]
  exact ih
theorem ER {a b:PyData} {r:List PyData}:cg (a::b::r) (some 2) none=r:=by
 have e:cg (a::b::r) (some ((2:Nat):Int)) none=r:=by
  unfold cg
  rw [HT.qQ,HT.r9]
  simp
 exact e
theorem yZ {k:Nat} {T:Tp} {w:String} {e:PyData} {we:List Str} {ps:List (PyData×List Str)} (hw:¬ w = "fail") (he:cC 25 [.d e] T=some (.list (sl we),T)) (hr:∀ q∈ps,c9 k [.d q.1] T=some (.list (sl q.2),T)) (hl:we.length + (ps.map (·.2)).flatten.length≤90000) :
  c9 (k + 1) [.d (.tuple (.str (Str.ofString w)::e::ps.map (·.1)))] T=some (.list (sl (Str.ofString w::(we++(ps.map (·.2)).flatten))),T):=by
 obtain ⟨o2,lp⟩:=qg (mw:=c9 k) (e0:=.tuple (.str (Str.ofString w)::e::ps.map (·.1))) ps (Str.ofString w::we) none hr (by rw [List.length_cons]; omega)
 have z':1 + (sl we).length≤sizeLine:=by rw [dG]; exact gn (by omega)
 have st:cU 1 (aR .list (ae (ag ixD (aa 0) (fC (.int 0))) ai)) (ar (cC 25) (ae (ag ixD (aa 0) (fC (.int 1))) ai)) [some (.d (.tuple (.str (Str.ofString w)::e::ps.map (·.1)))),none,none] T=some ((.nx,[some (.d (.tuple (.str (Str.ofString w)::e::ps.map (·.1)))),some (.loc (.list (sl (Str.ofString w::we)))),none]),T):=by
  unfold cU
  simp [he,jE,z']
  rfl
 have e0:c9 (k + 1)=aS 3 (aq (fIf (aB (ag eqD (ag ixD (aa 0) (fC (.int 0))) (fC (.str "fail")))) (aw (aR .list (ae (ag ixD (aa 0) (fC (.int 0))) (ae (ag ixD (aa 0) (fC (.int 1))) ai)))) aJ) (aq (cU 1 (aR .list (ae (ag ixD (aa 0) (fC (.int 0))) ai)) (ar (cC 25) (ae (ag ixD (aa 0) (fC (.int 1))) ai))) (aq (cw 2 (b8 (fSl (aa 0) (fP (fC (.int 2))) cf)) (dO 1 (ar (c9 k) (ae (aa 2) ai)))) (aw (aa 1))))):=rfl
 rw [e0]
 simp [hw,st,ER,lp]
def RdR (C:Addr) (k:Nat) (g:Nat) (a:Int) (c:Nat) (ws:List Str) (r:PyData):Prop:=∀ (t0:List PyData) (L:List Str) (p b:Nat) (post:List Str),b + c≤60→L.drop p=ws++post→cD C k [.tp 0,.d (.int a),.d (.int (g:Int))] (TW C t0 L (p:Int) (b:Int))=some (r,TW C t0 L ((p + ws.length:Nat):Int) ((b + c:Nat):Int))
section
variable {C:Addr} {t0:List PyData} {L:List Str}
theorem pH {k g:Nat} {a:Int} {o3 o4 o5:Option D.W} {post:List Str}:∀ (qs:List (PyData×Nat×List Str)) (ds:List PyData) (p b:Nat),ds.length=qs.length→(∀ q∈qs,RdR C k g (a + 1) q.2.1 q.2.2 q.1)→L.drop p=(qs.map (·.2.2)).flatten++post→b + (qs.map (·.2.1)).sum≤60 →
  bK bv (ar (cD C k) (ae (aa 1) (ae (ag aG (aa 2) (fC (.int 1))) (ae (aa 6) ai)))) [some (.tp 0),some (.d (.int a)),o3,o4,o5,some (.d (.int (g:Int)))] ds (TW C t0 L (p:Int) (b:Int))=some (qs.map (·.1),TW C t0 L ((p + (qs.map (·.2.2)).flatten.length:Nat):Int) ((b + (qs.map (·.2.1)).sum:Nat):Int))
 | [],[],p,b,_,_,_,_=>by simp [bK]
 | [],_::_,_,_,h,_,_,_=>by cases h
 | _::_,[],_,_,h,_,_,_=>by cases h
 | q::qs,d::ds,p,b,hl,hr,hd,hb=>by
  have h0:=hr q List.mem_cons_self
  simp only [List.map_cons,List.flatten_cons,List.sum_cons,List.append_assoc] at hd hb ⊢
  have r0:=h0 t0 L p b _ (by omega) hd
  have hd':L.drop (p + q.2.2.length)=(qs.map (·.2.2)).flatten++post:=by
   rw [← List.drop_drop,hd,List.drop_left]
  have ih:=pH (k:=k) (g:=g) (a:=a) (o3:=o3) (o4:=o4) (o5:=o5) (post:=post) qs ds (p + q.2.2.length) (b + q.2.1) (by simpa using hl) (fun x hx=>hr x (List.mem_cons_of_mem _ hx)) hd' (by omega)
  have e1:p + (q.2.2++(qs.map (·.2.2)).flatten).length=p + q.2.2.length + (qs.map (·.2.2)).flatten.length:=by rw [List.length_append]; omega
  have e2:b + (q.2.1 + (qs.map (·.2.1)).sum)=b + q.2.1 + (qs.map (·.2.1)).sum:=by omega
  rw [e1,e2]
  generalize TW C t0 L ((p + q.2.2.length:Nat):Int) ((b + q.2.1:Nat):Int)=T1 at r0 ih
  generalize (g:Int)=G at *
  simp [bK,r0,ih]
end
theorem jV {x:String}:inD (.str (Str.ofString x)) (.tuple [.str "want",.str "peek"])=some (.bool (decide (x = "want") || decide (x = "peek"))):=by
 have e:inD (.str (Str.ofString x)) (.tuple [.str "want",.str "peek"])=some (.bool (eqF (.str "want") (.str (Str.ofString x)) || (eqF (.str "peek") (.str (Str.ofString x)) || false))):=rfl
 have f:∀ a b:String,eqF (.str (Str.ofString a)) (.str (Str.ofString b))=decide (b=a):=fun a b=>by
  rw [Bool.eq_iff_iff,decide_eq_true_iff]
  simp [eqF]
  exact ⟨fun h=>h.symm,fun h=>h.symm⟩
 rw [e,f,f,Bool.or_false]
structure RX (C:Addr) (g n c:Nat) (ws:List Str) (r:PyData):Prop where
 n1:1≤n
 c1:1≤c
 c6:c≤60
 ln:ws.length≤2 * c
 ne:ws≠[]
 ok:∀ w∈ws,N3 (cd w)∧w.length≤1100
 pw:∀ k T,n < k→c9 k [.d r] T=some (.list (sl ws),T)
 lw:∀ k T,n < k→br k [.d r] T=some (.list (sl ws),T)
 rd:∀ k a,n≤k→a + (n:Int)≤20→RdR C k g a c ws r
 bt:aF (2 * n + 6) r=true
section
variable {C:Addr} {g n:Nat}
theorem mX {x:Str} (h:isName (.str x)=true):N3 (cd x)∧x.length≤1100:=by
 have h':(decide (1≤x.length) && decide (x.length≤8) && has LET x)=true:=h
 rw [Bool.and_eq_true,Bool.and_eq_true] at h'
 have l8:=of_decide_eq_true h'.1.2
 have no:∀ c∈cd LET,c < 128∧c≠32:=by decide +kernel
 exact ⟨fun c z=>no c (of_decide_eq_true (List.all_eq_true.mp h'.2 c z)),by omega⟩
def d7:List (Str×Int):=[("say",0),("fail",0),("want",1),("peek",1),("when",2)]
theorem B3 {x:Str} (hn:1≤n) (hg:g≤12) (h:isName (.str x)=true):RX C g n 1 [Str.ofString "fail",x] (.tuple [.str "fail",.str x]):=by
 refine ⟨hn,by decide,by decide,by simp,by simp,fun w hw=>?_,fun k T hk=>?_,fun k T hk=>?_,fun k a hk ha t0 L p b post hb hd=>?_,?_⟩
 ·simp at hw
  rcases hw with rfl | rfl
  ·exact iK (by decide +kernel)
  ·exact mX h
 ·obtain ⟨k,rfl⟩:=bj k (by omega)
  simp [c9,sl]
 ·obtain ⟨k,rfl⟩:=bj k (by omega)
  exact sD (w:="fail") (.inr rfl) rfl
 ·obtain ⟨k,rfl⟩:=bj k (by omega)
  obtain ⟨a0,d0⟩:=er (w:=Str.ofString "fail") (r:=x::post) hd
  obtain ⟨a1,_⟩:=er d0
  have b1:=fh (C:=C) (t0:=t0) (b:=(b:Int)) a0
  have b2:=iI (C:=C) (t0:=t0) (L:=L) (p:=(p:Int)) (b:=(b:Int)) (a:=a) (by omega) (by omega)
  have b3:=Dw (C:=C) (t0:=t0) (b:=(b:Int) + 1) a1 h
  simp only [Int.natCast_add,Int.cast_ofNat_Int] at b3
  have fin:TW C t0 L ((p + [Str.ofString "fail",x].length:Nat):Int) ((b + 1:Nat):Int)=TW C t0 L ((p:Int) + 1 + 1) ((b:Int) + 1):=fG (by show ((p + 2:Nat):Int)=_; omega) (by omega)
  rw [fin]
  simp [cD,dA,m_W,b1,inT,jV,b2,b3]
 ·exact e8 (gJ (n:=0) (by simp) fun d hd=>by
   simp at hd
   rcases hd with rfl | rfl
   ·exact iW (by decide +kernel) 0
   ·exact (bT (l5 h)).1) (by omega)
theorem nq {w:String} {e:PyData} {ce:Nat} {we:List Str} {qs:List (PyData×Nat×List Str)} {g':Nat} (hw:¬ w = "put"∧¬ w = "got"∧¬ w = "row"∧¬ w = "fail") (hlit:litOk w=true∧single (.str (Str.ofString w))=true) (hq:qs.length≤2)
  (hfit:inT d7 (.str (Str.ofString w))=some (.bool true)) (htab:D.atT d7 (.str (Str.ofString w))=some (.int (qs.length:Int))) (hgot:(w = "want"∨w = "peek")→g < 12) (hg':g'=if w = "want"∨w = "peek" then g + 1 else g) (hn20:n≤12)
  (he:EX C (g:Int) n ce we e) (hr:∀ q∈qs,RX C g' n q.2.1 q.2.2 q.1) (hc:1 + ce + (qs.map (·.2.1)).sum≤60) :
  RX C g (n + 1) (1 + ce + (qs.map (·.2.1)).sum) (Str.ofString w::(we++(qs.map (·.2.2)).flatten)) (.tuple (.str (Str.ofString w)::e::qs.map (·.1))):=by
 obtain ⟨n1,n2,n3,n4⟩:=hw
 have fl:(qs.map (·.2.2)).flatten.length≤2 * (qs.map (·.2.1)).sum:=by
  clear htab hq hc
  induction qs with
  | nil=>simp
  | cons q qs ih=>
   have h0:=(hr q List.mem_cons_self).ln
   have:=ih fun x hx=>hr x (List.mem_cons_of_mem _ hx)
   simp only [List.map_cons,List.flatten_cons,List.sum_cons,List.length_append]
   omega
 have hel:=he.ln
 refine ⟨by omega,by omega,hc,by simp only [List.length_cons,List.length_append]; omega,by simp,fun u hu=>?_,fun k T hk=>?_,fun k T hk=>?_,fun k a hk ha t0 L p b post hb hd=>?_,?_⟩
 ·rcases List.mem_cons.mp hu with rfl | hu
  ·exact iK hlit.1
  ·rcases List.mem_append.mp hu with hu | hu
   ·exact he.ok u hu
   ·obtain ⟨l,hl,hu'⟩:=List.mem_flatten.mp hu
    obtain ⟨q,hq',rfl⟩:=List.mem_map.mp hl
    exact (hr q hq').ok u hu'
 ·obtain ⟨k,rfl⟩:=bj k (by omega)
  have:=yZ (k:=k) (T:=T) (w:=w) (e:=e) (we:=we) (ps:=qs.map fun q=>(q.1,q.2.2)) n4 (he.pw 25 T (by omega)) (fun q hq'=>by
   obtain ⟨q',h1,rfl⟩:=List.mem_map.mp hq'
   exact (hr q' h1).pw k T (by omega)) (by simp only [List.map_map]; show we.length + (qs.map (·.2.2)).flatten.length≤90000; omega)
  simp only [List.map_map] at this
  exact this
 ·obtain ⟨k,rfl⟩:=bj k (by omega)
  have:=sf (k:=k) (T:=T) (w:=w) (ps:=(e,we)::qs.map fun q=>(q.1,q.2.2)) ⟨n1,n2,n3,n4⟩ (fun q hq'=>by
   rcases List.mem_cons.mp hq' with rfl | hq'
   ·exact he.lw k T (by omega)
   ·obtain ⟨q',h1,rfl⟩:=List.mem_map.mp hq'
    exact (hr q' h1).lw k T (by omega)) (by simp only [List.map_cons,List.map_map,List.flatten_cons,List.length_append]; show we.length + (qs.map (·.2.2)).flatten.length≤90000; omega)
  simp only [List.map_cons,List.map_map,List.flatten_cons] at this
  exact this
 ·obtain ⟨k,rfl⟩:=bj k (by omega)
  have hd1:L.drop p=Str.ofString w::(we++((qs.map (·.2.2)).flatten++post)):=by rw [hd]; simp
  obtain ⟨a0,d0⟩:=er hd1
  have b1:=fh (C:=C) (t0:=t0) (b:=(b:Int)) a0
  have b2:=iI (C:=C) (t0:=t0) (L:=L) (p:=(p:Int)) (b:=(b:Int)) (a:=a) (by omega) (by omega)
  have b3:=he.rd 25 (a + 1) (by omega) (by omega) t0 L (p + 1) (b + 1) _ (by omega) d0
  have e3:TW C t0 L ((p + 1:Nat):Int) ((b + 1:Nat):Int)=TW C t0 L ((p:Int) + 1) ((b:Int) + 1):=fG (by omega) (by omega)
  rw [e3] at b3
  have d1:L.drop (p + 1 + we.length)=(qs.map (·.2.2)).flatten++post:=by rw [← List.drop_drop,d0,List.drop_left]
  have b4:=pH (C:=C) (t0:=t0) (L:=L) (k:=k) (g:=g') (a:=a) (o3:=some (.d (.int (g:Int)))) (o4:=some (.d (.str (Str.ofString w)))) (o5:=some (.d e)) (post:=post) qs (ba 0 qs.length) (p + 1 + we.length) (b + 1 + ce) (mG _) (fun q hq'=>(hr q hq').rd k (a + 1) (by omega) (by omega)) d1 (by omega)
  have r:=dR (j:=(qs.length:Int)) (by omega) (by omega)
  have fin:TW C t0 L ((p + (Str.ofString w::(we++(qs.map (·.2.2)).flatten)).length:Nat):Int) ((b + (1 + ce + (qs.map (·.2.1)).sum):Nat):Int)=TW C t0 L ((p + 1 + we.length + (qs.map (·.2.2)).flatten.length:Nat):Int) ((b + 1 + ce + (qs.map (·.2.1)).sum:Nat):Int):=fG (by simp only [List.length_cons,List.length_append]; omega) (by omega)
  rw [fin]
  have z:2 + (qs.map (·.1)).length≤sizeLine:=gn (by rw [List.length_map]; omega)
  rw [List.length_map] at z
  unfold d7 at hfit htab
  have gb:∀ T,gx [.d (.str (Str.ofString w)),.d (.int (g:Int))] T=some (.int (g':Int),T):=fun T=>by
   by_cases hq:w = "want"∨w = "peek"
   ·rw [if_pos hq] at hg'
    have e2:((g':Nat):Int)=(g:Int) + 1:=by omega
    rw [e2]
    rcases hq with rfl | rfl <;> simp [gx,jV]
   ·rw [if_neg hq] at hg'
    rw [hg']
    obtain ⟨q1,q2⟩:=not_or.mp hq
    simp [gx,jV,q1,q2]
  have ft:∀ T:Tp,(if (decide (w = "want") || decide (w = "peek"))=true then decide ((g:Int)=12) else false)=false:=fun _=>by
   split
   ·rename_i hq
    have:w = "want"∨w = "peek":=by simpa using hq
    have:=hgot this
    exact decide_eq_false (by omega)
   ·rfl
  generalize TW C t0 L ((p + 1 + we.length + (qs.map (·.2.2)).flatten.length:Nat):Int) ((b + 1 + ce + (qs.map (·.2.1)).sum:Nat):Int)=T9 at b4 ⊢
  generalize TW C t0 L ((p + 1 + we.length:Nat):Int) ((b + 1 + ce:Nat):Int)=T8 at b3 b4
  by_cases hq:w = "want"∨w = "peek"
  ·have g12:¬ (g:Int)=12:=by have:=hgot hq; omega
   generalize (g:Int)=G at *
   rcases hq with rfl | rfl <;> simp [cD,dA,m_W,b1,hfit,jV,g12,b2,b3,gb,htab,r,b4,z]
  ·obtain ⟨q1,q2⟩:=not_or.mp hq
   generalize (g:Int)=G at *
   simp [cD,dA,m_W,b1,hfit,jV,q1,q2,n4,b2,b3,gb,htab,r,b4,z]
 ·exact e8 (gJ (n:=2 * n + 6) (by simp only [List.length_cons,List.length_map]; omega) fun d hd=>by
   rcases List.mem_cons.mp hd with rfl | hd
   ·exact iW hlit.2 _
   ·rcases List.mem_cons.mp hd with rfl | hd
    ·exact e8 he.bt (by omega)
    ·obtain ⟨q,hq',rfl⟩:=List.mem_map.mp hd
     exact (hr q hq').bt) (by omega)
end
variable {R:Tp} {C:Addr}
def RW (C:Addr) (g n:Nat) (q:Int) (r:PyData):Prop:=∃ c ws,RX C g n c ws r∧(c:Int)≤q
theorem ux {g n:Nat} {q Q:Int} {e:PyData} (hn:n≤12) (h:EW C (g:Int) n q e) (hQ:q + 1≤Q) (hQ2:Q≤60):RW C g (n + 1) Q (.tuple [.str "say",e]):=by
 obtain ⟨c,ws,h1,h2⟩:=h
 exact ⟨_,_,nq (w:="say") (qs:=[]) (g':=g) (by simp) (by decide +kernel) (by simp) (by simp [inT,d7]) (by simp [D.atT,d7]) (by simp) (by simp) hn h1 (fun q hq=>by cases hq) (by simp; omega),by simp; omega⟩
theorem Dv {g n c:Nat} {ws:List Str} {q Q:Int} {w:String} {e r:PyData} (hn:n≤12) (hw:w = "want"∨w = "peek") (hg:g < 12) (h:EX C (g:Int) n c ws e) (hr:RW C (g + 1) n q r) (hQ:1 + (c:Int) + q≤Q) (hQ2:Q≤60):RW C g (n + 1) Q (.tuple [.str (Str.ofString w),e,r]):=by
 obtain ⟨d,us,h1,h2⟩:=hr
 have a1:¬ w = "put"∧¬ w = "got"∧¬ w = "row"∧¬ w = "fail":=by rcases hw with rfl | rfl <;> simp
 have a2:litOk w=true∧single (.str (Str.ofString w))=true:=by rcases hw with rfl | rfl <;> decide +kernel
 have a3:inT d7 (.str (Str.ofString w))=some (.bool true):=by rcases hw with rfl | rfl <;> simp [inT,d7]
 have a4:D.atT d7 (.str (Str.ofString w))=some (.int (([(r,d,us)]:List (PyData×Nat×List Str)).length:Int)):=by rcases hw with rfl | rfl <;> simp [D.atT,d7]
 exact ⟨_,_,nq (w:=w) (qs:=[(r,d,us)]) (g':=g + 1) a1 a2 (by simp) a3 a4 (fun _=>hg) (by rw [if_pos hw]) hn h (fun q hq=>by rw [List.mem_singleton.mp hq]; exact h1) (by simp; omega),by simp; omega⟩
theorem B4 {g n c:Nat} {ws:List Str} {q Q:Int} {e r s:PyData} (hn:n≤12) (h:EX C (g:Int) n c ws e) (hr:RW C g n q r) (hs:RW C g n q s) (hQ:1 + (c:Int) + q + q≤Q) (hQ2:Q≤60):RW C g (n + 1) Q (.tuple [.str "when",e,r,s]):=by
 obtain ⟨d,us,h1,h2⟩:=hr
 obtain ⟨f,vs,h3,h4⟩:=hs
 exact ⟨_,_,nq (w:="when") (qs:=[(r,d,us),(s,f,vs)]) (g':=g) (by simp) (by decide +kernel) (by simp) (by simp [inT,d7]) (by simp [D.atT,d7]) (by simp) (by simp) hn h (fun q hq=>by
  simp at hq
  rcases hq with rfl | rfl
  ·exact h1
  ·exact h3) (by simp; omega),by simp; omega⟩
theorem sW:∀ ls:List (List Nat),(aV [32] ls).length≤(ls.map (·.length)).sum + ls.length
 | []=>by simp [aV]
 | [x]=>by simp [aV]
 | x::y::r=>by
  have ih:=sW (y::r)
  have e:aV [32] (x::y::r)=x++[32]++aV [32] (y::r):=rfl
  rw [e]
  simp only [List.length_append,List.map_cons,List.sum_cons,List.length_cons,List.length_nil] at ih ⊢
  omega
theorem tX {B:Nat}:∀ {ws:List Str},(∀ w∈ws,w.length≤B)→(ws.map (·.length)).sum≤B * ws.length
 | [],_=>by simp
 | w::ws,h=>by
  have:=tX (ws:=ws) fun x hx=>h x (List.mem_cons_of_mem _ hx)
  have h0:=h w List.mem_cons_self
  simp only [List.map_cons,List.sum_cons,List.length_cons,Nat.mul_add]
  omega
theorem vd:cd BL=[32]:=by rw [i5]; rfl
theorem rg (ws:List Str):(Str.join BL ws).length≤(ws.map (·.length)).sum + ws.length:=by
 have e:(Str.join BL ws).length=(aV [32] (ws.map cd)).length:=by rw [← b6,iD,vd]
 have:=sW (ws.map cd)
 rw [e]
 have e2:((ws.map cd).map (·.length))=ws.map (·.length):=by
  rw [List.map_map]
  exact List.map_congr_left fun x _=>b6 x
 rw [e2,List.length_map] at this
 exact this
section
variable {C:Addr} {g n c:Nat} {ws:List Str} {r:PyData}
theorem RX.len (h:RX C g n c ws r):(ws.map (·.length)).sum + ws.length≤200000:=by
 have a:=tX (B:=1100) fun w hw=>(h.ok w hw).2
 have b:=h.ln
 have d:=h.c6
 have e:ws.length≤120:=by omega
 have f:1100 * ws.length≤1100 * 120:=Nat.mul_le_mul_left _ e
 omega
theorem sE (hl:(ws.map (·.length)).sum + ws.length≤200000):gk (.str " ") (.list (sl ws))=some (.str (Str.join BL ws)):=by
 have e:gk (.str " ") (.list (sl ws))=(match cm (sl ws) with | some ys=>if (ys.map (·.length)).sum + ys.length * (Str.ofString " ").length≤16777216 then some (.str (Str.join " " ys)) else none | none=>none):=rfl
 have b:(Str.ofString " ").length=1:=by decide +kernel
 rw [e,kq,b]
 dsimp only
 rw [Nat.mul_one]
 exact if_pos (by omega)
theorem Dy (h:RX C g n c ws r) (hn:n≤20) (T:Tp):ib [.d r] T=some (.str (Str.join BL ws),T):=by
 have a:=h.pw 25 T (by omega)
 have b:g0 (.str " ") (.list (sl ws))=some (.str (Str.join BL ws)):=sE h.len
 simp [ib,a,b]
theorem Dx (h:RX C g n c ws r) (hn:n≤20) (T:Tp):br 25 [.d r] T=some (.list (sl ws),T)∧gk (.str " ") (.list (sl ws))=some (.str (Str.join BL ws)):=⟨h.lw 25 T (by omega),sE h.len⟩
theorem DB {t0:List PyData} (h:RX C g n c ws r):d8 C [.tp 0,.d (.str (Str.join BL ws))] [[bS C]]=some (.none,TW C t0 ws 0 0):=by
 have sp:jv (.str (Str.join BL ws)) (.str " ")=some (.list (sl ws)):=by
  have jl:=rg ws
  have hl:=h.len
  have z:(Str.join BL ws).length + 2≤sizeLine:=Nat.le_trans (show _≤300000 by omega) (by decide)
  have b:((Str.ofString " ").length == 0)=false:=by decide +kernel
  have e:jv (.str (Str.join BL ws)) (.str " ")=if ((Str.ofString " ").length == 0)=false∧(Str.join BL ws).length + 2≤sizeLine then some (.list ((Txt.split (Str.join BL ws) " ").map .str)) else none:=rfl
  rw [e,if_pos ⟨b,z⟩]
  have s:=yo h.ne fun w hw=>(h.ok w hw).1.no
  show some (PyData.list ((Txt.split (Str.join BL ws) BL).map .str))=_
  rw [s]
  rfl
 have s1:∀ {ρ:Rho},di C "parted" ρ (.d (.list (sl ws))) (.tp 0) [[bS C]]=some ((.nx,ρ),[[bS C,.tuple [.str "parted",.list (sl ws)]]]):=by
  intro ρ
  simp [di,dU,gr,bS,eQ]
 have s2:∀ {ρ:Rho},di C "place" ρ (.d (.int 0)) (.tp 0) [[bS C,.tuple [.str "parted",.list (sl ws)]]]=some ((.nx,ρ),[[bS C,.tuple [.str "parted",.list (sl ws)],.tuple [.str "place",.int 0]]]):=by
  intro ρ
  simp [di,dU,gr,bS,eQ]
 have s3:∀ {ρ:Rho},di C "begun" ρ (.d (.int 0)) (.tp 0) [[bS C,.tuple [.str "parted",.list (sl ws)],.tuple [.str "place",.int 0]]]=some ((.nx,ρ),TW C t0 ws 0 0):=by
  intro ρ
  simp [di,dU,gr,bS,eQ,i7]
 simp [d8,mL,sp,s1,s2,s3]
theorem Dz {t0:List PyData} (h:RX C 0 n c ws r) (hn:n≤20):ic C [.d (.str (Str.join BL ws))] []=some (r,[]):=by
 have i:=DB (t0:=t0) h
 have rd:=h.rd 25 0 (by omega) (by omega) t0 ws 0 0 [] (by have:=h.c6; omega) (by simp)
 have e1:TW C t0 ws ((0:Nat):Int) ((0:Nat):Int)=TW C t0 ws 0 0:=rfl
 rw [e1,Nat.zero_add,Nat.zero_add] at rd
 have rd':cD C 25 [.tp 0,.d (.int 0),.d (.int 0)] (TW C t0 ws 0 0)=some (r,TW C t0 ws (ws.length:Int) (c:Int)):=rd
 have f:=AW (C:=C) (t0:=t0) (b:=(c:Int)) (L:=ws) (Nat.le_refl ws.length)
 have lt:gX (TW C t0 ws (ws.length:Int) (c:Int))=some ([],i7 C ws (ws.length:Int) (c:Int)):=rfl
 have go:(aq (aO 2 (ar (cD C 25) (ae (aa 1) (ae (fC (.int 0)) (ae (fC (.int 0)) ai))))) (aq (dM (bX C "finish" (eX C) (aa 1) ai)) (aw (aa 2)))) [some (.d (.str (Str.join BL ws))),some (.tp 0),none] (TW C t0 ws 0 0)=some ((.rt r,[some (.d (.str (Str.join BL ws))),some (.tp 0),some (.d r)]),TW C t0 ws (ws.length:Int) (c:Int)):=by
  simp [rd',dA,m_W,f]
 have mk1:g6 1 C (d8 C) (aa 0) (aq (aO 2 (ar (cD C 25) (ae (aa 1) (ae (fC (.int 0)) (ae (fC (.int 0)) ai))))) (aq (dM (bX C "finish" (eX C) (aa 1) ai)) (aw (aa 2)))) [some (.d (.str (Str.join BL ws))),none,none] []=some ((.rt r,[some (.d (.str (Str.join BL ws))),some (.tp 0),some (.d r)]),[]):=by
  unfold g6
  rw [if_pos (show gM [some (.d (.str (Str.join BL ws))),none,none]=true from rfl)]
  show mkK 1 C (d8 C) _ _ (.d (.str (Str.join BL ws))) []=_
  unfold mkK
  dsimp only
  show (match d8 C [.tp 0,.d (.str (Str.join BL ws))] [[bS C]] with | some (.none,T2)=>jG _ | _=>none)=_
  rw [i]
  show jG ((aq _ _) [some (.d (.str (Str.join BL ws))),some (.tp 0),none] (TW C t0 ws 0 0))=_
  rw [go]
  unfold jG
  dsimp only
  rw [lt]
 have e0:ic C=aS 3 (g6 1 C (d8 C) (aa 0) (aq (aO 2 (ar (cD C 25) (ae (aa 1) (ae (fC (.int 0)) (ae (fC (.int 0)) ai))))) (aq (dM (bX C "finish" (eX C) (aa 1) ai)) (aw (aa 2))))):=rfl
 rw [e0]
 simp [mk1]
end
theorem fW {i j:Int}:dZ (.int i) (.int j)=if 0 < j∧j < 18446744073709551616 then some (.int (i / j)) else none:=rfl
theorem iE {i:Nat} {b:FS} {d:PyData} {r:List PyData} {ρ ρ':Rho} {T:Tp} (h:b (ρ.set i (some (.d d))) T=some ((.nx,ρ'),T)):forL i b (d::r) ρ T=forL i b r ρ' T:=by simp [forL,h,bnd]
def nmL (ps:List Str):List PyData:=ps.map PyData.str
theorem BC:isName (.str "name")=true:=by decide +kernel
def bA (A T:Tp):Prop:=∃ (ds:List PyData) (i:Int),T=A++[[.list ds,.int i]]∧0≤i∧0 < ds.length∧ds.length≤1000∧∀ d∈ds,∃ c:Int,d=.int c
theorem BK {o:PyData→PyData→Option PyData} {A:Tp} {zs xs:List PyData} {y:PyData}:op2 o (A++[.list zs::xs]) (.tp A.length) (.d y)=mkD (A++[.list zs::xs]) (o (.list (.list zs::xs)) y):=by
 have h:view (A++[.list zs::xs]) (.tp A.length)=some (.list (.list zs::xs)):=by simp [view,gq,isO]
 unfold op2
 rw [h]
 rfl
theorem yW {α:Type} (A:List α) (a b:α):(A++[a]).set A.length b=A++[b]:=by
 induction A with
 | nil=>rfl
 | cons x r ih=>exact congrArg (x::·) ih
theorem zT {A:Tp} {a b:List PyData}:(A++[a]).set A.length b=A++[b]:=yW A a b
theorem EE:ixN 2 1=some 1:=rfl
theorem fF {α:Type} {a b:α}:atI [a,b] 0=some a:=rfl
theorem fE {α:Type} {a b:α}:atI [a,b] 1=some b:=rfl
theorem bJ {A T:Tp} {m:Int} (t:bA A T) (h1:0 < m):∃ r T',a7 [.tp A.length,.d (.int m)] T=some (.int r,T')∧bA A T'∧0≤r∧r < m:=by
 obtain ⟨ds,i,rfl,hi,hl,hl2,hd⟩:=t
 have hp:(0:Int) < (ds.length:Int):=by omega
 obtain ⟨d,e1,hm⟩:=f9 (xs:=ds) (i:=i % (ds.length:Int)) (Int.emod_nonneg _ (by omega)) (Int.emod_lt_of_pos _ hp)
 obtain ⟨c,rfl⟩:=hd d hm
 refine ⟨c % m,A++[[.list ds,.int (i + 1)]],?_,⟨ds,i + 1,rfl,by omega,hl,hl2,hd⟩,Int.emod_nonneg _ (by omega),Int.emod_lt_of_pos _ h1⟩
 have e2:i + 1 - 1=i:=by omega
 simp [a7,oE,BK,fF,fE,EE,zT,e2,hp,e1,h1,hl]
def dwB:FS:=(aq (aO 4 (ag bC (ag aG (ag aG (ag bB (aa 4) (aa 4)) (ag bB (fC (.int 48271)) (aa 4))) (ag bB (fC (.int 7)) (aa 5))) (fC (.int 2147483647)))) (fIf (aB (ag gtD (aa 3) (fC (.int 0)))) (aq (cM 2 (ag bC (aa 3) (fC (.int 720720)))) (aO 3 (ag dZ (aa 3) (fC (.int 720720))))) (cM 2 (ag dZ (ag bC (ag aG (ag bB (aa 4) (fC (.int 69621))) (ag bB (fC (.int 13)) (aa 5))) (fC (.int 2147483629))) (fC (.int 3))))))
theorem u4:eZ=aS 6 (aq (fB 2 ai) (aq (aO 3 (fC (.int 0))) (aq (fIf (aB (ag geD (aa 0) (ag hG (fC (.int 10)) (fC (.int 18))))) (aO 3 (aa 0)) aJ) (aq (aO 4 (ag aG (ag bC (aa 0) (fC (.int 2147483629))) (fC (.int 48271)))) (aq (cw 5 (cH (aa 1)) dwB) (aw (aa 2))))))):=rfl
def ρD (c N:Int) (fs:List PyData) (nu mi:Int) (o:Option D.W):Rho:=[some (.d (.int c)),some (.d (.int N)),some (.loc (.list fs)),some (.d (.int nu)),some (.d (.int mi)),o]
theorem iw:1000 < sizeLine:=by decide
theorem ui {c N:Int} {T:Tp}:∀ (ks:List Int) (fs:List PyData) (nu mi:Int) (o:Option D.W),-18446744073709551616 < mi→mi < 18446744073709551616→fs.length + ks.length≤1000→(∀ d∈fs,∃ c:Int,d=.int c) →
  ∃ fs' nu' mi' o',forL 5 dwB (ks.map PyData.int) (ρD c N fs nu mi o) T=some ((.nx,ρD c N fs' nu' mi' o'),T)∧fs'.length=fs.length + ks.length∧∀ d∈fs',∃ c:Int,d=.int c
 | [],fs,nu,mi,o,_,_,_,hf=>⟨fs,nu,mi,o,rfl,by simp,hf⟩
 | k::ks,fs,nu,mi,o,h1,h2,hl,hf=>by
  have hl':fs.length + (ks.length + 1)≤1000:=hl
  have bl:=iw
  have hl1:fs.length < sizeLine:=by omega
  have m2:0≤(mi * mi + 48271 * mi + 7 * k) % 2147483647∧(mi * mi + 48271 * mi + 7 * k) % 2147483647 < 2147483647:=⟨Int.emod_nonneg _ (by decide),Int.emod_lt_of_pos _ (by decide)⟩
  generalize hmi:(mi * mi + 48271 * mi + 7 * k) % 2147483647=mi' at m2
  have ap:∀ (x:Int),∀ d∈fs++[PyData.int x],∃ c:Int,d=.int c:=fun x d hd=>by
   rcases List.mem_append.mp hd with z | z
   ·exact hf d z
   ·exact ⟨x,List.mem_singleton.mp z⟩
  have hst:∃ x nu',dwB (List.set (ρD c N fs nu mi o) 5 (some (.d (.int k)))) T=some ((.nx,ρD c N (fs++[.int x]) nu' mi' (some (.d (.int k)))),T):=by
   by_cases hn:0 < nu
   ·refine ⟨nu % 720720,nu / 720720,?_⟩
    simp [dwB,ρD,fW,h1,h2,hn,hl1,hmi]
   ·refine ⟨(mi' * 69621 + 13 * k) % 2147483629 / 3,nu,?_⟩
    simp [dwB,ρD,fW,h1,h2,hn,hl1,hmi]
  obtain ⟨x,nu',st⟩:=hst
  obtain ⟨fs',nu2,mi2,o2,e1,e2,e3⟩:=ui (c:=c) (N:=N) (T:=T) ks (fs++[.int x]) nu' mi' (some (.d (.int k))) (by omega) (by omega) (by simp; omega) (ap x)
  refine ⟨fs',nu2,mi2,o2,?_,by rw [e2]; simp; omega,e3⟩
  rw [List.map_cons,iE st]
  exact e1
theorem zc (n:Nat):ba 0 n=((List.range n).map fun (i:Nat)=>(i:Int)).map PyData.int:=by
 unfold ba
 rw [List.map_map]
 exact List.map_congr_left fun i _=>by simp
theorem tj {c N:Int} {T:Tp} (h0:0 < N) (h1:N≤1000):∃ ds,eZ [.d (.int c),.d (.int N)] T=some (.list ds,T)∧ds.length=N.toNat∧∀ d∈ds,∃ c:Int,d=.int c:=by
 have hr:=dR (j:=N) (by omega) h1
 have m0:0≤c % 2147483629∧c % 2147483629 < 2147483629:=⟨Int.emod_nonneg _ (by decide),Int.emod_lt_of_pos _ (by decide)⟩
 have key:∀ nu,∃ ds o,forL 5 dwB (ba 0 N.toNat) (ρD c N [] nu (c % 2147483629 + 48271) none) T=some ((.nx,o),T)∧(∃ a b d e,o=ρD c N ds a b d∧e=())∧ds.length=N.toNat∧∀ d∈ds,∃ c:Int,d=.int c:=fun nu=>by
  obtain ⟨fs',nu2,mi2,o2,e1,e2,e3⟩:=ui (c:=c) (N:=N) (T:=T) ((List.range N.toNat).map fun (i:Nat)=>(i:Int)) [] nu (c % 2147483629 + 48271) none (by omega) (by omega) (by simp; omega) (by simp)
  rw [← zc] at e1
  exact ⟨fs',_,e1,⟨_,_,_,(),rfl,rfl⟩,by rw [e2]; simp,e3⟩
 by_cases hc:1000000000000000000≤c
 ·obtain ⟨ds,o,e1,⟨a,b,d,e,rfl,_⟩,e3,e4⟩:=key c
  refine ⟨ds,?_,e3,e4⟩
  rw [u4]
  simp [ρD] at e1
  simp [hc,hr,e1]
 ·obtain ⟨ds,o,e1,⟨a,b,d,e,rfl,_⟩,e3,e4⟩:=key 0
  refine ⟨ds,?_,e3,e4⟩
  rw [u4]
  simp [ρD] at e1
  simp [hc,hr,e1]
theorem tB {A:Tp} {ds:List PyData} (h0:0 < ds.length) (h1:ds.length≤1000) (h:∀ d∈ds,∃ c:Int,d=.int c):bA A (A++[[.list ds,.int 0]]):=⟨ds,0,rfl,by decide,h0,h1,h⟩
theorem n6 {ns:List Int} {k:Int} {T:Tp} (h:0≤k):∃ c:Int,cB [.d (cy ns),.d (.int k)] T=some (.int c,T):=by
 by_cases hk:k < (ns.length:Int)
 ·obtain ⟨d,e1,hm⟩:=f9 (xs:=ns.map PyData.int) (i:=k) h (by simpa using hk)
  obtain ⟨c,_,rfl⟩:=List.mem_map.mp hm
  exact ⟨c,by simp [cB,cy,hk,e1]⟩
 ·exact ⟨0,by simp [cB,cy,hk]⟩
theorem rH {α:Type} (xs:List α) (a:Nat):cg xs (some (a:Int)) none=xs.drop a:=by
 have e:HT.sIx xs.length 0 (some (a:Int))=min a xs.length:=by
  show (if (a:Int) < 0 then ((a:Int) + (xs.length:Int)).toNat else min ((a:Int)).toNat xs.length)=_
  rw [if_neg (by omega)]
  simp
 have e2:HT.sIx xs.length xs.length none=xs.length:=rfl
 unfold cg
 rw [e,e2]
 by_cases h:a≤xs.length
 ·rw [Nat.min_eq_left h]
  exact List.take_of_length_le (by simp)
 ·rw [Nat.min_eq_right (by omega)]
  simp
  omega
theorem nY {α:Type} (xs:List α) (a:Nat):cg xs none (some (a:Int))=xs.take a:=by
 have e:HT.sIx xs.length 0 none=0:=rfl
 have e2:HT.sIx xs.length xs.length (some (a:Int))=min a xs.length:=by
  show (if (a:Int) < 0 then ((a:Int) + (xs.length:Int)).toNat else min ((a:Int)).toNat xs.length)=_
  rw [if_neg (by omega)]
  simp
 unfold cg
 rw [e,e2,List.drop_zero,Nat.sub_zero]
 by_cases h:a≤xs.length
 ·rw [Nat.min_eq_left h]
 ·rw [Nat.min_eq_right (by omega),List.take_length]
  exact (List.take_of_length_le (by omega)).symm
def NW:List Str:=["told","made","say","want","wants","fails","put","got","row","peek","when","kind"].map Str.ofString
def jS (l:List Str):Bool:=decide l.Nodup && l.all fun x=>isName (.str x)
def nW0 (a:Nat):List Str:=NW.drop a++NW.take a
def lc (i:Nat):Str:=⟨#[97 + i]⟩
def f1 (a k:Nat):Str:=Txt.mul (lc (a + k / 8)) ((1 + k % 8:Nat):Int)
def f2 (a t k:Nat):Str:=Txt.mul (lc a) ((a % 7:Nat):Int)++lc ((a + k) % 26)++Txt.mul (lc a) (t:Int)
theorem DN:∀ a,a < 12→jS (nW0 a)=true∧(nW0 a).length=12:=by decide +kernel
theorem DM:∀ a,a < 12→jS ((List.range 12).map (f1 a))=true:=by decide +kernel
theorem DL:∀ a,a < 12→∀ t,t < 8→t < 8 - a % 7→jS ((List.range 12).map (f2 a t))=true:=by decide +kernel
theorem C1:∀ i,i < 26→LET.cps.toList[i]? = some (97 + i):=by decide +kernel
theorem n5 {i:Int} (h0:0≤i) (h1:i < 26):atI LET.cps.toList i=some (97 + i.toNat):=by
 unfold atI ixN
 rw [BE,if_pos h0,if_pos h1]
 exact C1 _ (by omega)
theorem mW {l:List Str} (m:Nat) (h:jS l=true):(l.take m).Nodup∧∀ x∈l.take m,isName (.str x)=true:=by
 have h':=h
 unfold jS at h'
 rw [Bool.and_eq_true] at h'
 exact ⟨(of_decide_eq_true h'.1).sublist (List.take_sublist ..),fun x hx=>List.all_eq_true.mp h'.2 x (List.mem_of_mem_take hx)⟩
theorem pz {β:Type} (f:Nat→β) {m:Nat} (h:m≤12):(List.range m).map f=((List.range 12).map f).take m:=by rw [← List.map_take,List.take_range,Nat.min_eq_left h]
structure Nms (l:List Str) (m:Nat):Prop where
 len:l.length=m
 nd:l.Nodup
 nm:∀ x∈l,isName (.str x)=true
theorem qY {f:Nat→Str} {e:FE} {ρ:Rho} {T:Tp} {m:Nat} (h:∀ k:Nat,k < m→e (some (.d (.int (k:Int)))::ρ) T=some (.d (.str (f k)),T)):bK bv e ρ (ba 0 m) T=some (nmL ((List.range m).map f),T):=by
 have c:=cQ (e:=e) (ρ:=ρ) (T:=T) (g:=fun d=>match d with
  | .int k=>.str (f k.toNat)
  | d=>d) (ds:=ba 0 m) fun d hd=>by
   obtain ⟨i,hi,rfl⟩:=List.mem_map.mp hd
   have:=h i (List.mem_range.mp hi)
   simp
   exact this
 rw [c]
 refine congrArg some (congrArg (·,T) ?_)
 unfold ba nmL
 rw [List.map_map,List.map_map]
 exact List.map_congr_left fun i _=>by simp
theorem Fo:∀ a,a < 12→(Txt.mul (lc a) ((a % 7:Nat):Int)).length≤100:=by decide +kernel
theorem Fm:∀ a,a < 12→∀ k,k < 12→(Txt.mul (lc a) ((a % 7:Nat):Int)++lc ((a + k) % 26)).length≤100:=by decide +kernel
theorem Fk:∀ a:Nat,a < 12→∀ s:Nat,s < 8→(Txt.mul (lc a) (s:Int)).length≤100:=by decide +kernel
theorem lcl (i:Nat):(lc i).length=1:=rfl
theorem B9 {A T:Tp} {m:Nat} (t:bA A T) (h0:m≤12):∃ l T',eg [.tp A.length,.d (.int (m:Int))] T=some (.list (nmL l),T')∧bA A T'∧Nms l m:=by
 obtain ⟨w,T1,e1,t1,w0,w1⟩:=bJ (m:=4) t (by decide)
 obtain ⟨a,T2,e2,t2,a0,a1⟩:=bJ (m:=12) t1 (by decide)
 obtain ⟨a,rfl⟩:∃ j:Nat,a=(j:Int):=⟨a.toNat,by omega⟩
 have a1':a < 12:=by omega
 have hr:=dR (j:=(m:Int)) (by omega) (by omega)
 by_cases c0:w=0
 ·obtain ⟨q1,q2⟩:=DN a a1'
  obtain ⟨n1,n2⟩:=mW m q1
  refine ⟨(nW0 a).take m,T2,?_,t2,⟨by rw [List.length_take,q2]; omega,n1,n2⟩⟩
  have z:nmL ((nW0 a).take m)=((nmL NW).drop a++(nmL NW).take a).take m:=by
   simp [nmL,nW0,List.map_take,List.map_drop]
  have z2:(nmL NW)=[.str "told",.str "made",.str "say",.str "want",.str "wants",.str "fails",.str "put",.str "got",.str "row",.str "peek",.str "when",.str "kind"]:=rfl
  rw [z,z2]
  have lz:∀ xs:List PyData,xs.length=12→(xs.drop a).length + (xs.take a).length≤sizeLine:=fun xs h=>by
   have:=iw
   simp [h]
   omega
  have lz':=lz [.str "told",.str "made",.str "say",.str "want",.str "wants",.str "fails",.str "put",.str "got",.str "row",.str "peek",.str "when",.str "kind"] rfl
  simp only [eg,lF,zA,j9,kc,if_true]
  simp [e1,e2,c0,rH,nY,-List.length_drop,-List.length_take,lz']
 ·by_cases c1:w=1
  ·obtain ⟨n1,n2⟩:=mW m (DM a a1')
   rw [← pz _ h0] at n1 n2
   refine ⟨(List.range m).map (f1 a),T2,?_,t2,⟨by simp,n1,n2⟩⟩
   have c:=qY (f:=f1 a) (e:=(ag bB (ag ixD (aa 3) (ag aG (aa 5) (ag dZ (aa 0) (fC (.int 8))))) (ag aG (fC (.int 1)) (ag bC (aa 0) (fC (.int 8)))))) (ρ:=[some (.tp A.length),some (.d (.int (m:Int))),some (.d (.str LET)),some (.d (.int w)),some (.d (.int (a:Int))),none,none]) (T:=T2) (m:=m) fun k hk=>by
    have x1:=n5 (i:=(a:Int) + (k:Int) / 8) (by omega) (by omega)
    have x2:((a:Int) + (k:Int) / 8).toNat=a + k / 8:=by omega
    rw [x2] at x1
    have x3:(0:Int)≤1 + (k:Int) % 8∧1 + (k:Int) % 8≤2000:=by omega
    have x4:((1 + k % 8:Nat):Int)=1 + (k:Int) % 8:=by omega
    have x5:Str.length (⟨#[97 + (a + k / 8)]⟩:Str)≤1000:=by show 1≤1000; decide
    simp [x1,x3,mZ,x5,f1,x4,lc,fW]
   have e0:Str.ofString "abcdefghijklmnopqrstuvwxyz" = LET:=rfl
   simp [eg,e0,e1,e2,c1,hr]
   rw [c1] at c
   simp [c]
  ·obtain ⟨s,T3,e3,t3,s0,s1⟩:=bJ (m:=8 - (a:Int) % 7) t2 (by omega)
   obtain ⟨s,rfl⟩:∃ j:Nat,s=(j:Int):=⟨s.toNat,by omega⟩
   obtain ⟨n1,n2⟩:=mW m (DL a a1' s (by omega) (by omega))
   rw [← pz _ h0] at n1 n2
   refine ⟨(List.range m).map (f2 a s),T3,?_,t3,⟨by simp,n1,n2⟩⟩
   have bl:=iw
   have la:=Fo a a1'
   have lb:=Fk a a1' s (by omega)
   have xa:=n5 (i:=(a:Int)) (by omega) (by omega)
   rw [Int.toNat_natCast] at xa
   have z7:((a % 7:Nat):Int)=(a:Int) % 7:=by omega
   have xl:∀ j,Str.length (⟨#[97 + j]⟩:Str)≤1000:=fun j=>by show 1≤1000; decide
   have c:=qY (f:=f2 a s) (e:=(ag aG (ag aG (ag bB (ag ixD (aa 3) (aa 5)) (ag bC (aa 5) (fC (.int 7)))) (ag ixD (aa 3) (ag bC (ag aG (aa 5) (aa 0)) (fC (.int 26))))) (aa 7))) (ρ:=[some (.tp A.length),some (.d (.int (m:Int))),some (.d (.str LET)),some (.d (.int w)),some (.d (.int (a:Int))),none,some (.d (.str (Txt.mul (lc a) (s:Int))))]) (T:=T3) (m:=m) fun k hk=>by
    have lk:=Fm a a1' k (by omega)
    have x1:=n5 (i:=((a:Int) + (k:Int)) % 26) (by omega) (by omega)
    have x2:(((a:Int) + (k:Int)) % 26).toNat=(a + k) % 26:=by omega
    rw [x2] at x1
    rw [z7] at lk la
    have y1:(Txt.mul (lc a) ((a:Int) % 7)).length + (lc ((a + k) % 26)).length≤sizeLine:=by rw [lcl]; omega
    have y2:(Txt.mul (lc a) ((a:Int) % 7)++lc ((a + k) % 26)).length + (Txt.mul (lc a) (s:Int)).length≤sizeLine:=by omega
    have x3:(0:Int)≤(a:Int) % 7∧(a:Int) % 7≤2000:=by omega
    simp only [lc] at y1 y2
    simp only [f2,z7,lc]
    simp [xa,x1,x3,mZ,xl,y1,y2]
   have e0:Str.ofString "abcdefghijklmnopqrstuvwxyz" = LET:=rfl
   have x3:(0:Int)≤(s:Int)∧(s:Int)≤2000:=by omega
   simp only [lc] at c
   simp [eg,e0,e1,e2,c0,c1,hr,e3,xa,mZ,xl,x3]
   simp [c]
def mb:Nat→Int
 | 0=>1
 | n + 1=>1 + 3 * mb n
theorem nS:∀ n,1≤mb n
 | 0=>by decide
 | n + 1=>by
  have:=nS n
  show 1≤1 + 3 * mb n
  omega
def VS:List PyData:=[.int 0,.int 1,.int (-1),.int 2,.int 1000000000000000000,.int (-1000000000000000000),.str "",.str "a",.str "0",.str "-",.str (Txt.mul "a" 20),.tuple []]
theorem DQ:∀ d∈VS,∀ n,aF (n + 1) d=true∧aD (n + 1) d=1:=by
 intro d hd n
 have tu:aF (n + 1) (.tuple [])=true∧aD (n + 1) (.tuple [])=1:=⟨rfl,rfl⟩
 simp [VS] at hd
 rcases hd with rfl | rfl | rfl | rfl | rfl | rfl | rfl | rfl | rfl | rfl | rfl | rfl
 ·exact bT (dy (by decide) (by decide))
 ·exact bT (dy (by decide) (by decide))
 ·exact bT (dy (by decide) (by decide))
 ·exact bT (dy (by decide) (by decide))
 ·exact bT (dy (by decide) (by decide))
 ·exact bT (dy (by decide) (by decide))
 ·exact bT (by decide +kernel)
 ·exact bT (by decide +kernel)
 ·exact bT (by decide +kernel)
 ·exact bT (by decide +kernel)
 ·exact bT (by decide +kernel)
 ·exact tu
theorem uM {l:List Str} {m:Nat} {i:Int} (h:Nms l m) (h0:0≤i) (h1:i < (l.length:Int)):∃ x,atI (nmL l) i=some (.str x)∧isName (.str x)=true:=by
 obtain ⟨d,e,hm⟩:=f9 (xs:=nmL l) h0 (by simpa [nmL] using h1)
 obtain ⟨x,hx,rfl⟩:=List.mem_map.mp hm
 exact ⟨x,e,h.nm x hx⟩
theorem ei (l:List Str):(nmL l).length=l.length:=by simp [nmL]
theorem rR {l:List Str} {m:Nat} (hn:Nms l m) (hm:0 < m):∀ (n k:Nat) (A T:Tp),bA A T→n < k→∃ d T',bM k [.tp A.length,.d (.list (nmL l)),.d (.int (n:Int))] T=some (d,T')∧bA A T'∧aF (n + 1) d=true∧aD (n + 1) d≤mb n
 | n,0,A,T,_,hk=>absurd hk (Nat.not_lt_zero _)
 | n,k + 1,A,T,t,hk=>by
  obtain ⟨w,T1,e1,t1,w0,w1⟩:=bJ (m:=10) t (by decide)
  have mp:=nS n
  have some_:(w < 6∨((n:Int)=0∧7 < w))→∃ d T',bM (k + 1) [.tp A.length,.d (.list (nmL l)),.d (.int (n:Int))] T=some (d,T')∧bA A T'∧aF (n + 1) d=true∧aD (n + 1) d≤mb n:=fun hc=>by
   obtain ⟨i,T2,e2,t2,i0,i1⟩:=bJ (m:=12) t1 (by decide)
   obtain ⟨d,hd,hmem⟩:=f9 (xs:=VS) i0 (by show i < 12; exact i1)
   obtain ⟨b1,b2⟩:=DQ d hmem n
   refine ⟨d,T2,?_,t2,b1,by omega⟩
   simp only [VS] at hd
   have l1:(Str.ofString "a").length≤1000:=by decide +kernel
   by_cases h6:w < 6
   ·simp [bM,e1,h6,e2,hd,l1]
   ·obtain ⟨h7,h8⟩:=hc.resolve_left h6
    simp [bM,e1,h6,h7,h8,e2,hd,l1]
  by_cases c1:w < 6
  ·exact some_ (.inl c1)
  by_cases c2:(n:Int)=0∧7 < w
  ·exact some_ (.inr c2)
  clear some_
  have l1:(Str.ofString "a").length≤1000:=by decide +kernel
  by_cases c3:w < 8
  ·have c4:¬ 7 < w:=by omega
   obtain ⟨i,T2,e2,t2,i0,i1⟩:=bJ (m:=(l.length:Int)) t1 (by rw [hn.len]; omega)
   obtain ⟨x,hx,hxn⟩:=uM hn i0 i1
   obtain ⟨b1,b2⟩:=bT (n:=n + 1) (l5 hxn)
   refine ⟨.str x,T2,?_,t2,b1,by omega⟩
   by_cases h0:(n:Int)=0
   ·simp [bM,e1,c1,h0,c4,c3,ei,e2,hx,l1]
   ·have h0':¬ n=0:=by omega
    simp [bM,e1,c1,h0,h0',c3,ei,e2,hx,l1]
  ·have h0:¬ (n:Int)=0:=fun z=>c2 ⟨z,by omega⟩
   obtain ⟨n,rfl⟩:=bj n (by omega)
   obtain ⟨j,T2,e2,t2,j0,j1⟩:=bJ (m:=4) t1 (by decide)
   have hrj:=dR (j:=j) j0 (by omega)
   have hs:((n + 1:Nat):Int) - 1=(n:Int):=by omega
   obtain ⟨ys,T3,e3,t3,l3,q3⟩:=qx (P:=bA A) (Q:=fun d=>aF (n + 1) d=true∧aD (n + 1) d≤mb n) (ds:=ba 0 j.toNat)
    (e:=ar (bM k) (ae (aa 1) (ae (aa 2) (ae (ag dN (aa 3) (fC (.int 1))) ai)))) (ρ:=[some (.tp A.length),some (.d (.list (nmL l))),some (.d (.int ((n + 1:Nat):Int))),some (.d (.int w)),some (.d (.list VS))]) t2 fun d _ T t=>by
     obtain ⟨d',T',e1,t1,b1,b2⟩:=rR hn hm n k A T t (by omega)
     refine ⟨d',T',?_,t1,b1,b2⟩
     rw [← hs] at e1
     generalize ((n + 1:Nat):Int)=N at e1 ⊢
     simp [e1]
   have hl:(ys.length:Int)=j:=by rw [l3,mG]; omega
   refine ⟨.tuple ys,T3,?_,t3,?_,?_⟩
   ·simp only [VS] at e3
    generalize ((n + 1:Nat):Int)=N at e3 h0 ⊢
    simp [bM,e1,c1,h0,c3,e2,hrj,l1,e3]
   ·show (decide (ys.length≤8) && ys.all (aF (n + 1)))=true
    rw [decide_eq_true (by omega)]
    exact List.all_eq_true.mpr fun d hd=>(q3 d hd).1
   ·show 1 + (ys.map (aD (n + 1))).sum≤1 + 3 * mb n
    have s1:=tG (f:=aD (n + 1)) (q:=mb n) fun d hd=>(q3 d hd).2
    have s2:(ys.length:Int) * mb n≤3 * mb n:=Int.mul_le_mul_of_nonneg_right (by omega) (by have:=nS n; omega)
    omega
theorem Ce {n:Nat} {d:PyData} (hn:n≤2) (hb:aF (n + 1) d=true) (hm:aD (n + 1) d≤mb n):aT d=true:=by
 obtain ⟨u1,u2⟩:=iu (n + 1) d hb
 have fin:∀ j,aF j d=true→aD j d≤40→j=4→aT d=true:=fun j a b e=>by
  subst e
  show (aF 4 d && decide (aD 4 d≤40))=true
  rw [a,decide_eq_true b]
  rfl
 match n,hn with
 | 0,_=>
  obtain ⟨v1,v2⟩:=iu 2 d u1
  obtain ⟨x1,x2⟩:=iu 3 d v1
  have hm':aD 1 d≤1:=hm
  have u2':aD 2 d=aD 1 d:=u2
  have v2':aD 3 d=aD 2 d:=v2
  have x2':aD 4 d=aD 3 d:=x2
  exact fin 4 x1 (by omega) rfl
 | 1,_=>
  obtain ⟨v1,v2⟩:=iu 3 d u1
  have hm':aD 2 d≤4:=hm
  have u2':aD 3 d=aD 2 d:=u2
  have v2':aD 4 d=aD 3 d:=v2
  exact fin 4 v1 (by omega) rfl
 | 2,_=>
  have hm':aD 3 d≤13:=hm
  have u2':aD 4 d=aD 3 d:=u2
  exact fin 4 u1 (by omega) rfl
theorem vi {l:List Str} {m:Nat} (hn:Nms l m) (hm:0 < m) {n:Nat} (h2:n≤2) {A T:Tp} (t:bA A T):∃ d T',bM 25 [.tp A.length,.d (.list (nmL l)),.d (.int (n:Int))] T=some (d,T')∧bA A T'∧aT d=true:=by
 obtain ⟨d,T',e,t',b1,b2⟩:=rR hn hm n 25 A T t (by omega)
 exact ⟨d,T',e,t',Ce h2 b1 b2⟩
section
variable {C:Addr}
theorem EX.up {m:Int} {n k c:Nat} {ws:List Str} {e:PyData} (h:EX C m n c ws e) (l:n≤k):EX C m k c ws e:=⟨by have:=h.n1; omega,h.c1,h.c6,h.ln,h.ne,h.ok,fun j T hj=>h.pw j T (by omega),fun j T hj=>h.lw j T (by omega),fun j a hj ha=>h.rd j a (by omega) (by omega),e8 h.bt (by omega)⟩
theorem RX.up {g n k c:Nat} {ws:List Str} {r:PyData} (h:RX C g n c ws r) (l:n≤k):RX C g k c ws r:=⟨by have:=h.n1; omega,h.c1,h.c6,h.ln,h.ne,h.ok,fun j T hj=>h.pw j T (by omega),fun j T hj=>h.lw j T (by omega),fun j a hj ha=>h.rd j a (by omega) (by omega),e8 h.bt (by omega)⟩
theorem EW.up {m:Int} {n k:Nat} {q q':Int} {e:PyData} (h:EW C m n q e) (l:n≤k) (l':q≤q'):EW C m k q' e:=by
 obtain ⟨c,ws,x,y⟩:=h
 exact ⟨c,ws,x.up l,by omega⟩
theorem RW.up {g n k:Nat} {q q':Int} {e:PyData} (h:RW C g n q e) (l:n≤k) (l':q≤q'):RW C g k q' e:=by
 obtain ⟨c,ws,x,y⟩:=h
 exact ⟨c,ws,x.up l,by omega⟩
theorem uB {m:Int} {v:PyData} (h:aT v=true):EW C m 1 1 (.tuple [.str "put",v]):=⟨1,_,DH (by decide) h,by decide⟩
theorem rQ {l:List Str} {m:Nat} (hn:Nms l m) (hm:0 < m) {g:Nat} (hg12:g≤12) {A T:Tp} (t:bA A T):∃ e T',eY [.tp A.length,.d (.list (nmL l)),.d (.int (g:Int))] T=some (e,T')∧bA A T'∧EW C (g:Int) 1 1 e:=by
 have putL:∀ T,bA A T→∃ v T',bM 25 [.tp A.length,.d (.list (nmL l)),.d (.int 1)] T=some (v,T')∧bA A T'∧EW C (g:Int) 1 1 (.tuple [.str "put",v]):=fun T t=>by
  obtain ⟨d,T',e,t',hv⟩:=vi hn hm (n:=1) (by decide) t
  exact ⟨d,T',e,t',uB hv⟩
 by_cases hg:0 < (g:Int)
 ·obtain ⟨r,T1,e1,t1,r0,r1⟩:=bJ (m:=3) t (by decide)
  by_cases hr:0 < r
  ·obtain ⟨i,T2,e2,t2,i0,i1⟩:=bJ (m:=(g:Int)) t1 hg
   obtain ⟨i,rfl⟩:∃ j:Nat,i=(j:Int):=⟨i.toNat,by omega⟩
   refine ⟨_,T2,?_,t2,⟨1,_,DJ (j:=i) (by decide) hg12 (by omega),by decide⟩⟩
   generalize (g:Int)=G at *
   simp [eY,hg,e1,hr,e2]
  ·obtain ⟨v,T2,e2,t2,x⟩:=putL T1 t1
   refine ⟨_,T2,?_,t2,x⟩
   generalize (g:Int)=G at *
   simp [eY,hg,e1,hr,e2]
 ·obtain ⟨v,T2,e2,t2,x⟩:=putL T t
  refine ⟨_,T2,?_,t2,x⟩
  generalize (g:Int)=G at *
  simp [eY,hg,e2]
theorem Ca {l:List Str} {m:Nat} (hn:Nms l m) (hm:0 < m) {g:Nat} (hg12:g≤12) {A T:Tp} (t:bA A T):∃ e T',e7 [.tp A.length,.d (.list (nmL l)),.d (.int (g:Int))] T=some (e,T')∧bA A T'∧EW C (g:Int) 2 3 e:=by
 obtain ⟨w,T1,e1,t1,w0,w1⟩:=bJ (m:=10) t (by decide)
 obtain ⟨a,T2,e2,t2,xa⟩:=rQ (C:=C) hn hm hg12 t1
 by_cases c1:w < 5
 ·by_cases c2:w=4
  ·refine ⟨.tuple [.str "many",a],T2,?_,t2,Cc xa (by decide) (by decide)⟩
   subst c2
   simp [e7,fW,e1,e2,fF,fE]
  ·refine ⟨a,T2,?_,t2,xa.up (by decide) (by decide)⟩
   have z:w / 4=0:=by omega
   simp [e7,fW,e1,e2,c1,z,fF,fE]
 ·obtain ⟨b,T3,e3,t3,xb⟩:=rQ (C:=C) hn hm hg12 t2
  by_cases c5:w=5
  ·obtain ⟨j,T4,e4,t4,j0,j1⟩:=bJ (m:=3) t3 (by decide)
   obtain ⟨j,rfl⟩:∃ i:Nat,j=(i:Int):=⟨j.toNat,by omega⟩
   refine ⟨.tuple [.str "row",.tuple ([a,b].take j)],T4,?_,t4,DK (q:=1) (by simp; omega) (fun e he=>?_) (by simp; omega) (by decide)⟩
   ·subst c5
    simp [e7,fW,e1,e2,e3,e4,nY]
   ·have:=List.mem_of_mem_take he
    simp at this
    rcases this with rfl | rfl
    ·exact xa
    ·exact xb
  ·obtain ⟨i,T4,e4,t4,i0,i1⟩:=bJ (m:=5) t3 (by decide)
   obtain ⟨wd,hwd,hat⟩:∃ wd∈PWX,atI [PyData.str "sum",.str "join",.str "same",.str "less",.str "part"] i=some (.str (Str.ofString wd)):=by
    obtain ⟨d,h,hm⟩:=f9 (xs:=[PyData.str "sum",.str "join",.str "same",.str "less",.str "part"]) i0 (by simpa using i1)
    simp at hm
    rcases hm with rfl | rfl | rfl | rfl | rfl
    ·exact ⟨"sum",by simp [PWX],h⟩
    ·exact ⟨"join",by simp [PWX],h⟩
    ·exact ⟨"same",by simp [PWX],h⟩
    ·exact ⟨"less",by simp [PWX],h⟩
    ·exact ⟨"part",by simp [PWX],h⟩
   refine ⟨.tuple [.str (Str.ofString wd),a,b],T4,?_,t4,Cb hwd xa xb (by decide) (by decide)⟩
   simp [e7,fW,e1,e2,e3,c1,c5,e4,hat]
end
theorem name_val {x:Str} (hx:isName (.str x)=true):aT (.str x)=true:=by
 obtain ⟨u1,u2⟩:=bT (n:=4) (l5 hx)
 show (aF 4 (.str x) && decide (aD 4 (.str x)≤40))=true
 rw [u1,u2]
 rfl
theorem zj:isName (.str "kind")=true:=by decide +kernel
def cq:Nat→Int
 | 0=>4
 | 1=>8
 | n + 2=>4 + 2 * cq n
theorem vb:∀ n,n≤4→4≤cq n∧4 + cq n≤cq (n + 1)∧cq n≤60:=by decide
section
variable {C:Addr}
theorem ko {l:List Str} {m:Nat} (hn:Nms l m) (hm:0 < m) (hm2:m≤12) {p:Bool}:∀ (n k g:Nat) (A T:Tp),bA A T→n < k→n≤4→n + g≤12→∃ r T',bq k [.tp A.length,.d (.list (nmL l)),.d (.int (n:Int)),.d (.int (g:Int)),.d (.bool p)] T=some (r,T')∧bA A T'∧RW C g (n + 3) (cq n) r
 | n,0,g,A,T,_,hk,_,_=>absurd hk (Nat.not_lt_zero _)
 | n,k + 1,g,A,T,t,hk,h4,hg=>by
  obtain ⟨q1,q2,q3⟩:=vb n h4
  obtain ⟨w,T1,e1,t1,w0,w1⟩:=bJ (m:=8) t (by decide)
  obtain ⟨ex,T2,e2,t2,xe⟩:=Ca (C:=C) hn hm (g:=g) (by omega) t1
  by_cases c1:0 < n∧w < 4
  ·obtain ⟨c1,c2⟩:=c1
   obtain ⟨n,rfl⟩:=bj n (by omega)
   have c1':(0:Int) < ((n + 1:Nat):Int):=by omega
   have hs:((n + 1:Nat):Int) - 1=(n:Int):=by omega
   have hgs:((g + 1:Nat):Int)=(g:Int) + 1:=by omega
   obtain ⟨wd,T3,t3,hwd,e3⟩:∃ wd T3,bA A T3∧(wd = "want"∨(wd = "peek"∧p=true))∧((p=false∧wd = "want"∧T3=T2)∨(p=true∧∃ j,a7 [.tp A.length,.d (.int 4)] T2=some (.int j,T3)∧((j=0∧wd = "peek")∨(¬ j=0∧wd = "want")))):=by
    cases p with
    | false=>exact ⟨"want",T2,t2,.inl rfl,.inl ⟨rfl,rfl,rfl⟩⟩
    | true=>
     obtain ⟨j,T3,e3,t3,j0,j1⟩:=bJ (m:=4) t2 (by decide)
     by_cases hj:j=0
     ·exact ⟨"peek",T3,t3,.inr ⟨rfl,rfl⟩,.inr ⟨rfl,j,e3,.inl ⟨hj,rfl⟩⟩⟩
     ·exact ⟨"want",T3,t3,.inl rfl,.inr ⟨rfl,j,e3,.inr ⟨hj,rfl⟩⟩⟩
   obtain ⟨j,T4,e4,t4,j0,j1⟩:=bJ (m:=5) t3 (by decide)
   obtain ⟨ex',T5,x5,t5,e5⟩:∃ ex' T5,EW C (g:Int) 2 3 ex'∧bA A T5∧((0 < j∧∃ i x,a7 [.tp A.length,.d (.int (l.length:Int))] T4=some (.int i,T5)∧atI (nmL l) i=some (.str x)∧ex'=.tuple [.str "put",.str x])∨(¬ 0 < j∧ex'=ex∧T5=T4)):=by
    by_cases hj:0 < j
    ·obtain ⟨i,T5,e5,t5,i0,i1⟩:=bJ (m:=(l.length:Int)) t4 (by rw [hn.len]; omega)
     obtain ⟨x,hx,hxn⟩:=uM hn i0 i1
     exact ⟨_,T5,(uB (name_val hxn)).up (by decide) (by decide),t5,.inl ⟨hj,i,x,e5,hx,rfl⟩⟩
    ·exact ⟨ex,T4,xe,t4,.inr ⟨hj,rfl,rfl⟩⟩
   obtain ⟨r,T6,e6,t6,xr⟩:=ko hn hm hm2 (p:=p) n k (g + 1) A T5 t5 (by omega) (by omega) (by omega)
   obtain ⟨ce,we,xe5,ce3⟩:=x5
   refine ⟨.tuple [.str (Str.ofString wd),ex',r],T6,?_,t6,Dv (by omega) (hwd.imp id And.left) (by omega) (xe5.up (by omega)) xr (by have:=(vb n (by omega)).2.1; omega) q3⟩
   rw [← hs,hgs] at e6
   generalize ((n + 1:Nat):Int)=N at e6 c1' ⊢
   generalize (g:Int)=G at *
   have i0:intD [.bool false]=some (.int 0):=rfl
   have i1:intD [.bool true]=some (.int 1):=rfl
   rcases e5 with ⟨hj,i,x,y1,y2,rfl⟩ | ⟨hj,rfl,rfl⟩
   ·rcases e3 with ⟨rfl,rfl,rfl⟩ | ⟨rfl,q,e3,⟨hq,rfl⟩ | ⟨hq,rfl⟩⟩
    ·simp [bq,e1,e2,c1',c2,i0,i1,fF,fE,e4,hj,ei,y1,y2,e6]
    ·simp [bq,e1,e2,c1',c2,i0,i1,fF,fE,e3,hq,e4,hj,ei,y1,y2,e6]
    ·simp [bq,e1,e2,c1',c2,i0,i1,fF,fE,e3,hq,e4,hj,ei,y1,y2,e6]
   ·rcases e3 with ⟨rfl,rfl,rfl⟩ | ⟨rfl,q,e3,⟨hq,rfl⟩ | ⟨hq,rfl⟩⟩
    ·simp [bq,e1,e2,c1',c2,i0,i1,fF,fE,e4,hj,e6]
    ·simp [bq,e1,e2,c1',c2,i0,i1,fF,fE,e3,hq,e4,hj,e6]
    ·simp [bq,e1,e2,c1',c2,i0,i1,fF,fE,e3,hq,e4,hj,e6]
  ·by_cases c3:1 < n∧w < 6
   ·obtain ⟨c3,c4⟩:=c3
    obtain ⟨n,rfl⟩:∃ j,n=j + 2:=⟨n - 2,by omega⟩
    have c5:¬ w < 4:=fun z=>c1 ⟨by omega,z⟩
    have hs:((n + 2:Nat):Int) - 2=(n:Int):=by omega
    have c3':(1:Int) < ((n + 2:Nat):Int):=by omega
    have c3'':(0:Int) < ((n + 2:Nat):Int):=by omega
    obtain ⟨r,T3,e3,t3,xr⟩:=ko hn hm hm2 (p:=p) n k g A T2 t2 (by omega) (by omega) (by omega)
    obtain ⟨s,T4,e4,t4,xs⟩:=ko hn hm hm2 (p:=p) n k g A T3 t3 (by omega) (by omega) (by omega)
    obtain ⟨ce,we,xe5,ce3⟩:=xe
    have qq:cq (n + 2)=4 + 2 * cq n:=rfl
    refine ⟨.tuple [.str "when",ex,r,s],T4,?_,t4,B4 (n:=n + 4) (by omega) (xe5.up (by omega)) (xr.up (by omega) (Int.le_refl _)) (xs.up (by omega) (Int.le_refl _)) (by omega) q3⟩
    rw [← hs] at e3 e4
    generalize ((n + 2:Nat):Int)=N at e3 e4 c3' c3'' ⊢
    generalize (g:Int)=G at *
    simp [bq,e1,e2,c3',c3'',c5,c4,e3,e4]
   ·have z1:¬ ((0:Int) < (n:Int)∧w < 4):=fun z=>c1 ⟨by omega,z.2⟩
    have z3:¬ ((1:Int) < (n:Int)∧w < 6):=fun z=>c3 ⟨by omega,z.2⟩
    have say:∀ T4,bA A T4→(¬ w=6∧T4=T2∨w=6∧∃ j,a7 [.tp A.length,.d (.int 2)] T2=some (.int j,T4)∧¬ j=0)→bq (k + 1) [.tp A.length,.d (.list (nmL l)),.d (.int (n:Int)),.d (.int (g:Int)),.d (.bool p)] T=some (.tuple [.str "say",ex],T4):=fun T4 t4 h=>by
     generalize (n:Int)=N at z1 z3 ⊢
     generalize (g:Int)=G at *
     rcases h with ⟨h6,rfl⟩ | ⟨rfl,j,e3,hj⟩
     ·by_cases a0:0 < N
      ·have b0:¬ w < 4:=fun z=>z1 ⟨a0,z⟩
       by_cases a1:1 < N
       ·have b1:¬ w < 6:=fun z=>z3 ⟨a1,z⟩
        simp [bq,e1,e2,a0,b0,a1,b1,h6]
       ·simp [bq,e1,e2,a0,b0,a1,h6]
      ·have a1:¬ 1 < N:=by omega
       simp [bq,e1,e2,a0,a1,h6]
     ·simp [bq,e1,e2,e3,hj]
    by_cases c6:w=6
    ·obtain ⟨j,T3,e3,t3,j0,j1⟩:=bJ (m:=2) t2 (by decide)
     by_cases hj:j=0
     ·obtain ⟨i,T4,e4,t4,i0,i1⟩:=bJ (m:=(l.length:Int) + 2) t3 (by omega)
      obtain ⟨x,hx,hxn⟩:∃ x,atI (nmL l++[.str "kind",.str "name"]) i=some (.str x)∧isName (.str x)=true:=by
       obtain ⟨d,h,hmem⟩:=f9 (xs:=nmL l++[.str "kind",.str "name"]) i0 (by simp [ei]; omega)
       rcases List.mem_append.mp hmem with z | z
       ·obtain ⟨x,hx,rfl⟩:=List.mem_map.mp z
        exact ⟨x,h,hn.nm x hx⟩
       ·simp at z
        rcases z with rfl | rfl
        ·exact ⟨_,h,zj⟩
        ·exact ⟨_,h,BC⟩
      refine ⟨.tuple [.str "fail",.str x],T4,?_,t4,⟨1,_,B3 (by omega) (by omega) hxn,by omega⟩⟩
      have ll:l.length + 2≤sizeLine:=by
       have:=iw
       have:=hn.len
       omega
      subst c6 hj
      generalize (n:Int)=N at z1 z3 ⊢
      generalize (g:Int)=G at *
      simp [bq,e1,e2,e3,e4,ei,hx,ll]
     ·exact ⟨_,T3,say T3 t3 (.inr ⟨c6,j,e3,hj⟩),t3,ux (by omega) (xe.up (by omega) (Int.le_refl _)) (by omega) q3 ⟩
    ·exact ⟨_,T2,say T2 t2 (.inl ⟨c6,rfl⟩),t2,ux (by omega) (xe.up (by omega) (Int.le_refl _)) (by omega) q3⟩
end
abbrev Dc:=List (PyData×PyData)
theorem zq {ds:Dc} {x y:Str} {v:PyData}:aM (ds++[(.str x,v)]) y=match aM ds y with
  | some u=>some u
  | none=>if x=y then some v else none:=by
 induction ds with
 | nil=>rfl
 | cons q r ih=>
  obtain ⟨k,d⟩:=q
  cases k with
  | str k=>
   show (if k=y then some d else aM (r++[(.str x,v)]) y)=_
   by_cases h:k=y
   ·rw [if_pos h]
    have:aM ((PyData.str k,d)::r) y=some d:=if_pos h
    rw [this]
   ·rw [if_neg h,ih]
    have:aM ((PyData.str k,d)::r) y=aM r y:=if_neg h
    rw [this]
  | _=>exact ih
theorem zo {ds:Dc} {x y:Str} {v:PyData}:aM (dh ds x v) y=if x=y then (aM ds x).map (fun _=>v) else aM ds y:=by
 induction ds with
 | nil=>by_cases h:x=y <;> simp [dh,aM,h]
 | cons q r ih=>
  obtain ⟨k,d⟩:=q
  cases k with
  | str k=>
   by_cases hk:k=x
   ·subst hk
    have e1:dh ((PyData.str k,d)::r) k v=(.str k,v)::dh r k v:=if_pos rfl
    rw [e1]
    by_cases h:k=y
    ·subst h
     simp [aM]
    ·simp [aM,h,ih]
   ·have e1:dh ((PyData.str k,d)::r) x v=(.str k,d)::dh r x v:=if_neg hk
    rw [e1]
    by_cases h:x=y
    ·subst h
     simp [aM,hk,ih]
    ·simp [aM,h] at ih ⊢
     rw [ih]
  | _=>exact ih
theorem gI {ds:Dc} {x y:Str} {v:PyData}:aM (putN ds x v) y=if x=y then some v else aM ds y:=by
 unfold putN
 cases h:aM ds x with
 | some u=>
  rw [if_pos (by rfl),zo,h]
  rfl
 | none=>
  rw [if_neg (by simp),zq]
  by_cases hx:x=y
  ·subst hx; rw [h,if_pos rfl]
  ·rw [if_neg hx,if_neg hx]
   cases aM ds y <;> rfl
theorem qj {ds:Dc} {x:Str} {v:PyData} (h:aM ds x=some v):(.str x,v)∈ds:=by
 induction ds with
 | nil=>cases h
 | cons q r ih=>
  obtain ⟨k,d⟩:=q
  cases k with
  | str k=>
   by_cases hk:k=x
   ·have e:aM ((PyData.str k,d)::r) x=some d:=if_pos hk
    rw [e] at h
    cases h
    rw [hk]
    exact List.mem_cons_self
   ·have e:aM ((PyData.str k,d)::r) x=aM r x:=if_neg hk
    rw [e] at h
    exact List.mem_cons_of_mem _ (ih h)
  | _=>exact List.mem_cons_of_mem _ (ih h)
theorem ki {G:Dc} {x:Str} {v:PyData} (h:aM G x=none):(putN G x v).length=G.length + 1:=by
 unfold putN
 rw [h,if_neg (by simp)]
 simp
@[simp] theorem G2 {i:Nat} {fk fv:FE} {ρ:Rho} {T:Tp}:eN i fk fv ρ T=bnd (fv ρ T) fun w T1=>lq i fk ρ w T1 ρ[i]?:=rfl
@[simp] theorem Gc {i:Nat} {fk:FE} {ρ:Rho} {w:D.W} {T:Tp} {ds:Dc}:lq i fk ρ w T (some (some (.loc (.dict ds))))=bnd (fk ρ T) (lr i ρ ds w):=rfl
@[simp] theorem Gd {i:Nat} {ρ:Rho} {T:Tp} {ds:Dc} {x:PyData} {s:Str}:lr i ρ ds (.d x) (.d (.str s)) T=if ds.length≤1000 then some ((.nx,ρ.set i (some (.loc (.dict (putN ds s x))))),T) else none:=rfl
@[simp] theorem Gb {i:Nat} {f:FE} {ρ:Rho} {T:Tp}:Dh i f ρ T=bnd (f ρ T) fun w T1=>nI i ρ (ia (view T1 w)) T1:=rfl
@[simp] theorem HE {ds:Dc}:ia (some (.dict ds))=some ds:=rfl
@[simp] theorem FV {i:Nat} {ρ:Rho} {ds:Dc} {T:Tp}:nI i ρ (some ds) T=some ((.nx,ρ.set i (some (.loc (.dict ds)))),T):=rfl
@[simp] theorem GP {i:Nat} {ρ:Rho} {T:Tp}:eM i ρ T=some ((.nx,ρ.set i (some (.loc (.dict [])))),T):=rfl
@[simp] theorem FW {s:Str} {ds:Dc}:CZ (.str s) (.dict ds)=some (.bool (!(aM ds s).isSome)):=rfl
@[simp] theorem Hq {s:Str} {ds:Dc}:inA (.str s) (.dict ds)=some (.bool (aM ds s).isSome):=rfl
@[simp] theorem Hk {s:Str} {ds:Dc}:ixA (.dict ds) (.str s)=aM ds s:=rfl
@[simp] theorem Gf {o:PyData→PyData→Option PyData} {T:Tp} {x:PyData} {ds:Dc}:op2 o T (.d x) (.loc (.dict ds))=mkD T (o x (.dict ds)):=rfl
@[simp] theorem Ge {o:PyData→PyData→Option PyData} {T:Tp} {y:PyData} {ds:Dc}:op2 o T (.loc (.dict ds)) (.d y)=mkD T (o (.dict ds) y):=rfl
@[simp] theorem Gg {o:PyData→Option PyData} {T:Tp} {ds:Dc}:op1 o T (.loc (.dict ds))=mkD T (o (.dict ds)):=rfl
@[simp] theorem ev_viewLD {T:Tp} {ds:Dc}:view T (.loc (.dict ds))=some (.dict ds):=rfl
def bkD (D0 R0:Dc):PyData:=.tuple [.dict D0,.dict R0]
structure BkP (C:Addr) (S:List Str) (D0 R0:Dc):Prop where
 dk:∀ q∈D0,∃ x v,q=(.str x,v)∧aT v=true∧aM D0 x=some v∧x∈S
 rk:∀ q∈R0,∃ x r,q=(.str x,r)∧RW C 0 7 28 r∧aM R0 x=some r∧aM D0 x=none∧x∈S
 rnd:(R0.map (·.1)).Nodup
 dnd:(D0.map (·.1)).Nodup
 len:D0.length + R0.length=S.length
 nm:∀ x∈S,isName (.str x)=true
theorem BkP.nil {C:Addr}:BkP C [] [] []:=⟨by simp,by simp,by simp,by simp,rfl,by simp⟩
section
variable {C:Addr} {S:List Str} {D0 R0:Dc}
theorem BkP.noD (b:BkP C S D0 R0) {x:Str} (h:x∉S):aM D0 x=none:=by
 cases e:aM D0 x with
 | none=>rfl
 | some v=>
  obtain ⟨y,_,e1,_,_,hy⟩:=b.dk _ (qj e)
  cases e1
  exact absurd hy h
theorem BkP.noR (b:BkP C S D0 R0) {x:Str} (h:x∉S):aM R0 x=none:=by
 cases e:aM R0 x with
 | none=>rfl
 | some v=>
  obtain ⟨y,_,e1,_,_,_,hy⟩:=b.rk _ (qj e)
  cases e1
  exact absurd hy h
theorem ky {G:Dc} {x:Str} {v:PyData} (h:aM G x=none):putN G x v=G++[(.str x,v)]:=by
 unfold putN
 rw [h,if_neg (by simp)]
theorem BkP.putD (b:BkP C S D0 R0) {x:Str} {v:PyData} (h:x∉S) (hx:isName (.str x)=true) (hv:aT v=true):BkP C (x::S) (putN D0 x v) R0:=by
 have nd:=b.noD h
 refine ⟨fun q hq=>?_,fun q hq=>?_,b.rnd,?_,by rw [ki nd,List.length_cons]; have:=b.len; omega,fun y hy=>(List.mem_cons.mp hy).elim (fun e=>e ▸ hx) (b.nm y)⟩
 ·rw [ky nd] at hq
  rcases List.mem_append.mp hq with z | z
  ·obtain ⟨y,u,rfl,h1,h2,h3⟩:=b.dk q z
   refine ⟨y,u,rfl,h1,?_,List.mem_cons_of_mem _ h3⟩
   rw [gI,if_neg (fun e=>h (by rw [e]; exact h3))]
   exact h2
  ·rw [List.mem_singleton.mp z]
   exact ⟨x,v,rfl,hv,by rw [gI,if_pos rfl],List.mem_cons_self⟩
 ·obtain ⟨y,r,rfl,h1,h2,h3,h4⟩:=b.rk q hq
  refine ⟨y,r,rfl,h1,h2,?_,List.mem_cons_of_mem _ h4⟩
  rw [gI,if_neg (fun e=>h (by rw [e]; exact h4))]
  exact h3
 ·rw [ky nd,List.map_append,List.nodup_append]
  refine ⟨b.dnd,by simp,fun a ha c hc e=>?_⟩
  simp at hc
  subst hc e
  obtain ⟨q,hq,e⟩:=List.mem_map.mp ha
  obtain ⟨y,u,rfl,_,_,h4⟩:=b.dk q hq
  cases e
  exact h h4
theorem BkP.putR (b:BkP C S D0 R0) {x:Str} {r:PyData} (h:x∉S) (hx:isName (.str x)=true) (hr:RW C 0 7 28 r):BkP C (x::S) D0 (putN R0 x r):=by
 have nd:=b.noR h
 refine ⟨fun q hq=>?_,fun q hq=>?_,?_,b.dnd,by rw [ki nd,List.length_cons]; have:=b.len; omega,fun y hy=>(List.mem_cons.mp hy).elim (fun e=>e ▸ hx) (b.nm y)⟩
 ·obtain ⟨y,u,rfl,h1,h2,h3⟩:=b.dk q hq
  exact ⟨y,u,rfl,h1,h2,List.mem_cons_of_mem _ h3⟩
 ·rw [ky nd] at hq
  rcases List.mem_append.mp hq with z | z
  ·obtain ⟨y,u,rfl,h1,h2,h3,h4⟩:=b.rk q z
   refine ⟨y,u,rfl,h1,?_,h3,List.mem_cons_of_mem _ h4⟩
   rw [gI,if_neg (fun e=>h (by rw [e]; exact h4))]
   exact h2
  ·rw [List.mem_singleton.mp z]
   exact ⟨x,r,rfl,hr,by rw [gI,if_pos rfl],b.noD h,List.mem_cons_self⟩
 ·rw [ky nd,List.map_append,List.nodup_append]
  refine ⟨b.rnd,by simp,fun a ha c hc e=>?_⟩
  simp at hc
  subst hc e
  obtain ⟨q,hq,e⟩:=List.mem_map.mp ha
  obtain ⟨y,u,rfl,_,_,_,h4⟩:=b.rk q hq
  cases e
  exact h h4
end
def bkF:FS:=(fIf (aB (ag eqD (ar a7 (ae (aa 9) (ae (fC (.int 4)) ai))) (fC (.int 0)))) (eN 6 (ag ixD (aa 5) (aa 8)) (ar (bM 25) (ae (aa 9) (ae (aa 5) (ae (fC (.int 2)) ai))))) (eN 7 (ag ixD (aa 5) (aa 8)) (ar (bq 25) (ae (aa 9) (ae (aa 5) (ae (ag aG (fC (.int 1)) (ar a7 (ae (aa 9) (ae (fC (.int 4)) ai)))) (ae (fC (.int 0)) (ae (aa 2) ai))))))))
def bkI:FS:=(iM 9 (ae (ar eZ (ae (ag aG (ar cB (ae (aa 0) (ae (ag aG (ag aG (aa 1) (fC (.int 1))) (aa 8)) ai))) (ag bB (fC (.int 977)) (aa 8))) (ae (fC (.int 60)) ai))) (ae (fC (.int 0)) ai)) bkF)
def bkS:FS:=(aq (aO 4 (ag aG (fC (.int 3)) (ar a7 (ae (aa 3) (ae (fC (.int 8)) ai))))) (aq (aO 5 (ar eg (ae (aa 3) (ae (ag aG (aa 4) (fC (.int 2))) ai)))) (aq (eM 6) (aq (eM 7) (aq (cw 8 (cH (aa 4)) bkI) (aw (aR .tuple (ae (aa 6) (ae (aa 7) ai)))))))))
theorem BX:gD=aS 10 (iM 3 (ae (ar eZ (ae (ar cB (ae (aa 0) (ae (aa 1) ai))) (ae (fC (.int 24)) ai))) (ae (fC (.int 0)) ai)) bkS):=rfl
theorem rq {i:Nat} {g:FA} {fr:FS} {ρ:Rho} {T:Tp}:iM i g fr ρ T=bnd (g ρ T) fun ws T1=>openK i fr ρ (dj ws) T1:=rfl
theorem rz {i:Nat} {fr:FS} {ρ:Rho} {T:Tp} {a b:PyData}:openK i fr ρ (some [a,b]) T=iC T.length (fr (ρ.set i (some (.tp T.length))) (T++[[a,b]])):=rfl
theorem pG {n:Nat} {fl:Fl} {ρ:Rho} {T:Tp} {row:List PyData} (h:T.length=n):iC n (some ((fl,ρ),T++[row]))=some ((fl,g7 n ρ),T):=by
 have e:gX (T++[row])=some (T,row):=by
  unfold gX
  have h1:List.getLast? (T++[row])=some row:=List.getLast?_concat ..
  have h2:List.dropLast (T++[row])=T:=List.dropLast_concat ..
  rw [h1,h2]
 simp [iC,e,h]
def ρB (ns:List Int) (p:Bool) (m:Int) (l:List Str) (D0 R0:Dc) (o8 o9:Option D.W):Rho:=[some (.d (cy ns)),some (.d (.int 1)),some (.d (.bool p)),some (.tp 0),some (.d (.int m)),some (.d (.list (nmL l))),some (.loc (.dict D0)),some (.loc (.dict R0)),o8,o9]
theorem Dq {ns:List Int} {p:Bool} {m:Int} {l:List Str} {D0 R0:Dc} {k:Int}:g7 1 (ρB ns p m l D0 R0 (some (.d (.int k))) (some (.tp 1)))=ρB ns p m l D0 R0 (some (.d (.int k))) none:=rfl
theorem FC:∀ i,i < 4→cq (1 + i)≤28:=by decide
theorem FF {C:Addr} {ns:List Int} {p:Bool} {m:Int} {l:List Str} {j:Nat} {D0 R0:Dc} {k:Nat} {x:Str} {A T:Tp} (hA:A.length=1) (t:bA A T) (hn:Nms l j) (hj:0 < j) (hj2:j≤12) (hx:atI (nmL l) (k:Int)=some (.str x)) (hD:D0.length≤1000) (hR:R0.length≤1000) :
  ∃ D1 R1 T',bkF (ρB ns p m l D0 R0 (some (.d (.int (k:Int)))) (some (.tp 1))) T=some ((.nx,ρB ns p m l D1 R1 (some (.d (.int (k:Int)))) (some (.tp 1))),T')∧bA A T'∧((∃ v,aT v=true∧D1=putN D0 x v∧R1=R0)∨(∃ r,RW C 0 7 28 r∧D1=D0∧R1=putN R0 x r)):=by
 obtain ⟨w,T1,e1,t1,w0,w1⟩:=bJ (m:=4) t (by decide)
 rw [hA] at e1
 by_cases hw:w=0
 ·obtain ⟨v,T2,e2,t2,hv⟩:=vi hn hj (n:=2) (by decide) t1
  rw [hA] at e2
  refine ⟨putN D0 x v,R0,T2,?_,t2,.inl ⟨v,hv,rfl,rfl⟩⟩
  have e2':bM 25 [.tp 1,.d (.list (nmL l)),.d (.int 2)] T1=some (v,T2):=e2
  simp [bkF,ρB,e1,hw,e2',hx,hD]
 ·obtain ⟨i,T2,e2,t2,i0,i1⟩:=bJ (m:=4) t1 (by decide)
  obtain ⟨i,rfl⟩:∃ q:Nat,i=(q:Int):=⟨i.toNat,by omega⟩
  obtain ⟨r,T3,e3,t3,hr⟩:=ko (C:=C) hn hj hj2 (p:=p) (1 + i) 25 0 A T2 t2 (by omega) (by omega) (by omega)
  rw [hA] at e2 e3
  refine ⟨D0,putN R0 x r,T3,?_,t3,.inr ⟨r,hr.up (by omega) (FC i (by omega)),rfl,rfl⟩⟩
  have e3':bq 25 [.tp 1,.d (.list (nmL l)),.d (.int (1 + (i:Int))),.d (.int 0),.d (.bool p)] T2=some (r,T3):=by
   have z:((1 + i:Nat):Int)=1 + (i:Int):=by omega
   rw [z] at e3
   exact e3
  simp [bkF,ρB,e1,hw,e2,e3',hx,hR]
theorem FD {C:Addr} {ns:List Int} {p:Bool} {m:Int} {l:List Str} {j:Nat} {D0 R0:Dc} {k:Nat} {x:Str} {T:Tp} (hA:T.length=1) (hn:Nms l j) (hj:0 < j) (hj2:j≤12) (hx:atI (nmL l) (k:Int)=some (.str x)) (hD:D0.length≤1000) (hR:R0.length≤1000) :
  ∃ D1 R1,bkI (ρB ns p m l D0 R0 (some (.d (.int (k:Int)))) none) T=some ((.nx,ρB ns p m l D1 R1 (some (.d (.int (k:Int)))) none),T)∧((∃ v,aT v=true∧D1=putN D0 x v∧R1=R0)∨(∃ r,RW C 0 7 28 r∧D1=D0∧R1=putN R0 x r)):=by
 obtain ⟨c,ec⟩:=n6 (ns:=ns) (k:=1 + 1 + (k:Int)) (T:=T) (by omega)
 obtain ⟨ds,ed,ld,hd⟩:=tj (c:=c + 977 * (k:Int)) (N:=60) (T:=T) (by decide) (by decide)
 have ld':ds.length=60:=ld
 obtain ⟨D1,R1,T',eF,tF,res⟩:=FF (C:=C) (ns:=ns) (p:=p) (m:=m) hA (tB (A:=T) (ds:=ds) (by omega) (by omega) hd) hn hj hj2 hx hD hR
 obtain ⟨ds',i',rfl,_⟩:=tF
 refine ⟨D1,R1,?_,res⟩
 have oe:=pG (fl:=.nx) (ρ:=ρB ns p m l D1 R1 (some (.d (.int (k:Int)))) (some (.tp 1))) (T:=T) (row:=[.list ds',.int i']) hA
 rw [← eF,Dq] at oe
 rw [← oe]
 unfold bkI
 rw [rq]
 have z:(1:Int) + 1=2:=by decide
 rw [z] at ec
 simp [ρB,ec,ed,rz,hA]
theorem uv {C:Addr} {ns:List Int} {p:Bool} {m:Int} {l:List Str} {j:Nat} {T:Tp} (hA:T.length=1) (hn:Nms l j) (hj:0 < j) (hj2:j≤12):∀ (c k:Nat) (S:List Str) (D0 R0:Dc) (o8:Option D.W),k + c≤j→BkP C S D0 R0→S.length=k→(∀ y∈S,y∈l.take k) →
  ∃ D1 R1 S1 o,forL 8 bkI ((List.range' k c).map fun (i:Nat)=>PyData.int (i:Int)) (ρB ns p m l D0 R0 o8 none) T=some ((.nx,ρB ns p m l D1 R1 o none),T)∧BkP C S1 D1 R1∧S1.length=k + c
 | 0,k,S,D0,R0,o8,_,b,hS,_=>⟨D0,R0,S,o8,rfl,b,hS⟩
 | c + 1,k,S,D0,R0,o8,hk,b,hS,hsub=>by
  have hkl:k < l.length:=by rw [hn.len]; omega
  have hx:atI (nmL l) (k:Int)=some (.str l[k]):=by
   unfold atI ixN
   rw [ei,if_pos (by omega),if_pos (by omega)]
   simp [nmL,hkl]
  have hnx:l[k]∉S:=fun z=>by
   have z2:=hsub _ z
   obtain ⟨i,hi,e⟩:=List.mem_take_iff_getElem.mp z2
   exact (List.pairwise_iff_getElem.mp hn.nd) i k (by omega) hkl (by omega) e
  have hlen:=b.len
  obtain ⟨D1,R1,e1,res⟩:=FD (C:=C) (ns:=ns) (p:=p) (m:=m) hA hn hj hj2 hx (show D0.length≤1000 by omega) (show R0.length≤1000 by omega)
  have b1:BkP C (l[k]::S) D1 R1:=by
   rcases res with ⟨v,hv,rfl,rfl⟩ | ⟨r,hr,rfl,rfl⟩
   ·exact b.putD hnx (hn.nm _ (List.getElem_mem _)) hv
   ·exact b.putR hnx (hn.nm _ (List.getElem_mem _)) hr
  obtain ⟨D2,R2,S2,o,e2,b2,h2⟩:=uv (C:=C) (ns:=ns) (p:=p) (m:=m) hA hn hj hj2 c (k + 1) (l[k]::S) D1 R1 (some (.d (.int (k:Int)))) (by omega) b1 (by simp; omega) fun y hy=>by
   rcases List.mem_cons.mp hy with rfl | z
   ·exact List.mem_take_iff_getElem.mpr ⟨k,by omega,rfl⟩
   ·exact List.take_subset_take_left l (by omega) (hsub y z)
  refine ⟨D2,R2,S2,o,?_,b2,by omega⟩
  have st:bkI (List.set (ρB ns p m l D0 R0 o8 none) 8 (some (.d (.int (k:Int))))) T=some ((.nx,ρB ns p m l D1 R1 (some (.d (.int (k:Int)))) none),T):=e1
  rw [List.range'_succ,List.map_cons,iE st]
  exact e2
theorem yc (n:Nat):ba 0 n=(List.range' 0 n).map fun (i:Nat)=>PyData.int (i:Int):=by
 unfold ba
 rw [List.range_eq_range']
 exact List.map_congr_left fun i _=>by simp
theorem DD (C:Addr) (ns:List Int) (p:Bool):∃ D0 R0 S,gD [.d (cy ns),.d (.int 1),.d (.bool p)] []=some (bkD D0 R0,[])∧BkP C S D0 R0∧3≤S.length∧S.length≤10:=by
 obtain ⟨c,ec⟩:=n6 (ns:=ns) (k:=1) (T:=[]) (by omega)
 obtain ⟨ds,ed,ld,hd⟩:=tj (c:=c) (N:=24) (T:=[]) (by decide) (by decide)
 have ld':ds.length=24:=ld
 obtain ⟨w,T1,e1,t1,w0,w1⟩:=bJ (m:=8) (tB (A:=[]) (ds:=ds) (by omega) (by omega) hd) (by decide)
 obtain ⟨w,rfl⟩:∃ q:Nat,w=(q:Int):=⟨w.toNat,by omega⟩
 obtain ⟨l,T2,e2,t2,hn⟩:=B9 (m:=3 + w + 2) t1 (by omega)
 have hA:T2.length=1:=by
  obtain ⟨_,_,rfl,_⟩:=t2
  rfl
 obtain ⟨D1,R1,S1,o,e3,b,hS⟩:=uv (C:=C) (ns:=ns) (p:=p) (m:=3 + (w:Int)) hA hn (by omega) (by omega) (3 + w) 0 [] [] [] none (by omega) BkP.nil rfl (by simp)
 refine ⟨D1,R1,S1,?_,b,by omega,by omega⟩
 rw [← yc] at e3
 have zt:(3 + (w:Int)).toNat=3 + w:=by omega
 have hr:=dR (j:=3 + (w:Int)) (by omega) (by omega)
 have z2:((3 + w + 2:Nat):Int)=3 + (w:Int) + 2:=by omega
 rw [z2] at e2
 have e1':a7 [.tp 0,.d (.int 8)] [[.list ds,.int 0]]=some (.int (w:Int),T1):=e1
 have e2':eg [.tp 0,.d (.int (3 + (w:Int) + 2))] T1=some (.list (nmL l),T2):=e2
 have es:bkS [some (.d (cy ns)),some (.d (.int 1)),some (.d (.bool p)),some (.tp 0),none,none,none,none,none,none] [[.list ds,.int 0]]=some ((.rt (bkD D1 R1),ρB ns p (3 + (w:Int)) l D1 R1 o none),T2):=by
  simp [ρB] at e3
  simp [bkS,e1',e2',hr,zt,e3,ρB,bkD]
 obtain ⟨ds',i',rfl,_⟩:=t2
 have oe:=pG (n:=0) (fl:=.rt (bkD D1 R1)) (ρ:=ρB ns p (3 + (w:Int)) l D1 R1 o none) (T:=[]) (row:=[.list ds',.int i']) rfl
 rw [← es] at oe
 rw [BX]
 simp [rq,ec,ed,rz]
 exact congrArg eK oe
inductive SV:Nat→PyData→Prop where
 | int {n:Nat} {i:Int}:SV n (.int i)
 | str {n:Nat} {x:Str}:SV n (.str x)
 | tup {n:Nat} {xs:List PyData}:xs.length≤1000→(∀ d∈xs,SV n d)→SV (n + 1) (.tuple xs)
 | dct {n:Nat} {ds:Dc}:(∀ q∈ds,∃ x,q.1=.str x∧aM ds x=some q.2)→(∀ q∈ds,SV n q.2)→SV (n + 1) (.dict ds)
theorem SV.up {n m:Nat} {d:PyData} (h:SV n d) (l:n≤m):SV m d:=by
 induction h generalizing m with
 | int=>exact .int
 | str=>exact .str
 | tup hl _ ih=>
  obtain ⟨m,rfl⟩:=bj m (by omega)
  exact .tup hl fun d hd=>ih d hd (by omega)
 | dct hq _ ih=>
  obtain ⟨m,rfl⟩:=bj m (by omega)
  exact .dct hq fun q hq'=>ih q hq' (by omega)
@[simp] theorem Hj {xs:List PyData} {i:Int}:ixA (.tuple xs) (.int i)=atI xs i:=rfl
@[simp] theorem Gk {ds:Dc}:bf [.dict ds]=some (.int ds.length):=rfl
theorem BM {xs:List PyData} {i:Int}:ixA (.list xs) (.int i)=atI xs i:=rfl
theorem uW:bw .int .dct=false:=rfl
theorem uT:bw .str .dct=false:=rfl
theorem uY:bw .dct .dct=true:=rfl
theorem uU:bw .str .bl=false:=rfl
theorem uS:bw .str .int=false:=rfl
theorem uX:bw .int .bl=false:=rfl
theorem uV:bw .int .int=true:=rfl
theorem uR:bw .str .str=true:=rfl
theorem jt (l:List PyData):gu [.list (l.map fun _=>.bool true)]=some (.bool true):=by
 rw [Dk (fun _=>true)]
 simp
theorem uy {n:Nat} {d:PyData} (h:SV n d):∀ k T,n < k→aY k [.d d,.d d] T=some (.bool true,T):=by
 induction h with
 | int=>
  intro k T hk
  obtain ⟨k,rfl⟩:=bj k (by omega)
  simp [aY,fz,d3,isNone,uW,uT,uU,uS,uX,uV,uR]
 | str=>
  intro k T hk
  obtain ⟨k,rfl⟩:=bj k (by omega)
  simp [aY,fz,d3,isNone,uW,uT,uU,uS,uX,uV,uR]
 | tup hl hs ih=>
  rename_i n xs
  intro k T hk
  obtain ⟨k,rfl⟩:=bj k (by omega)
  have hr:=dR (j:=(xs.length:Int)) (by omega) (by omega)
  have c:=cQ (e:=ar (aY k) (ae (ag ixA (aa 1) (aa 0)) (ae (ag ixA (aa 2) (aa 0)) ai))) (ρ:=[some (.d (.tuple xs)),some (.d (.tuple xs))]) (T:=T) (g:=fun _=>.bool true) (ds:=ba 0 xs.length) fun d hd=>by
   obtain ⟨i,hi,rfl⟩:=List.mem_map.mp hd
   have hi':=List.mem_range.mp hi
   obtain ⟨a,ha,hm⟩:=f9 (xs:=xs) (i:=0 + (i:Int)) (by omega) (by omega)
   have:=ih a hm k T (by omega)
   rw [Int.zero_add] at ha
   simp [ha,this]
  have al:=jt (ba 0 xs.length)
  simp [aY,fz,d3,hr,c,al]
 | dct hq hs ih=>
  rename_i n ds
  intro k T hk
  obtain ⟨k,rfl⟩:=bj k (by omega)
  have c:=cQ (e:=bp (ag inA (aa 0) (aa 1)) (ar (aY k) (ae (ag ixA (aa 1) (aa 0)) (ae (ag ixA (aa 2) (aa 0)) ai)))) (ρ:=[some (.d (.dict ds)),some (.d (.dict ds))]) (T:=T) (g:=fun _=>.bool true) (ds:=ds.map (·.1)) fun d hd=>by
   obtain ⟨q,hq1,rfl⟩:=List.mem_map.mp hd
   obtain ⟨x,e1,e2⟩:=hq q hq1
   have:=ih q hq1 k T (by omega)
   rw [e1]
   simp [e2,this]
  have al:=jt (ds.map (·.1))
  simp only [List.map_map] at al
  simp [aY,fz,d3,c,uY,al]
theorem kg:∀ (n:Nat) (d:PyData),aF n d=true→SV n d
 | n,.int i,_=>.int
 | n,.str x,_=>.str
 | n,.none,h=>by cases n <;> cases h
 | n,.bool _,h=>by cases n <;> cases h
 | n,.list _,h=>by cases n <;> cases h
 | n,.dict _,h=>by cases n <;> cases h
 | 0,.tuple _,h=>by cases h
 | n + 1,.tuple xs,h=>by
  have h':(decide (xs.length≤8) && xs.all (aF n))=true:=h
  rw [Bool.and_eq_true] at h'
  have l:=of_decide_eq_true h'.1
  exact .tup (by omega) fun d hd=>kg n d (List.all_eq_true.mp h'.2 d hd)
theorem tE {v:PyData} (h:aT v=true):SV 4 v:=kg 4 v (fT h).1
theorem il {n:Nat} {F K:Dc} (hl:F.length=K.length) (h:∀ q∈K,∃ x,q.1=.str x∧aM F x=some q.2∧aM K x=some q.2∧SV n q.2):∀ k T,n + 1 < k→aY k [.d (.dict F),.d (.dict K)] T=some (.bool true,T):=by
 intro k T hk
 obtain ⟨k,rfl⟩:=bj k (by omega)
 have c:=cQ (e:=bp (ag inA (aa 0) (aa 1)) (ar (aY k) (ae (ag ixA (aa 1) (aa 0)) (ae (ag ixA (aa 2) (aa 0)) ai)))) (ρ:=[some (.d (.dict F)),some (.d (.dict K))]) (T:=T) (g:=fun _=>.bool true) (ds:=K.map (·.1)) fun d hd=>by
  obtain ⟨q,hq1,rfl⟩:=List.mem_map.mp hd
  obtain ⟨x,e1,e2,e3,e4⟩:=h q hq1
  have:=uy e4 k T (by omega)
  rw [e1]
  simp [e2,e3,this]
 have al:=jt (K.map (·.1))
 simp only [List.map_map] at al
 simp [aY,fz,d3,c,uY,al,hl]
theorem me {n:Nat} {a b c d:PyData} {T:Tp} (h1:∀ k,n < k→aY k [.d a,.d c] T=some (.bool true,T)) (h2:∀ k,n < k→aY k [.d b,.d d] T=some (.bool true,T)):∀ k,n + 1 < k→aY k [.d (.tuple [a,b]),.d (.tuple [c,d])] T=some (.bool true,T):=by
 intro k hk
 obtain ⟨k,rfl⟩:=bj k (by omega)
 have hr:=dR (j:=2) (by omega) (by omega)
 have c:=cQ (e:=ar (aY k) (ae (ag ixA (aa 1) (aa 0)) (ae (ag ixA (aa 2) (aa 0)) ai))) (ρ:=[some (.d (.tuple [a,b])),some (.d (.tuple [c,d]))]) (T:=T) (g:=fun _=>.bool true) (ds:=ba 0 2) fun e he=>by
  have:e=.int 0∨e=.int 1:=by simpa [ba,List.range,List.range.loop] using he
  rcases this with rfl | rfl
  ·simp [du,h1 k (by omega)]
  ·simp [dr,h2 k (by omega)]
 have al:=jt (ba 0 2)
 simp [aY,fz,d3,hr,c,al]
theorem yY {xs:List Str} (h:xs.length≤1000) {k:Nat} {T:Tp} (hk:1 < k):aY k [.d (.list (sl xs)),.d (.list (sl xs))] T=some (.bool true,T):=by
 obtain ⟨k,rfl⟩:=bj k (by omega)
 have hr:=dR (j:=(xs.length:Int)) (by omega) (by omega)
 have c:=cQ (e:=ar (aY k) (ae (ag ixA (aa 1) (aa 0)) (ae (ag ixA (aa 2) (aa 0)) ai))) (ρ:=[some (.d (.list (sl xs))),some (.d (.list (sl xs)))]) (T:=T) (g:=fun _=>.bool true) (ds:=ba 0 xs.length) fun d hd=>by
  obtain ⟨i,hi,rfl⟩:=List.mem_map.mp hd
  have hi':=List.mem_range.mp hi
  obtain ⟨a,ha,hm⟩:=f9 (xs:=sl xs) (i:=0 + (i:Int)) (by omega) (by rw [dG]; omega)
  obtain ⟨x,_,rfl⟩:=List.mem_map.mp hm
  have:=uy (n:=0) (d:=.str x) .str k T (by omega)
  rw [Int.zero_add] at ha
  simp [ha,this,BM]
 have al:=jt (ba 0 xs.length)
 simp [aY,fz,d3,dG,hr,c,al]
abbrev OB (x:Str):=StrLaws.occBody x ⟨#[32]⟩ x.length 2
theorem mT {x:Str} {r:List Nat}:∀ (l:List Nat) (st:Array Nat×Nat),(∀ i∈l,(cd x)[i]?≠some 32)→forIn (m:=Id) (l++r) st (OB x)=forIn (m:=Id) r st (OB x)
 | [],st,_=>rfl
 | i::l,st,h=>by
  rw [List.cons_append,List.forIn_cons]
  have e:OB x i st=pure (ForInStep.yield st):=by
   unfold OB StrLaws.occBody
   rw [if_neg fun z=>h i List.mem_cons_self ((StrLaws.subAt_one x 32 i).mp ⟨z.1.2,z.2⟩)]
  rw [e]
  exact mT l st fun j hj=>h j (List.mem_cons_of_mem _ hj)
theorem so {x:Str}:∀ (l:List Nat) (st:Array Nat×Nat),2≤st.fst.size→forIn (m:=Id) l st (OB x)=st
 | [],st,_=>rfl
 | i::l,st,h=>by
  rw [List.forIn_cons]
  have e:OB x i st=pure (ForInStep.yield st):=by
   unfold OB StrLaws.occBody
   rw [if_neg fun z=>by have:=z.1.1.1; omega]
  rw [e]
  exact so l st h
theorem tS {x:Str} {i:Nat} {l:List Nat} {st:Array Nat×Nat} (h:(cd x)[i]? = some 32) (h1:st.fst.size < 2) (h2:st.snd≤i):forIn (m:=Id) (i::l) st (OB x)=forIn (m:=Id) l (st.fst.push i,i + 1) (OB x):=by
 rw [List.forIn_cons]
 obtain ⟨a,b⟩:=(StrLaws.subAt_one x 32 i).mpr h
 have e:OB x i st=pure (ForInStep.yield (st.fst.push i,i + 1)):=by
  unfold OB StrLaws.occBody
  rw [if_pos ⟨⟨⟨h1,h2⟩,a⟩,b⟩]
  rfl
 rw [e]
 rfl
theorem sm {x:Str} {a b c:List Nat} (h:cd x=a++32::(b++32::c)) (ha:32∉a) (hb:32∉b):Builtin.Str.occurrences x ⟨#[32]⟩ 0 x.length 2=[a.length,a.length + 1 + b.length]:=by
 rw [StrLaws.occ_eq]
 have hl:x.length=a.length + (b.length + c.length) + 2:=by
  rw [← b6,h]
  simp
  omega
 have e:List.range' 0 (x.length + 1 - 0)=List.range' 0 a.length++a.length::(List.range' (a.length + 1) b.length++(a.length + 1 + b.length)::List.range' (a.length + 1 + b.length + 1) (c.length + 1)):=by
  rw [← List.range'_succ,List.range'_append_1,← List.range'_succ]
  have:=List.range'_append_1 (s:=0) (m:=a.length) (n:=b.length + (c.length + 1 + 1) + 1)
  rw [Nat.zero_add] at this
  rw [this]
  congr 1
  omega
 have g1:∀ i∈List.range' 0 a.length,(cd x)[i]?≠some 32:=fun i hi z=>by
  have hi':=(List.mem_range'_1.mp hi).2
  rw [h,List.getElem?_append_left (by omega)] at z
  exact ha (List.mem_of_getElem? z)
 have g2:(cd x)[a.length]? = some 32:=by rw [h]; simp
 have g3:∀ i∈List.range' (a.length + 1) b.length,(cd x)[i]?≠some 32:=fun i hi z=>by
  have hi':=List.mem_range'_1.mp hi
  obtain ⟨j,rfl⟩:∃ j,i=a.length + (j + 1):=⟨i - a.length - 1,by omega⟩
  rw [h,List.getElem?_append_right (by omega)] at z
  have:a.length + (j + 1) - a.length=j + 1:=by omega
  rw [this,List.getElem?_cons_succ,List.getElem?_append_left (by omega)] at z
  exact hb (List.mem_of_getElem? z)
 have g4:(cd x)[a.length + 1 + b.length]? = some 32:=by
  rw [h,List.getElem?_append_right (by omega)]
  have:a.length + 1 + b.length - a.length=b.length + 1:=by omega
  rw [this,List.getElem?_cons_succ,List.getElem?_append_right (by omega)]
  simp
 have s3:forIn (m:=Id) (List.range' 0 a.length++a.length::(List.range' (a.length + 1) b.length++(a.length + 1 + b.length)::List.range' (a.length + 1 + b.length + 1) (c.length + 1))) ((#[]:Array Nat),0) (OB x)=(#[a.length,a.length + 1 + b.length],a.length + 1 + b.length + 1):=by
  rw [mT _ _ g1,tS g2 (by simp) (by simp),mT _ _ g3,tS g4 (by simp) (by simp),so _ _ (by simp)]
  rfl
 rw [e]
 show (forIn (m:=Id) _ ((#[]:Array Nat),0) (OB x)).fst.toList=_
 rw [s3]
theorem Cm {x:Str} {i j:Nat}:cd (Builtin.Str.strSub x i j)=((cd x).drop i).take (j - i):=by
 unfold Builtin.Str.strSub cd
 rw [Array.toList_extract,List.extract_eq_take_drop]
theorem A7 {x w y t:Str} (h:cd x=cd w++32::(cd y++32::cd t)) (hw:32∉cd w) (hy:32∉cd y):spl x BL 2=[w,y,t]:=by
 have o:=sm h hw hy
 have hl:x.length=(cd w).length + ((cd y).length + (cd t).length) + 2:=by
  rw [← b6,h]
  simp
  omega
 unfold spl
 have e2:PySem.limitOf x 2=2:=rfl
 rw [e2,i5,o]
 have l1:(⟨#[32]⟩:Str).length=1:=rfl
 rw [l1]
 show [Builtin.Str.strSub x 0 (cd w).length,Builtin.Str.strSub x ((cd w).length + 1) ((cd w).length + 1 + (cd y).length),Builtin.Str.strSub x ((cd w).length + 1 + (cd y).length + 1) x.length]=_
 refine tV ?_
 simp only [List.map_cons,List.map_nil,Cm,h]
 have d1:(cd w++32::(cd y++32::cd t)).drop ((cd w).length + 1)=cd y++32::cd t:=by
  rw [← List.drop_drop,List.drop_left]
  rfl
 have d2:(cd w++32::(cd y++32::cd t)).drop ((cd w).length + 1 + (cd y).length + 1)=cd t:=by
  rw [Nat.add_assoc ((cd w).length + 1),← List.drop_drop,d1,← List.drop_drop,List.drop_left]
  rfl
 rw [d1,d2,List.drop_zero,Nat.sub_zero,List.take_left]
 have t1:(cd w).length + 1 + (cd y).length - ((cd w).length + 1)=(cd y).length:=by omega
 rw [t1,List.take_left,List.take_of_length_le (by omega)]
def lnT (p:String) (x t:Str):Str:=Str.ofString p++x++Str.ofString " "++t
theorem uP {p w:String} {x t:Str} (h:cd (Str.ofString p)=cd (Str.ofString w)++[32]):cd (lnT p x t)=cd (Str.ofString w)++32::(cd x++32::cd t):=by
 have b:cd " " = [32]:=by decide +kernel
 unfold lnT
 rw [iP,iP,iP,b,h]
 simp
theorem Cp {x w y t:Str} (h:cd x=cd w++32::(cd y++32::cd t)) (hw:32∉cd w) (hy:32∉cd y) (hl:x.length≤300000):ku 2 (.str x) (.str " ")=some (.list [.str w,.str y,.str t]):=by
 have e:=A7 h hw hy
 have o:=sm h hw hy
 have hx:0 < x.length:=by
  rw [← b6,h]
  simp
  omega
 have hs:iQ x " " 2=true:=by
  have b:Str.ofString " " = ⟨#[32]⟩:=i5
  have k1:Builtin.Str.strKind ⟨#[32]⟩=1:=by decide +kernel
  have k2:¬ Builtin.Str.strKind x < 1:=by
   unfold Builtin.Str.strKind
   split
   ·omega
   ·split <;> omega
  have l1:(⟨#[32]⟩:Str).length=1:=rfl
  have lm:PySem.limitOf x 2=2:=rfl
  have l2:¬ x.length < 1:=by omega
  have e':spl x ⟨#[32]⟩ 2=[w,y,t]:=by rw [← i5]; exact e
  have z:sizeLine=16777216:=rfl
  unfold iQ
  rw [b,e']
  simp [k1,k2,l1,lm,o,l2]
  omega
 have b:spl x " " 2=[w,y,t]:=e
 show (if iQ x " " 2=true then some (PyData.list ((spl x " " 2).map PyData.str)) else none)=_
 rw [if_pos hs,b]
 rfl
inductive Ent (C:Addr) (D0 R0:Dc) (x:Str):String→String→Str→PyData→Prop where
 | told {v:PyData}:aM D0 x=some v→aT v=true→Ent C D0 R0 x "told " "told" (mk (cst 4 v)) v
 | made {r:PyData} {q:Nat} {ws:List Str}:aM D0 x=none→aM R0 x=some r→RX C 0 7 q ws r→Ent C D0 R0 x "made " "made" (Str.join BL ws) r
section
variable {C:Addr} {D0 R0:Dc} {x t:Str} {p w:String} {c:PyData}
theorem Ent.len (h:Ent C D0 R0 x p w t c):t.length≤200000:=by
 cases h with
 | told _ hv=>exact Nat.le_trans (mE hv).2 (by decide)
 | made _ _ hr=>exact Nat.le_trans (rg _) hr.len
theorem Ent.wd (h:Ent C D0 R0 x p w t c):cd (Str.ofString p)=cd (Str.ofString w)++[32]∧32∉cd (Str.ofString w)∧(Str.ofString p).length=5:=by
 cases h with
 | told _ _=>decide +kernel
 | made _ _ _=>decide +kernel
theorem qZ (h:isName (.str x)=true):x.length≤8:=by
 have h':(decide (1≤x.length) && decide (x.length≤8) && has LET x)=true:=h
 simp only [Bool.and_eq_true,decide_eq_true_eq] at h'
 exact h'.1.2
theorem Ent.ll (h:Ent C D0 R0 x p w t c) (hx:isName (.str x)=true):(lnT p x t).length≤300000:=by
 have a:=h.len
 have b:=h.wd.2.2
 have d:=qZ hx
 unfold lnT
 have e:(Str.ofString " ").length=1:=by decide +kernel
 rw [Str.length_append,Str.length_append,Str.length_append]
 omega
theorem Ent.notnone (h:Ent C D0 R0 x p w t c):isNone c=false:=by
 cases h with
 | told _ hv=>exact G.notnone hv
 | made _ _ hr=>
  have:=hr.bt
  cases c <;> first | rfl | cases this
theorem zN (h:Ent C D0 R0 x p w t c):gy C [.d (.str (Str.ofString w)),.d (.str t)] []=some (c,[]):=by
 cases h with
 | told _ hv=>
  have:=uA [] hv
  simp [gy,this]
 | made _ _ hr=>
  have:=Dz (t0:=[]) hr (by decide)
  simp [gy,jd,this]
theorem B6 (h:Ent C D0 R0 x p w t c) (hx:isName (.str x)=true):gE C [.d (.str (lnT p x t))] []=some (.tuple [.str (Str.ofString w),.str x,c],[]):=by
 have s:=Cp (uP h.wd.1) h.wd.2.1 (mX hx).1.no (h.ll hx)
 have e1:=zN h
 have e2:=qH [] hx
 have e3:=h.notnone
 have a0:∀ {a b d:PyData},atI [a,b,d] 0=some a:=rfl
 have a1:∀ {a b d:PyData},atI [a,b,d] 1=some b:=rfl
 have a2:∀ {a b d:PyData},atI [a,b,d] 2=some d:=rfl
 simp [gE,s,a0,a1,a2,e1,e2,e3]
end
theorem ue {i:Nat} {z1 z2:Str} {ρ:Rho} {T:Tp}:jW i z1 z2 ρ T=lV z1 z2 T ρ[i]?:=rfl
theorem sM {z1 z2 x:Str} {T:Tp}:lV z1 z2 T (some (some (.d (.str x))))=if z1.length + x.length + z2.length≤sizeLine then some (.d (.str (z1++x++z2)),T) else none:=rfl
section
variable {C:Addr} {D0 R0:Dc} {x t:Str} {p w:String} {c:PyData}
theorem sC (h:Ent C D0 R0 x p w t c) (hx:isName (.str x)=true):(Str.ofString p).length + x.length≤sizeLine∧(Str.ofString p++x).length + (Str.ofString " ").length≤sizeLine∧(Str.ofString p).length + x.length + (Str.ofString " ").length≤sizeLine∧(Str.ofString p++x++Str.ofString " ").length + t.length≤sizeLine:=by
 have a:=h.len
 have b:=h.wd.2.2
 have d:=qZ hx
 have e:(Str.ofString " ").length=1:=by decide +kernel
 have z:sizeLine=16777216:=rfl
 rw [Str.length_append (Str.ofString p++x),Str.length_append (Str.ofString p)]
 omega
theorem B7 (h:Ent C D0 R0 x p w t c) (hx:isName (.str x)=true) (T:Tp):fN [.d (bkD D0 R0),.d (.str x)] T=some (.str (lnT p x t),T):=by
 obtain ⟨q1,q2,q3,q4⟩:=sC h hx
 cases h with
 | told hk hv=>
  have e:=nv 4 25 c T (fT hv).1 (fT hv).2 (by decide)
  simp [fN,ij,bkD,du,dr,hk,ue,sM,q3,q4,e,lnT]
 | made h0 hk hr=>
  have e:=Dy hr (by decide) T
  simp [fN,ij,bkD,du,dr,h0,hk,ue,sM,q3,q4,e,lnT]
end
theorem ud {N:Nat} {s:FS} {ws:List D.W} {T:Tp}:gW N s ws T=if dW ws=true then kZ (s (ws.map some++List.replicate (N - ws.length) none) T) else none:=rfl
def rbB (C:Addr):FS:=(aq (aO 5 (ar (gE C) (ae (aa 4) ai))) (aq (fIf (bD (aB (ag isD (aa 5) (fC .none))) (bD (aB (ag geD (aa 3) (fC (.int 40)))) (bD (aB (ag inA (ag ixD (aa 5) (fC (.int 1))) (aa 1))) (aB (ag inA (ag ixD (aa 5) (fC (.int 1))) (aa 2)))))) jK aJ) (fIf (aB (ag eqD (ag ixD (aa 5) (fC (.int 0))) (fC (.str "told")))) (eN 1 (ag ixD (aa 5) (fC (.int 1))) (ag ixD (aa 5) (fC (.int 2)))) (eN 2 (ag ixD (aa 5) (fC (.int 1))) (ag ixD (aa 5) (fC (.int 2)))))))
theorem Bc (C:Addr):cO C=gW 6 (aq (eM 1) (aq (eM 2) (aq (k7 3 4 (aa 0) (rbB C)) (jA 1 2)))):=rfl
structure RdS (D0 R0:Dc) (xs:List Str) (A B:Dc):Prop where
 a:∀ x,aM A x=if x∈xs then aM D0 x else none
 b:∀ x,aM B x=if x∈xs∧aM D0 x=none then aM R0 x else none
 la:A.length=xs.countP fun x=>(aM D0 x).isSome
 lb:B.length=xs.countP fun x=>(aM D0 x).isNone
theorem RdS.nil {D0 R0:Dc}:RdS D0 R0 [] [] []:=⟨fun x=>by simp [aM],fun x=>by simp [aM],rfl,rfl⟩
def ρR (L:PyData) (A B:Dc) (o3 o4 o5:Option D.W):Rho:=[some (.d L),some (.loc (.dict A)),some (.loc (.dict B)),o3,o4,o5]
def Lns (C:Addr) (D0 R0:Dc) (f:Str→Str) (x:Str):Prop:=isName (.str x)=true∧∃ p w t c,Ent C D0 R0 x p w t c∧f x=lnT p x t
section
variable {C:Addr} {D0 R0:Dc} {f:Str→Str}
theorem Bd {x:Str} {done:List Str} {A B:Dc} {L:PyData} {n:Nat} {o5:Option D.W} (h:Lns C D0 R0 f x) (hx:x∉done) (hn:n < 40) (hd:done.length≤40) (r:RdS D0 R0 done A B) :
  ∃ A' B' o,rbB C (ρR L A B (some (.d (.int (n:Int)))) (some (.d (.str (f x)))) o5) []=some ((.nx,ρR L A' B' (some (.d (.int (n:Int)))) (some (.d (.str (f x)))) o),[])∧RdS D0 R0 (done++[x]) A' B':=by
 obtain ⟨hnm,p,w,t,c,hE,hf⟩:=h
 have e1:=B6 hE hnm
 rw [← hf] at e1
 have nA:aM A x=none:=by rw [r.a,if_neg hx]
 have nB:aM B x=none:=by rw [r.b,if_neg (fun z=>hx z.1)]
 have lA:A.length≤1000:=by
  have:=r.la
  have:=List.countP_le_length (p:=fun x=>(aM D0 x).isSome) (l:=done)
  omega
 have lB:B.length≤1000:=by
  have:=r.lb
  have:=List.countP_le_length (p:=fun x=>(aM D0 x).isNone) (l:=done)
  omega
 have hn':¬ (40:Int)≤(n:Int):=by omega
 have a0:∀ {a b d:PyData},atI [a,b,d] 0=some a:=rfl
 have a1:∀ {a b d:PyData},atI [a,b,d] 1=some b:=rfl
 have a2:∀ {a b d:PyData},atI [a,b,d] 2=some d:=rfl
 have nn:∀ l:List PyData,isNone (.tuple l)=false:=fun _=>rfl
 cases hE with
 | told hk hv=>
  refine ⟨putN A x c,B,some (.d (.tuple [.str "told",.str x,c])),?_,⟨fun y=>?_,fun y=>?_,?_,?_⟩⟩
  ·simp [rbB,ρR,e1,a0,a1,a2,nA,nB,lA,hn',nn]
  ·rw [gI]
   by_cases hy:x=y
   ·subst hy
    simp [hk]
   ·rw [if_neg hy,r.a]
    have:y≠x:=fun z=>hy z.symm
    simp [this]
  ·rw [r.b]
   by_cases hy:y=x
   ·subst hy
    simp [hk]
   ·simp [hy]
  ·rw [ki nA,r.la,List.countP_append]
   simp [hk]
  ·rw [r.lb,List.countP_append]
   simp [hk]
 | made h0 hk hr=>
  refine ⟨A,putN B x c,some (.d (.tuple [.str "made",.str x,c])),?_,⟨fun y=>?_,fun y=>?_,?_,?_⟩⟩
  ·simp [rbB,ρR,e1,a0,a1,a2,nA,nB,lB,hn',nn]
  ·rw [r.a]
   by_cases hy:y=x
   ·subst hy
    simp [h0]
   ·simp [hy]
  ·rw [gI]
   by_cases hy:x=y
   ·subst hy
    simp [hk,h0]
   ·rw [if_neg hy,r.b]
    have:y≠x:=fun z=>hy z.symm
    simp [this]
  ·rw [r.la,List.countP_append]
   simp [h0]
  ·rw [ki nB,r.lb,List.countP_append]
   simp [h0]
theorem tL {L:PyData}:∀ (xs done:List Str) (n:Nat) (A B:Dc) (o3 o4 o5:Option D.W),(∀ x∈xs,Lns C D0 R0 f x)→(done++xs).Nodup→n + xs.length≤40→done.length=n→RdS D0 R0 done A B →
  ∃ A' B' o3' o4' o5',iX 3 4 (rbB C) n (nmL (xs.map f)) (ρR L A B o3 o4 o5) []=some ((.nx,ρR L A' B' o3' o4' o5'),[])∧RdS D0 R0 (done++xs) A' B'
 | [],done,n,A,B,o3,o4,o5,_,_,_,_,r=>⟨A,B,o3,o4,o5,rfl,by rw [List.append_nil]; exact r⟩
 | x::xs,done,n,A,B,o3,o4,o5,h,nd,hl,hd,r=>by
  have hl':n + (xs.length + 1)≤40:=hl
  have hx:x∉done:=fun z=>(List.nodup_append.mp nd).2.2 x z x List.mem_cons_self rfl
  obtain ⟨A1,B1,o,e1,r1⟩:=Bd (L:=L) (n:=n) (o5:=o5) (h x List.mem_cons_self) hx (by omega) (by omega) r
  have ea:done++x::xs=done++[x]++xs:=by simp
  rw [ea] at nd ⊢
  obtain ⟨A2,B2,p3,p4,p5,e2,r2⟩:=tL (L:=L) xs (done++[x]) (n + 1) A1 B1 (some (.d (.int (n:Int)))) (some (.d (.str (f x)))) o (fun y hy=>h y (List.mem_cons_of_mem _ hy)) nd (by omega) (by simp; omega) r1
  refine ⟨A2,B2,p3,p4,p5,?_,r2⟩
  have st:rbB C (((ρR L A B o3 o4 o5).set 3 (some (.d (.int (n:Int))))).set 4 (some (.d (.str (f x))))) []=_:=e1
  show bnd (rbB C (((ρR L A B o3 o4 o5).set 3 (some (.d (.int (n:Int))))).set 4 (some (.d (.str (f x))))) []) _=_
  rw [st]
  exact e2
theorem yP {xs:List Str} (h:∀ x∈xs,Lns C D0 R0 f x) (nd:xs.Nodup) (hl:xs.length≤40):∃ A B,cO C [.d (.list (nmL (xs.map f)))] []=some (bkD A B,[])∧RdS D0 R0 xs A B:=by
 obtain ⟨A,B,o3,o4,o5,e,r⟩:=tL (L:=.list (nmL (xs.map f))) xs [] 0 [] [] none none none h (by simpa using nd) (by omega) rfl RdS.nil
 refine ⟨A,B,?_,by simpa using r⟩
 rw [Bc,ud]
 have e':k7 3 4 (aa 0) (rbB C) (ρR (.list (nmL (xs.map f))) [] [] none none none) []=some ((.nx,ρR (.list (nmL (xs.map f))) A B o3 o4 o5),[]):=e
 simp only [ρR] at e'
 simp [e',jA,nK,kZ,bkD]
end
def nmS:PyData→Str
 | .str x=>x
 | _=>BL
def kn (ds:Dc):List Str:=ds.map fun q=>nmS q.1
theorem m5 {ds:Dc} (h:∀ q∈ds,∃ x,q.1=.str x):gZ ds=nmL (kn ds):=by
 unfold gZ nmL kn
 rw [List.map_map]
 exact List.map_congr_left fun q hq=>by
  obtain ⟨x,e⟩:=h q hq
  show q.1=PyData.str (nmS q.1)
  rw [e]
  rfl
theorem mV (a b:List Str):nmL a++nmL b=nmL (a++b):=by simp [nmL]
theorem rY {l:List Str} (h:l.length < 64):iR [.list (nmL l)]=some (.list (nmL (cA l))):=by
 have e:cm (nmL l)=some l:=kq l
 show og (cm (nmL l))=_
 rw [e]
 show (if l.length < 64 then _ else _)=_
 rw [if_pos h]
 rfl
theorem rA {ds:Dc}:fw [.dict ds]=some (.list (gZ ds)):=rfl
section
variable {C:Addr} {S:List Str} {D0 R0:Dc}
theorem BkP.dkn (b:BkP C S D0 R0):gZ D0=nmL (kn D0):=m5 fun q hq=>by
 obtain ⟨x,v,rfl,_⟩:=b.dk q hq
 exact ⟨x,rfl⟩
theorem BkP.rkn (b:BkP C S D0 R0):gZ R0=nmL (kn R0):=m5 fun q hq=>by
 obtain ⟨x,v,rfl,_⟩:=b.rk q hq
 exact ⟨x,rfl⟩
theorem BkP.ent (b:BkP C S D0 R0) {x:Str} (h:x∈kn D0++kn R0):isName (.str x)=true∧∃ p w t c,Ent C D0 R0 x p w t c:=by
 rcases List.mem_append.mp h with z | z
 ·obtain ⟨q,hq,rfl⟩:=List.mem_map.mp z
  obtain ⟨y,v,rfl,hv,hk,hS⟩:=b.dk q hq
  exact ⟨b.nm y hS,_,_,_,_,.told hk hv⟩
 ·obtain ⟨q,hq,rfl⟩:=List.mem_map.mp z
  obtain ⟨y,v,rfl,⟨c,ws,hr,_⟩,hk,h0,hS⟩:=b.rk q hq
  exact ⟨b.nm y hS,_,_,_,_,.made h0 hk hr⟩
theorem BkP.fn (b:BkP C S D0 R0):∃ f:Str→Str,∀ x∈kn D0++kn R0,Lns C D0 R0 f x:=by
 have h:∀ x,∃ y:Str,x∈kn D0++kn R0→∃ p w t c,Ent C D0 R0 x p w t c∧y=lnT p x t:=fun x=>by
  by_cases hx:x∈kn D0++kn R0
  ·obtain ⟨_,p,w,t,c,e⟩:=b.ent hx
   exact ⟨lnT p x t,fun _=>⟨p,w,t,c,e,rfl⟩⟩
  ·exact ⟨x,fun z=>absurd z hx⟩
 obtain ⟨f,hf⟩:=Classical.axiomOfChoice h
 exact ⟨f,fun x hx=>⟨(b.ent hx).1,hf x hx⟩⟩
theorem uN {ds:Dc} (h:∀ q∈ds,∃ x,q.1=.str x) (nd:(ds.map (·.1)).Nodup):(kn ds).Nodup:=by
 have e:(ds.map (·.1))=nmL (kn ds):=m5 h
 rw [e] at nd
 exact (List.pairwise_map.mp nd).imp fun h e=>h (by rw [e])
theorem BkP.nd (b:BkP C S D0 R0):(kn D0++kn R0).Nodup:=by
 refine List.nodup_append.mpr ⟨uN (fun q hq=>?_) b.dnd,uN (fun q hq=>?_) b.rnd,fun x hx y hy e=>?_⟩
 ·obtain ⟨x,v,rfl,_⟩:=b.dk q hq
  exact ⟨x,rfl⟩
 ·obtain ⟨x,v,rfl,_⟩:=b.rk q hq
  exact ⟨x,rfl⟩
 ·subst e
  obtain ⟨q,hq,rfl⟩:=List.mem_map.mp hx
  obtain ⟨y,v,rfl,_,hk,_⟩:=b.dk q hq
  obtain ⟨q2,hq2,e2⟩:=List.mem_map.mp hy
  obtain ⟨y2,v2,rfl,_,_,h0,_⟩:=b.rk q2 hq2
  have:y2=y:=e2
  subst this
  rw [hk] at h0
  cases h0
theorem BkP.cnt (b:BkP C S D0 R0):(kn D0++kn R0).countP (fun x=>(aM D0 x).isSome)=D0.length∧(kn D0++kn R0).countP (fun x=>(aM D0 x).isNone)=R0.length:=by
 have a1:∀ x∈kn D0,(aM D0 x).isSome=true:=fun x hx=>by
  obtain ⟨q,hq,rfl⟩:=List.mem_map.mp hx
  obtain ⟨y,v,rfl,_,hk,_⟩:=b.dk q hq
  show (aM D0 y).isSome=true
  rw [hk]
  rfl
 have a2:∀ x∈kn R0,(aM D0 x).isNone=true:=fun x hx=>by
  obtain ⟨q,hq,rfl⟩:=List.mem_map.mp hx
  obtain ⟨y,v,rfl,_,hk,h0,_⟩:=b.rk q hq
  show (aM D0 y).isNone=true
  rw [h0]
  rfl
 have l1:(kn D0).length=D0.length:=by simp [kn]
 have l2:(kn R0).length=R0.length:=by simp [kn]
 constructor
 ·rw [List.countP_append,List.countP_eq_length.mpr a1,List.countP_eq_zero.mpr fun x hx=>by have:=a2 x hx; cases h:aM D0 x <;> simp_all,l1]
  rfl
 ·rw [List.countP_append,List.countP_eq_zero.mpr fun x hx=>by have:=a1 x hx; cases h:aM D0 x <;> simp_all,List.countP_eq_length.mpr a2,l2,Nat.zero_add]
theorem BkP.back (b:BkP C S D0 R0) {xs:List Str} (hp:xs.Perm (kn D0++kn R0)) {A B:Dc} (r:RdS D0 R0 xs A B):aY 25 [.d (bkD A B),.d (bkD D0 R0)] []=some (.bool true,[]):=by
 obtain ⟨c1,c2⟩:=b.cnt
 rw [← hp.countP_eq] at c1 c2
 refine me (n:=22) (fun k hk=>il (n:=20) (by rw [r.la,c1]) (fun q hq=>?_) k [] (by omega)) (fun k hk=>il (n:=20) (by rw [r.lb,c2]) (fun q hq=>?_) k [] (by omega)) 25 (by decide)
 ·obtain ⟨y,v,rfl,hv,hk,hS⟩:=b.dk q hq
  have hm:y∈xs:=hp.mem_iff.mpr (List.mem_append_left _ (List.mem_map.mpr ⟨_,hq,rfl⟩))
  exact ⟨y,rfl,by rw [r.a,if_pos hm]; exact hk,hk,(tE hv).up (by decide)⟩
 ·obtain ⟨y,v,rfl,⟨c,ws,hr,_⟩,hk,h0,hS⟩:=b.rk q hq
  have hm:y∈xs:=hp.mem_iff.mpr (List.mem_append_right _ (List.mem_map.mpr ⟨_,hq,rfl⟩))
  exact ⟨y,rfl,by rw [r.b,if_pos ⟨hm,h0⟩]; exact hk,hk,kg 20 v hr.bt⟩
theorem BkP.selfsame (b:BkP C S D0 R0):aY 25 [.d (bkD D0 R0),.d (bkD D0 R0)] []=some (.bool true,[]):=by
 refine me (n:=22) (fun k hk=>il (n:=20) rfl (fun q hq=>?_) k [] (by omega)) (fun k hk=>il (n:=20) rfl (fun q hq=>?_) k [] (by omega)) 25 (by decide)
 ·obtain ⟨y,v,rfl,hv,hk,hS⟩:=b.dk q hq
  exact ⟨y,rfl,hk,hk,(tE hv).up (by decide)⟩
 ·obtain ⟨y,v,rfl,⟨c,ws,hr,_⟩,hk,h0,hS⟩:=b.rk q hq
  exact ⟨y,rfl,hk,hk,kg 20 v hr.bt⟩
theorem BkP.nlen (b:BkP C S D0 R0):(kn D0++kn R0).length=S.length:=by
 have:=b.len
 simp [kn]
 omega
theorem qG (b:BkP C S D0 R0) (hS:S.length≤10) (T:Tp):ie [.d (bkD D0 R0)] T=some (.list (nmL (cA (kn D0++kn R0))),T):=by
 have l:=b.nlen
 have l':(nmL (kn D0)).length + (nmL (kn R0)).length≤sizeLine:=by
  have z:sizeLine=16777216:=rfl
  rw [List.length_append] at l
  simp [nmL]
  omega
 simp [ie,bkD,du,dr,rA,b.dkn,b.rkn,l',mV,rY (show (kn D0++kn R0).length < 64 by omega)]
theorem yj (b:BkP C S D0 R0) (hS:S.length≤10) {f:Str→Str} (hf:∀ x∈kn D0++kn R0,Lns C D0 R0 f x) (T:Tp):fO [.d (bkD D0 R0)] T=some (.list (nmL ((cA (kn D0++kn R0)).map f)),T):=by
 have e1:=qG b hS T
 have c:=cQ (e:=ar fN (ae (aa 1) (ae (aa 0) ai))) (ρ:=[some (.d (bkD D0 R0))]) (T:=T) (g:=fun d=>.str (f (nmS d))) (ds:=nmL (cA (kn D0++kn R0))) fun d hd=>by
  obtain ⟨x,hx,rfl⟩:=List.mem_map.mp hd
  obtain ⟨hn,p,w,t,c,hE,e⟩:=hf x ((jf _).mem_iff.mp hx)
  have e2:=B7 hE hn T
  rw [← e] at e2
  simp [e2,nmS]
 have m:(nmL (cA (kn D0++kn R0))).map (fun d=>PyData.str (f (nmS d)))=nmL ((cA (kn D0++kn R0)).map f):=by
  simp [nmL,nmS]
 rw [m] at c
 show gW 1 _ _ T=_
 rw [ud]
 simp [nW,e1,c,tK,kZ]
end
def lwA:FS:=(fIf (aB (ag inA (aa 4) (ag ixD (aa 1) (fC (.int 0))))) (cM 3 (ag aG (ag aG (ag aG (fC (.str "told ")) (aa 4)) (fC (.str " "))) (ar (cx 25) (ae (ag ixA (ag ixD (aa 1) (fC (.int 0))) (aa 4)) ai)))) (cM 3 (ag aG (ag aG (ag aG (fC (.str "made ")) (aa 4)) (fC (.str " "))) (ag g0 (fC (.str " ")) (ar (br 25) (ae (ag ixA (ag ixD (aa 1) (fC (.int 1))) (aa 4)) ai))))))
def lwB:FS:=(aq (k6 6 fO (ae (aa 1) ai)) (aq (fIf (cV (bg (iN (aY 25) (ae (aa 6) (ae (aa 3) ai))))) (aw (fC (.bool false))) aJ) (aq (cM 6 (fC (.str "x"))) (h9 6 aJ))))
def lwC (C:Addr):FS:=(aq (aO 9 (fCB gj (ae (aa 8) ai))) (kj 6 (cO C) (ae (aa 9) ai) (bD (cV (bg (iN (aY 25) (ae (aa 6) (ae (aa 2) ai))))) (aB (ag neG (aa 9) (aa 8)))) (aw (fC (.bool false))) aJ))
theorem C3 (C:Addr):jI C=aS 10 (aq (aO 1 (ar gD (ae (aa 0) (ae (fC (.int 1)) (ae (ag eqD (ag bC (ar cB (ae (aa 0) (ae (fC (.int 0)) ai))) (fC (.int 3))) (fC (.int 0))) ai))))) (aq (aO 2 (aR .tuple (ae (iZ (ag ixD (aa 1) (fC (.int 0)))) (ae (iZ (ag ixD (aa 1) (fC (.int 1)))) ai)))) (aq (fB 3 ai) (aq (cw 4 (b8 (fCB iR (ae (ag aG (fCB fw (ae (ag ixD (aa 1) (fC (.int 0))) ai)) (fCB fw (ae (ag ixD (aa 1) (fC (.int 1))) ai))) ai))) lwA) (aq (cw 5 (cH (fC (.int 2))) lwB) (aq (aO 7 (ag bC (ag dZ (ar cB (ae (aa 0) (ae (fC (.int 0)) ai))) (fC (.int 3))) (fCB bf (ae (aa 3) ai)))) (h9 3 (aq (cw 8 (b8 (aR .list (ae (aa 3) (ae (ag aG (fSl (aa 3) (fP (aa 7)) cf) (fSl (aa 3) cf (fP (aa 7)))) (ae (fUn jM (aa 3)) ai))))) (lwC C)) (aw (bp (ar (aY 25) (ae (iF (cO C) (ae (aa 3) ai)) (ae (aa 2) ai))) (bp (ar (aY 25) (ae (aa 1) (ae (aa 2) ai))) (ar (aY 25) (ae (iF (cO C) (ae (aR .list ai) ai)) (ae (aR .tuple (ae (fC (.dict [])) (ae (fC (.dict [])) ai))) ai)))))))))))))):=rfl
def jC (m:FnM) (ws:List D.W) (T1:Tp):Option (D.W×Tp):=if jR ws=true then (match m (ws.map jb) [] with
 | some (x,_)=>if cX x=true then some (.d x,T1) else none
 | none=>none) else none
theorem rC {m:FnM} {a:FA} {ρ:Rho} {T:Tp}:iN m a ρ T=bnd (a ρ T) (jC m):=rfl
theorem qz {m:FnM} {ws:List D.W} {T T':Tp} {x:PyData} (h1:jR ws=true) (h2:m (ws.map jb) []=some (x,T')) (h3:cX x=true):jC m ws T=some (.d x,T):=by
 unfold jC
 rw [if_pos h1,h2]
 dsimp only
 rw [if_pos h3]
theorem Az {i:Nat} {m:FnM} {g:FA} {ρ:Rho} {T:Tp}:k6 i m g ρ T=bnd (g ρ T) fun ws T1=>bnd (m ws T1) (nH i ρ):=rfl
theorem zy {i:Nat} {ρ:Rho} {xs:List PyData} {T:Tp}:nH i ρ (.list xs) T=some ((.nx,ρ.set i (some (.loc (.list xs)))),T):=rfl
theorem BN {f:FE} {ρ:Rho} {T:Tp}:iZ f ρ T=bnd (f ρ T) fun w T1=>lI (ia (view T1 w)) T1:=rfl
theorem AA {ds:Dc} {T:Tp}:lI (some ds) T=some (.d (.dict ds),T):=rfl
theorem zE {m:FnM} {g:FA} {ρ:Rho} {T:Tp}:iF m g ρ T=bnd (g ρ T) fun ws T1=>bnd (m ws T1) jr:=rfl
theorem cop {A B:Dc} {T:Tp}:jr (bkD A B) T=some (.d (bkD A B),T):=rfl
theorem AQ {c:Nat}:∀ (ls:List (List Nat)),c∈aV [32] ls→c=32∨∃ l∈ls,c∈l
 | [],h=>by cases h
 | x::r,h=>by
  rw [jZ] at h
  rcases List.mem_append.mp h with h | h
  ·exact .inr ⟨x,List.mem_cons_self,h⟩
  ·obtain ⟨y,hy,hc⟩:=List.mem_flatten.mp h
   obtain ⟨l,hl,rfl⟩:=List.mem_map.mp hy
   rcases List.mem_append.mp hc with z | z
   ·exact .inl (List.mem_singleton.mp z)
   ·exact .inr ⟨l,List.mem_cons_of_mem _ hl,z⟩
theorem Eo {x:Str} (h:∀ c∈cd x,c < 128):PyData.strOk x=true:=by
 unfold PyData.strOk
 rw [Array.all_eq_true']
 intro c hc
 exact decide_eq_true (Nat.lt_trans (h c (by simpa [cd] using hc)) (by decide))
theorem Lns.sok {C:Addr} {D0 R0:Dc} {f:Str→Str} {x:Str} (h:Lns C D0 R0 f x):PyData.strOk (f x)=true:=by
 obtain ⟨hn,p,w,t,c,hE,e⟩:=h
 rw [e]
 refine Eo fun k hk=>?_
 rw [uP hE.wd.1] at hk
 have hw:∀ k∈cd (Str.ofString w),k < 128:=by cases hE <;> decide +kernel
 have ht:∀ k∈cd t,k < 128:=by
  cases hE with
  | told _ hv=>exact fun k z=>((mE hv).1 k z).1
  | made _ _ hr=>
   intro k z
   rw [iD,vd] at z
   rcases AQ _ z with rfl | ⟨l,hl,hc⟩
   ·decide
   ·obtain ⟨u,hu,rfl⟩:=List.mem_map.mp hl
    exact ((hr.ok u hu).1 k hc).1
 rcases List.mem_append.mp hk with z | z
 ·exact hw k z
 ·rcases List.mem_cons.mp z with rfl | z
  ·decide
  ·rcases List.mem_append.mp z with z | z
   ·exact ((mX hn).1 k z).1
   ·rcases List.mem_cons.mp z with rfl | z
    ·decide
    ·exact ht k z
theorem yV (l:List Str) (hl:∀ x∈l,PyData.strOk x=true):SeqAt.shaped (.list (nmL l))=true∧(PyData.list (nmL l)).canLay0=true:=by
 have c:PyData.canLayAll0 (nmL l)=true:=by
  induction l with
  | nil=>rfl
  | cons x r ih=>
   have:=ih fun y hy=>hl y (List.mem_cons_of_mem _ hy)
   simpa [nmL,PyData.canLayAll0,PyData.canLay0,hl x List.mem_cons_self] using this
 have d:∀ l:List Str,PyData.depthAll (nmL l)=0:=by
  intro l
  induction l with
  | nil=>rfl
  | cons x r ih=>simpa [nmL,PyData.depthAll,PyData.depth] using ih
 have c2:(PyData.list (nmL l)).canLay0=true:=by simpa [PyData.canLay0] using c
 refine ⟨?_,c2⟩
 unfold SeqAt.shaped
 rw [c2]
 simp [PyData.depth,d]
theorem Aj (l:List Str) (hl:∀ x∈l,PyData.strOk x=true):neG (.list (nmL l)) (.list (nmL l))=some (.bool false):=by
 obtain ⟨a,b⟩:=yV l hl
 unfold neG
 rw [if_pos ⟨a,a⟩,SeqAt.eqv_refl _ b]
 rfl
theorem zD:eJ []=[]:=rfl
theorem zB {r:Rho}:eJ (none::r)=none::eJ r:=rfl
theorem zC {x:PyData} {r:Rho}:eJ (some (.d x)::r)=some (.d x)::eJ r:=rfl
section
variable {C:Addr} {S:List Str} {D0 R0:Dc} {f:Str→Str} {sc:PyData}
def ρ1 (sc:PyData) (D0 R0:Dc) (acc:List Str) (o4:Option D.W):Rho:=[some (.d sc),some (.d (bkD D0 R0)),some (.d (bkD D0 R0)),some (.loc (.list (nmL acc))),o4,none,none,none,none,none]
theorem Fq {x:Str} {acc:List Str} {o4:Option D.W} (h:Lns C D0 R0 f x) (hl:acc.length≤1000):lwA ((ρ1 sc D0 R0 acc o4).set 4 (some (.d (.str x)))) []=some ((.nx,ρ1 sc D0 R0 (acc++[f x]) (some (.d (.str x)))),[]):=by
 obtain ⟨hn,p,w,t,c,hE,e⟩:=h
 obtain ⟨q1,q2,q3,q4⟩:=sC hE hn
 have z:(nmL acc).length < sizeLine:=by
  have:=iw
  rw [ei]
  omega
 have ap:nmL (acc++[f x])=nmL acc++[.str (f x)]:=by simp [nmL]
 unfold ρ1
 rw [ap,e]
 cases hE with
 | told hk hv=>
  have e1:=mP 4 25 c [] (fT hv).1 (fT hv).2 (by decide)
  simp [lwA,bkD,du,dr,hk,q1,q2,q4,e1,lnT,z]
 | made h0 hk hr=>
  obtain ⟨e1,e2⟩:=Dx hr (by decide) []
  have e3:g0 (.str " ") (.list (sl _))=_:=e2
  simp [lwA,bkD,du,dr,h0,hk,q1,q2,q4,e1,e3,lnT,z]
theorem sy:∀ (xs acc:List Str) (o4:Option D.W),(∀ x∈xs,Lns C D0 R0 f x)→acc.length + xs.length≤1000→∃ o,forL 4 lwA (nmL xs) (ρ1 sc D0 R0 acc o4) []=some ((.nx,ρ1 sc D0 R0 (acc++xs.map f) o),[])∧(o=o4∨∃ d,o=some (.d d))
 | [],acc,o4,_,_=>⟨o4,by simp [nmL,forL,aJ],.inl rfl⟩
 | x::xs,acc,o4,h,hl=>by
  have hl':acc.length + (xs.length + 1)≤1000:=hl
  obtain ⟨o,e,ho⟩:=sy xs (acc++[f x]) (some (.d (.str x))) (fun y hy=>h y (List.mem_cons_of_mem _ hy)) (by simp; omega)
  refine ⟨o,?_,.inr (ho.elim (fun z=>⟨_,z⟩) id)⟩
  have ea:acc++(x::xs).map f=acc++[f x]++xs.map f:=by simp
  rw [ea,← e]
  exact iE (Fq (h x List.mem_cons_self) (by omega))
def ρ2 (sc:PyData) (D0 R0:Dc) (ls:List Str) (o4 o5 o6:Option D.W):Rho:=[some (.d sc),some (.d (bkD D0 R0)),some (.d (bkD D0 R0)),some (.loc (.list (nmL ls))),o4,o5,o6,none,none,none]
theorem vH {ls:List Str} {o4 o5 o6:Option D.W} (hl:ls.length≤1000) (e1:fO [.d (bkD D0 R0)] []=some (.list (nmL ls),[])):lwB (ρ2 sc D0 R0 ls o4 o5 o6) []=some ((.nx,ρ2 sc D0 R0 ls o4 o5 (some (.d (.list (nmL ls++[.str "x"]))))),[]):=by
 have z:(nmL ls).length < sizeLine:=by
  have:=iw
  rw [ei]
  omega
 have e2:=yY (xs:=ls) hl (k:=25) (T:=[]) (by decide)
 have e3:jC (aY 25) [.loc (.list (nmL ls)),.loc (.list (nmL ls))] []=some (.d (.bool true),[]):=qz rfl e2 rfl
 simp [lwB,ρ2,Az,e1,zy,rC,e3,z,h9,frzAt,aJ]
def ρ3 (sc:PyData) (D0 R0:Dc) (ls:List Str) (a:Int) (o4:Option PyData) (o5:PyData) (o6 o8 o9:Option PyData):Rho:=[some (.d sc),some (.d (bkD D0 R0)),some (.d (bkD D0 R0)),some (.d (.list (nmL ls))),o4.map .d,some (.d o5),o6.map .d,some (.d (.int a)),o8.map .d,o9.map .d]
theorem Fp {ls:List Str} {a:Int} {o4:Option PyData} {o5:PyData} {o6 o8 o9:Option PyData} {ys:List Str} {A B:Dc} (hy:∀ x∈ys,PyData.strOk x=true) (e1:cO C [.d (.list (nmL ys))] []=some (bkD A B,[])) (e2:aY 25 [.d (bkD A B),.d (bkD D0 R0)] []=some (.bool true,[])) :
  lwC C ((ρ3 sc D0 R0 ls a o4 o5 o6 o8 o9).set 8 (some (.d (.list (nmL ys))))) []=some ((.nx,ρ3 sc D0 R0 ls a o4 o5 none (some (.list (nmL ys))) (some (.list (nmL ys)))),[]):=by
 have e3:jC (aY 25) [.d (.tuple [.dict A,.dict B]),.d (bkD D0 R0)] []=some (.d (.bool true),[]):=qz rfl e2 rfl
 have e4:=Aj ys hy
 unfold lwC kj ρ3
 simp only [List.set_cons_succ,List.set_cons_zero]
 simp [e1]
 show (if 6 < 10∧tT _=true then _ else none)=_
 rw [if_pos ⟨by decide,by cases o6 <;> cases o4 <;> rfl⟩]
 have e5:∀ (o:Option PyData) (r:Rho),eJ (o.map D.W.d::r)=o.map D.W.d::eJ r:=fun o r=>by cases o <;> rfl
 simp [rC,e5,zD,zB,zC,e3,e4,uJ,aJ]
end
theorem nums2:ba 0 2=[.int 0,.int 1]:=rfl
theorem Ai (l:List Str) (a:Nat):(nmL l).drop a=nmL (l.drop a):=by simp [nmL,List.map_drop]
theorem Ah (l:List Str) (a:Nat):(nmL l).take a=nmL (l.take a):=by simp [nmL,List.map_take]
theorem BB (l:List Str):(nmL l).reverse=nmL l.reverse:=by simp [nmL,List.map_reverse]
section
variable {C:Addr} {S:List Str} {D0 R0:Dc} {f:Str→Str} {sc:PyData}
theorem BkP.reads (b:BkP C S D0 R0) (hS:S.length≤10) (hf:∀ x∈kn D0++kn R0,Lns C D0 R0 f x) {xs:List Str} (hp:xs.Perm (kn D0++kn R0)):∃ A B,cO C [.d (.list (nmL (xs.map f)))] []=some (bkD A B,[])∧aY 25 [.d (bkD A B),.d (bkD D0 R0)] []=some (.bool true,[]):=by
 have l:=b.nlen
 have l2:=hp.length_eq
 obtain ⟨A,B,e,r⟩:=yP (fun x hx=>hf x (hp.mem_iff.mp hx)) (hp.nodup_iff.mpr b.nd) (xs:=xs) (by omega)
 exact ⟨A,B,e,b.back hp r⟩
theorem BD {ls:List Str} {o4:Option D.W} (hl:ls.length≤1000) (e1:fO [.d (bkD D0 R0)] []=some (.list (nmL ls),[])):forL 5 lwB [.int 0,.int 1] (ρ2 sc D0 R0 ls o4 none none) []=some ((.nx,ρ2 sc D0 R0 ls o4 (some (.d (.int 1))) (some (.d (.list (nmL ls++[.str "x"]))))),[]):=by
 have s1:lwB ((ρ2 sc D0 R0 ls o4 none none).set 5 (some (.d (.int 0)))) []=_:=vH (sc:=sc) (o4:=o4) (o5:=some (.d (.int 0))) (o6:=none) hl e1
 rw [iE s1]
 have s2:lwB ((ρ2 sc D0 R0 ls o4 (some (.d (.int 0))) (some (.d (.list (nmL ls++[.str "x"]))))).set 5 (some (.d (.int 1)))) []=_:=vH (sc:=sc) (o4:=o4) (o5:=some (.d (.int 1))) (o6:=some (.d (.list (nmL ls++[.str "x"])))) hl e1
 rw [iE s2]
 rfl
theorem sv (b:BkP C S D0 R0) (hS:S.length≤10) (hf:∀ x∈kn D0++kn R0,Lns C D0 R0 f x) {ls:List Str} {a:Int} {o4:Option PyData} {o5:PyData}:∀ (yss:List (List Str)) (o6 o8 o9:Option PyData),(∀ ys∈yss,ys.Perm (kn D0++kn R0)) →
  ∃ p6 p8 p9,forL 8 (lwC C) (yss.map fun ys=>.list (nmL (ys.map f))) (ρ3 sc D0 R0 ls a o4 o5 o6 o8 o9) []=some ((.nx,ρ3 sc D0 R0 ls a o4 o5 p6 p8 p9),[])
 | [],o6,o8,o9,_=>⟨o6,o8,o9,rfl⟩
 | ys::yss,o6,o8,o9,h=>by
  have hp:=h ys List.mem_cons_self
  obtain ⟨A,B,e1,e2⟩:=b.reads hS hf hp
  obtain ⟨p6,p8,p9,e⟩:=sv b hS hf (ls:=ls) (a:=a) (o4:=o4) (o5:=o5) yss none (some (.list (nmL (ys.map f)))) (some (.list (nmL (ys.map f)))) (fun z hz=>h z (List.mem_cons_of_mem _ hz))
  refine ⟨p6,p8,p9,?_⟩
  have ok:∀ x∈ys.map f,PyData.strOk x=true:=fun x hx=>by
   obtain ⟨y,hy,rfl⟩:=List.mem_map.mp hx
   exact (hf y (hp.mem_iff.mp hy)).sok
  rw [List.map_cons,iE (Fp ok e1 e2)]
  exact e
end
theorem zU:aY 25 [.d (bkD [] []),.d (.tuple [.dict [],.dict []])] []=some (.bool true,[]):=me (n:=22) (fun k hk=>il (n:=20) rfl (fun q hq=>(List.not_mem_nil hq).elim) k [] (by omega)) (fun k hk=>il (n:=20) rfl (fun q hq=>(List.not_mem_nil hq).elim) k [] (by omega)) 25 (by decide)
theorem zX (C:Addr):cO C [.d (.list [])] []=some (bkD [] [],[]):=rfl
theorem Aq (C:Addr) (ns:List Int) (_:ns.length≤63):∃ T',jI C [.d (.list (ns.map PyData.int))] []=some (.bool true,T'):=by
 refine ⟨[],?_⟩
 obtain ⟨c,ec⟩:=n6 (ns:=ns) (k:=0) (T:=[]) (by omega)
 obtain ⟨D0,R0,S,eb,b,hS3,hS⟩:=DD C ns (decide (c % 3=0))
 obtain ⟨f,hf⟩:=b.fn
 have hp:=jf (kn D0++kn R0)
 have en:=qG b hS []
 have es:=yj b hS hf []
 have nl:=b.nlen
 have sn:=rY (l:=kn D0++kn R0) (by omega)
 generalize cA (kn D0++kn R0)=N at hp en es sn
 have hN:=hp.length_eq
 have l10:N.length≤10:=by omega
 have l3:3≤N.length:=by omega
 obtain ⟨o4,eA,ho⟩:=sy (sc:=cy ns) (f:=f) (C:=C) N [] none (fun x hx=>hf x (hp.mem_iff.mp hx)) (by simp; omega)
 obtain ⟨o4,rfl⟩:∃ q:Option PyData,o4=q.map .d:=ho.elim (fun z=>⟨none,z⟩) fun ⟨d,z⟩=>⟨some d,z⟩
 have eB:=BD (sc:=cy ns) (ls:=N.map f) (o4:=o4.map .d) (by simp; omega) es
 have a0:0≤c / 3 % (N.length:Int):=Int.emod_nonneg _ (by omega)
 obtain ⟨a,ha⟩:∃ a:Nat,c / 3 % (N.length:Int)=(a:Int):=⟨(c / 3 % (N.length:Int)).toNat,by omega⟩
 have pr:(N.drop a++N.take a).Perm (kn D0++kn R0):=(List.perm_append_comm.trans (by rw [List.take_append_drop])).trans hp
 obtain ⟨p6,p8,p9,eC⟩:=sv b hS hf (sc:=cy ns) (ls:=N.map f) (a:=(a:Int)) (o4:=o4) (o5:=.int 1) [N,N.drop a++N.take a,N.reverse] (some (.list (nmL (N.map f)++[.str "x"]))) none none (by
  intro ys hy
  simp at hy
  rcases hy with rfl | rfl | rfl
  ·exact hp
  ·exact pr
  ·exact (List.reverse_perm _).trans hp)
 obtain ⟨A,B,r1,r2⟩:=b.reads hS hf hp
 have ss:=b.selfsame
 have ix0:ixD (bkD D0 R0) (.int 0)=some (.dict D0):=rfl
 have ix1:ixD (bkD D0 R0) (.int 1)=some (.dict R0):=rfl
 have bk:PyData.tuple [.dict D0,.dict R0]=bkD D0 R0:=rfl
 have l':(nmL (kn D0)).length + (nmL (kn R0)).length≤sizeLine:=by
  have z:sizeLine=16777216:=rfl
  rw [List.length_append] at nl
  simp [nmL]
  omega
 have c3:(3:Int) < 18446744073709551616:=by decide
 have lm:(nmL (N.map f)).length=N.length:=by simp [nmL]
 have lp:0 < (N.length:Int):=by omega
 have lz:((nmL (N.map f)).drop a).length + ((nmL (N.map f)).take a).length≤sizeLine:=by
  have z:sizeLine=16777216:=rfl
  simp [lm]
  omega
 have ll:([.list (nmL (N.map f)),.list (nmL ((N.drop a++N.take a).map f)),.list (nmL (N.reverse.map f))]:List PyData)=[.list (nmL (N.map f)),.list ((nmL (N.map f)).drop a++(nmL (N.map f)).take a),.list (nmL (N.map f)).reverse]:=by
  rw [Ai,Ah,mV,BB,List.map_append,List.map_drop,List.map_take,List.map_reverse]
 have eC':forL 8 (lwC C) [.list (nmL (N.map f)),.list ((nmL (N.map f)).drop a++(nmL (N.map f)).take a),.list (nmL (N.map f)).reverse] (ρ3 (cy ns) D0 R0 (N.map f) (a:Int) o4 (.int 1) (some (.list (nmL (N.map f)++[.str "x"]))) none none) []=some ((.nx,ρ3 (cy ns) D0 R0 (N.map f) (a:Int) o4 (.int 1) p6 p8 p9),[]):=by
  rw [← ll]
  exact eC
 have rn:∀ xs:List PyData,jM (.list xs)=some (.list xs.reverse):=fun _=>rfl
 have r2n:iS 2=true:=dR (by decide) (by decide)
 have n2:ba 0 (2:Int).toNat=[.int 0,.int 1]:=rfl
 simp only [ρ1,ρ2,ρ3,List.nil_append,Option.map_some,Option.map_none] at eA eB eC'
 show jI C [.d (cy ns)] []=_
 rw [C3]
 simp [ec,eb,BN,AA,ix0,ix1,bk,rA,b.dkn,b.rkn,l',mV,sn]
 have nil0:([]:List PyData)=nmL []:=rfl
 rw [nil0,eA]
 simp [nums2,r2n,ec,eB,fW,lm,lp,ha,h9,frzAt,rH,nY,lz,rn,-List.length_drop,-List.length_take]
 rw [eC']
 simp [zE,r1,cop,r2,ss,zX,zU]
 intro z
 rw [z] at l3
 simp at l3
def top (i:Nat):Stmt:=PySem.Challenge.pw_redo_k20_books_written.main.body.getD i (.Pass ⟨0,0,0,0⟩)
def cL (i j:Nat):Stmt:=match top i with
 | .ClassDef _ _ _ b _ _ _ _ _ _ _=>b.getD j (.Pass ⟨0,0,0,0⟩)
 | s=>s
structure Bi (K:Frag) (mg:Str→Option Value) (C:Addr):Prop where
 k_Words:Cls K C
 m_Words:mg "Words" = some (.ref C)
 n_Words_begun:NoAttr K C "begun"
 n_Words_parted:NoAttr K C "parted"
 n_Words_place:NoAttr K C "place"
 b_abs:mg "abs" = none
 b_all:mg "all" = none
 b_bool:mg "bool" = none
 b_dict:mg "dict" = none
 b_enumerate:mg "enumerate" = none
 b_int:mg "int" = none
 b_isinstance:mg "isinstance" = none
 b_len:mg "len" = none
 b_list:mg "list" = none
 b_range:mg "range" = none
 b_sorted:mg "sorted" = none
 b_str:mg "str" = none
 b_sum:mg "sum" = none
 b_tuple:mg "tuple" = none
 t_RECIPES_WITHIN:lY K mg "RECIPES_WITHIN" [("say",0),("fail",0),("want",1),("peek",1),("when",2)]
 t_WITHIN:lY K mg "WITHIN" [("many",1),("part",2),("sum",2),("join",2),("same",2),("less",2)]
 g_FILLED:oI K mg "FILLED" ["put","got","row"]
 g_GETTING:oI K mg "GETTING" ["want","peek"]
 c_FIGURES:∃ t,mg "FIGURES" = some (.str "0123456789" t)
 c_LETTERS:∃ t,mg "LETTERS" = some (.str "abcdefghijklmnopqrstuvwxyz" t)
 c_MOST_DEEP:∃ t,mg "MOST_DEEP" = some (.int 20 t)
 c_MOST_FIGURES:∃ t,mg "MOST_FIGURES" = some (.int 19 t)
 c_MOST_IN_ROW:∃ t,mg "MOST_IN_ROW" = some (.int 8 t)
 c_MOST_LETTERS:∃ t,mg "MOST_LETTERS" = some (.int 8 t)
 c_MOST_NAMES:∃ t,mg "MOST_NAMES" = some (.int 40 t)
 c_MOST_PARTS:∃ t,mg "MOST_PARTS" = some (.int 8 t)
 c_MOST_PARTS_IN_ALL:∃ t,mg "MOST_PARTS_IN_ALL" = some (.int 60 t)
 c_MOST_ROWS:∃ t,mg "MOST_ROWS" = some (.int 4 t)
 c_MOST_SIGNS:∃ t,mg "MOST_SIGNS" = some (.int 20 t)
 c_MOST_VALUES:∃ t,mg "MOST_VALUES" = some (.int 40 t)
 c_MOST_WANTS:∃ t,mg "MOST_WANTS" = some (.int 12 t)
 c_TEXT_SIGNS:∃ t,mg "TEXT_SIGNS" = some (.str "abcdefghijklmnopqrstuvwxyz0123456789-" t)
variable {P:Program} {w:World} {K:Frag} {mg:Str→Option Value} {base:Heap} {f:Addr} {fd:FuncData}
theorem rm {j k:Nat} {A:Around} (r:Room k A) (h:j≤k:=by omega):Room j A:=r.mono h
theorem vV:FnScope ["self","text"] ["self","text"] (aE (cL 51 0)):=⟨rfl,rfl,rfl,by decide +kernel,rfl,by decide +kernel,by decide +kernel⟩
theorem vW {C:Addr} (B:Bi K mg C) (F:Fun K "__init__" "Words.__init__" (cL 51 0) f fd)  : FnOk P w K mg base CX0 1 f fd ["self","text"] (spM K 2 (d8 C)):=dfn F vV fun _ _ _ _ _ _ hr=>(au (jB B.k_Words B.n_Words_parted (af 0) (AJ (af 1) aH)) (au (jB B.k_Words B.n_Words_place (af 0) ao) (av (jB B.k_Words B.n_Words_begun (af 0) ao))))
theorem wc:FnScope ["self"] ["self"] (aE (cL 51 1)):=⟨rfl,rfl,rfl,by decide +kernel,rfl,by decide +kernel,by decide +kernel⟩
theorem wx {C:Addr} (B:Bi K mg C) (F:Fun K "ahead" "Words.ahead" (cL 51 1) f fd)  : FnOk P w K mg base CX0 1 f fd ["self"] (spM K 1 (cN C)):=dfn F wc fun _ _ _ _ _ _ hr=>(av (ay (i4 (aN dq (fm B.k_Words B.n_Words_place (af 0)) (bh bI rfl B.b_len boot_len (ah (fm B.k_Words B.n_Words_parted (af 0)) aj))) (aI aL (fm B.k_Words B.n_Words_parted (af 0)) (fm B.k_Words B.n_Words_place (af 0))) aH)))
theorem wD:FnScope ["self","fits"] ["self","fits"] (aE (cL 51 2)):=⟨rfl,rfl,rfl,by decide +kernel,rfl,by decide +kernel,by decide +kernel⟩
theorem wK {C:Addr} (B:Bi K mg C) (F:Fun K "take" "Words.take" (cL 51 2) f fd)  : FnOk P w K mg base CX0 1 f fd ["self","fits"] (spM K 2 (dv C)):=dfn F wD fun _ _ _ _ _ _ hr=>(au (aP (fj (bG (af 1))) (av m9) aQ) (av (jB B.k_Words B.n_Words_place (af 0) (aC aU (fm B.k_Words B.n_Words_place (af 0)) ao))))
theorem wb:FnScope ["self","fits","above"] ["self","fits","above"] (aE (cL 51 3)):=⟨rfl,rfl,rfl,by decide +kernel,rfl,by decide +kernel,by decide +kernel⟩
theorem wu {C:Addr} (B:Bi K mg C) (F:Fun K "begin" "Words.begin" (cL 51 3) f fd) (G_Words__take:Mth P w K mg base C "take" ["self","fits"] 1 (spM K 2 (dv C))):FnOk P w K mg base CX0 2 f fd ["self","fits","above"] (spM K 3 (fM C)):=dfn F wb fun _ _ _ _ _ _ hr=>(au (gL (iH G_Words__take B.k_Words (rm hr) (af 0) (ah (bW (af 1) (bW (bP dq (af 2) (dB rfl B.c_MOST_DEEP)) (cz (bP dq (fm B.k_Words B.n_Words_begun (af 0)) (dB rfl B.c_MOST_PARTS_IN_ALL))))) aj) (ak ax))) (av (jB B.k_Words B.n_Words_begun (af 0) (aC aU (fm B.k_Words B.n_Words_begun (af 0)) ao))))
theorem v5:FnScope ["self"] ["self"] (aE (cL 51 4)):=⟨rfl,rfl,rfl,by decide +kernel,rfl,by decide +kernel,by decide +kernel⟩
theorem v7 {C:Addr} (B:Bi K mg C) (F:Fun K "finish" "Words.finish" (cL 51 4) f fd)  : FnOk P w K mg base CX0 1 f fd ["self"] (spM K 1 (eX C)):=dfn F v5 fun _ _ _ _ _ _ hr=>(av (aP (aN dq (fm B.k_Words B.n_Words_place (af 0)) (bh bI rfl B.b_len boot_len (ah (fm B.k_Words B.n_Words_parted (af 0)) aj))) (av m9) aQ))
theorem xO:FnScope ["thing"] ["thing"] (aE (top 8)):=⟨rfl,rfl,rfl,by decide +kernel,rfl,by decide +kernel,by decide +kernel⟩
theorem x6 {C:Addr} (B:Bi K mg C) (F:Fun K "is_whole" "is_whole" (top 8) f fd)  : FnOk P w K mg base CX0 1 f fd ["thing"] (spM K 1 (gF)):=dfn F xO fun _ _ _ _ _ _ hr=>(av (ay (bW (bH .int B.b_isinstance (af 0) B.b_int boot_int) (cz (lh (bH .bl B.b_isinstance (af 0) B.b_bool boot_bool))))))
theorem xS:FnScope ["text","signs"] ["text","signs"] (aE (top 9)):=⟨rfl,rfl,rfl,by decide +kernel,rfl,by decide +kernel,by decide +kernel⟩
theorem ya {C:Addr} (B:Bi K mg C) (F:Fun K "has_only" "has_only" (top 9) f fd)  : FnOk P w K mg base CX0 1 f fd ["text","signs"] (spM K 2 (df)):=dfn F xS fun _ _ _ _ _ _ hr=>(av (ay (bh lK rfl B.b_all boot_all (ah (dE (osc:=aE (top 9)) (N:=["text","signs"]) (N':=["text","signs"]) (x:="sign") ⟨rfl,by decide +kernel,by decide +kernel,rfl,by decide +kernel,by decide +kernel,by decide +kernel,by decide +kernel,rfl,by decide +kernel⟩ (dC (af 0)) (fun C s0 H0 ex=>(bP ja (af 0) (af 2))) (fun C s0 H0 ex=>cS)) aj))))
theorem yu:FnScope ["thing"] ["thing"] (aE (top 10)):=⟨rfl,rfl,rfl,by decide +kernel,rfl,by decide +kernel,by decide +kernel⟩
theorem yC {C:Addr} (B:Bi K mg C) (F:Fun K "is_name" "is_name" (top 10) f fd) (Qag:Fn P w K mg base "has_only" ["text","signs"] 1 (spM K 2 df)):FnOk P w K mg base CX0 2 f fd ["thing"] (spM K 1 (fU)):=dfn F yu fun _ _ _ _ _ _ hr=>(av (ay (bW (bH .str B.b_isinstance (af 0) B.b_str boot_str) (bW (AM jP jP ao (bh bI rfl B.b_len boot_len (ah (af 0) aj)) (dB rfl B.c_MOST_LETTERS)) (cz (az Qag (rm hr) rfl (ah (af 0) (ah (mO rfl B.c_LETTERS) aj)) (ak (ak ax))))))))
theorem xk:FnScope ["thing"] ["thing"] (aE (top 11)):=⟨rfl,rfl,rfl,by decide +kernel,rfl,by decide +kernel,by decide +kernel⟩
theorem xy {C:Addr} (B:Bi K mg C) (F:Fun K "is_single" "is_single" (top 11) f fd) (Qal:Fn P w K mg base "is_whole" ["thing"] 1 (spM K 1 gF)) (Qag:Fn P w K mg base "has_only" ["text","signs"] 1 (spM K 2 df)):FnOk P w K mg base CX0 2 f fd ["thing"] (spM K 1 (gB)):=dfn F xk fun _ _ _ _ _ _ hr=>(au (aP (bG (az Qal (rm hr) rfl (ah (af 0) aj) (ak ax))) (av (ay (bP jP (bh ET rfl B.b_abs boot_abs (ah (af 0) aj)) (aC lC ao ao)))) aQ) (av (ay (bW (bH .str B.b_isinstance (af 0) B.b_str boot_str) (bW (bP jP (bh bI rfl B.b_len boot_len (ah (af 0) aj)) (dB rfl B.c_MOST_SIGNS)) (cz (az Qag (rm hr) rfl (ah (af 0) (ah (mO rfl B.c_TEXT_SIGNS) aj)) (ak (ak ax)))))))))
theorem xR:FnScope ["thing","rows_left"] ["thing","rows_left"] (aE (top 12)):=⟨rfl,rfl,rfl,by decide +kernel,rfl,by decide +kernel,by decide +kernel⟩
theorem x9 {C:Addr} (n:Nat) (B:Bi K mg C) (F:Fun K "is_built" "is_built" (top 12) f fd) (Qbi:Fn P w K mg base "is_single" ["thing"] 2 (spM K 1 gB)) (Qat:Fn P w K mg base "is_built" ["thing","rows_left"] (2 + n) (spM K 2 (de n))):FnOk P w K mg base CX0 (2 + n + 1) f fd ["thing","rows_left"] (spM K 2 (de (n + 1))):=dfn F xR fun _ _ _ _ _ _ hr=>(au (aP (fj (bG (bH .tup B.b_isinstance (af 0) B.b_tuple boot_tuple))) (av (ay (az Qbi (rm hr) rfl (ah (af 0) aj) (ak ax)))) aQ) (au (aP (cb (cI (aN a6 (af 1) ao) (dH (aN fH (bh bI rfl B.b_len boot_len (ah (af 0) aj)) (dB rfl B.c_MOST_PARTS))))) (av (ay g8)) aQ) (av (ay (bh lK rfl B.b_all boot_all (ah (dE (osc:=aE (top 12)) (N:=["thing","rows_left"]) (N':=["thing","rows_left"]) (x:="part") ⟨rfl,by decide +kernel,by decide +kernel,rfl,by decide +kernel,by decide +kernel,by decide +kernel,by decide +kernel,rfl,by decide +kernel⟩ (dC (af 0)) (fun C s0 H0 ex=>(az Qat (rm hr) rfl (ah (af 0) (ah (aC gi (af 2) ao) aj)) (ak (ak ax)))) (fun C s0 H0 ex=>cS)) aj))))))
theorem yt:FnScope ["value"] ["value"] (aE (top 14)):=⟨rfl,rfl,rfl,by decide +kernel,rfl,by decide +kernel,by decide +kernel⟩
theorem yB {C:Addr} (n:Nat) (B:Bi K mg C) (F:Fun K "many_of" "many_of" (top 14) f fd) (Qay:Fn P w K mg base "many_of" ["value"] (0 + n) (spM K 1 (eh n))):FnOk P w K mg base CX0 (0 + n + 1) f fd ["value"] (spM K 1 (eh (n + 1))):=dfn F yt fun _ _ _ _ _ _ hr=>(au (aP (fj (bG (bH .tup B.b_isinstance (af 0) B.b_tuple boot_tuple))) (av (ay ao)) aQ) (av (ay (aC aU ao (bh ES rfl B.b_sum boot_sum (ah (dE (osc:=aE (top 14)) (N:=["value"]) (N':=["value"]) (x:="part") ⟨rfl,by decide +kernel,by decide +kernel,rfl,by decide +kernel,by decide +kernel,by decide +kernel,by decide +kernel,rfl,by decide +kernel⟩ (dC (af 0)) (fun C s0 H0 ex=>(az Qay (rm hr) rfl (ah (af 0) aj) (ak ax))) (fun C s0 H0 ex=>cS)) aj))))))
theorem xQ:FnScope ["thing"] ["thing"] (aE (top 13)):=⟨rfl,rfl,rfl,by decide +kernel,rfl,by decide +kernel,by decide +kernel⟩
theorem x8 {C:Addr} (B:Bi K mg C) (F:Fun K "is_value" "is_value" (top 13) f fd) (Qat:Fn P w K mg base "is_built" ["thing","rows_left"] 27 (spM K 2 (de 25))) (Qay:Fn P w K mg base "many_of" ["value"] 25 (spM K 1 (eh 25))):FnOk P w K mg base CX0 28 f fd ["thing"] (spM K 1 (gG)):=dfn F xQ fun _ _ _ _ _ _ hr=>(av (ay (bW (az Qat (rm hr) rfl (ah (af 0) (ah (dB rfl B.c_MOST_ROWS) aj)) (ak (ak ax))) (cz (bP jP (az Qay (rm hr) rfl (ah (af 0) aj) (ak ax)) (dB rfl B.c_MOST_VALUES))))))
theorem v9:FnScope ["expr"] ["expr"] (aE (top 18)):=⟨rfl,rfl,rfl,by decide +kernel,rfl,by decide +kernel,by decide +kernel⟩
theorem wm {C:Addr} (B:Bi K mg C) (F:Fun K "exprs_within" "exprs_within" (top 18) f fd)  : FnOk P w K mg base CX0 1 f fd ["expr"] (spM K 1 (d9)):=dfn F v9 fun _ _ _ _ _ _ hr=>(au (aP (cb (cI (aN a6 (aI aL (af 0) ao) aH) (dH (aN a6 (aI aL (af 0) ao) aH)))) (av (ay (bZ aj))) aQ) (au (aP (aN a6 (aI aL (af 0) ao) aH) (av (ay (bO nZ rfl B.b_list boot_list (ah (aI aL (af 0) ao) aj)))) aQ) (av (ay (bO nZ rfl B.b_list boot_list (ah (cJ (af 0) (bU ao) dS) aj))))))
theorem wQ:FnScope ["word","got"] ["word","got"] (aE (top 25)):=⟨rfl,rfl,rfl,by decide +kernel,rfl,by decide +kernel,by decide +kernel⟩
theorem wX {C:Addr} (B:Bi K mg C) (F:Fun K "got_behind" "got_behind" (top 25) f fd)  : FnOk P w K mg base CX0 1 f fd ["word","got"] (spM K 2 (gx)):=dfn F wQ fun _ _ _ _ _ _ hr=>(av (ay (i4 (aN ja (af 0) (mN (ss:=["want","peek"]) rfl B.g_GETTING)) (aC aU (af 1) ao) (af 1))))
theorem xM:FnScope ["book"] ["book"] (aE (top 28)):=⟨rfl,rfl,rfl,by decide +kernel,rfl,by decide +kernel,by decide +kernel⟩
theorem xZ {C:Addr} (B:Bi K mg C) (F:Fun K "names_of" "names_of" (top 28) f fd)  : FnOk P w K mg base CX0 1 f fd ["book"] (spM K 1 (ie)):=dfn F xM fun _ _ _ _ _ _ hr=>(av (ay (bh rN rfl B.b_sorted boot_sorted (ah (aC aU (bO kN rfl B.b_list boot_list (ah (aI aL (af 0) ao) aj)) (bO kN rfl B.b_list boot_list (ah (aI aL (af 0) ao) aj))) aj))))
theorem yr:FnScope ["book","name"] ["book","name"] (aE (top 29)):=⟨rfl,rfl,rfl,by decide +kernel,rfl,by decide +kernel,by decide +kernel⟩
theorem yz {C:Addr} (B:Bi K mg C) (F:Fun K "sort_at" "sort_at" (top 29) f fd)  : FnOk P w K mg base CX0 1 f fd ["book","name"] (spM K 2 (ij)):=dfn F yr fun _ _ _ _ _ _ hr=>(au (aP (aN (iU hr) (af 1) (aI aL (af 0) ao)) (av (ay aH)) aQ) (au (aP (aN (iU hr) (af 1) (aI aL (af 0) ao)) (av (ay aH)) aQ) (av (ay aH))))
theorem xJ:FnScope ["value"] ["value"] (aE (top 37)):=⟨rfl,rfl,rfl,by decide +kernel,rfl,by decide +kernel,by decide +kernel⟩
theorem xY {C:Addr} (n:Nat) (B:Bi K mg C) (F:Fun K "stamp_of" "stamp_of" (top 37) f fd) (Qal:Fn P w K mg base "is_whole" ["thing"] 1 (spM K 1 gF)) (Qah:Fn P w K mg base "stamp_of" ["value"] (1 + n) (spM K 1 (cP n))):FnOk P w K mg base CX0 (1 + n + 1) f fd ["value"] (spM K 1 (cP (n + 1))):=dfn F xJ fun _ _ _ _ _ _ hr=>(au (aP (bG (az Qal (rm hr) rfl (ah (af 0) aj) (ak ax))) (av (ay (bO jL rfl B.b_str boot_str (ah (af 0) aj)))) aQ) (au (aP (bG (bH .str B.b_isinstance (af 0) B.b_str boot_str)) (av (ay (aC aU aH (af 0)))) aQ) (av (ay (aC aU (aC aU aH (sT aH (dE (osc:=aE (top 37)) (N:=["value"]) (N':=["value"]) (x:="part") ⟨rfl,by decide +kernel,by decide +kernel,rfl,by decide +kernel,by decide +kernel,by decide +kernel,by decide +kernel,rfl,by decide +kernel⟩ (dC (af 0)) (fun C s0 H0 ex=>(az Qah (rm hr) rfl (ah (af 0) aj) (ak ax))) (fun C s0 H0 ex=>cS)))) aH)))))
theorem wO:FnScope ["text"] ["text"] (aE (top 44)):=⟨rfl,rfl,rfl,by decide +kernel,rfl,by decide +kernel,by decide +kernel⟩
theorem wW {C:Addr} (B:Bi K mg C) (F:Fun K "is_figures" "is_figures" (top 44) f fd) (Qag:Fn P w K mg base "has_only" ["text","signs"] 1 (spM K 2 df)):FnOk P w K mg base CX0 2 f fd ["text"] (spM K 1 (ef)):=dfn F wO fun _ _ _ _ _ _ hr=>(au (aP (cb (cI (aN a6 (af 0) aH) (dH (fj (bG (az Qag (rm hr) rfl (ah (af 0) (ah (mO rfl B.c_FIGURES) aj)) (ak (ak ax)))))))) (av (ay g8)) aQ) (av (ay (u7 (bP a6 (af 0) aH) (cz (lh (mv (af 0) aH)))))))
theorem sc_number_by:FnScope ["word","figures"] ["word"] (aE (top 43)):=⟨rfl,rfl,rfl,by decide +kernel,rfl,by decide +kernel,by decide +kernel⟩
theorem xx {C:Addr} (B:Bi K mg C) (F:Fun K "number_by" "number_by" (top 43) f fd) (Qbd:Fn P w K mg base "is_figures" ["text"] 2 (spM K 1 ef)):FnOk P w K mg base CX0 3 f fd ["word"] (spM K 1 (gA)):=dfn F sc_number_by fun _ _ _ _ _ _ hr=>(au (aW (i:=1) sc_number_by.nd (i4 (bG (mv (af 0) aH)) (cJ (af 0) (bU ao) dS) (af 0))) (au (aP (cb (cI (aN a6 (af 0) aH) (cI (aN fH (bh bI rfl B.b_len boot_len (ah (af 1) aj)) (dB rfl B.c_MOST_FIGURES)) (dH (fj (bG (az Qbd (rm hr) rfl (ah (af 1) aj) (ak ax)))))))) (av (ay ck)) aQ) (av (ay (bO ve rfl B.b_int boot_int (ah (af 0) aj))))))
theorem xj:FnScope ["word"] ["word"] (aE (top 42)):=⟨rfl,rfl,rfl,by decide +kernel,rfl,by decide +kernel,by decide +kernel⟩
theorem xq {C:Addr} (B:Bi K mg C) (F:Fun K "single_by" "single_by" (top 42) f fd) (Qbj:Fn P w K mg base "number_by" ["word"] 3 (spM K 1 gA)):FnOk P w K mg base CX0 4 f fd ["word"] (spM K 1 (gz)):=dfn F xj fun _ _ _ _ _ _ hr=>(au (aP (bG (mv (af 0) aH)) (av (ay (cJ (af 0) (bU ao) dS))) aQ) (av (ay (az Qbj (rm hr) rfl (ah (af 0) aj) (ak ax)))))
theorem sc_single_at:FnScope ["text","at","behind","single"] ["text","at"] (aE (top 41)):=⟨rfl,rfl,rfl,by decide +kernel,rfl,by decide +kernel,by decide +kernel⟩
theorem xt {C:Addr} (B:Bi K mg C) (F:Fun K "single_at" "single_at" (top 41) f fd) (Qbk:Fn P w K mg base "single_by" ["word"] 4 (spM K 1 gz)):FnOk P w K mg base CX0 5 f fd ["text","at"] (spM K 2 (fQ)):=dfn F sc_single_at fun _ _ _ _ _ _ hr=>(au (aW (i:=2) sc_single_at.nd (af 1)) (au (rD 100000 (cb (iO (aN dq (af 2) (bh bI rfl B.b_len boot_len (ah (af 0) aj))) (iG (aN Bz (aI aL (af 0) (af 2)) aH)))) (av (aW (i:=2) sc_single_at.nd (aC aU (af 2) ao)))) (au (aW (i:=3) sc_single_at.nd (az Qbk (rm hr) rfl (ah (cJ (af 0) (bU (af 1)) (bU (af 2))) aj) (ak ax))) (av (ay (i4 (aN i9 (af 3) ck) ck (bi (ah (af 3) (ah (af 2) aj)))))))))
theorem sc_row_at:FnScope ["text","at","rows_left","parts","found","sign"] ["text","at","rows_left"] (aE (top 40)):=⟨rfl,rfl,rfl,by decide +kernel,rfl,by decide +kernel,by decide +kernel⟩
theorem xI:FnScope ["text","at","rows_left"] ["text","at","rows_left"] (aE (top 39)):=⟨rfl,rfl,rfl,by decide +kernel,rfl,by decide +kernel,by decide +kernel⟩
theorem y8 {C:Addr} (n:Nat) (B:Bi K mg C) (F:Fun K "row_at" "row_at" (top 40) f fd) (Qau:Fn P w K mg base "value_at" ["text","at","rows_left"] (5 + n) (spM K 3 (cE n))):FnOk P w K mg base CX0 (5 + n + 1) f fd ["text","at","rows_left"] (spM K 3 (fV (n + 1))):=dfn F sc_row_at fun _ _ _ _ _ _ hr=>(au (aP (aN a6 (cJ (af 0) (bU (af 1)) (bU (aC aU (af 1) ao))) aH) (av (ay (bi (ah (bi aj) (ah (aC aU (af 1) ao) aj))))) aQ) (au (kG (i:=3) sc_row_at.nd aj) (av (rD 100000 (bG g8) (au (aW (i:=4) sc_row_at.nd (az Qau (rm hr) rfl (ah (af 0) (ah (af 1) (ah (af 2) aj))) (ak (ak (ak ax))))) (au (aP (aN i9 (af 4) ck) (av (ay ck)) aQ) (au (gR (i:=3) (by exact (aI aL (af 4) ao))) (au (aW (i:=1) sc_row_at.nd (aC aU (aI aL (af 4) ao) ao)) (au (aW (i:=5) sc_row_at.nd (cJ (af 0) (bU (aI aL (af 4) ao)) (bU (af 1)))) (au (aP (aN a6 (af 5) aH) (av (ay (bi (ah (bO kM rfl B.b_tuple boot_tuple (ah (af 3) aj)) (ah (af 1) aj))))) aQ) (av (aP (aN jO (af 5) aH) (av (ay ck)) aQ))))))))))))
theorem xV {C:Addr} (n:Nat) (B:Bi K mg C) (F:Fun K "value_at" "value_at" (top 39) f fd) (Qbl:Fn P w K mg base "single_at" ["text","at"] 5 (spM K 2 fQ)) (Qbv:Fn P w K mg base "row_at" ["text","at","rows_left"] (5 + n) (spM K 3 (fV n))):FnOk P w K mg base CX0 (5 + n + 1) f fd ["text","at","rows_left"] (spM K 3 (cE (n + 1))):=dfn F xI fun _ _ _ _ _ _ hr=>(au (aP (aN jO (cJ (af 0) (bU (af 1)) (bU (aC aU (af 1) ao))) aH) (av (ay (az Qbl (rm hr) rfl (ah (af 0) (ah (af 1) aj)) (ak (ak ax))))) aQ) (au (aP (aN a6 (af 2) ao) (av (ay ck)) aQ) (av (ay (az Qbv (rm hr) rfl (ah (af 0) (ah (aC aU (af 1) ao) (ah (aC gi (af 2) ao) aj))) (ak (ak (ak ax))))))))
theorem sc_value_by:FnScope ["text","found"] ["text"] (aE (top 38)):=⟨rfl,rfl,rfl,by decide +kernel,rfl,by decide +kernel,by decide +kernel⟩
theorem xU {C:Addr} (B:Bi K mg C) (F:Fun K "value_by" "value_by" (top 38) f fd) (Qau:Fn P w K mg base "value_at" ["text","at","rows_left"] 30 (spM K 3 (cE 25))) (Qbo:Fn P w K mg base "is_value" ["thing"] 28 (spM K 1 gG)):FnOk P w K mg base CX0 31 f fd ["text"] (spM K 1 (fS)):=dfn F sc_value_by fun _ _ _ _ _ _ hr=>(au (aW (i:=1) sc_value_by.nd (az Qau (rm hr) rfl (ah (af 0) (ah ao (ah (dB rfl B.c_MOST_ROWS) aj))) (ak (ak (ak ax))))) (au (aP (cb (cI (aN i9 (af 1) ck) (dH (aN dq (aI aL (af 1) ao) (bh bI rfl B.b_len boot_len (ah (af 0) aj)))))) (av (ay ck)) aQ) (av (ay (i4 (bG (az Qbo (rm hr) rfl (ah (aI aL (af 1) ao) aj) (ak ax))) (aI aL (af 1) ao) ck)))))
theorem v4:FnScope ["expr"] ["expr"] (aE (top 50)):=⟨rfl,rfl,rfl,by decide +kernel,rfl,by decide +kernel,by decide +kernel⟩
theorem v6 {C:Addr} (B:Bi K mg C) (F:Fun K "filling_words" "filling_words" (top 50) f fd) (Qah:Fn P w K mg base "stamp_of" ["value"] 26 (spM K 1 (cP 25))):FnOk P w K mg base CX0 27 f fd ["expr"] (spM K 1 (dP)):=dfn F v4 fun _ _ _ _ _ _ hr=>(au (aP (aN a6 (aI aL (af 0) ao) aH) (av (ay (bZ (ah (az Qah (rm hr) rfl (ah (aI aL (af 0) ao) aj) (ak ax)) aj)))) aQ) (au (aP (aN a6 (aI aL (af 0) ao) aH) (av (ay (bZ (ah (bO jL rfl B.b_str boot_str (ah (aI aL (af 0) ao) aj)) aj)))) aQ) (au (aP (aN a6 (aI aL (af 0) ao) aH) (av (ay (bZ (ah (bO jL rfl B.b_str boot_str (ah (bh bI rfl B.b_len boot_len (ah (aI aL (af 0) ao) aj)) aj)) aj)))) aQ) (av (ay (bZ aj))))))
theorem sc_expr_words:FnScope ["expr","words","part"] ["expr"] (aE (top 49)):=⟨rfl,rfl,rfl,by decide +kernel,rfl,by decide +kernel,by decide +kernel⟩
theorem wY {C:Addr} (n:Nat) (B:Bi K mg C) (F:Fun K "expr_words" "expr_words" (top 49) f fd) (Qav:Fn P w K mg base "filling_words" ["expr"] 27 (spM K 1 dP)) (Qax:Fn P w K mg base "exprs_within" ["expr"] 1 (spM K 1 d9)) (Qaj:Fn P w K mg base "expr_words" ["expr"] (27 + n) (spM K 1 (cC n))):FnOk P w K mg base CX0 (27 + n + 1) f fd ["expr"] (spM K 1 (cC (n + 1))):=dfn F sc_expr_words fun _ _ _ _ _ _ hr=>(au (m8 (i:=1) sc_expr_words.nd (bZ (ah (aI aL (af 0) ao) aj)) (az Qav (rm hr) rfl (ah (af 0) aj) (ak ax))) (au (f7 (i:=2) sc_expr_words.nd (dC (az Qax (rm hr) rfl (ah (af 0) aj) (ak ax))) (av (uj (i:=1) (by exact (az Qaj (rm hr) rfl (ah (af 2) aj) (ak ax)))))) (av (ay (af 1)))))
theorem sc_recipe_words:FnScope ["recipe","words","part"] ["recipe"] (aE (top 48)):=⟨rfl,rfl,rfl,by decide +kernel,rfl,by decide +kernel,by decide +kernel⟩
theorem wg {C:Addr} (n:Nat) (B:Bi K mg C) (F:Fun K "recipe_words" "recipe_words" (top 48) f fd) (Qaj:Fn P w K mg base "expr_words" ["expr"] 52 (spM K 1 (cC 25))) (Qai:Fn P w K mg base "recipe_words" ["recipe"] (52 + n) (spM K 1 (c9 n))):FnOk P w K mg base CX0 (52 + n + 1) f fd ["recipe"] (spM K 1 (c9 (n + 1))):=dfn F sc_recipe_words fun _ _ _ _ _ _ hr=>(au (aP (aN a6 (aI aL (af 0) ao) aH) (av (ay (bZ (ah (aI aL (af 0) ao) (ah (aI aL (af 0) ao) aj))))) aQ) (au (m8 (i:=1) sc_recipe_words.nd (bZ (ah (aI aL (af 0) ao) aj)) (az Qaj (rm hr) rfl (ah (aI aL (af 0) ao) aj) (ak ax))) (au (f7 (i:=2) sc_recipe_words.nd (dC (cJ (af 0) (bU ao) dS)) (av (uj (i:=1) (by exact (az Qai (rm hr) rfl (ah (af 2) aj) (ak ax)))))) (av (ay (af 1))))))
theorem wB:FnScope ["recipe"] ["recipe"] (aE (top 47)):=⟨rfl,rfl,rfl,by decide +kernel,rfl,by decide +kernel,by decide +kernel⟩
theorem wG {C:Addr} (B:Bi K mg C) (F:Fun K "show_recipe" "show_recipe" (top 47) f fd) (Qai:Fn P w K mg base "recipe_words" ["recipe"] 77 (spM K 1 (c9 25))):FnOk P w K mg base CX0 78 f fd ["recipe"] (spM K 1 (ib)):=dfn F wB fun _ _ _ _ _ _ hr=>(av (ay (rF aH (az Qai (rm hr) rfl (ah (af 0) aj) (ak ax)))))
theorem sc_put_by:FnScope ["words","value"] ["words"] (aE (top 57)):=⟨rfl,rfl,rfl,by decide +kernel,rfl,by decide +kernel,by decide +kernel⟩
theorem y9 {C:Addr} (B:Bi K mg C) (F:Fun K "put_by" "put_by" (top 57) f fd) (G_Words__ahead:Mth P w K mg base C "ahead" ["self"] 1 (spM K 1 (cN C))) (Qam:Fn P w K mg base "value_by" ["text"] 31 (spM K 1 fS)) (G_Words__take:Mth P w K mg base C "take" ["self","fits"] 1 (spM K 2 (dv C))):FnOk P w K mg base CX0 32 f fd ["words"] (spM K 1 (iq C)):=dfn F sc_put_by fun _ _ _ _ _ _ hr=>(au (aW (i:=1) sc_put_by.nd (az Qam (rm hr) rfl (ah (ir G_Words__ahead B.k_Words (rm hr) (af 0)) aj) (ak ax))) (au (gL (iH G_Words__take B.k_Words (rm hr) (af 0) (ah (bP BA (af 1) ck) aj) (ak ax))) (av (ay (af 1)))))
theorem sc_number_below:FnScope ["words","bound","figures","word"] ["words","bound"] (aE (top 58)):=⟨rfl,rfl,rfl,by decide +kernel,rfl,by decide +kernel,by decide +kernel⟩
theorem wj {C:Addr} (B:Bi K mg C) (F:Fun K "number_below" "number_below" (top 58) f fd) (G_Words__ahead:Mth P w K mg base C "ahead" ["self"] 1 (spM K 1 (cN C))) (G_Words__take:Mth P w K mg base C "take" ["self","fits"] 1 (spM K 2 (dv C))):FnOk P w K mg base CX0 2 f fd ["words","bound"] (spM K 2 (gw C)):=dfn F sc_number_below fun _ _ _ _ _ _ hr=>(au (BP (i:=2) (osc:=aE (top 58)) (N:=["words","bound","figures","word"]) (N':=["words","bound","figures","word"]) (x:="k") ⟨rfl,by decide +kernel,by decide +kernel,rfl,by decide +kernel,by decide +kernel,by decide +kernel,by decide +kernel,rfl,by decide +kernel⟩ sc_number_below.nd (eE rfl B.b_range (af 1)) (fun C s0 H0 ex=>(bO jL rfl B.b_str boot_str (ah (af 0) aj))) (fun C s0 H0 ex=>cS)) (au (aW (i:=3) sc_number_below.nd (ir G_Words__ahead B.k_Words (rm hr) (af 0))) (au (gL (iH G_Words__take B.k_Words (rm hr) (af 0) (ah (bP ja (af 3) (af 2)) aj) (ak ax))) (av (ay (AL (af 2) (af 3)))))))
theorem xT:FnScope ["words","many","above","got"] ["words","many","above","got"] (aE (top 55)):=⟨rfl,rfl,rfl,by decide +kernel,rfl,by decide +kernel,by decide +kernel⟩
theorem sc_expr_by:FnScope ["words","above","got","word"] ["words","above","got"] (aE (top 54)):=⟨rfl,rfl,rfl,by decide +kernel,rfl,by decide +kernel,by decide +kernel⟩
theorem yb {C:Addr} (n:Nat) (B:Bi K mg C) (F:Fun K "exprs_by" "exprs_by" (top 55) f fd) (Qaz:Fn P w K mg base "expr_by" ["words","above","got"] (32 + n) (spM K 3 (dz C n))):FnOk P w K mg base CX0 (32 + n + 1) f fd ["words","many","above","got"] (spM K 4 (gH C (n + 1))):=dfn F xT fun _ _ _ _ _ _ hr=>(av (ay (bO kM rfl B.b_tuple boot_tuple (ah (dE (osc:=aE (top 55)) (N:=["words","many","above","got"]) (N':=["words","many","above","got"]) (x:="k") ⟨rfl,by decide +kernel,by decide +kernel,rfl,by decide +kernel,by decide +kernel,by decide +kernel,by decide +kernel,rfl,by decide +kernel⟩ (eE rfl B.b_range (af 1)) (fun C s0 H0 ex=>(az Qaz (rm hr) rfl (ah (af 1) (ah (af 3) (ah (af 4) aj))) (ak (ak (ak ax))))) (fun C s0 H0 ex=>cS)) aj))))
theorem yD {C:Addr} (n:Nat) (B:Bi K mg C) (F:Fun K "expr_by" "expr_by" (top 54) f fd) (G_Words__ahead:Mth P w K mg base C "ahead" ["self"] 1 (spM K 1 (cN C))) (G_Words__begin:Mth P w K mg base C "begin" ["self","fits","above"] 2 (spM K 3 (fM C))) (Qbu:Fn P w K mg base "put_by" ["words"] 32 (spM K 1 (iq C))) (Qan:Fn P w K mg base "number_below" ["words","bound"] 2 (spM K 2 (gw C))) (Qbp:Fn P w K mg base "exprs_by" ["words","many","above","got"] (32 + n) (spM K 4 (gH C n))):FnOk P w K mg base CX0 (32 + n + 1) f fd ["words","above","got"] (spM K 3 (dz C (n + 1))):=dfn F sc_expr_by fun _ _ _ _ _ _ hr=>(au (aW (i:=3) sc_expr_by.nd (ir G_Words__ahead B.k_Words (rm hr) (af 0))) (au (gL (iH G_Words__begin B.k_Words (rm hr) (af 0) (ah (u7 (bP ja (af 3) (mN (ss:=["put","got","row"]) rfl B.g_FILLED)) (cz (uq B.t_WITHIN rfl (af 3)))) (ah (af 1) aj)) (ak (ak ax)))) (au (aP (aN a6 (af 3) aH) (av (ay (bi (ah (af 3) (ah (az Qbu (rm hr) rfl (ah (af 0) aj) (ak ax)) aj))))) aQ) (au (aP (aN a6 (af 3) aH) (av (ay (bi (ah (af 3) (ah (az Qan (rm hr) rfl (ah (af 0) (ah (af 2) aj)) (ak (ak ax))) aj))))) aQ) (au (aP (aN a6 (af 3) aH) (av (ay (bi (ah (af 3) (ah (az Qbp (rm hr) rfl (ah (af 0) (ah (az Qan (rm hr) rfl (ah (af 0) (ah (aC aU (dB rfl B.c_MOST_IN_ROW) ao) aj)) (ak (ak ax))) (ah (aC aU (af 1) ao) (ah (af 2) aj)))) (ak (ak (ak (ak ax))))) aj))))) aQ) (av (ay (aC aU (bi (ah (af 3) aj)) (az Qbp (rm hr) rfl (ah (af 0) (ah (uo B.t_WITHIN rfl (af 3)) (ah (aC aU (af 1) ao) (ah (af 2) aj)))) (ak (ak (ak (ak ax)))))))))))))
theorem sc_name_by:FnScope ["words","word"] ["words"] (aE (top 56)):=⟨rfl,rfl,rfl,by decide +kernel,rfl,by decide +kernel,by decide +kernel⟩
theorem yA {C:Addr} (B:Bi K mg C) (F:Fun K "name_by" "name_by" (top 56) f fd) (G_Words__ahead:Mth P w K mg base C "ahead" ["self"] 1 (spM K 1 (cN C))) (Qas:Fn P w K mg base "is_name" ["thing"] 2 (spM K 1 fU)) (G_Words__take:Mth P w K mg base C "take" ["self","fits"] 1 (spM K 2 (dv C))):FnOk P w K mg base CX0 3 f fd ["words"] (spM K 1 (ik C)):=dfn F sc_name_by fun _ _ _ _ _ _ hr=>(au (aW (i:=1) sc_name_by.nd (ir G_Words__ahead B.k_Words (rm hr) (af 0))) (au (gL (iH G_Words__take B.k_Words (rm hr) (af 0) (ah (az Qas (rm hr) rfl (ah (af 1) aj) (ak ax)) aj) (ak ax))) (av (ay (af 1)))))
theorem sc_recipe_by:FnScope ["words","above","got","word","expr","behind"] ["words","above","got"] (aE (top 53)):=⟨rfl,rfl,rfl,by decide +kernel,rfl,by decide +kernel,by decide +kernel⟩
theorem xu {C:Addr} (n:Nat) (B:Bi K mg C) (F:Fun K "recipe_by" "recipe_by" (top 53) f fd) (G_Words__ahead:Mth P w K mg base C "ahead" ["self"] 1 (spM K 1 (cN C))) (G_Words__begin:Mth P w K mg base C "begin" ["self","fits","above"] 2 (spM K 3 (fM C))) (Qbs:Fn P w K mg base "name_by" ["words"] 3 (spM K 1 (ik C))) (Qaz:Fn P w K mg base "expr_by" ["words","above","got"] 57 (spM K 3 (dz C 25))) (Qbe:Fn P w K mg base "got_behind" ["word","got"] 1 (spM K 2 gx)) (Qao:Fn P w K mg base "recipe_by" ["words","above","got"] (57 + n) (spM K 3 (cD C n))):FnOk P w K mg base CX0 (57 + n + 1) f fd ["words","above","got"] (spM K 3 (cD C (n + 1))):=dfn F sc_recipe_by fun _ _ _ _ _ _ hr=>(au (aW (i:=3) sc_recipe_by.nd (ir G_Words__ahead B.k_Words (rm hr) (af 0))) (au (gL (iH G_Words__begin B.k_Words (rm hr) (af 0) (ah (bW (uq B.t_RECIPES_WITHIN rfl (af 3)) (cz (lh (bW (bP ja (af 3) (mN (ss:=["want","peek"]) rfl B.g_GETTING)) (cz (bP a6 (af 2) (dB rfl B.c_MOST_WANTS))))))) (ah (af 1) aj)) (ak (ak ax)))) (au (aP (aN a6 (af 3) aH) (av (ay (bi (ah (af 3) (ah (az Qbs (rm hr) rfl (ah (af 0) aj) (ak ax)) aj))))) aQ) (au (aW (i:=4) sc_recipe_by.nd (az Qaz (rm hr) rfl (ah (af 0) (ah (aC aU (af 1) ao) (ah (af 2) aj))) (ak (ak (ak ax))))) (au (aW (i:=5) sc_recipe_by.nd (az Qbe (rm hr) rfl (ah (af 3) (ah (af 2) aj)) (ak (ak ax)))) (av (ay (aC aU (bi (ah (af 3) (ah (af 4) aj))) (bO kM rfl B.b_tuple boot_tuple (ah (dE (osc:=aE (top 53)) (N:=["words","above","got","word","expr","behind"]) (N':=["words","above","got","word","expr","behind"]) (x:="k") ⟨rfl,by decide +kernel,by decide +kernel,rfl,by decide +kernel,by decide +kernel,by decide +kernel,by decide +kernel,rfl,by decide +kernel⟩ (eE rfl B.b_range (uo B.t_RECIPES_WITHIN rfl (af 3))) (fun C s0 H0 ex=>(az Qao (rm hr) rfl (ah (af 1) (ah (aC aU (af 2) ao) (ah (af 6) aj))) (ak (ak (ak ax))))) (fun C s0 H0 ex=>cS)) aj))))))))))
theorem sc_read_recipe:FnScope ["text","words","recipe"] ["text"] (aE (top 52)):=⟨rfl,rfl,rfl,by decide +kernel,rfl,by decide +kernel,by decide +kernel⟩
theorem wH {C:Addr} (B:Bi K mg C) (F:Fun K "read_recipe" "read_recipe" (top 52) f fd) (Qao:Fn P w K mg base "recipe_by" ["words","above","got"] 82 (spM K 3 (cD C 25))) (G_Words__finish:Mth P w K mg base C "finish" ["self"] 1 (spM K 1 (eX C))) (G_Words____init__:Ini P w K mg base C ["self","text"] 1 (spM K 2 (d8 C))):FnOk P w K mg base CX0 83 f fd ["text"] (spM K 1 (ic C)):=dfn F sc_read_recipe fun _ _ _ _ _ _ hr=>(Do (i:=1) G_Words____init__ (rm hr) rfl B.m_Words sc_read_recipe.nd (af 0) (au (aW (i:=2) sc_read_recipe.nd (az Qao (rm hr) rfl (ah (af 1) (ah ao (ah ao aj))) (ak (ak (ak ax))))) (au (gL (ir G_Words__finish B.k_Words (rm hr) (af 1))) (av (ay (af 2))))))
theorem wA:FnScope ["book","name"] ["book","name"] (aE (top 61)):=⟨rfl,rfl,rfl,by decide +kernel,rfl,by decide +kernel,by decide +kernel⟩
theorem wF {C:Addr} (B:Bi K mg C) (F:Fun K "shown_thing" "shown_thing" (top 61) f fd) (Qbt:Fn P w K mg base "sort_at" ["book","name"] 1 (spM K 2 ij)) (Qah:Fn P w K mg base "stamp_of" ["value"] 26 (spM K 1 (cP 25))) (Qba:Fn P w K mg base "show_recipe" ["recipe"] 78 (spM K 1 ib)):FnOk P w K mg base CX0 79 f fd ["book","name"] (spM K 2 (fN)):=dfn F wA fun _ _ _ _ _ _ hr=>(au (aP (aN a6 (az Qbt (rm hr) rfl (ah (af 0) (ah (af 1) aj)) (ak (ak ax))) aH) (av (ay (aC aU (ur (i:=1)) (az Qah (rm hr) rfl (ah (aI (gc hr) (aI aL (af 0) ao) (af 1)) aj) (ak ax))))) aQ) (av (ay (aC aU (ur (i:=1)) (az Qba (rm hr) rfl (ah (aI (gc hr) (aI aL (af 0) ao) (af 1)) aj) (ak ax))))))
theorem wN:FnScope ["book"] ["book"] (aE (top 60)):=⟨rfl,rfl,rfl,by decide +kernel,rfl,by decide +kernel,by decide +kernel⟩
theorem wV {C:Addr} (B:Bi K mg C) (F:Fun K "shown_book" "shown_book" (top 60) f fd) (Qbq:Fn P w K mg base "names_of" ["book"] 1 (spM K 1 ie)) (Qbb:Fn P w K mg base "shown_thing" ["book","name"] 79 (spM K 2 fN)):FnOk P w K mg base CX0 80 f fd ["book"] (spO K 1 (fO)):=vN F wN fun _ _ _ _ _ _ hr=>(av (AE (osc:=aE (top 60)) (N:=["book"]) (N':=["book"]) (x:="name") ⟨rfl,by decide +kernel,by decide +kernel,rfl,by decide +kernel,by decide +kernel,by decide +kernel,by decide +kernel,rfl,by decide +kernel⟩ (dC (az Qbq (rm hr) rfl (ah (af 0) aj) (ak ax))) (fun C s0 H0 ex=>(az Qbb (rm hr) rfl (ah (af 1) (ah (af 0) aj)) (ak (ak ax)))) (fun C s0 H0 ex=>cS)))
theorem vX:FnScope ["text"] ["text"] (aE (top 65)):=⟨rfl,rfl,rfl,by decide +kernel,rfl,by decide +kernel,by decide +kernel⟩
theorem vY {C:Addr} (B:Bi K mg C) (F:Fun K "recipe_or_none" "recipe_or_none" (top 65) f fd) (Qbc:Fn P w K mg base "read_recipe" ["text"] 83 (spM K 1 (ic C))):FnOk P w K mg base CX0 84 f fd ["text"] (spM K 1 (jd C)):=dfn F vX fun _ _ _ _ _ _ hr=>(av (AC (av (ay (az Qbc (rm hr) rfl (ah (af 0) aj) (ak ax)))) fun _ _ z=>z))
theorem wR:FnScope ["word","text"] ["word","text"] (aE (top 64)):=⟨rfl,rfl,rfl,by decide +kernel,rfl,by decide +kernel,by decide +kernel⟩
theorem wZ {C:Addr} (B:Bi K mg C) (F:Fun K "content_by" "content_by" (top 64) f fd) (Qam:Fn P w K mg base "value_by" ["text"] 31 (spM K 1 fS)) (Qar:Fn P w K mg base "recipe_or_none" ["text"] 84 (spM K 1 (jd C))):FnOk P w K mg base CX0 85 f fd ["word","text"] (spM K 2 (gy C)):=dfn F wR fun _ _ _ _ _ _ hr=>(au (aP (aN a6 (af 0) aH) (av (ay (az Qam (rm hr) rfl (ah (af 1) aj) (ak ax)))) aQ) (au (aP (aN a6 (af 0) aH) (av (ay (az Qar (rm hr) rfl (ah (af 1) aj) (ak ax)))) aQ) (av (ay ck))))
theorem sc_thing_by:FnScope ["line","words","content"] ["line"] (aE (top 63)):=⟨rfl,rfl,rfl,by decide +kernel,rfl,by decide +kernel,by decide +kernel⟩
theorem xX {C:Addr} (B:Bi K mg C) (F:Fun K "thing_by" "thing_by" (top 63) f fd) (Qas:Fn P w K mg base "is_name" ["thing"] 2 (spM K 1 fU)) (Qbf:Fn P w K mg base "content_by" ["word","text"] 85 (spM K 2 (gy C))):FnOk P w K mg base CX0 86 f fd ["line"] (spM K 1 (gE C)):=dfn F sc_thing_by fun _ _ _ _ _ _ hr=>(au (aW (i:=1) sc_thing_by.nd (zF (af 0) aH)) (au (aP (cb (cI (aN dq (bh bI rfl B.b_len boot_len (ah (af 1) aj)) ao) (dH (fj (bG (az Qas (rm hr) rfl (ah (aI aL (af 1) ao) aj) (ak ax))))))) (av (ay ck)) aQ) (au (aW (i:=2) sc_thing_by.nd (az Qbf (rm hr) rfl (ah (aI aL (af 1) ao) (ah (aI aL (af 1) ao) aj)) (ak (ak ax)))) (av (ay (i4 (aN i9 (af 2) ck) ck (bi (ah (aI aL (af 1) ao) (ah (aI aL (af 1) ao) (ah (af 2) aj))))))))))
theorem sc_read_book:FnScope ["lines","told","recipes","at","line","found"] ["lines"] (aE (top 62)):=⟨rfl,rfl,rfl,by decide +kernel,rfl,by decide +kernel,by decide +kernel⟩
theorem xw {C:Addr} (B:Bi K mg C) (F:Fun K "read_book" "read_book" (top 62) f fd) (Qbr:Fn P w K mg base "thing_by" ["line"] 86 (spM K 1 (gE C))):FnOk P w K mg base CX0 87 f fd ["lines"] (spO K 1 (cO C)):=vN F sc_read_book fun _ _ _ _ _ _ hr=>(au (kH (i:=1) sc_read_book.nd) (au (kH (i:=2) sc_read_book.nd) (au (AG (i:=3) (j:=4) B.b_enumerate sc_read_book.nd (af 0) (au (aW (i:=5) sc_read_book.nd (az Qbr (rm hr) rfl (ah (af 4) aj) (ak ax))) (au (aP (cb (cI (aN i9 (af 5) ck) (cI (aN vF (af 3) (dB rfl B.c_MOST_NAMES)) (cI (aN (iU hr) (aI aL (af 5) ao) (af 1)) (dH (aN (iU hr) (aI aL (af 5) ao) (af 2))))))) (av m9) aQ) (av (aP (aN a6 (aI aL (af 5) ao) aH) (av (kI (i:=1) hr (aI aL (af 5) ao) (aI aL (af 5) ao))) (av (kI (i:=2) hr (aI aL (af 5) ao) (aI aL (af 5) ao)))))))) (av (AF (i:=1) (j:=2))))))
theorem wa:FnScope ["_law_script","_law_k"] ["_law_script","_law_k"] (aE (top 67)):=⟨rfl,rfl,rfl,by decide +kernel,rfl,by decide +kernel,by decide +kernel⟩
theorem wq {C:Addr} (B:Bi K mg C) (F:Fun K "_law_cell_at" "_law_cell_at" (top 67) f fd)  : FnOk P w K mg base CX0 1 f fd ["_law_script","_law_k"] (spM K 2 (cB)):=dfn F wa fun _ _ _ _ _ _ hr=>(au (aP (aN dq (af 1) (bh bI rfl B.b_len boot_len (ah (af 0) aj))) (av (ay (aI aL (af 0) (af 1)))) aQ) (av (ay ao)))
theorem sc__law_draws:FnScope ["_law_cell","_law_many","_law_found","_law_number","_law_mixed","_law_k"] ["_law_cell","_law_many"] (aE (top 68)):=⟨rfl,rfl,rfl,by decide +kernel,rfl,by decide +kernel,by decide +kernel⟩
theorem xf {C:Addr} (B:Bi K mg C) (F:Fun K "_law_draws" "_law_draws" (top 68) f fd)  : FnOk P w K mg base CX0 1 f fd ["_law_cell","_law_many"] (spM K 2 (eZ)):=dfn F sc__law_draws fun _ _ _ _ _ _ hr=>(au (kG (i:=2) sc__law_draws.nd aj) (au (aW (i:=3) sc__law_draws.nd ao) (au (aP (aN vF (af 0) (aC lC ao ao)) (av (aW (i:=3) sc__law_draws.nd (af 0))) aQ) (au (aW (i:=4) sc__law_draws.nd (aC aU (aC dJ (af 0) ao) ao)) (au (f7 (i:=5) sc__law_draws.nd (eE rfl B.b_range (af 1)) (au (aW (i:=4) sc__law_draws.nd (aC dJ (aC aU (aC aU (aC eG (af 4) (af 4)) (aC eG ao (af 4))) (aC eG ao (af 5))) ao)) (av (aP (aN fH (af 3) ao) (au (gR (i:=2) (by exact (aC dJ (af 3) ao))) (av (aW (i:=3) sc__law_draws.nd (aC jp (af 3) ao)))) (av (gR (i:=2) (by exact (aC jp (aC dJ (aC aU (aC eG (af 4) ao) (aC eG ao (af 5))) ao) ao)))))))) (av (ay (af 2))))))))
theorem xm:FnScope ["_law_tape","_law_many"] ["_law_tape","_law_many"] (aE (top 69)):=⟨rfl,rfl,rfl,by decide +kernel,rfl,by decide +kernel,by decide +kernel⟩
theorem xB {C:Addr} (B:Bi K mg C) (F:Fun K "_law_take" "_law_take" (top 69) f fd)  : FnOk P w K mg base CX0 1 f fd ["_law_tape","_law_many"] (spM K 2 (a7)):=dfn F xm fun _ _ _ _ _ _ hr=>(au (Dp (af 0) ao (aC aU (aI aL (af 0) ao) ao)) (av (ay (aC dJ (aI aL (aI aL (af 0) ao) (aC dJ (aC gi (aI aL (af 0) ao) ao) (bh bI rfl B.b_len boot_len (ah (aI aL (af 0) ao) aj)))) (af 1)))))
theorem wU:FnScope ["_law_value_here"] ["_law_value_here"] (aE (top 70)):=⟨rfl,rfl,rfl,by decide +kernel,rfl,by decide +kernel,by decide +kernel⟩
theorem w8 {C:Addr} (n:Nat) (B:Bi K mg C) (F:Fun K "_law_stamp" "_law_stamp" (top 70) f fd) (Qad:Fn P w K mg base "_law_stamp" ["_law_value_here"] (0 + n) (spM K 1 (cx n))):FnOk P w K mg base CX0 (0 + n + 1) f fd ["_law_value_here"] (spM K 1 (cx (n + 1))):=dfn F wU fun _ _ _ _ _ _ hr=>(au (aP (bG (bH .tup B.b_isinstance (af 0) B.b_tuple boot_tuple)) (av (ay (aC aU (aC aU aH (sT aH (dE (osc:=aE (top 70)) (N:=["_law_value_here"]) (N':=["_law_value_here"]) (x:="_law_part") ⟨rfl,by decide +kernel,by decide +kernel,rfl,by decide +kernel,by decide +kernel,by decide +kernel,by decide +kernel,rfl,by decide +kernel⟩ (dC (af 0)) (fun C s0 H0 ex=>(az Qad (rm hr) rfl (ah (af 0) aj) (ak ax))) (fun C s0 H0 ex=>cS)))) aH))) aQ) (au (aP (bG (bH .str B.b_isinstance (af 0) B.b_str boot_str)) (av (ay (aC aU aH (af 0)))) aQ) (av (ay (bO jL rfl B.b_str boot_str (ah (af 0) aj))))))
theorem xn:FnScope ["_law_found","_law_due"] ["_law_found","_law_due"] (aE (top 71)):=⟨rfl,rfl,rfl,by decide +kernel,rfl,by decide +kernel,by decide +kernel⟩
theorem xD {C:Addr} (n:Nat) (B:Bi K mg C) (F:Fun K "_law_same" "_law_same" (top 71) f fd) (Qac:Fn P w K mg base "_law_same" ["_law_found","_law_due"] (0 + n) (spM K 2 (aY n))):FnOk P w K mg base CX0 (0 + n + 1) f fd ["_law_found","_law_due"] (spM K 2 (aY (n + 1))):=dfn F xn fun _ _ _ _ _ _ hr=>(au (aP (bG (AK B.b_isinstance (af 1) B.b_tuple B.b_list)) (au (aP (cb (cI (aN jO (bH .tup B.b_isinstance (af 0) B.b_tuple boot_tuple) (bH .tup B.b_isinstance (af 1) B.b_tuple boot_tuple)) (dH (aN jO (bH .lst B.b_isinstance (af 0) B.b_list boot_list) (bH .lst B.b_isinstance (af 1) B.b_list boot_list))))) (av (ay g8)) aQ) (av (ay (bW (bP a6 (bh bI rfl B.b_len boot_len (ah (af 0) aj)) (bh bI rfl B.b_len boot_len (ah (af 1) aj))) (cz (bh lK rfl B.b_all boot_all (ah (dE (osc:=aE (top 71)) (N:=["_law_found","_law_due"]) (N':=["_law_found","_law_due"]) (x:="_law_k") ⟨rfl,by decide +kernel,by decide +kernel,rfl,by decide +kernel,by decide +kernel,by decide +kernel,by decide +kernel,rfl,by decide +kernel⟩ (eE rfl B.b_range (bh bI rfl B.b_len boot_len (ah (af 1) aj))) (fun C s0 H0 ex=>(az Qac (rm hr) rfl (ah (aI (gc hr) (af 1) (af 0)) (ah (aI (gc hr) (af 2) (af 0)) aj)) (ak (ak ax)))) (fun C s0 H0 ex=>cS)) aj))))))) aQ) (au (aP (bG (bH .dct B.b_isinstance (af 1) B.b_dict boot_dict)) (au (aP (cb (cI (fj (bG (bH .dct B.b_isinstance (af 0) B.b_dict boot_dict))) (dH (aN jO (bh bI rfl B.b_len boot_len (ah (af 0) aj)) (bh bI rfl B.b_len boot_len (ah (af 1) aj)))))) (av (ay g8)) aQ) (av (ay (bh lK rfl B.b_all boot_all (ah (dE (osc:=aE (top 71)) (N:=["_law_found","_law_due"]) (N':=["_law_found","_law_due"]) (x:="_law_key") ⟨rfl,by decide +kernel,by decide +kernel,rfl,by decide +kernel,by decide +kernel,by decide +kernel,by decide +kernel,rfl,by decide +kernel⟩ (dC (af 1)) (fun C s0 H0 ex=>(bW (bP (iU hr) (af 0) (af 1)) (cz (az Qac (rm hr) rfl (ah (aI (gc hr) (af 1) (af 0)) (ah (aI (gc hr) (af 2) (af 0)) aj)) (ak (ak ax)))))) (fun C s0 H0 ex=>cS)) aj))))) aQ) (au (aP (cb (cI (bG (bH .bl B.b_isinstance (af 1) B.b_bool boot_bool)) (dH (aN i9 (af 1) ck)))) (av (ay (bW (bP a6 (bH .bl B.b_isinstance (af 0) B.b_bool boot_bool) (bH .bl B.b_isinstance (af 1) B.b_bool boot_bool)) (cz (bP a6 (af 0) (af 1)))))) aQ) (au (aP (bG (bH .int B.b_isinstance (af 1) B.b_int boot_int)) (av (ay (bW (bH .int B.b_isinstance (af 0) B.b_int boot_int) (bW (lh (bH .bl B.b_isinstance (af 0) B.b_bool boot_bool)) (cz (bP a6 (af 0) (af 1))))))) aQ) (av (ay (bW (bH .str B.b_isinstance (af 0) B.b_str boot_str) (cz (bP a6 (af 0) (af 1))))))))))
theorem sc__law_names:FnScope ["_law_tape","_law_many","_law_letters","_law_way","_law_at","_law_words_here","_law_tail"] ["_law_tape","_law_many"] (aE (top 72)):=⟨rfl,rfl,rfl,by decide +kernel,rfl,by decide +kernel,by decide +kernel⟩
theorem xc {C:Addr} (B:Bi K mg C) (F:Fun K "_law_names" "_law_names" (top 72) f fd) (Qaa:Fn P w K mg base "_law_take" ["_law_tape","_law_many"] 1 (spM K 2 a7)):FnOk P w K mg base CX0 2 f fd ["_law_tape","_law_many"] (spM K 2 (eg)):=dfn F sc__law_names fun _ _ _ _ _ _ hr=>(au (aW (i:=2) sc__law_names.nd aH) (au (aW (i:=3) sc__law_names.nd (az Qaa (rm hr) rfl (ah (af 0) (ah ao aj)) (ak (ak ax)))) (au (aW (i:=4) sc__law_names.nd (az Qaa (rm hr) rfl (ah (af 0) (ah ao aj)) (ak (ak ax)))) (au (aP (aN a6 (af 3) ao) (au (aW (i:=5) sc__law_names.nd (bZ (ah aH (ah aH (ah aH (ah aH (ah aH (ah aH (ah aH (ah aH (ah aH (ah aH (ah aH (ah aH aj)))))))))))))) (av (ay (cJ (aC aU (cJ (af 5) (bU (af 4)) dS) (cJ (af 5) dS (bU (af 4)))) dS (bU (af 1)))))) aQ) (au (aP (aN a6 (af 3) ao) (av (ay (dE (osc:=aE (top 72)) (N:=["_law_tape","_law_many","_law_letters","_law_way","_law_at","_law_words_here","_law_tail"]) (N':=["_law_tape","_law_many","_law_letters","_law_way","_law_at","_law_words_here","_law_tail"]) (x:="_law_k") ⟨rfl,by decide +kernel,by decide +kernel,rfl,by decide +kernel,by decide +kernel,by decide +kernel,by decide +kernel,rfl,by decide +kernel⟩ (eE rfl B.b_range (af 1)) (fun C s0 H0 ex=>(aC eG (aI aL (af 3) (aC aU (af 5) (aC jp (af 0) ao))) (aC aU ao (aC dJ (af 0) ao)))) (fun C s0 H0 ex=>cS)))) aQ) (au (aW (i:=6) sc__law_names.nd (aC eG (aI aL (af 2) (af 4)) (az Qaa (rm hr) rfl (ah (af 0) (ah (aC gi ao (aC dJ (af 4) ao)) aj)) (ak (ak ax))))) (av (ay (dE (osc:=aE (top 72)) (N:=["_law_tape","_law_many","_law_letters","_law_way","_law_at","_law_words_here","_law_tail"]) (N':=["_law_tape","_law_many","_law_letters","_law_way","_law_at","_law_words_here","_law_tail"]) (x:="_law_k") ⟨rfl,by decide +kernel,by decide +kernel,rfl,by decide +kernel,by decide +kernel,by decide +kernel,by decide +kernel,rfl,by decide +kernel⟩ (eE rfl B.b_range (af 1)) (fun C s0 H0 ex=>(aC aU (aC aU (aC eG (aI aL (af 3) (af 5)) (aC dJ (af 5) ao)) (aI aL (af 3) (aC dJ (aC aU (af 5) (af 0)) ao))) (af 7))) (fun C s0 H0 ex=>cS))))))))))
theorem sc__law_value:FnScope ["_law_tape","_law_names_here","_law_deep","_law_way","_law_some"] ["_law_tape","_law_names_here","_law_deep"] (aE (top 73)):=⟨rfl,rfl,rfl,by decide +kernel,rfl,by decide +kernel,by decide +kernel⟩
theorem w6 {C:Addr} (n:Nat) (B:Bi K mg C) (F:Fun K "_law_value" "_law_value" (top 73) f fd) (Qaa:Fn P w K mg base "_law_take" ["_law_tape","_law_many"] 1 (spM K 2 a7)) (Qae:Fn P w K mg base "_law_value" ["_law_tape","_law_names_here","_law_deep"] (1 + n) (spM K 3 (bM n))):FnOk P w K mg base CX0 (1 + n + 1) f fd ["_law_tape","_law_names_here","_law_deep"] (spM K 3 (bM (n + 1))):=dfn F sc__law_value fun _ _ _ _ _ _ hr=>(au (aW (i:=3) sc__law_value.nd (az Qaa (rm hr) rfl (ah (af 0) (ah ao aj)) (ak (ak ax)))) (au (aW (i:=4) sc__law_value.nd (bZ (ah ao (ah ao (ah (um ao) (ah ao (ah (aC lC ao ao) (ah (um (aC lC ao ao)) (ah aH (ah aH (ah aH (ah aH (ah (aC eG aH ao) (ah (bi aj) aj)))))))))))))) (au (aP (cb (cI (aN dq (af 3) ao) (dH (cb (iO (aN a6 (af 2) ao) (iG (aN fH (af 3) ao))))))) (av (ay (aI aL (af 4) (az Qaa (rm hr) rfl (ah (af 0) (ah ao aj)) (ak (ak ax)))))) aQ) (au (aP (aN dq (af 3) ao) (av (ay (aI aL (af 1) (az Qaa (rm hr) rfl (ah (af 0) (ah (bh bI rfl B.b_len boot_len (ah (af 1) aj)) aj)) (ak (ak ax)))))) aQ) (av (ay (bO kM rfl B.b_tuple boot_tuple (ah (dE (osc:=aE (top 73)) (N:=["_law_tape","_law_names_here","_law_deep","_law_way","_law_some"]) (N':=["_law_tape","_law_names_here","_law_deep","_law_way","_law_some"]) (x:="_law_k") ⟨rfl,by decide +kernel,by decide +kernel,rfl,by decide +kernel,by decide +kernel,by decide +kernel,by decide +kernel,rfl,by decide +kernel⟩ (eE rfl B.b_range (az Qaa (rm hr) rfl (ah (af 0) (ah ao aj)) (ak (ak ax)))) (fun C s0 H0 ex=>(az Qae (rm hr) rfl (ah (af 1) (ah (af 2) (ah (aC gi (af 3) ao) aj))) (ak (ak (ak ax))))) (fun C s0 H0 ex=>cS)) aj))))))))
theorem wC:FnScope ["_law_tape","_law_names_here","_law_many"] ["_law_tape","_law_names_here","_law_many"] (aE (top 74)):=⟨rfl,rfl,rfl,by decide +kernel,rfl,by decide +kernel,by decide +kernel⟩
theorem wI {C:Addr} (B:Bi K mg C) (F:Fun K "_law_simple" "_law_simple" (top 74) f fd) (Qaa:Fn P w K mg base "_law_take" ["_law_tape","_law_many"] 1 (spM K 2 a7)) (Qae:Fn P w K mg base "_law_value" ["_law_tape","_law_names_here","_law_deep"] 26 (spM K 3 (bM 25))):FnOk P w K mg base CX0 27 f fd ["_law_tape","_law_names_here","_law_many"] (spM K 3 (eY)):=dfn F wC fun _ _ _ _ _ _ hr=>(au (aP (cb (iO (aN fH (af 2) ao) (iG (aN fH (az Qaa (rm hr) rfl (ah (af 0) (ah ao aj)) (ak (ak ax))) ao)))) (av (ay (bi (ah aH (ah (az Qaa (rm hr) rfl (ah (af 0) (ah (af 2) aj)) (ak (ak ax))) aj))))) aQ) (av (ay (bi (ah aH (ah (az Qae (rm hr) rfl (ah (af 0) (ah (af 1) (ah ao aj))) (ak (ak (ak ax)))) aj))))))
theorem sc__law_expr:FnScope ["_law_tape","_law_names_here","_law_many","_law_way","_law_one","_law_other"] ["_law_tape","_law_names_here","_law_many"] (aE (top 75)):=⟨rfl,rfl,rfl,by decide +kernel,rfl,by decide +kernel,by decide +kernel⟩
theorem xF {C:Addr} (B:Bi K mg C) (F:Fun K "_law_expr" "_law_expr" (top 75) f fd) (Qaa:Fn P w K mg base "_law_take" ["_law_tape","_law_many"] 1 (spM K 2 a7)) (Qaq:Fn P w K mg base "_law_simple" ["_law_tape","_law_names_here","_law_many"] 27 (spM K 3 eY)):FnOk P w K mg base CX0 28 f fd ["_law_tape","_law_names_here","_law_many"] (spM K 3 (e7)):=dfn F sc__law_expr fun _ _ _ _ _ _ hr=>(au (aW (i:=3) sc__law_expr.nd (az Qaa (rm hr) rfl (ah (af 0) (ah ao aj)) (ak (ak ax)))) (au (aW (i:=4) sc__law_expr.nd (az Qaq (rm hr) rfl (ah (af 0) (ah (af 1) (ah (af 2) aj))) (ak (ak (ak ax))))) (au (aP (aN dq (af 3) ao) (av (ay (aI aL (bZ (ah (af 4) (ah (bi (ah aH (ah (af 4) aj))) aj))) (aC jp (af 3) ao)))) aQ) (au (aW (i:=5) sc__law_expr.nd (az Qaq (rm hr) rfl (ah (af 0) (ah (af 1) (ah (af 2) aj))) (ak (ak (ak ax))))) (au (aP (aN a6 (af 3) ao) (av (ay (bi (ah aH (ah (cJ (bi (ah (af 4) (ah (af 5) aj))) dS (bU (az Qaa (rm hr) rfl (ah (af 0) (ah ao aj)) (ak (ak ax))))) aj))))) aQ) (av (ay (bi (ah (aI aL (bZ (ah aH (ah aH (ah aH (ah aH (ah aH aj)))))) (az Qaa (rm hr) rfl (ah (af 0) (ah ao aj)) (ak (ak ax)))) (ah (af 4) (ah (af 5) aj)))))))))))
theorem sc__law_recipe:FnScope ["_law_tape","_law_names_here","_law_deep","_law_many","_law_peeks","_law_way","_law_expr_here","_law_word","_law_one"] ["_law_tape","_law_names_here","_law_deep","_law_many","_law_peeks"] (aE (top 76)):=⟨rfl,rfl,rfl,by decide +kernel,rfl,by decide +kernel,by decide +kernel⟩
theorem wJ {C:Addr} (n:Nat) (B:Bi K mg C) (F:Fun K "_law_recipe" "_law_recipe" (top 76) f fd) (Qaa:Fn P w K mg base "_law_take" ["_law_tape","_law_many"] 1 (spM K 2 a7)) (Qbm:Fn P w K mg base "_law_expr" ["_law_tape","_law_names_here","_law_many"] 28 (spM K 3 e7)) (Qaf:Fn P w K mg base "_law_recipe" ["_law_tape","_law_names_here","_law_deep","_law_many","_law_peeks"] (28 + n) (spM K 5 (bq n))):FnOk P w K mg base CX0 (28 + n + 1) f fd ["_law_tape","_law_names_here","_law_deep","_law_many","_law_peeks"] (spM K 5 (bq (n + 1))):=dfn F sc__law_recipe fun _ _ _ _ _ _ hr=>(au (aW (i:=5) sc__law_recipe.nd (az Qaa (rm hr) rfl (ah (af 0) (ah ao aj)) (ak (ak ax)))) (au (aW (i:=6) sc__law_recipe.nd (az Qbm (rm hr) rfl (ah (af 0) (ah (af 1) (ah (af 3) aj))) (ak (ak (ak ax))))) (au (aP (cb (iO (aN fH (af 2) ao) (iG (aN dq (af 5) ao)))) (au (aW (i:=7) sc__law_recipe.nd (aI aL (bZ (ah aH (ah aH aj))) (bO ve rfl B.b_int boot_int (ah (bW (af 4) (cz (bP a6 (az Qaa (rm hr) rfl (ah (af 0) (ah ao aj)) (ak (ak ax))) ao))) aj)))) (au (aP (aN fH (az Qaa (rm hr) rfl (ah (af 0) (ah ao aj)) (ak (ak ax))) ao) (av (aW (i:=6) sc__law_recipe.nd (bi (ah aH (ah (aI aL (af 1) (az Qaa (rm hr) rfl (ah (af 0) (ah (bh bI rfl B.b_len boot_len (ah (af 1) aj)) aj)) (ak (ak ax)))) aj))))) aQ) (av (ay (bi (ah (af 7) (ah (af 6) (ah (az Qaf (rm hr) rfl (ah (af 0) (ah (af 1) (ah (aC gi (af 2) ao) (ah (aC aU (af 3) ao) (ah (af 4) aj))))) (ak (ak (ak (ak (ak ax)))))) aj)))))))) aQ) (au (aP (cb (iO (aN fH (af 2) ao) (iG (aN dq (af 5) ao)))) (au (aW (i:=8) sc__law_recipe.nd (az Qaf (rm hr) rfl (ah (af 0) (ah (af 1) (ah (aC gi (af 2) ao) (ah (af 3) (ah (af 4) aj))))) (ak (ak (ak (ak (ak ax))))))) (av (ay (bi (ah aH (ah (af 6) (ah (af 8) (ah (az Qaf (rm hr) rfl (ah (af 0) (ah (af 1) (ah (aC gi (af 2) ao) (ah (af 3) (ah (af 4) aj))))) (ak (ak (ak (ak (ak ax)))))) aj)))))))) aQ) (au (aP (cb (iO (aN a6 (af 5) ao) (iG (aN a6 (az Qaa (rm hr) rfl (ah (af 0) (ah ao aj)) (ak (ak ax))) ao)))) (av (ay (bi (ah aH (ah (aI aL (aC aU (af 1) (bZ (ah aH (ah aH aj)))) (az Qaa (rm hr) rfl (ah (af 0) (ah (aC aU (bh bI rfl B.b_len boot_len (ah (af 1) aj)) ao) aj)) (ak (ak ax)))) aj))))) aQ) (av (ay (bi (ah aH (ah (af 6) aj))))))))))
theorem sc__law_book:FnScope ["_law_script","_law_at","_law_peeks","_law_head","_law_many","_law_names_here","_law_givens","_law_recipes","_law_k","_law_tape"] ["_law_script","_law_at","_law_peeks"] (aE (top 77)):=⟨rfl,rfl,rfl,by decide +kernel,rfl,by decide +kernel,by decide +kernel⟩
theorem xG {C:Addr} (B:Bi K mg C) (F:Fun K "_law_book" "_law_book" (top 77) f fd) (Qab:Fn P w K mg base "_law_cell_at" ["_law_script","_law_k"] 1 (spM K 2 cB)) (Qaw:Fn P w K mg base "_law_draws" ["_law_cell","_law_many"] 1 (spM K 2 eZ)) (Qaa:Fn P w K mg base "_law_take" ["_law_tape","_law_many"] 1 (spM K 2 a7)) (Qbg:Fn P w K mg base "_law_names" ["_law_tape","_law_many"] 2 (spM K 2 eg)) (Qae:Fn P w K mg base "_law_value" ["_law_tape","_law_names_here","_law_deep"] 26 (spM K 3 (bM 25))) (Qaf:Fn P w K mg base "_law_recipe" ["_law_tape","_law_names_here","_law_deep","_law_many","_law_peeks"] 53 (spM K 5 (bq 25))):FnOk P w K mg base CX0 54 f fd ["_law_script","_law_at","_law_peeks"] (spM K 3 (gD)):=dfn F sc__law_book fun _ _ _ _ _ _ hr=>(qp (i:=3) sc__law_book.nd (ah (az Qaw (rm hr) rfl (ah (az Qab (rm hr) rfl (ah (af 0) (ah (af 1) aj)) (ak (ak ax))) (ah ao aj)) (ak (ak ax))) (ah ao aj)) (au (aW (i:=4) sc__law_book.nd (aC aU ao (az Qaa (rm hr) rfl (ah (af 3) (ah ao aj)) (ak (ak ax))))) (au (aW (i:=5) sc__law_book.nd (az Qbg (rm hr) rfl (ah (af 3) (ah (aC aU (af 4) ao) aj)) (ak (ak ax)))) (au (kH (i:=6) sc__law_book.nd) (au (kH (i:=7) sc__law_book.nd) (au (f7 (i:=8) sc__law_book.nd (eE rfl B.b_range (af 4)) (qp (i:=9) sc__law_book.nd (ah (az Qaw (rm hr) rfl (ah (aC aU (az Qab (rm hr) rfl (ah (af 0) (ah (aC aU (aC aU (af 1) ao) (af 8)) aj)) (ak (ak ax))) (aC eG ao (af 8))) (ah ao aj)) (ak (ak ax))) (ah ao aj)) (av (aP (aN a6 (az Qaa (rm hr) rfl (ah (af 9) (ah ao aj)) (ak (ak ax))) ao) (av (kI (i:=6) hr (aI aL (af 5) (af 8)) (az Qae (rm hr) rfl (ah (af 9) (ah (af 5) (ah ao aj))) (ak (ak (ak ax)))))) (av (kI (i:=7) hr (aI aL (af 5) (af 8)) (az Qaf (rm hr) rfl (ah (af 9) (ah (af 5) (ah (aC aU ao (az Qaa (rm hr) rfl (ah (af 9) (ah ao aj)) (ak (ak ax)))) (ah ao (ah (af 2) aj))))) (ak (ak (ak (ak (ak ax)))))))))))) (av (ay (bi (ah (af 6) (ah (af 7) aj)))))))))))
theorem sc__law_words:FnScope ["_law_thing","_law_words_here","_law_parts","_law_part"] ["_law_thing"] (aE (top 78)):=⟨rfl,rfl,rfl,by decide +kernel,rfl,by decide +kernel,by decide +kernel⟩
theorem w4 {C:Addr} (n:Nat) (B:Bi K mg C) (F:Fun K "_law_words" "_law_words" (top 78) f fd) (Qad:Fn P w K mg base "_law_stamp" ["_law_value_here"] 25 (spM K 1 (cx 25))) (Qak:Fn P w K mg base "_law_words" ["_law_thing"] (25 + n) (spM K 1 (br n))):FnOk P w K mg base CX0 (25 + n + 1) f fd ["_law_thing"] (spM K 1 (br (n + 1))):=dfn F sc__law_words fun _ _ _ _ _ _ hr=>(au (aP (aN a6 (aI aL (af 0) ao) aH) (av (ay (bZ (ah aH (ah (az Qad (rm hr) rfl (ah (aI aL (af 0) ao) aj) (ak ax)) aj))))) aQ) (au (aP (aN ja (aI aL (af 0) ao) (bi (ah aH (ah aH aj)))) (av (ay (bZ (ah (aI aL (af 0) ao) (ah (bO uu rfl B.b_str boot_str (ah (aI aL (af 0) ao) aj)) aj))))) aQ) (au (kG (i:=1) sc__law_words.nd (ah (aI aL (af 0) ao) aj)) (au (aW (i:=2) sc__law_words.nd (cJ (af 0) (bU ao) dS)) (au (aP (aN a6 (aI aL (af 0) ao) aH) (au (aW (i:=2) sc__law_words.nd (aI aL (af 0) ao)) (av (gR (i:=1) (by exact (bO uu rfl B.b_str boot_str (ah (bh bI rfl B.b_len boot_len (ah (af 2) aj)) aj)))))) aQ) (au (f7 (i:=3) sc__law_words.nd (dC (af 2)) (av (m8 (i:=1) sc__law_words.nd (af 1) (az Qak (rm hr) rfl (ah (af 3) aj) (ak ax))))) (av (ay (af 1)))))))))
theorem sc_law:FnScope ["_law_script","_law_book_here","_law_kept","_law_lines","_law_name","_law_turn","_law_found","_law_at","_law_some","_law_handed"] ["_law_script"] (aE (top 79)):=⟨rfl,rfl,rfl,by decide +kernel,rfl,by decide +kernel,by decide +kernel⟩
theorem CW {C:Addr} (B:Bi K mg C) (F:Fun K "law" "law" (top 79) f fd) (Qab:Fn P w K mg base "_law_cell_at" ["_law_script","_law_k"] 1 (spM K 2 cB)) (Qbn:Fn P w K mg base "_law_book" ["_law_script","_law_at","_law_peeks"] 54 (spM K 3 gD)) (Qad:Fn P w K mg base "_law_stamp" ["_law_value_here"] 25 (spM K 1 (cx 25))) (Qak:Fn P w K mg base "_law_words" ["_law_thing"] 50 (spM K 1 (br 25))) (Qbh:Fn P w K mg base "shown_book" ["book"] 80 (spO K 1 fO)) (Qac:Fn P w K mg base "_law_same" ["_law_found","_law_due"] 25 (spM K 2 (aY 25))) (Qap:Fn P w K mg base "read_book" ["lines"] 87 (spO K 1 (cO C))):FnOk P w K mg base CX0 88 f fd ["_law_script"] (spM K 1 (jI C)):=dfn F sc_law fun _ _ _ _ _ _ hr=>(au (aW (i:=1) sc_law.nd (az Qbn (rm hr) rfl (ah (af 0) (ah ao (ah (bP a6 (aC dJ (az Qab (rm hr) rfl (ah (af 0) (ah ao aj)) (ak (ak ax))) ao) ao) aj))) (ak (ak (ak ax))))) (au (aW (i:=2) sc_law.nd (bi (ah (sU B.b_dict (aI aL (af 1) ao)) (ah (sU B.b_dict (aI aL (af 1) ao)) aj)))) (au (kG (i:=3) sc_law.nd aj) (au (f7 (i:=4) sc_law.nd (dC (bh rN rfl B.b_sorted boot_sorted (ah (aC aU (bO kN rfl B.b_list boot_list (ah (aI aL (af 1) ao) aj)) (bO kN rfl B.b_list boot_list (ah (aI aL (af 1) ao) aj))) aj))) (av (aP (aN (iU hr) (af 4) (aI aL (af 1) ao)) (av (gR (i:=3) (by exact (aC aU (aC aU (aC aU aH (af 4)) aH) (az Qad (rm hr) rfl (ah (aI (gc hr) (aI aL (af 1) ao) (af 4)) aj) (ak ax)))))) (av (gR (i:=3) (by exact (aC aU (aC aU (aC aU aH (af 4)) aH) (rF aH (az Qak (rm hr) rfl (ah (aI (gc hr) (aI aL (af 1) ao) (af 4)) aj) (ak ax)))))))))) (au (f7 (i:=5) sc_law.nd (eE rfl B.b_range ao) (au (AD (i:=6) Qbh (rm hr) rfl sc_law.nd (ah (af 1) aj) (ak ax)) (au (aP (fj (bG (rG Qac (rm hr) rfl (ah (af 6) (ah (af 3) aj)) (ak (ak ax))))) (av (ay g8)) aQ) (au (gR (i:=6) (by exact aH)) (sN 6 aQ))))) (au (aW (i:=7) sc_law.nd (aC dJ (aC jp (az Qab (rm hr) rfl (ah (af 0) (ah ao aj)) (ak (ak ax))) ao) (bh bI rfl B.b_len boot_len (ah (af 3) aj)))) (sN 3 (au (f7 (i:=8) sc_law.nd (dC (bZ (ah (af 3) (ah (aC aU (cJ (af 3) (bU (af 7)) dS) (cJ (af 3) dS (bU (af 7)))) (ah (BR (af 3)) aj))))) (au (aW (i:=9) sc_law.nd (bO nZ rfl B.b_list boot_list (ah (af 8) aj))) (yg (ix:=6) Qap (rm hr) rfl sc_law.nd (ah (af 9) aj) (ak ax) (cb (cI (fj (bG (rG Qac (rm hr) rfl (ah (af 6) (ah (af 2) aj)) (ak (ak ax))))) (dH (aN (Ep hr) (af 9) (af 8))))) (av (ay g8)) aQ))) (av (ay (bW (az Qac (rm hr) rfl (ah (qt Qap (rm hr) rfl (ah (af 3) aj) (ak ax)) (ah (af 2) aj)) (ak (ak ax))) (bW (az Qac (rm hr) rfl (ah (af 1) (ah (af 2) aj)) (ak (ak ax))) (cz (az Qac (rm hr) rfl (ah (qt Qap (rm hr) rfl (ah (bZ aj) aj) (ak ax)) (ah (bi (ah sV (ah sV aj))) aj)) (ak (ak ax))))))))))))))))
theorem bb {α:Type} {us:List α} (h:us.length=1):∃ a,us=[a]:=List.length_eq_one_iff.mp h
theorem cv {α:Type}:∀ {us:List α},us.length=2→∃ a b,us=[a,b]
 | [a,b],_=>⟨a,b,rfl⟩
theorem cZ {α:Type}:∀ {us:List α},us.length=3→∃ a b c,us=[a,b,c]
 | [a,b,c],_=>⟨a,b,c,rfl⟩
theorem vJ {α:Type}:∀ {us:List α},us.length=4→∃ a b c d,us=[a,b,c,d]
 | [a,b,c,d],_=>⟨a,b,c,d,rfl⟩
theorem vI {α:Type}:∀ {us:List α},us.length=5→∃ a b c d e,us=[a,b,c,d,e]
 | [a,b,c,d,e],_=>⟨a,b,c,d,e,rfl⟩
theorem all_mk {l:PySem.W.OpenLaw} {w:World} {K:Frag} {h:Heap} {mg:Str→Option Value} {fa:Addr} (X:K.In h) (G:h.Ns mainGlobals mg) (hfa:mg "law" = some (.ref fa)) {C:Addr} (qC:PySem.W.nsIn K mainGlobals "Words" = some (some (.ref C))) (kC:oG K C=true) (gC:mkB K C=true) (n_begun:noB K C "begun" = true) (n_parted:noB K C "parted" = true) (n_place:noB K C "place" = true) (d_is_whole:Df K "is_whole" (top 8)) (d_has_only:Df K "has_only" (top 9)) (d_is_name:Df K "is_name" (top 10)) (d_is_single:Df K "is_single" (top 11)) (d_is_built:Df K "is_built" (top 12)) (d_many_of:Df K "many_of" (top 14)) (d_is_value:Df K "is_value" (top 13)) (d_exprs_within:Df K "exprs_within" (top 18)) (d_got_behind:Df K "got_behind" (top 25)) (d_names_of:Df K "names_of" (top 28)) (d_sort_at:Df K "sort_at" (top 29)) (d_stamp_of:Df K "stamp_of" (top 37)) (d_is_figures:Df K "is_figures" (top 44)) (d_number_by:Df K "number_by" (top 43)) (d_single_by:Df K "single_by" (top 42)) (d_single_at:Df K "single_at" (top 41)) (d_row_at:Df K "row_at" (top 40)) (d_value_at:Df K "value_at" (top 39)) (d_value_by:Df K "value_by" (top 38)) (d_filling_words:Df K "filling_words" (top 50)) (d_expr_words:Df K "expr_words" (top 49)) (d_recipe_words:Df K "recipe_words" (top 48)) (d_show_recipe:Df K "show_recipe" (top 47)) (d_put_by:Df K "put_by" (top 57)) (d_number_below:Df K "number_below" (top 58)) (d_exprs_by:Df K "exprs_by" (top 55)) (d_expr_by:Df K "expr_by" (top 54)) (d_name_by:Df K "name_by" (top 56)) (d_recipe_by:Df K "recipe_by" (top 53)) (d_read_recipe:Df K "read_recipe" (top 52)) (d_shown_thing:Df K "shown_thing" (top 61)) (d_shown_book:Df K "shown_book" (top 60)) (d_recipe_or_none:Df K "recipe_or_none" (top 65)) (d_content_by:Df K "content_by" (top 64)) (d_thing_by:Df K "thing_by" (top 63)) (d_read_book:Df K "read_book" (top 62)) (d__law_cell_at:Df K "_law_cell_at" (top 67)) (d__law_draws:Df K "_law_draws" (top 68)) (d__law_take:Df K "_law_take" (top 69)) (d__law_stamp:Df K "_law_stamp" (top 70)) (d__law_same:Df K "_law_same" (top 71)) (d__law_names:Df K "_law_names" (top 72)) (d__law_value:Df K "_law_value" (top 73)) (d__law_simple:Df K "_law_simple" (top 74)) (d__law_expr:Df K "_law_expr" (top 75)) (d__law_recipe:Df K "_law_recipe" (top 76)) (d__law_book:Df K "_law_book" (top 77)) (d__law_words:Df K "_law_words" (top 78)) (d_law:Df K "law" (top 79)) (d_Words____init__:DfM K C "__init__" "Words.__init__" (cL 51 0)) (d_Words__ahead:DfM K C "ahead" "Words.ahead" (cL 51 1)) (d_Words__take:DfM K C "take" "Words.take" (cL 51 2)) (d_Words__begin:DfM K C "begin" "Words.begin" (cL 51 3)) (d_Words__finish:DfM K C "finish" "Words.finish" (cL 51 4)) (Qce:PySem.W.nsIn K mainGlobals "abs" = some none) (Qcf:PySem.W.nsIn K mainGlobals "all" = some none) (Qcb:PySem.W.nsIn K mainGlobals "bool" = some none) (Qcc:PySem.W.nsIn K mainGlobals "dict" = some none) (Qbx:PySem.W.nsIn K mainGlobals "enumerate" = some none) (Qcg:PySem.W.nsIn K mainGlobals "int" = some none) (Qbw:PySem.W.nsIn K mainGlobals "isinstance" = some none) (Qch:PySem.W.nsIn K mainGlobals "len" = some none) (Qcd:PySem.W.nsIn K mainGlobals "list" = some none) (Qbz:PySem.W.nsIn K mainGlobals "range" = some none) (Qby:PySem.W.nsIn K mainGlobals "sorted" = some none) (Qci:PySem.W.nsIn K mainGlobals "str" = some none) (Qcj:PySem.W.nsIn K mainGlobals "sum" = some none) (Qca:PySem.W.nsIn K mainGlobals "tuple" = some none) {t_FIGURES:Tok} (y_FIGURES:PySem.W.nsIn K mainGlobals "FIGURES" = some (some (.str "0123456789" t_FIGURES))) {t_LETTERS:Tok} (y_LETTERS:PySem.W.nsIn K mainGlobals "LETTERS" = some (some (.str "abcdefghijklmnopqrstuvwxyz" t_LETTERS))) {t_MOST_DEEP:Tok} (y_MOST_DEEP:PySem.W.nsIn K mainGlobals "MOST_DEEP" = some (some (.int 20 t_MOST_DEEP))) {t_MOST_FIGURES:Tok} (y_MOST_FIGURES:PySem.W.nsIn K mainGlobals "MOST_FIGURES" = some (some (.int 19 t_MOST_FIGURES))) {t_MOST_IN_ROW:Tok} (y_MOST_IN_ROW:PySem.W.nsIn K mainGlobals "MOST_IN_ROW" = some (some (.int 8 t_MOST_IN_ROW))) {t_MOST_LETTERS:Tok} (y_MOST_LETTERS:PySem.W.nsIn K mainGlobals "MOST_LETTERS" = some (some (.int 8 t_MOST_LETTERS))) {t_MOST_NAMES:Tok} (y_MOST_NAMES:PySem.W.nsIn K mainGlobals "MOST_NAMES" = some (some (.int 40 t_MOST_NAMES))) {t_MOST_PARTS:Tok} (y_MOST_PARTS:PySem.W.nsIn K mainGlobals "MOST_PARTS" = some (some (.int 8 t_MOST_PARTS))) {t_MOST_PARTS_IN_ALL:Tok} (y_MOST_PARTS_IN_ALL:PySem.W.nsIn K mainGlobals "MOST_PARTS_IN_ALL" = some (some (.int 60 t_MOST_PARTS_IN_ALL))) {t_MOST_ROWS:Tok} (y_MOST_ROWS:PySem.W.nsIn K mainGlobals "MOST_ROWS" = some (some (.int 4 t_MOST_ROWS))) {t_MOST_SIGNS:Tok} (y_MOST_SIGNS:PySem.W.nsIn K mainGlobals "MOST_SIGNS" = some (some (.int 20 t_MOST_SIGNS))) {t_MOST_VALUES:Tok} (y_MOST_VALUES:PySem.W.nsIn K mainGlobals "MOST_VALUES" = some (some (.int 40 t_MOST_VALUES))) {t_MOST_WANTS:Tok} (y_MOST_WANTS:PySem.W.nsIn K mainGlobals "MOST_WANTS" = some (some (.int 12 t_MOST_WANTS))) {t_TEXT_SIGNS:Tok} (y_TEXT_SIGNS:PySem.W.nsIn K mainGlobals "TEXT_SIGNS" = some (some (.str "abcdefghijklmnopqrstuvwxyz0123456789-" t_TEXT_SIGNS))) {a_RECIPES_WITHIN:Addr} {o_RECIPES_WITHIN:Obj} (u_RECIPES_WITHIN:PySem.W.nsIn K mainGlobals "RECIPES_WITHIN" = some (some (.ref a_RECIPES_WITHIN))) (l_RECIPES_WITHIN:K.lookup a_RECIPES_WITHIN=some o_RECIPES_WITHIN) (v_RECIPES_WITHIN:lP a_RECIPES_WITHIN o_RECIPES_WITHIN [("say",0),("fail",0),("want",1),("peek",1),("when",2)]=true) {a_WITHIN:Addr} {o_WITHIN:Obj} (u_WITHIN:PySem.W.nsIn K mainGlobals "WITHIN" = some (some (.ref a_WITHIN))) (l_WITHIN:K.lookup a_WITHIN=some o_WITHIN) (v_WITHIN:lP a_WITHIN o_WITHIN [("many",1),("part",2),("sum",2),("join",2),("same",2),("less",2)]=true) {a_FILLED:Addr} {o_FILLED:Obj} (u_FILLED:PySem.W.nsIn K mainGlobals "FILLED" = some (some (.ref a_FILLED))) (l_FILLED:K.lookup a_FILLED=some o_FILLED) (v_FILLED:lM o_FILLED ["put","got","row"]=true) {a_GETTING:Addr} {o_GETTING:Obj} (u_GETTING:PySem.W.nsIn K mainGlobals "GETTING" = some (some (.ref a_GETTING))) (l_GETTING:K.lookup a_GETTING=some o_GETTING) (v_GETTING:lM o_GETTING ["want","peek"]=true)
  (hm:∀ ns:List Int,ns.length≤63→∃ T',jI C [.d (cy ns)] []=some (.bool true,T')) :
  ∃ fd:FuncData,(∀ (s:Shared) (v:Value),BindsTo s fd ⟨[v],[]⟩ [("_law_script",v)])∧∀ base:Heap,K.In base→base.Ns mainGlobals mg→FnOk l.prog w K mg base CX0 88 fa fd ["_law_script"] (lj K):=by
 have B:Bi K mg C:=⟨BV kC,PySem.W.mg_of X G qC,nR n_begun,nR n_parted,nR n_place,PySem.W.mg_none_of X G Qce,PySem.W.mg_none_of X G Qcf,PySem.W.mg_none_of X G Qcb,PySem.W.mg_none_of X G Qcc,PySem.W.mg_none_of X G Qbx,PySem.W.mg_none_of X G Qcg,PySem.W.mg_none_of X G Qbw,PySem.W.mg_none_of X G Qch,PySem.W.mg_none_of X G Qcd,PySem.W.mg_none_of X G Qbz,PySem.W.mg_none_of X G Qby,PySem.W.mg_none_of X G Qci,PySem.W.mg_none_of X G Qcj,PySem.W.mg_none_of X G Qca,⟨_,PySem.W.mg_of X G u_RECIPES_WITHIN,pT l_RECIPES_WITHIN v_RECIPES_WITHIN⟩,⟨_,PySem.W.mg_of X G u_WITHIN,pT l_WITHIN v_WITHIN⟩,⟨_,PySem.W.mg_of X G u_FILLED,pS l_FILLED v_FILLED⟩,⟨_,PySem.W.mg_of X G u_GETTING,pS l_GETTING v_GETTING⟩,⟨_,PySem.W.mg_of X G y_FIGURES⟩,⟨_,PySem.W.mg_of X G y_LETTERS⟩,⟨_,PySem.W.mg_of X G y_MOST_DEEP⟩,⟨_,PySem.W.mg_of X G y_MOST_FIGURES⟩,⟨_,PySem.W.mg_of X G y_MOST_IN_ROW⟩,⟨_,PySem.W.mg_of X G y_MOST_LETTERS⟩,⟨_,PySem.W.mg_of X G y_MOST_NAMES⟩,⟨_,PySem.W.mg_of X G y_MOST_PARTS⟩,⟨_,PySem.W.mg_of X G y_MOST_PARTS_IN_ALL⟩,⟨_,PySem.W.mg_of X G y_MOST_ROWS⟩,⟨_,PySem.W.mg_of X G y_MOST_SIGNS⟩,⟨_,PySem.W.mg_of X G y_MOST_VALUES⟩,⟨_,PySem.W.mg_of X G y_MOST_WANTS⟩,⟨_,PySem.W.mg_of X G y_TEXT_SIGNS⟩⟩
 obtain ⟨f0,oc,od,an,sl,kV,dc,pm,cd,ct,a,lk,c,kp⟩:=d_law.ex
 have e:=hfa.symm.trans (PySem.W.mg_of X G a)
 cases e
 have FL:=kY (st:=top 79) lk c kp
 refine ⟨PySem.W.fnOf "law" "law" (dD (top 79)) (cG (top 79)) (aE (top 79)) .none kV dc pm an cd ct,fun s v=>.of_eq rfl,fun base _ _=>?_⟩
 have G_Words____init__:Ini l.prog w K mg base C ["self","text"] 1 (spM K 2 (d8 C)):=d_Words____init__.ini gC (fun _ _ _ _ _ _ _ h=>by obtain ⟨_,_,rfl⟩:=cv h; rfl) fun f fd F=>vW B F
 have G_Words__ahead:Mth l.prog w K mg base C "ahead" ["self"] 1 (spM K 1 (cN C)):=d_Words__ahead.mth (fun _ _ _ _ _ _ _ h=>by obtain ⟨_,rfl⟩:=bb h; rfl) fun f fd F=>wx B F
 have G_Words__take:Mth l.prog w K mg base C "take" ["self","fits"] 1 (spM K 2 (dv C)):=d_Words__take.mth (fun _ _ _ _ _ _ _ h=>by obtain ⟨_,_,rfl⟩:=cv h; rfl) fun f fd F=>wK B F
 have G_Words__begin:Mth l.prog w K mg base C "begin" ["self","fits","above"] 2 (spM K 3 (fM C)):=d_Words__begin.mth (fun _ _ _ _ _ _ _ h=>by obtain ⟨_,_,_,rfl⟩:=cZ h; rfl) fun f fd F=>wu B F G_Words__take
 have G_Words__finish:Mth l.prog w K mg base C "finish" ["self"] 1 (spM K 1 (eX C)):=d_Words__finish.mth (fun _ _ _ _ _ _ _ h=>by obtain ⟨_,rfl⟩:=bb h; rfl) fun f fd F=>v7 B F
 have Qal:Fn l.prog w K mg base "is_whole" ["thing"] 1 (spM K 1 gF):=d_is_whole.fn X G (fun _ _ _ _ _ _ _ h=>by obtain ⟨_,rfl⟩:=bb h; rfl) fun f fd F=>x6 B F
 have Qag:Fn l.prog w K mg base "has_only" ["text","signs"] 1 (spM K 2 df):=d_has_only.fn X G (fun _ _ _ _ _ _ _ h=>by obtain ⟨_,_,rfl⟩:=cv h; rfl) fun f fd F=>ya B F
 have Qas:Fn l.prog w K mg base "is_name" ["thing"] 2 (spM K 1 fU):=d_is_name.fn X G (fun _ _ _ _ _ _ _ h=>by obtain ⟨_,rfl⟩:=bb h; rfl) fun f fd F=>yC B F Qag
 have Qbi:Fn l.prog w K mg base "is_single" ["thing"] 2 (spM K 1 gB):=d_is_single.fn X G (fun _ _ _ _ _ _ _ h=>by obtain ⟨_,rfl⟩:=bb h; rfl) fun f fd F=>xy B F Qal Qag
 have R_is_built:∀ n:Nat,Fn l.prog w K mg base "is_built" ["thing","rows_left"] (2 + n) (spM K 2 (de n)):=by
  intro n
  induction n with
  | zero=>exact d_is_built.fn X G (fun _ _ _ _ _ _ _ h=>by obtain ⟨_,_,rfl⟩:=cv h; rfl) fun f fd F=>cF
  | succ n ih=>exact d_is_built.fn X G (fun _ _ _ _ _ _ _ h=>by obtain ⟨_,_,rfl⟩:=cv h; rfl) fun f fd F=>x9 n B F Qbi ih
 have Qat:=R_is_built 25
 have R_many_of:∀ n:Nat,Fn l.prog w K mg base "many_of" ["value"] (0 + n) (spM K 1 (eh n)):=by
  intro n
  induction n with
  | zero=>exact d_many_of.fn X G (fun _ _ _ _ _ _ _ h=>by obtain ⟨_,rfl⟩:=bb h; rfl) fun f fd F=>cF
  | succ n ih=>exact d_many_of.fn X G (fun _ _ _ _ _ _ _ h=>by obtain ⟨_,rfl⟩:=bb h; rfl) fun f fd F=>yB n B F ih
 have Qay:=R_many_of 25
 have Qbo:Fn l.prog w K mg base "is_value" ["thing"] 28 (spM K 1 gG):=d_is_value.fn X G (fun _ _ _ _ _ _ _ h=>by obtain ⟨_,rfl⟩:=bb h; rfl) fun f fd F=>x8 B F Qat Qay
 have Qax:Fn l.prog w K mg base "exprs_within" ["expr"] 1 (spM K 1 d9):=d_exprs_within.fn X G (fun _ _ _ _ _ _ _ h=>by obtain ⟨_,rfl⟩:=bb h; rfl) fun f fd F=>wm B F
 have Qbe:Fn l.prog w K mg base "got_behind" ["word","got"] 1 (spM K 2 gx):=d_got_behind.fn X G (fun _ _ _ _ _ _ _ h=>by obtain ⟨_,_,rfl⟩:=cv h; rfl) fun f fd F=>wX B F
 have Qbq:Fn l.prog w K mg base "names_of" ["book"] 1 (spM K 1 ie):=d_names_of.fn X G (fun _ _ _ _ _ _ _ h=>by obtain ⟨_,rfl⟩:=bb h; rfl) fun f fd F=>xZ B F
 have Qbt:Fn l.prog w K mg base "sort_at" ["book","name"] 1 (spM K 2 ij):=d_sort_at.fn X G (fun _ _ _ _ _ _ _ h=>by obtain ⟨_,_,rfl⟩:=cv h; rfl) fun f fd F=>yz B F
 have R_stamp_of:∀ n:Nat,Fn l.prog w K mg base "stamp_of" ["value"] (1 + n) (spM K 1 (cP n)):=by
  intro n
  induction n with
  | zero=>exact d_stamp_of.fn X G (fun _ _ _ _ _ _ _ h=>by obtain ⟨_,rfl⟩:=bb h; rfl) fun f fd F=>cF
  | succ n ih=>exact d_stamp_of.fn X G (fun _ _ _ _ _ _ _ h=>by obtain ⟨_,rfl⟩:=bb h; rfl) fun f fd F=>xY n B F Qal ih
 have Qah:=R_stamp_of 25
 have Qbd:Fn l.prog w K mg base "is_figures" ["text"] 2 (spM K 1 ef):=d_is_figures.fn X G (fun _ _ _ _ _ _ _ h=>by obtain ⟨_,rfl⟩:=bb h; rfl) fun f fd F=>wW B F Qag
 have Qbj:Fn l.prog w K mg base "number_by" ["word"] 3 (spM K 1 gA):=d_number_by.fn X G (fun _ _ _ _ _ _ _ h=>by obtain ⟨_,rfl⟩:=bb h; rfl) fun f fd F=>xx B F Qbd
 have Qbk:Fn l.prog w K mg base "single_by" ["word"] 4 (spM K 1 gz):=d_single_by.fn X G (fun _ _ _ _ _ _ _ h=>by obtain ⟨_,rfl⟩:=bb h; rfl) fun f fd F=>xq B F Qbj
 have Qbl:Fn l.prog w K mg base "single_at" ["text","at"] 5 (spM K 2 fQ):=d_single_at.fn X G (fun _ _ _ _ _ _ _ h=>by obtain ⟨_,_,rfl⟩:=cv h; rfl) fun f fd F=>xt B F Qbk
 have R_row_at:∀ n:Nat,Fn l.prog w K mg base "row_at" ["text","at","rows_left"] (5 + n) (spM K 3 (fV n))∧Fn l.prog w K mg base "value_at" ["text","at","rows_left"] (5 + n) (spM K 3 (cE n)):=by
  intro n
  induction n with
  | zero=>exact ⟨d_row_at.fn X G (fun _ _ _ _ _ _ _ h=>by obtain ⟨_,_,_,rfl⟩:=cZ h; rfl) fun f fd F=>cF,d_value_at.fn X G (fun _ _ _ _ _ _ _ h=>by obtain ⟨_,_,_,rfl⟩:=cZ h; rfl) fun f fd F=>cF⟩
  | succ n ih=>exact ⟨d_row_at.fn X G (fun _ _ _ _ _ _ _ h=>by obtain ⟨_,_,_,rfl⟩:=cZ h; rfl) fun f fd F=>y8 n B F ih.2,d_value_at.fn X G (fun _ _ _ _ _ _ _ h=>by obtain ⟨_,_,_,rfl⟩:=cZ h; rfl) fun f fd F=>xV n B F Qbl ih.1⟩
 have Qbv:=(R_row_at 25).1
 have Qau:=(R_row_at 25).2
 have Qam:Fn l.prog w K mg base "value_by" ["text"] 31 (spM K 1 fS):=d_value_by.fn X G (fun _ _ _ _ _ _ _ h=>by obtain ⟨_,rfl⟩:=bb h; rfl) fun f fd F=>xU B F Qau Qbo
 have Qav:Fn l.prog w K mg base "filling_words" ["expr"] 27 (spM K 1 dP):=d_filling_words.fn X G (fun _ _ _ _ _ _ _ h=>by obtain ⟨_,rfl⟩:=bb h; rfl) fun f fd F=>v6 B F Qah
 have R_expr_words:∀ n:Nat,Fn l.prog w K mg base "expr_words" ["expr"] (27 + n) (spM K 1 (cC n)):=by
  intro n
  induction n with
  | zero=>exact d_expr_words.fn X G (fun _ _ _ _ _ _ _ h=>by obtain ⟨_,rfl⟩:=bb h; rfl) fun f fd F=>cF
  | succ n ih=>exact d_expr_words.fn X G (fun _ _ _ _ _ _ _ h=>by obtain ⟨_,rfl⟩:=bb h; rfl) fun f fd F=>wY n B F Qav Qax ih
 have Qaj:=R_expr_words 25
 have R_recipe_words:∀ n:Nat,Fn l.prog w K mg base "recipe_words" ["recipe"] (52 + n) (spM K 1 (c9 n)):=by
  intro n
  induction n with
  | zero=>exact d_recipe_words.fn X G (fun _ _ _ _ _ _ _ h=>by obtain ⟨_,rfl⟩:=bb h; rfl) fun f fd F=>cF
  | succ n ih=>exact d_recipe_words.fn X G (fun _ _ _ _ _ _ _ h=>by obtain ⟨_,rfl⟩:=bb h; rfl) fun f fd F=>wg n B F Qaj ih
 have Qai:=R_recipe_words 25
 have Qba:Fn l.prog w K mg base "show_recipe" ["recipe"] 78 (spM K 1 ib):=d_show_recipe.fn X G (fun _ _ _ _ _ _ _ h=>by obtain ⟨_,rfl⟩:=bb h; rfl) fun f fd F=>wG B F Qai
 have Qbu:Fn l.prog w K mg base "put_by" ["words"] 32 (spM K 1 (iq C)):=d_put_by.fn X G (fun _ _ _ _ _ _ _ h=>by obtain ⟨_,rfl⟩:=bb h; rfl) fun f fd F=>y9 B F G_Words__ahead Qam G_Words__take
 have Qan:Fn l.prog w K mg base "number_below" ["words","bound"] 2 (spM K 2 (gw C)):=d_number_below.fn X G (fun _ _ _ _ _ _ _ h=>by obtain ⟨_,_,rfl⟩:=cv h; rfl) fun f fd F=>wj B F G_Words__ahead G_Words__take
 have R_exprs_by:∀ n:Nat,Fn l.prog w K mg base "exprs_by" ["words","many","above","got"] (32 + n) (spM K 4 (gH C n))∧Fn l.prog w K mg base "expr_by" ["words","above","got"] (32 + n) (spM K 3 (dz C n)):=by
  intro n
  induction n with
  | zero=>exact ⟨d_exprs_by.fn X G (fun _ _ _ _ _ _ _ h=>by obtain ⟨_,_,_,_,rfl⟩:=vJ h; rfl) fun f fd F=>cF,d_expr_by.fn X G (fun _ _ _ _ _ _ _ h=>by obtain ⟨_,_,_,rfl⟩:=cZ h; rfl) fun f fd F=>cF⟩
  | succ n ih=>exact ⟨d_exprs_by.fn X G (fun _ _ _ _ _ _ _ h=>by obtain ⟨_,_,_,_,rfl⟩:=vJ h; rfl) fun f fd F=>yb n B F ih.2,d_expr_by.fn X G (fun _ _ _ _ _ _ _ h=>by obtain ⟨_,_,_,rfl⟩:=cZ h; rfl) fun f fd F=>yD n B F G_Words__ahead G_Words__begin Qbu Qan ih.1⟩
 have Qbp:=(R_exprs_by 25).1
 have Qaz:=(R_exprs_by 25).2
 have Qbs:Fn l.prog w K mg base "name_by" ["words"] 3 (spM K 1 (ik C)):=d_name_by.fn X G (fun _ _ _ _ _ _ _ h=>by obtain ⟨_,rfl⟩:=bb h; rfl) fun f fd F=>yA B F G_Words__ahead Qas G_Words__take
 have R_recipe_by:∀ n:Nat,Fn l.prog w K mg base "recipe_by" ["words","above","got"] (57 + n) (spM K 3 (cD C n)):=by
  intro n
  induction n with
  | zero=>exact d_recipe_by.fn X G (fun _ _ _ _ _ _ _ h=>by obtain ⟨_,_,_,rfl⟩:=cZ h; rfl) fun f fd F=>cF
  | succ n ih=>exact d_recipe_by.fn X G (fun _ _ _ _ _ _ _ h=>by obtain ⟨_,_,_,rfl⟩:=cZ h; rfl) fun f fd F=>xu n B F G_Words__ahead G_Words__begin Qbs Qaz Qbe ih
 have Qao:=R_recipe_by 25
 have Qbc:Fn l.prog w K mg base "read_recipe" ["text"] 83 (spM K 1 (ic C)):=d_read_recipe.fn X G (fun _ _ _ _ _ _ _ h=>by obtain ⟨_,rfl⟩:=bb h; rfl) fun f fd F=>wH B F Qao G_Words__finish G_Words____init__
 have Qbb:Fn l.prog w K mg base "shown_thing" ["book","name"] 79 (spM K 2 fN):=d_shown_thing.fn X G (fun _ _ _ _ _ _ _ h=>by obtain ⟨_,_,rfl⟩:=cv h; rfl) fun f fd F=>wF B F Qbt Qah Qba
 have Qbh:Fn l.prog w K mg base "shown_book" ["book"] 80 (spO K 1 fO):=d_shown_book.fn X G (fun _ _ _ _ _ _ _ h=>by obtain ⟨_,rfl⟩:=bb h; rfl) fun f fd F=>wV B F Qbq Qbb
 have Qar:Fn l.prog w K mg base "recipe_or_none" ["text"] 84 (spM K 1 (jd C)):=d_recipe_or_none.fn X G (fun _ _ _ _ _ _ _ h=>by obtain ⟨_,rfl⟩:=bb h; rfl) fun f fd F=>vY B F Qbc
 have Qbf:Fn l.prog w K mg base "content_by" ["word","text"] 85 (spM K 2 (gy C)):=d_content_by.fn X G (fun _ _ _ _ _ _ _ h=>by obtain ⟨_,_,rfl⟩:=cv h; rfl) fun f fd F=>wZ B F Qam Qar
 have Qbr:Fn l.prog w K mg base "thing_by" ["line"] 86 (spM K 1 (gE C)):=d_thing_by.fn X G (fun _ _ _ _ _ _ _ h=>by obtain ⟨_,rfl⟩:=bb h; rfl) fun f fd F=>xX B F Qas Qbf
 have Qap:Fn l.prog w K mg base "read_book" ["lines"] 87 (spO K 1 (cO C)):=d_read_book.fn X G (fun _ _ _ _ _ _ _ h=>by obtain ⟨_,rfl⟩:=bb h; rfl) fun f fd F=>xw B F Qbr
 have Qab:Fn l.prog w K mg base "_law_cell_at" ["_law_script","_law_k"] 1 (spM K 2 cB):=d__law_cell_at.fn X G (fun _ _ _ _ _ _ _ h=>by obtain ⟨_,_,rfl⟩:=cv h; rfl) fun f fd F=>wq B F
 have Qaw:Fn l.prog w K mg base "_law_draws" ["_law_cell","_law_many"] 1 (spM K 2 eZ):=d__law_draws.fn X G (fun _ _ _ _ _ _ _ h=>by obtain ⟨_,_,rfl⟩:=cv h; rfl) fun f fd F=>xf B F
 have Qaa:Fn l.prog w K mg base "_law_take" ["_law_tape","_law_many"] 1 (spM K 2 a7):=d__law_take.fn X G (fun _ _ _ _ _ _ _ h=>by obtain ⟨_,_,rfl⟩:=cv h; rfl) fun f fd F=>xB B F
 have R__law_stamp:∀ n:Nat,Fn l.prog w K mg base "_law_stamp" ["_law_value_here"] (0 + n) (spM K 1 (cx n)):=by
  intro n
  induction n with
  | zero=>exact d__law_stamp.fn X G (fun _ _ _ _ _ _ _ h=>by obtain ⟨_,rfl⟩:=bb h; rfl) fun f fd F=>cF
  | succ n ih=>exact d__law_stamp.fn X G (fun _ _ _ _ _ _ _ h=>by obtain ⟨_,rfl⟩:=bb h; rfl) fun f fd F=>w8 n B F ih
 have Qad:=R__law_stamp 25
 have R__law_same:∀ n:Nat,Fn l.prog w K mg base "_law_same" ["_law_found","_law_due"] (0 + n) (spM K 2 (aY n)):=by
  intro n
  induction n with
  | zero=>exact d__law_same.fn X G (fun _ _ _ _ _ _ _ h=>by obtain ⟨_,_,rfl⟩:=cv h; rfl) fun f fd F=>cF
  | succ n ih=>exact d__law_same.fn X G (fun _ _ _ _ _ _ _ h=>by obtain ⟨_,_,rfl⟩:=cv h; rfl) fun f fd F=>xD n B F ih
 have Qac:=R__law_same 25
 have Qbg:Fn l.prog w K mg base "_law_names" ["_law_tape","_law_many"] 2 (spM K 2 eg):=d__law_names.fn X G (fun _ _ _ _ _ _ _ h=>by obtain ⟨_,_,rfl⟩:=cv h; rfl) fun f fd F=>xc B F Qaa
 have R__law_value:∀ n:Nat,Fn l.prog w K mg base "_law_value" ["_law_tape","_law_names_here","_law_deep"] (1 + n) (spM K 3 (bM n)):=by
  intro n
  induction n with
  | zero=>exact d__law_value.fn X G (fun _ _ _ _ _ _ _ h=>by obtain ⟨_,_,_,rfl⟩:=cZ h; rfl) fun f fd F=>cF
  | succ n ih=>exact d__law_value.fn X G (fun _ _ _ _ _ _ _ h=>by obtain ⟨_,_,_,rfl⟩:=cZ h; rfl) fun f fd F=>w6 n B F Qaa ih
 have Qae:=R__law_value 25
 have Qaq:Fn l.prog w K mg base "_law_simple" ["_law_tape","_law_names_here","_law_many"] 27 (spM K 3 eY):=d__law_simple.fn X G (fun _ _ _ _ _ _ _ h=>by obtain ⟨_,_,_,rfl⟩:=cZ h; rfl) fun f fd F=>wI B F Qaa Qae
 have Qbm:Fn l.prog w K mg base "_law_expr" ["_law_tape","_law_names_here","_law_many"] 28 (spM K 3 e7):=d__law_expr.fn X G (fun _ _ _ _ _ _ _ h=>by obtain ⟨_,_,_,rfl⟩:=cZ h; rfl) fun f fd F=>xF B F Qaa Qaq
 have R__law_recipe:∀ n:Nat,Fn l.prog w K mg base "_law_recipe" ["_law_tape","_law_names_here","_law_deep","_law_many","_law_peeks"] (28 + n) (spM K 5 (bq n)):=by
  intro n
  induction n with
  | zero=>exact d__law_recipe.fn X G (fun _ _ _ _ _ _ _ h=>by obtain ⟨_,_,_,_,_,rfl⟩:=vI h; rfl) fun f fd F=>cF
  | succ n ih=>exact d__law_recipe.fn X G (fun _ _ _ _ _ _ _ h=>by obtain ⟨_,_,_,_,_,rfl⟩:=vI h; rfl) fun f fd F=>wJ n B F Qaa Qbm ih
 have Qaf:=R__law_recipe 25
 have Qbn:Fn l.prog w K mg base "_law_book" ["_law_script","_law_at","_law_peeks"] 54 (spM K 3 gD):=d__law_book.fn X G (fun _ _ _ _ _ _ _ h=>by obtain ⟨_,_,_,rfl⟩:=cZ h; rfl) fun f fd F=>xG B F Qab Qaw Qaa Qbg Qae Qaf
 have R__law_words:∀ n:Nat,Fn l.prog w K mg base "_law_words" ["_law_thing"] (25 + n) (spM K 1 (br n)):=by
  intro n
  induction n with
  | zero=>exact d__law_words.fn X G (fun _ _ _ _ _ _ _ h=>by obtain ⟨_,rfl⟩:=bb h; rfl) fun f fd F=>cF
  | succ n ih=>exact d__law_words.fn X G (fun _ _ _ _ _ _ _ h=>by obtain ⟨_,rfl⟩:=bb h; rfl) fun f fd F=>w4 n B F Qad ih
 have Qak:=R__law_words 25
 exact Ax (CW B FL Qab Qbn Qad Qak Qbh Qac Qap) (zi hm)
theorem walk {l:PySem.W.OpenLaw} {q:Program} {loose:List Str} {XP:(Str→Option Value)→Heap→Prop} {YP:World→Heap→Prop} {d:DefRec} {K:Params→Frag} (hn:l.most=some 63) (hdf:d.params.defaults=[])
  (hY:∀ (w:World) (h:Heap),YP w h→(K w.params).In h)
  (F:∀ (w:World) (mg:Str→Option Value) (fa:Addr) (h:Heap),(K w.params).In h→h.Ns mainGlobals mg→mg d.name=some (.ref fa) →
   ∃ fd:FuncData,(∀ (s:Shared) (u:Value),BindsTo s fd ⟨[u],[]⟩ [("_law_script",u)])∧∀ base:Heap,(K w.params).In base→base.Ns mainGlobals mg→FnOk l.prog w (K w.params) mg base CX0 88 fa fd ["_law_script"] (lj (K w.params))) :
  PySem.W.WalkO q loose XP YP l.row.toRowW d [] (fun f vs=>PySem.call f vs):=L2.A4 (n:=63) (k:=88) (x:="_law_script") (CX:=fun _=>CX0) (sp:=fun w=>lj (K w.params)) hn (by decide) hdf ⟨rfl,by decide,by decide,rfl⟩ hY F (fun _ _ a ns hl _ hS=>⟨a,ns,rfl,hS,hl,fun _=>rfl⟩) fun _ _ _ _ _ z=>z
open PySem PySem.Spec PySem.Calls PySem.W PyProof.Rows PySem.W.X PySem.W.ZRun
theorem walkZ {q:Program} {loose:List Str} {XP:(Str→Option Value)→Heap→Prop} {K:Params→Frag} {r:RowW} {d:DefRec} {kwd:List (Str×Expr)}
  {w:World} {s₀ s₁:Shared} {mg mb:Str→Option Value} {a:Addr} {o:Obj} {pm cd doc dV kV:Value} {args:List WData} {vals:List Value} {as:List Addr}
  (KX:(K w.params).In s₁.heap) (GR:Ground q loose r.records XP w s₀ mg mb s₁.heap) (ho:s₁.heap.get? a=some o)
  (hd:o.data=.func { docDef d.name d.params d.body d.scope pm cd doc with defaults:=dV,kwdefaults:=kV }) (hcd:s₁.heap.CodeRec cd d.name) (hD:Dflts mg s₁.heap d.params kwd dV kV) (hmg:mg d.name=some (.ref a)) (hg:s₁.gens = #[])
  (hpre:r.claim.pre args=true) (hlay:WData.layableAll args=true) (hrd:ReadsAllW r.records (classAt s₀.heap) s₁.heap vals args as) (hwl:WellAll w.params s₁.heap vals args) (hlo:∀ a∈as,(a == sysModules)=false)
  (W:PySem.W.WalkO q loose XP (fun w h=>(K w.params).In h) r d kwd fun f vs=>PySem.call f vs) :
  wpAny (model r.prog w) callerA (PySem.call (.ref a) vals) (fun v s'=>GoodWG r.claim (classAt s₀.heap) (ExcName.means s₀.heap) args s₁ (.ok (.ret v)) s')
    (fun e s'=>GoodWG r.claim (classAt s₀.heap) (ExcName.means s₀.heap) args s₁ (.error e) s') s₁:=W w s₀ s₁ mg mb GR KX a o pm cd doc dV kV ho hd hcd hD hmg hg args vals as hpre hlay hrd hwl hlo
end G
noncomputable def PySem.W.Fast.tw11410603364580481064 : Unit := ()
noncomputable def PySem.W.Fast.tw5429969028993148651 : Unit := ()
noncomputable def PySem.W.Fast.tw2566608454317647035 : Unit := ()
noncomputable def PySem.W.Fast.tw10138415932997420184 : Unit := ()
noncomputable def PySem.W.Fast.tw18128202379954401090 : Unit := ()
noncomputable def PySem.W.Fast.tw15569520438460633932 : Unit := ()
noncomputable def PySem.W.Fast.tw5785096383237340602 : Unit := ()
noncomputable def PySem.W.Fast.tw10431060098299006009 : Unit := ()
noncomputable def PySem.W.Fast.tw17301379081576383287 : Unit := ()
noncomputable def PySem.W.Fast.tw4757670342190076609 : Unit := ()
noncomputable def PySem.W.Fast.tw3069447282161166824 : Unit := ()
noncomputable def PySem.W.Fast.tw8206164363782620717 : Unit := ()
noncomputable def PySem.W.Fast.tw9483113692367027588 : Unit := ()
noncomputable def PySem.W.Fast.tw9333097926918996005 : Unit := ()
noncomputable def PySem.W.Fast.tw12817819408266670891 : Unit := ()
noncomputable def PySem.W.Fast.tw2161933326080425549 : Unit := ()
noncomputable def PySem.W.Fast.tw18220280275532087870 : Unit := ()
noncomputable def PySem.W.Fast.tw12971024269866217044 : Unit := ()
noncomputable def PySem.W.Fast.tw2475603547717907068 : Unit := ()
noncomputable def PySem.W.Fast.tw11395402034914731402 : Unit := ()
noncomputable def PySem.W.Fast.tw8845099207560787734 : Unit := ()
noncomputable def PySem.W.Fast.tw13858668553318303646 : Unit := ()
noncomputable def PySem.W.Fast.tw13228498448150027450 : Unit := ()
noncomputable def PySem.W.Fast.tw6602692886138492293 : Unit := ()
noncomputable def PySem.W.Fast.tw17735836850003935135 : Unit := ()
noncomputable def PySem.W.Fast.tw8287620689817425237 : Unit := ()
noncomputable def PySem.W.Fast.tw11158205736488418346 : Unit := ()
noncomputable def PySem.W.Fast.tw17376359457418944543 : Unit := ()
noncomputable def PySem.W.Fast.tw14659310270643905071 : Unit := ()
noncomputable def PySem.W.Fast.tw14737691444669158430 : Unit := ()
noncomputable def PySem.W.Fast.tw9485705842591936233 : Unit := ()
noncomputable def PySem.W.Fast.tw16746530397269740586 : Unit := ()
noncomputable def PySem.W.Fast.tw6743691764500975465 : Unit := ()
noncomputable def PySem.W.Fast.tw8680435512739043672 : Unit := ()
noncomputable def PySem.W.Fast.tw17764563535012978625 : Unit := ()
noncomputable def PySem.W.Fast.tw761573899099801010 : Unit := ()
noncomputable def PySem.W.Fast.tw6805835730565512719 : Unit := ()
noncomputable def PySem.W.Fast.tw5757240572975000206 : Unit := ()
noncomputable def PySem.W.Fast.tw15703044498285069097 : Unit := ()
noncomputable def PySem.W.Fast.tw7196627488528390342 : Unit := ()
noncomputable def PySem.W.Fast.tw2369633537632567690 : Unit := ()
noncomputable def PySem.W.Fast.tw10572539724159322813 : Unit := ()
noncomputable def PySem.W.Fast.tw5023137613714485824 : Unit := ()
noncomputable def PySem.W.Fast.tw7482525800207267976 : Unit := ()
noncomputable def PySem.W.Fast.tw15578287865604177782 : Unit := ()
noncomputable def PySem.W.Fast.tw17268325716005792475 : Unit := ()
noncomputable def PySem.W.Fast.tw8425610091292820569 : Unit := ()
noncomputable def PySem.W.Fast.tw17649377300551035856 : Unit := ()
noncomputable def PySem.W.Fast.tw4560274311778023329 : Unit := ()
noncomputable def PySem.W.Fast.tw17779634402783592155 : Unit := ()
noncomputable def PySem.W.Fast.tw829489944909077967 : Unit := ()
noncomputable def PySem.W.Fast.tw5849996914453351217 : Unit := ()
noncomputable def PySem.W.Fast.tw1617727162781276328 : Unit := ()
noncomputable def PySem.W.Fast.tw18034496151958491771 : Unit := ()
noncomputable def PySem.W.Fast.tw7008672710962120485 : Unit := ()
noncomputable def PySem.W.Fast.tw4082750943120880152 : Unit := ()
noncomputable def PySem.W.Fast.tw10489646178611685637 : Unit := ()
noncomputable def PySem.W.Fast.tw689688535101433280 : Unit := ()
noncomputable def PySem.W.Fast.tw5964871394098626819 : Unit := ()
noncomputable def PySem.W.Fast.tw11110005904826715796 : Unit := ()
noncomputable def PySem.W.Fast.tw8299747590140092576 : Unit := ()
noncomputable def PySem.W.Fast.tw8165153195031324764 : Unit := ()
noncomputable def PySem.W.Fast.tw18053352652517223351 : Unit := ()
noncomputable def PySem.W.Fast.tw11119587536694078104 : Unit := ()
noncomputable def PySem.W.Fast.tw16856327864625445063 : Unit := ()
noncomputable def PySem.W.Fast.tw5748352562119410049 : Unit := ()
noncomputable def PySem.W.Fast.tw7285293200684634490 : Unit := ()
noncomputable def PySem.W.Fast.tw8372039328724249570 : Unit := ()
noncomputable def PySem.W.Fast.tw2545381181586182715 : Unit := ()
noncomputable def PySem.W.Fast.tw5522812879472604938 : Unit := ()
noncomputable def PySem.W.Fast.tw12750402256576632709 : Unit := ()
noncomputable def PySem.W.Fast.tw8645347105423189931 : Unit := ()
noncomputable def PySem.W.Fast.tw13548152474760670363 : Unit := ()
noncomputable def PySem.W.Fast.tw15432350268926599894 : Unit := ()
noncomputable def PySem.W.Fast.tw15791605601764891 : Unit := ()
noncomputable def PySem.W.Fast.tw6312924392340207587 : Unit := ()
noncomputable def PySem.W.Fast.tw18002809059140767139 : Unit := ()
noncomputable def PySem.W.Fast.tw16952273091000123010 : Unit := ()
noncomputable def PySem.W.Fast.tw10411493296926435344 : Unit := ()
noncomputable def PySem.W.Fast.tw692179068099201082 : Unit := ()
noncomputable def PySem.W.Fast.tw9036335865186935374 : Unit := ()
noncomputable def PySem.W.Fast.tw7323836309543424218 : Unit := ()
noncomputable def PySem.W.Fast.tw7020833289370469226 : Unit := ()
noncomputable def PySem.W.Fast.tw10130766158939157834 : Unit := ()
noncomputable def PySem.W.Fast.tw15967168014443556485 : Unit := ()
noncomputable def PySem.W.Fast.tw10108456624214144056 : Unit := ()
noncomputable def PySem.W.Fast.tw59979705259765914 : Unit := ()
noncomputable def PySem.W.Fast.tw5359054910248984199 : Unit := ()
noncomputable def PySem.W.Fast.tw6102693128582397418 : Unit := ()
noncomputable def PySem.W.Fast.tw18115561942928084290 : Unit := ()
noncomputable def PySem.W.Fast.tw12416646376102010777 : Unit := ()
noncomputable def PySem.W.Fast.tw6615449567258388131 : Unit := ()
noncomputable def PySem.W.Fast.tw4917429677696325161 : Unit := ()
noncomputable def PySem.W.Fast.tw7177294370150280205 : Unit := ()
noncomputable def PySem.W.Fast.tw15419661914801179448 : Unit := ()
noncomputable def PySem.W.Fast.tw15804513320697939594 : Unit := ()
noncomputable def PySem.W.Fast.tw9411536826222285812 : Unit := ()
noncomputable def PySem.W.Fast.tw15628240484855842461 : Unit := ()
noncomputable def PySem.W.Fast.tw10800942446338039588 : Unit := ()
noncomputable def PySem.W.Fast.tw5272846193916119589 : Unit := ()
noncomputable def PySem.W.Fast.tw4157549036469994426 : Unit := ()
noncomputable def PySem.W.Fast.tw3977149152213876928 : Unit := ()
noncomputable def PySem.W.Fast.tw11781984280766368122 : Unit := ()
noncomputable def PySem.W.Fast.tw16264344304156555747 : Unit := ()
noncomputable def PySem.W.Fast.tw13436661523017998251 : Unit := ()
noncomputable def PySem.W.Fast.tw12879688210038419003 : Unit := ()
noncomputable def PySem.W.Fast.tw14035582317947975724 : Unit := ()
noncomputable def PySem.W.Fast.tw5107477550478795096 : Unit := ()
noncomputable def PySem.W.Fast.tw4313402245675327878 : Unit := ()
noncomputable def PySem.W.Fast.tw2196902685180829134 : Unit := ()
noncomputable def PySem.W.Fast.tw10013449639282340447 : Unit := ()
noncomputable def PySem.W.Fast.tw12703756927218331878 : Unit := ()
noncomputable def PySem.W.Fast.tw5052763455048305448 : Unit := ()
noncomputable def PySem.W.Fast.tw14277637243278412210 : Unit := ()
noncomputable def PySem.W.Fast.tw1152749451434849726 : Unit := ()
noncomputable def PySem.W.Fast.tw9272697792793445046 : Unit := ()
noncomputable def PySem.W.Fast.tw8869973148110480134 : Unit := ()
noncomputable def PySem.W.Fast.tw5170665261807986928 : Unit := ()
noncomputable def PySem.W.Fast.tw12244678804789099720 : Unit := ()
noncomputable def PySem.W.Fast.tw11851128370654457350 : Unit := ()
noncomputable def PySem.W.Fast.tw7918179534856037980 : Unit := ()
noncomputable def PySem.W.Fast.tw12025933108285099796 : Unit := ()
noncomputable def PySem.W.Fast.tw17440551478407769381 : Unit := ()
noncomputable def PySem.W.Fast.tw2822350996945693019 : Unit := ()
noncomputable def PySem.W.Fast.tw7789491246808409564 : Unit := ()
noncomputable def PySem.W.Fast.tw6441275240784200572 : Unit := ()
noncomputable def PySem.W.Fast.tw8612920511146319171 : Unit := ()
noncomputable def PySem.W.Fast.tw18153900730937475706 : Unit := ()
noncomputable def PySem.W.Fast.tw1190898555983584627 : Unit := ()
noncomputable def PySem.W.Fast.tw1536306228341615078 : Unit := ()
noncomputable def PySem.W.Fast.tw9014624396144304968 : Unit := ()
noncomputable def PySem.W.Fast.tw18275416048217745811 : Unit := ()
noncomputable def PySem.W.Fast.tw15443335007666584341 : Unit := ()
noncomputable def PySem.W.Fast.tw771965612571551790 : Unit := ()
noncomputable def PySem.W.Fast.tw14797627350296682337 : Unit := ()
noncomputable def PySem.W.Fast.tw18234344909057830239 : Unit := ()
noncomputable def PySem.W.Fast.tw2800390015786176 : Unit := ()
noncomputable def PySem.W.Fast.tw1834402034101505106 : Unit := ()
noncomputable def PySem.W.Fast.tw11455145219820798266 : PySem.Program := PySem.Challenge.pw_redo_k20_books_written
theorem PySem.W.Fast.te11455145219820798266 : PySem.Challenge.pw_redo_k20_books_written = PySem.W.Fast.tw11455145219820798266 := rfl

open PySem PySem.W PyProof.Rows PySem.W.X PySem.W.ZRun
set_option maxRecDepth 100000 in
set_option maxHeartbeats 0 in
theorem PySem.Challenge.cw_redo_k20_books_written_holds : PySem.Challenge.rw_redo_k20_books_written.Holds := by
 w_on; o_law; z_head; (case hw=>w_witness2)
 k_fill
 intro w s₀ s₁ mg mb GR y fa o pm cd doc dV kV ho hd hcd hD hmg hg args vals as L hpre hlay hrd hwl hlo
 z_open y L KX ZH ZN ZT
 clear ZH ZN ZT
 refine G.walkZ KX GR ho hd hcd hD hmg hg hpre hlay hrd hwl hlo ?W
 clear KX GR ho hd hcd hD hmg hg hpre hlay hrd hwl hlo L y
 refine G.walk (l:=PySem.Challenge.rw_redo_k20_books_written) rfl rfl (fun w h Y=>Y) ?F
 case F=>
  intro w mg fa h KX GG hmg
  refine' G.all_mk KX GG hmg ?_ ?_ ?_ ?_ ?_ ?_ ?_ ?_ ?_ ?_ ?_ ?_ ?_ ?_ ?_ ?_ ?_ ?_ ?_ ?_ ?_ ?_ ?_ ?_ ?_ ?_ ?_ ?_ ?_ ?_ ?_ ?_ ?_ ?_ ?_ ?_ ?_ ?_ ?_ ?_ ?_ ?_ ?_ ?_ ?_ ?_ ?_ ?_ ?_ ?_ ?_ ?_ ?_ ?_ ?_ ?_ ?_ ?_ ?_ ?_ ?_ ?_ ?_ ?_ ?_ ?_ ?_ ?_ ?_ ?_ ?_ ?_ ?_ ?_ ?_ ?_ ?_ ?_ ?_ ?_ ?_ ?_ ?_ ?_ ?_ ?_ ?_ ?_ ?_ ?_ ?_ ?_ ?_ ?_ ?_ ?_ ?_ ?_ ?_ ?_ (fun ns h=>G.Aq _ ns h)
  any_goals first | (refine' D.EM ?a ?l ?c ?k; (case a=>k_is); (case l=>k_is); (case c=>k_is); (case k=>k_is)) | (refine' D.Dt ?a ?l ?c ?k ?n; (case a=>k_is); (case l=>k_is); (case c=>k_is); (case k=>k_is); (case n=>k_is)) | k_is
  all_goals first | rfl | decide +kernel
