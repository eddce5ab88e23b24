import PyProof.Rows.All
import Wide.All
import OpenK.AllK
import Wide.FinOn
import Lean
import PyProof.EqAt
import PyProof.EqKinds
import PyProof.TupleCall
import PySem.Challenge.RW_redo_k75_honest_by_lines
noncomputable section
open PySem.W (Frag)
set_option Elab.async false
set_option linter.all false
set_option maxRecDepth 100000
namespace L2
open PySem PySem.Spec PyProof.Rows
abbrev Key:=Sum Int Str
def gv:Key→Value→Bool
 | .inl k,v=>Value.isInt k v
 | .inr x,v=>Value.isStrOf x v
def DK (w:World):Key→Int
 | .inl k=>hashInt k
 | .inr x=>hashStr w x
theorem eQ:∀ {k:Key} {v:Value},gv k v=true→(∃ i t,k=Sum.inl i∧v=Value.int i t)∨(∃ x t,k=Sum.inr x∧v=Value.str x t)
 | .inl i,v,h=>by
  obtain ⟨t,e⟩:=Value.isInt_shape (k:=i) (v:=v) h
  exact .inl ⟨i,t,rfl,e⟩
 | .inr x,v,h=>by
  obtain ⟨t,e⟩:=Value.isStrOf_shape (x:=x) (v:=v) h
  exact .inr ⟨x,t,rfl,e⟩
theorem xb (i:Int) (t:Tok):gv (.inl i) (.int i t)=true:=by simp [gv,Value.isInt]
theorem xa (x:Str) (t:Tok):gv (.inr x) (.str x t)=true:=by simp [gv,Value.isStrOf]
theorem Bt (a b:Int):decide ((Sum.inl a:Key)=Sum.inl b)=(a == b):=by
 by_cases e:a=b
 ·subst e; simp
 ·have h:¬ (Sum.inl a:Key)=Sum.inl b:=fun q=>e (Sum.inl.inj q)
  rw [decide_eq_false h]
  exact (beq_eq_false_iff_ne.mpr e).symm
theorem Bq (a b:Str):decide ((Sum.inr a:Key)=Sum.inr b)=decide (a=b):=by
 by_cases e:a=b
 ·subst e; simp
 ·have h:¬ (Sum.inr a:Key)=Sum.inr b:=fun q=>e (Sum.inr.inj q)
  rw [decide_eq_false h,decide_eq_false e]
theorem Bs (a:Int) (b:Str):decide ((Sum.inl a:Key)=Sum.inr b)=false:=decide_eq_false (fun q=>nomatch q)
theorem Br (a:Str) (b:Int):decide ((Sum.inr a:Key)=Sum.inl b)=false:=decide_eq_false (fun q=>nomatch q)
def bW (prog:Program) (w:World):PySem.KeyKind prog w Key where
 is:=gv
 hash:=DK w
 inj:=fun v a b ha hb=>by
  rcases eQ ha with ⟨i,t,rfl,rfl⟩ | ⟨x,t,rfl,rfl⟩
  ·rcases eQ hb with ⟨j,u,rfl,e⟩ | ⟨y,u,rfl,e⟩
   ·injection e with e1 _; rw [e1]
   ·exact nomatch e
  ·rcases eQ hb with ⟨j,u,rfl,e⟩ | ⟨y,u,rfl,e⟩
   ·exact nomatch e
   ·injection e with e1 _; rw [e1]
 byValue:=fun k v h=>by
  rcases eQ h with ⟨i,t,rfl,rfl⟩ | ⟨x,t,rfl,rfl⟩ <;> rfl
 pyHash:=fun hv h=>by
  rcases eQ hv with ⟨i,t,rfl,rfl⟩ | ⟨x,t,rfl,rfl⟩
  ·exact wpAny_pyHash_int h
  ·exact wpAny_pyHash_str h
 eqBool:=fun hu hv h=>by
  rcases eQ hu with ⟨i,t,rfl,rfl⟩ | ⟨x,t,rfl,rfl⟩
  ·rcases eQ hv with ⟨j,u,rfl,rfl⟩ | ⟨y,u,rfl,rfl⟩
   ·rw [Bt] at h; exact wpAny_eqBool_int h
   ·rw [Bs] at h; exact SeqAt.EqAt.int_str i t y u _ _ _ _ h
  ·rcases eQ hv with ⟨j,u,rfl,rfl⟩ | ⟨y,u,rfl,rfl⟩
   ·rw [Br] at h; exact SeqAt.EqAt.str_int x t j u _ _ _ _ h
   ·rw [Bq] at h; exact wpAny_eqBool_str h
 «strs»:=fun k x t v h=>by
  rcases eQ h with ⟨i,u,rfl,e⟩ | ⟨y,u,rfl,e⟩
  ·exact nomatch e
  ·injection e with e1 _
   subst e1
   cases v <;> rfl
theorem vP (prog:Program) (w:World) (i:Int) (t:Tok):(bW prog w).is (.inl i) (.int i t)=true:=xb i t
theorem vO (prog:Program) (w:World) (x:Str) (t:Tok):(bW prog w).is (.inr x) (.str x t)=true:=xa x t
inductive V where
 | non | bl (b:Bool) | int (i:Int) | str (x:Str) | byt (b:Array UInt8) | flt (b:UInt64) | ref (a:Addr) | ty (n:String)
 deriving DecidableEq
def RelV:V→Value→Prop
 | .non,u=>u=Value.none
 | .bl b,u=>u=Value.bool b
 | .int i,u=>∃ t,u=Value.int i t
 | .str x,u=>∃ t,u=Value.str x t
 | .byt b,u=>∃ t,u=Value.bytes b t
 | .flt b,u=>∃ t,u=Value.float b t
 | .ref a,u=>u=Value.ref a
 | .ty n,u=>u=Value.type n
abbrev Vals:List V→List Value→Prop:=Paired RelV
theorem Vals.length {xs:List V} {us:List Value} (r:Vals xs us):xs.length=us.length:=Paired.length r
theorem Vals.get:∀ {xs:List V} {us:List Value} {i:Nat} {x:V},Vals xs us→xs[i]? = some x→∃ u,us[i]? = some u∧RelV x u
 | _,_,_,_,.nil,e=>by simp at e
 | _,_,0,_,.cons r _,e=>by simp at e; subst e; exact ⟨_,rfl,r⟩
 | _,_,i + 1,x,.cons _ t,e=>by
  obtain ⟨u,h1,h2⟩:=Vals.get (i:=i) (x:=x) t (by simpa using e)
  exact ⟨u,by simpa using h1,h2⟩
theorem Vals.append:∀ {xs ys:List V} {us ws:List Value},Vals xs us→Vals ys ws→Vals (xs++ys) (us++ws)
 | _,_,_,_,.nil,s=>s
 | _,_,_,_,.cons r t,s=>.cons r (Vals.append t s)
theorem Vals.take:∀ {xs:List V} {us:List Value} (n:Nat),Vals xs us→Vals (xs.take n) (us.take n)
 | _,_,0,_=>.nil
 | _,_,_ + 1,.nil=>.nil
 | _,_,n + 1,.cons r t=>.cons r (Vals.take n t)
theorem Vals.drop:∀ {xs:List V} {us:List Value} (n:Nat),Vals xs us→Vals (xs.drop n) (us.drop n)
 | _,_,0,r=>r
 | _,_,_ + 1,.nil=>.nil
 | _,_,n + 1,.cons _ t=>Vals.drop n t
def RelO:Option V→Option Value→Prop
 | some v,some u=>RelV v u
 | none,none=>True
 | _,_=>False
def KV {κ:Type}:List (κ×V)→List (κ×Value)→Prop:=Paired fun (p:κ×V) (q:κ×Value)=>p.1=q.1∧RelV p.2 q.2
def kV:Key→V
 | .inl i=>.int i
 | .inr x=>.str x
inductive HO where
  | lst (xs:List V)
  | tup (xs:List V)
  | dK (kvs:List (Key×V)) | dT (kvs:List (List Key×V))
  | set (S:Int→Bool) (n:Nat)
  | ins (C dx:Addr) (fs:List (Str×V))
  | own (x:Addr)
  | xd (fs:List (Str×V))
  | met (f x:Addr)
  | rng (lo hi:Int)
  | frz (o:Obj) (u:HO)
  | tbl (ps:Array Value)
  | ext (φ:Heap→Prop)
abbrev Hp:=Addr→Option HO
def upd (H:Hp) (a:Addr) (o:HO):Hp:=fun b=>if b=a then some o else H b
theorem bG {H:Hp} {a:Addr} {o:HO}:upd H a o a=some o:=by unfold upd; rw [if_pos rfl]
theorem aO {H:Hp} {a b:Addr} {o:HO} (h:b≠a):upd H a o b=H b:=by unfold upd; rw [if_neg h]
theorem yL {H:Hp} {a:Addr} {o u:HO}:upd (upd H a o) a u=upd H a u:=by funext b; unfold upd; split <;> rfl
theorem CN {H:Hp} {a b:Addr} {o u:HO} (h:H a=some o) (h':H b=some u) (d:o≠u):a≠b:=by intro e; subst e; rw [h] at h'; exact d (Option.some.inj h')
theorem c9 {H:Hp} {a b:Addr} {o:HO} (h:H a=some o) (h':H b=none):a≠b:=by intro e; subst e; rw [h] at h'; cases h'
section
variable (P:Program) (w:World)
def ObjOk (H:Hp) (h:Heap) (a:Addr):HO→Prop
 | .lst xs=>xs.length≤sizeLine∧∃ (its:List Value) (n:Nat),Vals xs its∧h.get? a=some { cls:=.type "list",data:=.seq its.toArray n }
 | .tup xs=>xs.length≤sizeLine∧∃ its:List Value,Vals xs its∧IsTup h a its.toArray
 | .dK kvs=>kvs.length≤sizeLine∧(a == sysModules)=false∧∃ vs,KV kvs vs∧h.DictOf (bW P w) a vs
 | .dT kvs=>kvs.length≤sizeLine∧(a == sysModules)=false∧∃ xs:List (List Key×Addr×Value),
   Paired (fun (p:List Key×V) (q:List Key×Addr×Value)=>p.1=q.1∧H q.2.1=some (.tup (p.1.map kV))∧RelV p.2 q.2.2) kvs xs ∧
   ∃ o es ep,h.get? a=some o∧o.ExactDict∧o.data=.dict es ep∧es.toList=xs.map (entryOfKey (tupleKind (bW P w)))∧(xs.map (·.1)).Nodup
 | .set S n=>h.SetOf (intKind P w) a S n
 | .ins C dx fs=>H dx=some (.own a)∧fs.length≤1000∧dx≠a∧h.get? a=some (PySem.W.instObj C dx) ∧
   ∃ mA,h.Ns1 dx mA∧(∀ f,RelO (fs.lookup f) (mA f))∧PySem.Within mA (fs.map (·.1))
 | .own _=>∃ o,h.get? a=some o
 | .xd fs=>∃ mA,h.Ns1 a mA∧∀ f,RelO (fs.lookup f) (mA f)
 | .rng lo hi=>∃ t u v,h.get? a=some { cls:=.type "range",data:=.fields #[.int lo t,.int hi u,.int 1 v] }
 | .frz o u=>h.get? a=some o∧ObjOk H h a u
 | .tbl ps=>h.get? a=some { cls:=.none,data:=.fields ps }
 | .met f x=>h.get? a=some (PySem.W.methodObj (.ref f) (.ref x))
 | .ext φ=>φ h∧(∃ o,h.get? a=some o)∧∀ h1 h2:Heap,φ h1→(∀ o,h1.get? a=some o→h2.get? a=some o)→φ h2
def HOk (H:Hp) (h:Heap):Prop:=∀ a o,H a=some o→ObjOk P w H h a o
end
section
variable {P:Program} {w:World} {H H':Hp} {h h':Heap} {a:Addr} {o:HO}
theorem ObjOk.lt (x:ObjOk P w H h a o):a < h.objs.size:=by
 cases o with
 | lst xs=>obtain ⟨_,_,_,_,e⟩:=x; exact Heap.lt_size e
 | tup xs=>obtain ⟨_,_,_,p⟩:=x; exact p.lt
 | dK kvs=>obtain ⟨_,_,_,_,o,_,_,e,_⟩:=x; exact Heap.lt_size e
 | dT kvs=>obtain ⟨_,_,_,_,o,_,_,e,_⟩:=x; exact Heap.lt_size e
 | set S n=>obtain ⟨o,_,_,_,e,_⟩:=x; exact Heap.lt_size e
 | ins C dx fs=>obtain ⟨_,_,_,e,_⟩:=x; exact Heap.lt_size e
 | own y=>obtain ⟨_,e⟩:=x; exact Heap.lt_size e
 | xd fs=>obtain ⟨_,⟨_,_,_,e,_⟩,_⟩:=x; exact Heap.lt_size e
 | rng lo hi=>obtain ⟨_,_,_,e⟩:=x; exact Heap.lt_size e
 | frz ob u=>obtain ⟨e,_⟩:=x; exact Heap.lt_size e
 | tbl ps=>exact Heap.lt_size (show h.get? a=some _ from x)
 | met f y=>exact Heap.lt_size (show h.get? a=some _ from x)
 | ext φ=>obtain ⟨_,⟨_,e⟩,_⟩:=x; exact Heap.lt_size e
theorem Paired.mapP {α β:Type} {F G:α→β→Prop}:∀ {l₁:List α} {l₂:List β},Paired F l₁ l₂→(∀ a b,F a b→G a b)→Paired G l₁ l₂
 | _,_,.nil,_=>.nil
 | _,_,.cons r t,f=>.cons (f _ _ r) (Paired.mapP t f)
theorem ObjOk.stay (x:ObjOk P w H h a o) (k:∀ b u,(b=a∨H b=some (.own a))→h.get? b=some u→h'.get? b=some u)
  (ho:∀ b,H b=some (.own a)→H' b=some (.own a)) (ht:∀ b xs,H b=some (.tup xs)→H' b=some (.tup xs)):ObjOk P w H' h' a o:=by
 induction o with
 | lst xs=>obtain ⟨z,its,n,r,e⟩:=x; exact ⟨z,its,n,r,k _ _ (.inl rfl) e⟩
 | tup xs=>obtain ⟨z,its,r,ob,e,c⟩:=x; exact ⟨z,its,r,ob,k _ _ (.inl rfl) e,c⟩
 | dK kvs=>obtain ⟨z,y,vs,r,ob,es,ep,e,c⟩:=x; exact ⟨z,y,vs,r,ob,es,ep,k _ _ (.inl rfl) e,c⟩
 | dT kvs=>
  obtain ⟨z,y,xs,r,ob,es,ep,e,c⟩:=x
  exact ⟨z,y,xs,Paired.mapP r fun p q z=>⟨z.1,ht _ _ z.2.1,z.2.2⟩,ob,es,ep,k _ _ (.inl rfl) e,c⟩
 | set S n=>obtain ⟨ob,es,ep,t,e,c⟩:=x; exact ⟨ob,es,ep,t,k _ _ (.inl rfl) e,c⟩
 | ins C dx fs=>
  obtain ⟨d,z,ne,e,mA,⟨od,es,ep,e2,c⟩,r⟩:=x
  exact ⟨ho _ d,z,ne,k _ _ (.inl rfl) e,mA,⟨od,es,ep,k _ _ (.inr d) e2,c⟩,r⟩
 | own y=>obtain ⟨ob,e⟩:=x; exact ⟨ob,k _ _ (.inl rfl) e⟩
 | xd fs=>obtain ⟨mA,⟨od,es,ep,e,c⟩,r⟩:=x; exact ⟨mA,⟨od,es,ep,k _ _ (.inl rfl) e,c⟩,r⟩
 | rng lo hi=>obtain ⟨t,u,v,e⟩:=x; exact ⟨t,u,v,k _ _ (.inl rfl) e⟩
 | frz ob u ih=>obtain ⟨e,q⟩:=x; exact ⟨k _ _ (.inl rfl) e,ih q⟩
 | tbl ps=>
  have e:h.get? a=some { cls:=.none,data:=.fields ps }:=x
  show h'.get? a=some { cls:=.none,data:=.fields ps }
  exact k a _ (.inl rfl) e
 | met f y=>
  have e:h.get? a=some (PySem.W.methodObj (.ref f) (.ref y)):=x
  show h'.get? a=some (PySem.W.methodObj (.ref f) (.ref y))
  exact k a _ (.inl rfl) e
 | ext φ=>obtain ⟨p,⟨o,e⟩,st⟩:=x; exact ⟨st _ _ p fun o q=>k _ _ (.inl rfl) q,⟨o,k _ _ (.inl rfl) e⟩,st⟩
theorem HOk.lt (x:HOk P w H h) (e:H a=some o):a < h.objs.size:=(x a o e).lt
theorem HOk.fresh (x:HOk P w H h) (e:h.objs.size≤a):H a=none:=by
 cases q:H a with
 | none=>rfl
 | some u=>exact absurd (Nat.lt_of_lt_of_le (x.lt q) e) (Nat.lt_irrefl _)
theorem HOk.kept (x:HOk P w H h) (k:∀ b u,h.get? b=some u→h'.get? b=some u):HOk P w H h':=fun a o e=>
 (x a o e).stay (fun b u _ q=>k b u q) (fun _ q=>q) fun _ _ q=>q
theorem HOk.laid (x:HOk P w H h) (k:∀ b u,h.get? b=some u→h'.get? b=some u) (hp:h.objs.size≤a) (new:ObjOk P w (upd H a o) h' a o):HOk P w (upd H a o) h':=fun b u e=>by
 have hn:=x.fresh hp
 by_cases hb:b=a
 ·subst hb; rw [bG] at e; cases e; exact new
 ·rw [aO hb] at e
  exact (x b u e).stay (fun c v _ q=>k c v q) (fun c q=>by rw [aO (c9 q hn)]; exact q) fun c xs q=>by rw [aO (c9 q hn)]; exact q
end
def Rd (H:Hp) (a:Addr) (u:HO):Prop:=H a=some u∨∃ o,H a=some (.frz o u)
theorem Rd.ok {P:Program} {w:World} {H:Hp} {h:Heap} {a:Addr} {u:HO} (r:Rd H a u) (x:HOk P w H h):ObjOk P w H h a u:=by
 rcases r with r | ⟨o,r⟩
 ·exact x a u r
 ·obtain ⟨_,q⟩:=x a _ r
  exact q
def Mut:Option HO→Prop
 | some (.lst _)=>True
 | some (.dK _)=>True
 | some (.dT _)=>True
 | some (.set _ _)=>True
 | some (.ins _ _ _)=>True
 | some (.ext _)=>True
 | _=>False
section
variable {P:Program} {w:World} {H:Hp} {h h':Heap} {x e:Addr} {o':HO}
theorem HOk.write (ok:HOk P w H h) (mu:Mut (H x)) (he:e=x∨H e=some (.own x)) (k:∀ b u,b≠e→h.get? b=some u→h'.get? b=some u) (heo:∃ u,h'.get? e=some u)
  (new:ObjOk P w (upd H x o') h' x o'):HOk P w (upd H x o') h':=fun b u q=>by
 have nown:∀ c y,H c=some (.own y)→c≠x:=fun c y r z=>by subst z; rw [r] at mu; exact mu
 have ntup:∀ c xs,H c=some (.tup xs)→c≠x:=fun c xs r z=>by subst z; rw [r] at mu; exact mu
 by_cases hb:b=x
 ·subst hb; rw [bG] at q; cases q; exact new
 ·rw [aO hb] at q
  by_cases hbe:b=e
  ·have q':H b=some (.own x):=by
    rcases he with z | z
    ·exact absurd (hbe.trans z) hb
    ·rw [hbe]; exact z
   rw [q] at q'; cases q'
   obtain ⟨v,hv⟩:=heo
   exact ⟨v,by rw [hbe]; exact hv⟩
  ·refine (ok b u q).stay (fun c v hc r=>k c v ?_ r) (fun c r=>by rw [aO (nown c b r)]; exact r) fun c xs r=>by rw [aO (ntup c xs r)]; exact r
   rcases hc with rfl | hc
   ·exact hbe
   ·rintro rfl
    rcases he with z | z
    ·exact nown c b hc z
    ·rw [hc] at z; cases z; exact hb rfl
end
structure Un (fs ex:List Addr) (H H':Hp) (h h':Heap):Prop where
 keep:∀ b o,h.get? b=some o→H b=none→b∉fs→b∉ex→h'.get? b=some o
 slot:∀ b o,h.get? b=some o→H b=none→b∈fs→b∉ex→∃ sl,h'.get? b=some { o with slots:=sl }
 free:∀ b o,h.get? b=some o→H b=none→b∉ex→H' b=none
 there:∀ b o,h.get? b=some o→b∉ex→∃ o',h'.get? b=some o'
 tups:∀ b xs,H b=some (.tup xs)→H' b=some (.tup xs)
 frzs:∀ b o u,H b=some (.frz o u)→H' b=some (.frz o u)
 tbls:∀ b ps,H b=some (.tbl ps)→∃ more,H' b=some (.tbl (ps++more))
section
variable {fs fs' ex ex':List Addr} {H H1 H2:Hp} {h h1 h2 h':Heap} {a x e:Addr} {o:HO}
theorem Un.any (u:Un fs ex H H1 h h1) {b:Addr} {ob:Obj} (q:h.get? b=some ob) (n:H b=none) (hx:b∉ex):∃ sl,h1.get? b=some { ob with slots:=sl }:=by
 by_cases hb:b∈fs
 ·exact u.slot b ob q n hb hx
 ·exact ⟨ob.slots,u.keep b ob q n hb hx⟩
theorem Un.kept (k:∀ b u,h.get? b=some u→h'.get? b=some u):Un fs ex H H h h':=⟨fun b ob q _ _ _=>k b ob q,fun b ob q _ _ _=>⟨ob.slots,k b ob q⟩,fun _ _ _ n _=>n,fun b ob q _=>⟨ob,k b ob q⟩,fun _ _ q=>q,fun _ _ _ q=>q,fun _ ps q=>⟨#[],by rw [q]; simp⟩⟩
theorem Un.refl:Un fs ex H H h h:=Un.kept fun _ _ q=>q
theorem Un.laid (k:∀ b u,h.get? b=some u→h'.get? b=some u) (hp:h.objs.size≤a) (hn:H a=none):Un fs ex H (upd H a o) h h' where
 keep:=fun b u q _ _ _=>k b u q
 slot:=fun b u q _ _ _=>⟨u.slots,k b u q⟩
 free:=fun b u q n _=>by rw [aO (Nat.ne_of_lt (Nat.lt_of_lt_of_le (Heap.lt_size q) hp))]; exact n
 there:=fun b u q _=>⟨u,k b u q⟩
 tups:=fun b xs q=>by rw [aO (c9 q hn)]; exact q
 frzs:=fun b u xs q=>by rw [aO (c9 q hn)]; exact q
 tbls:=fun b ps q=>⟨#[],by rw [aO (c9 q hn),q]; simp⟩
theorem Un.write (mu:Mut (H x)) (he:e=x∨H e=some (.own x)) (k:∀ b u,b≠e→h.get? b=some u→h'.get? b=some u) (heo:∃ u,h'.get? e=some u):Un fs ex H (upd H x o) h h':=by
 have hx:∀ b,H b=none→b≠x:=fun b n z=>by subst z; rw [n] at mu; exact mu
 have hb:∀ b,H b=none→b≠e:=fun b n z=>by
  subst z
  rcases he with r | r
  ·exact hx b n r
  ·rw [n] at r; cases r
 have hm:∀ b u,H b=some u→¬ Mut (some u)→b≠x:=fun b u q nm z=>by subst z; rw [q] at mu; exact nm mu
 refine ⟨fun b u q n _ _=>k b u (hb b n) q,fun b u q n _ _=>⟨u.slots,k b u (hb b n) q⟩,fun b u q n _=>by rw [aO (hx b n)]; exact n,fun b u q _=>?_,
  fun b xs q=>by rw [aO (hm b _ q fun z=>z)]; exact q,fun b u xs q=>by rw [aO (hm b _ q fun z=>z)]; exact q,fun b ps q=>⟨#[],by rw [aO (hm b _ q fun z=>z),q]; simp⟩⟩
 by_cases hbe:b=e
 ·subst hbe; exact heo
 ·exact ⟨u,k b u hbe q⟩
end
def trk (h:Heap) (H:Hp):List Addr:=(List.range h.objs.size).filter fun a=>(H a).isSome
def gD (h:Heap) (H:Hp):Heap:=PySem.W.hideAll h (trk h H)
theorem xf (h:Heap) (H:Hp):(gD h H).objs.size=h.objs.size:=PySem.W.hideAll_size _ _
theorem yf {h:Heap} {H:Hp} {b:Addr} {o:Obj} (e:h.get? b=some o) (n:H b=none):(gD h H).get? b=some o:=
 PySem.W.hideAll_get _ e fun hm=>by
  have q:(H b).isSome=true:=(List.mem_filter.mp hm).2
  rw [n] at q; simp at q
theorem zE {h:Heap} {H:Hp} {b:Addr} {o:Obj} (e:(gD h H).get? b=some o):h.get? b=some o∧H b=none:=by
 have e':h.get? b=some o:=PySem.W.of_hideAll (trk h H) e
 refine ⟨e',?_⟩
 cases q:H b with
 | none=>rfl
 | some x=>
  have hm:b∈trk h H:=List.mem_filter.mpr ⟨List.mem_range.mpr (Heap.lt_size e'),by simp [q]⟩
  have z:(gD h H).get? b=none:=PySem.W.hideAll_none (trk h H) hm
  rw [z] at e; cases e
def Ai (g h:Heap) (L:Addr):List (Addr×Obj):=(List.range h.objs.size).filterMap fun a=>if a=L∨(g.get? a).isSome=true then none else (h.get? a).map fun o=>(a,o)
def rest (g h:Heap) (L d:Addr):List (Addr×Obj):=(Ai g h L).filter fun p=>decide (p.1≠d)
structure Mod (K:Frag) (mg:Str→Option Value) (base:Heap):Prop where
 kin:K.In base
 glob:base.Ns mainGlobals mg
 blt:∃ mb,base.Ns builtinsNs mb∧∀ x:Str,x≠"__name__"→mb x=bootBuiltins x
 nolimit:base.NoLimit
structure Cx where
 prog:Program
 w:World
 K:Frag
 mg:Str→Option Value
 base:Heap
 A:Around
 N:List Str
 s₀:Shared
 H₀:Hp
 env:Env
 outer:List Env
 stack:List Env
 ex:List Addr
 fn:Str→Bool
 calm:Bool
 pn:List (Addr×Obj)
 xe:Value→Shared→Prop
def frs (l:List Env):List Addr:=l.filterMap (·.frame)
abbrev Cx.fs (X:Cx):List Addr:=frs X.outer
def Vis (sc:Scope) (x:Str):Prop:=sc.names.lookup x=some .local∨sc.names.lookup x=some .cell∨sc.names.lookup x=some .free
def Loc (sc:Scope) (x:Str):Prop:=sc.names.lookup x=some .local∨sc.names.lookup x=some .cell
def Look (env:Env) (h:Heap) (m:Str→Option Value) (x:Str) (u:Value):Prop:=(env.kindOf x=some .local∧m x=some u)∨((env.kindOf x=some .cell∨env.kindOf x=some .free)∧∃ c,env.cells.lookup x=some c∧h.IsCell c (some u))
structure Cx.Ok (X:Cx):Prop where
 mod:Mod X.K X.mg X.base
 kind:X.env.scope.kind=.function
 glob:X.env.globals=mainGlobals
 blt:X.env.builtins=builtinsNs
 above:X.s₀.heap.objs.size≤X.env.locals
 inj:∀ x y c,X.env.cells.lookup x=some c→X.env.cells.lookup y=some c→x=y
 has:∀ x,(X.env.kindOf x=some .cell∨X.env.kindOf x=some .free)→∃ c,X.env.cells.lookup x=some c
 cab:∀ x c,X.fn x=true→X.env.cells.lookup x=some c→X.s₀.heap.objs.size≤c
 hd:X.calm=true→X.A.handled=none
 frames:X.A.frames=some X.stack
 stk:X.stack=X.outer∨(X.stack=X.env::X.outer∧X.env.frame=some X.env.locals)
 exf:∀ b∈X.ex,b≠X.env.locals∧∀ x c,X.env.cells.lookup x=some c→c≠b
 bs:∀ b o,X.base.get? b=some o→X.s₀.heap.get? b=some o∧X.H₀ b=none
 bsz:X.base.objs.size≤X.s₀.heap.objs.size
 noex:∀ b o,X.base.get? b=some o→b∉X.ex
 exfs:∀ b∈X.ex,b∉X.fs
 funs:X.s₀.heap.FunFrames X.base X.outer
 frf:∀ b∈X.fs,X.H₀ b=none
structure Inv (X:Cx) (pins:List (Addr×Obj)) (σ:List (Option V)) (H:Hp) (s:Shared):Prop where
 ok:X.Ok
 os:s.os=X.s₀.os
 bare:AllBare s.gens
 base:Un X.fs X.ex X.H₀ H X.s₀.heap s.heap
 loc:∃ m,s.heap.Ns X.env.locals m∧∀ (i:Nat) (x:Str) (v:V),X.N[i]? = some x→σ[i]? = some (some v)→Vis X.env.scope x→∃ u,RelV v u∧Look X.env s.heap m x u
 cell:∀ x c,X.env.cells.lookup x=some c→∃ v,s.heap.IsCell c v
 free:H X.env.locals=none
 freeC:∀ x c,X.env.cells.lookup x=some c→H c=none
 pin:∀ p∈X.pn++pins,s.heap.get? p.1=some p.2∧H p.1=none∧p.1≠X.env.locals∧p.1∉X.fs∧∀ v,p.2.data≠.cell v
 hok:HOk X.prog X.w H s.heap
 len:σ.length=X.N.length
section
variable {X:Cx} {pins:List (Addr×Obj)} {σ:List (Option V)} {H H':Hp} {s:Shared} {h':Heap}
theorem Cx.Ok.nofr (ok:X.Ok) {b:Addr} {o:Obj} (e:X.base.get? b=some o):b∉X.fs:=fun hb=>by
 have:=(ok.funs.mem hb).1
 rw [e] at this; cases this
theorem Inv.bs (I:Inv X pins σ H s):∀ b o,X.base.get? b=some o→s.heap.get? b=some o∧H b=none:=fun b o e=>
 ⟨I.base.keep b o (I.ok.bs b o e).1 (I.ok.bs b o e).2 (I.ok.nofr e) (I.ok.noex b o e),I.base.free b o (I.ok.bs b o e).1 (I.ok.bs b o e).2 (I.ok.noex b o e)⟩
theorem Inv.bk (I:Inv X pins σ H s):∀ b o,X.base.get? b=some o→s.heap.get? b=some o:=fun b o e=>(I.bs b o e).1
theorem Inv.mod (I:Inv X pins σ H s):Mod X.K X.mg X.base:=I.ok.mod
theorem Inv.kIn (I:Inv X pins σ H s):X.K.In s.heap:=I.ok.mod.kin.keeps I.bk
theorem Inv.lt (I:Inv X pins σ H s):X.env.locals < s.heap.objs.size:=let ⟨_,hn,_⟩:=I.loc; hn.lt
theorem Inv.sz (I:Inv X pins σ H s):X.s₀.heap.objs.size≤s.heap.objs.size:=Nat.le_trans I.ok.above (Nat.le_of_lt I.lt)
theorem Inv.nofs (I:Inv X pins σ H s) {a:Addr} (h:s.heap.objs.size≤a):a∉X.fs:=fun hb=>by
 obtain ⟨_,o,ho,_⟩:=I.ok.funs.mem hb
 exact absurd (Nat.lt_of_lt_of_le (Heap.lt_size ho) (Nat.le_trans I.sz h)) (Nat.lt_irrefl _)
theorem Inv.cne (I:Inv X pins σ H s):∀ x c,X.env.cells.lookup x=some c→c≠X.env.locals:=fun x c e z=>by
 obtain ⟨v,o,ho,hd⟩:=I.cell x c e
 obtain ⟨m,⟨o',es,ep,ho',hd',_⟩,_⟩:=I.loc
 rw [z,ho'] at ho; cases ho; rw [hd'] at hd; cases hd
theorem Inv.funs (I:Inv X pins σ H s):s.heap.FunFrames X.base X.outer:=by
 have all:∀ (l:List Env),(∀ b∈frs l,b∈X.fs)→X.s₀.heap.FunFrames X.base l→s.heap.FunFrames X.base l:=by
  intro l
  induction l with
  | nil=>intro _ _; trivial
  | cons env r ih=>
   intro hs hl
   obtain ⟨hk,⟨L,o,hf,hn,ho,hd⟩,hr⟩:=hl
   have hL:L∈X.fs:=hs L (by unfold frs; rw [List.filterMap_cons,hf]; exact List.mem_cons_self)
   obtain ⟨sl,e⟩:=I.base.slot L o ho (I.ok.frf L hL) hL fun z=>I.ok.exfs L z hL
   exact ⟨hk,⟨L,_,hf,hn,e,hd⟩,ih (fun b hb=>hs b (by unfold frs; rw [List.filterMap_cons,hf]; exact List.mem_cons_of_mem _ hb)) hr⟩
 exact all X.outer (fun _ hb=>hb) I.ok.funs
theorem Inv.stack (I:Inv X pins σ H s):s.heap.FunFrames X.base X.stack:=by
 rcases I.ok.stk with e | ⟨e,hf⟩
 ·rw [e]; exact I.funs
 ·rw [e]
  obtain ⟨m,hn,_⟩:=I.loc
  refine .cons (by rw [I.ok.kind]; decide) hf hn ?_ I.funs
  exact Heap.get?_none_of_le (Nat.le_trans I.ok.bsz I.ok.above)
theorem Inv.stkSub (I:Inv X pins σ H s):∀ b∈frs X.stack,b∈X.env.locals::X.fs:=fun b hb=>by
 rcases I.ok.stk with e | ⟨e,hf⟩
 ·rw [e] at hb; exact List.mem_cons_of_mem _ hb
 ·rw [e] at hb
  unfold frs at hb
  rw [List.filterMap_cons,hf] at hb
  exact hb
theorem Inv.stkFree (I:Inv X pins σ H s):∀ b∈frs X.stack,H b=none:=fun b hb=>by
 rcases List.mem_cons.mp (I.stkSub b hb) with e | hb
 ·rw [e]; exact I.free
 ·obtain ⟨_,o,ho,_⟩:=I.ok.funs.mem hb
  exact I.base.free b o ho (I.ok.frf b hb) fun z=>I.ok.exfs b z hb
theorem Inv.step {g':Array GenState} {t':Nat} {d':Drawn} {ch:List Addr} (I:Inv X pins σ H s)
  (hch:∀ b∈ch,(b∈X.ex∨X.s₀.heap.objs.size≤b)∧b≠X.env.locals∧(∀ x c,X.env.cells.lookup x=some c→c≠b)∧∀ p∈X.pn++pins,p.1≠b)
  (keep:∀ b o,b≠X.env.locals→b∉X.fs→b∉ch→s.heap.get? b=some o→H b=none→h'.get? b=some o)
  (slot:∀ b o,b≠X.env.locals→b∈X.fs→b∉ch→s.heap.get? b=some o→H b=none→∃ sl,h'.get? b=some { o with slots:=sl }) (free:∀ b o,b∉ch→s.heap.get? b=some o→H b=none→H' b=none)
  (there:∀ b o,b∉ch→s.heap.get? b=some o→∃ o',h'.get? b=some o')
  (tups:∀ b xs,H b=some (.tup xs)→H' b=some (.tup xs)) (frzs:∀ b o u,H b=some (.frz o u)→H' b=some (.frz o u)) (tbls:∀ b ps,H b=some (.tbl ps)→∃ more,H' b=some (.tbl (ps++more)))
  (ns:∀ m,s.heap.Ns X.env.locals m→h'.Ns X.env.locals m) (hok:HOk X.prog X.w H' h') (hg:AllBare g') :
  Inv X pins σ H' { s with heap:=h',gens:=g',drawn:=d',toks:=t' }:=by
 have neL:∀ b o,X.s₀.heap.get? b=some o→b≠X.env.locals:=fun b o e=>Nat.ne_of_lt (Nat.lt_of_lt_of_le (Heap.lt_size e) I.ok.above)
 have neC:∀ b o,X.s₀.heap.get? b=some o→b∉X.ex→b∉ch:=fun b o e hx hb=>by
  rcases (hch b hb).1 with z | z
  ·exact hx z
  ·exact absurd (Nat.lt_of_lt_of_le (Heap.lt_size e) z) (Nat.lt_irrefl _)
 have cellK:∀ x c,X.env.cells.lookup x=some c→∀ v,s.heap.IsCell c v→h'.IsCell c v:=fun x c e v ⟨o,ho,hd⟩=>by
  have nch:c∉ch:=fun z=>(hch c z).2.2.1 x c e rfl
  by_cases hc:c∈X.fs
  ·obtain ⟨sl,q⟩:=slot c o (I.cne x c e) hc nch ho (I.freeC x c e)
   exact ⟨_,q,hd⟩
  ·exact ⟨o,keep c o (I.cne x c e) hc nch ho (I.freeC x c e),hd⟩
 refine ⟨I.ok,I.os,hg,⟨fun b o e n hb hx=>?_,fun b o e n hb hx=>?_,fun b o e n hx=>?_,fun b o e hx=>?_,fun b xs e=>tups b xs (I.base.tups b xs e),fun b o xs e=>frzs b o xs (I.base.frzs b o xs e),fun b ps e=>?_⟩,?_,fun x c e=>?_,?_,fun x c e=>?_,fun p hp=>?_,hok,I.len⟩
 ·exact keep b o (neL b o e) hb (neC b o e hx) (I.base.keep b o e n hb hx) (I.base.free b o e n hx)
 ·obtain ⟨sl,e1⟩:=I.base.slot b o e n hb hx
  obtain ⟨sl',e2⟩:=slot b _ (neL b o e) hb (neC b o e hx) e1 (I.base.free b o e n hx)
  exact ⟨sl',e2⟩
 ·obtain ⟨o',e1⟩:=I.base.there b o e hx
  exact free b o' (neC b o e hx) e1 (I.base.free b o e n hx)
 ·obtain ⟨o',e1⟩:=I.base.there b o e hx
  exact there b o' (neC b o e hx) e1
 ·obtain ⟨m1,e1⟩:=I.base.tbls b ps e
  obtain ⟨m2,e2⟩:=tbls b _ e1
  exact ⟨m1++m2,by rw [e2,Array.append_assoc]⟩
 ·obtain ⟨m,hn,hl⟩:=I.loc
  refine ⟨m,ns m hn,fun i x v e1 e2 e3=>?_⟩
  obtain ⟨u,r,l⟩:=hl i x v e1 e2 e3
  refine ⟨u,r,?_⟩
  rcases l with l | ⟨k,c,e,z⟩
  ·exact .inl l
  ·exact .inr ⟨k,c,e,cellK x c e _ z⟩
 ·obtain ⟨v,z⟩:=I.cell x c e
  exact ⟨v,cellK x c e v z⟩
 ·obtain ⟨m,⟨o,_,_,ho,_⟩,_⟩:=I.loc
  exact free _ o (fun z=>(hch _ z).2.1 rfl) ho I.free
 ·obtain ⟨v,o,ho,hd⟩:=I.cell x c e
  exact free c o (fun z=>(hch c z).2.2.1 x c e rfl) ho (I.freeC x c e)
 ·obtain ⟨e,n,ne,nf,d⟩:=I.pin p hp
  have nch:p.1∉ch:=fun z=>(hch p.1 z).2.2.2 p hp rfl
  exact ⟨keep p.1 p.2 ne nf nch e n,free p.1 p.2 nch e n,ne,nf,d⟩
theorem Inv.un {t':Nat} (I:Inv X pins σ H s) (u:Un X.fs [] H H' s.heap h') (hok:HOk X.prog X.w H' h'):Inv X pins σ H' { s with heap:=h',toks:=t' }:=by
 obtain ⟨m,⟨o,es,ep,ho,r⟩,_⟩:=id I.loc
 obtain ⟨sl,hL⟩:=u.any ho I.free (by simp)
 exact I.step (g':=s.gens) (d':=s.drawn) (ch:=[]) (fun _ z=>nomatch z) (fun b o _ hb _ e n=>u.keep b o e n hb (by simp)) (fun b o _ hb _ e n=>u.slot b o e n hb (by simp)) (fun b o _ e n=>u.free b o e n (by simp)) (fun b o _ e=>u.there b o e (by simp)) u.tups u.frzs u.tbls (fun m' hm=>by
  obtain ⟨o',es',ep',ho',r'⟩:=hm
  rw [ho] at ho'; cases ho'
  exact ⟨_,es',ep',hL,r'⟩) hok I.bare
theorem Inv.call {g':Array GenState} {t':Nat} {d':Drawn} {ch:List Addr} (I:Inv X pins σ H s) (u:Un (frs X.stack) ch H H' s.heap h') (hok:HOk X.prog X.w H' h') (hg:AllBare g')
  (hch:∀ b∈ch,(b∈X.ex∨X.s₀.heap.objs.size≤b)∧b≠X.env.locals∧(∀ x c,X.env.cells.lookup x=some c→c≠b)∧∀ p∈X.pn++pins,p.1≠b) :
  Inv X pins σ H' { s with heap:=h',gens:=g',drawn:=d',toks:=t' }:=by
 obtain ⟨m,⟨o,es,ep,ho,r⟩,_⟩:=id I.loc
 obtain ⟨sl,hL⟩:=u.any ho I.free fun z=>(hch _ z).2.1 rfl
 exact I.step (ch:=ch) hch (fun b o hL hb hc e n=>u.keep b o e n (fun z=>(List.mem_cons.mp (I.stkSub b z)).elim hL hb) hc) (fun b o _ _ hc e n=>u.any e n hc) (fun b o hc e n=>u.free b o e n hc) (fun b o hc e=>u.there b o e hc) u.tups u.frzs u.tbls (fun m' hm=>by
  obtain ⟨o',es',ep',ho',r'⟩:=hm
  rw [ho] at ho'; cases ho'
  exact ⟨_,es',ep',hL,r'⟩) hok hg
theorem Inv.turned {t':Nat} {it:Addr} (I:Inv X pins σ H s) (k:∀ b o,b≠it→s.heap.get? b=some o→h'.get? b=some o) (hn:H it=none) (hL:it≠X.env.locals)
  (h1:it∈X.ex∨X.s₀.heap.objs.size≤it) (h2:∀ x c,X.env.cells.lookup x=some c→c≠it) (h3:∀ p∈X.pn++pins,p.1≠it):Inv X pins σ H { s with heap:=h',toks:=t' }:=by
 have nit:∀ b u,H b=some u→b≠it:=fun b u e z=>by rw [z,hn] at e; cases e
 refine I.step (g':=s.gens) (d':=s.drawn) (ch:=[it]) (fun b hb=>?_) (fun b o _ _ hc e _=>k b o (fun z=>hc (by simp [z])) e) (fun b o _ _ hc e _=>⟨o.slots,k b o (fun z=>hc (by simp [z])) e⟩) (fun _ _ _ _ n=>n)
  (fun b o hc e=>⟨o,k b o (fun z=>hc (by simp [z])) e⟩) (fun _ _ e=>e) (fun _ _ _ e=>e) (fun b ps e=>⟨#[],by rw [e]; simp⟩) (fun m hm=>?_) (fun b u e=>?_) I.bare
 ·have e:b=it:=by simpa using hb
  subst e
  exact ⟨h1,hL,h2,h3⟩
 ·obtain ⟨o,es,ep,ho,r⟩:=hm
  exact ⟨o,es,ep,k _ o (Ne.symm hL) ho,r⟩
 ·refine (I.hok b u e).stay (fun c v hc q=>k c v ?_ q) (fun _ q=>q) fun _ _ q=>q
  rcases hc with z | z
  ·rw [z]; exact nit b u e
  ·exact nit c _ z
theorem Inv.tok (I:Inv X pins σ H s) (t:Nat):Inv X pins σ H { s with toks:=t }:=I.un (h':=s.heap) (t':=t) Un.refl I.hok
theorem Inv.kept {t':Nat} (I:Inv X pins σ H s) (k:∀ b u,s.heap.get? b=some u→h'.get? b=some u):Inv X pins σ H { s with heap:=h',toks:=t' }:=I.un (Un.kept k) (I.hok.kept k)
theorem Inv.laid {a:Addr} {o:HO} {t':Nat} (I:Inv X pins σ H s) (k:∀ b u,s.heap.get? b=some u→h'.get? b=some u) (hp:s.heap.objs.size≤a) (new:ObjOk X.prog X.w (upd H a o) h' a o) :
  Inv X pins σ (upd H a o) { s with heap:=h',toks:=t' }:=I.un (Un.laid k hp (I.hok.fresh hp)) (I.hok.laid k hp new)
theorem Inv.write {x e:Addr} {o:HO} {t':Nat} (I:Inv X pins σ H s) (mu:Mut (H x)) (he:e=x∨H e=some (.own x)) (k:∀ b u,b≠e→s.heap.get? b=some u→h'.get? b=some u) (heo:∃ u,h'.get? e=some u)
  (new:ObjOk X.prog X.w (upd H x o) h' x o):Inv X pins σ (upd H x o) { s with heap:=h',toks:=t' }:=I.un (Un.write mu he k heo) (I.hok.write mu he k heo new)
theorem Inv.pins_of {pins':List (Addr×Obj)} (I:Inv X pins σ H s) (h:∀ p∈pins',s.heap.get? p.1=some p.2∧H p.1=none∧p.1≠X.env.locals∧p.1∉X.fs∧∀ v,p.2.data≠.cell v):Inv X pins' σ H s:=⟨I.ok,I.os,I.bare,I.base,I.loc,I.cell,I.free,I.freeC,fun p hp=>(List.mem_append.mp hp).elim (fun z=>I.pin p (List.mem_append_left _ z)) (h p),I.hok,I.len⟩
theorem p8 {N:List Str} (hN:N.Nodup) {i j:Nat} {x:Str} (a:N[i]? = some x) (b:N[j]? = some x):i=j:=by
 obtain ⟨h1,e1⟩:=List.getElem?_eq_some_iff.mp a
 obtain ⟨h2,e2⟩:=List.getElem?_eq_some_iff.mp b
 exact (List.getElem_inj hN).mp (e1.trans e2.symm)
theorem lX {M:Model} {A:Around} {E:Value→Shared→Prop} {i:Nat} {x:Str} {v:V} {u:Value} {Q:Unit→Shared→Prop} (I:Inv X pins σ H s) (hN:X.N.Nodup) (hi:X.N[i]? = some x) (hx:Loc X.env.scope x) (r:RelV v u)
  (h:∀ s',Inv X pins (σ.set i (some v)) H s'→(∃ a,Heap.SameBut a s.heap s'.heap∧(a=X.env.locals∨X.env.cells.lookup x=some a))→Q () s') (hf:X.fn x=true∨X.env.scope.names.lookup x=some .local:=by first | exact .inl rfl | exact .inr rfl | assumption):wpAny M A (storeName X.env x u) Q E s:=by
 obtain ⟨m,hn,hl⟩:=id I.loc
 have hcls:(X.env.scope.kind == .class || (X.env.scope.kind == .module && X.env.locals != X.env.globals))=false:=by rw [I.ok.kind]; rfl
 have hiσ:i < σ.length:=by rw [I.len]; exact (List.getElem?_eq_some_iff.mp hi).1
 have cne:=I.cne
 have tracked:∀ {a:Addr} {h':Heap},(∃ o,s.heap.get? a=some o∧H a=none)→Heap.SameBut a s.heap h'→HOk X.prog X.w H h':=fun {a h'} ha hs b ob e=>by
  obtain ⟨_,_,hfree⟩:=ha
  refine (I.hok b ob e).stay (fun c w' hc q=>(hs.2 c ?_).trans q) (fun _ q=>q) fun _ _ q=>q
  rintro rfl
  rcases hc with rfl | hc
  ·rw [hfree] at e; cases e
  ·rw [hfree] at hc; cases hc
 rcases hx with hk | hk
 ·refine wpAny_storeName_local hk hn (fun h' hn' hs=>?_) hcls
  obtain ⟨oL,_,_,hoL,_⟩:=id hn
  refine h _ ⟨I.ok,I.os,I.bare,⟨fun b o e n hb hx=>?_,fun b o e n hb hx=>?_,I.base.free,fun b o e hx=>?_,I.base.tups,I.base.frzs,I.base.tbls⟩,⟨_,hn',fun j y v' e1 e2 e3=>?_⟩,fun y c e=>?_,I.free,I.freeC,fun p hp=>?_,tracked ⟨oL,hoL,I.free⟩ hs,by simpa using I.len⟩ ⟨_,hs,.inl rfl⟩
  ·exact (hs.2 b (Nat.ne_of_lt (Nat.lt_of_lt_of_le (Heap.lt_size e) I.ok.above))).trans (I.base.keep b o e n hb hx)
  ·obtain ⟨sl,e1⟩:=I.base.slot b o e n hb hx
   exact ⟨sl,(hs.2 b (Nat.ne_of_lt (Nat.lt_of_lt_of_le (Heap.lt_size e) I.ok.above))).trans e1⟩
  ·obtain ⟨o',e1⟩:=I.base.there b o e hx
   exact ⟨o',(hs.2 b (Nat.ne_of_lt (Nat.lt_of_lt_of_le (Heap.lt_size e) I.ok.above))).trans e1⟩
  ·by_cases hj:j=i
   ·subst hj
    rw [hi] at e1; cases e1
    rw [List.getElem?_set_self hiσ] at e2
    cases e2
    exact ⟨u,r,.inl ⟨hk,by simp⟩⟩
   ·rw [List.getElem?_set_ne (Ne.symm hj)] at e2
    obtain ⟨u',r',q⟩:=hl j y v' e1 e2 e3
    refine ⟨u',r',?_⟩
    rcases q with ⟨k,e⟩ | ⟨k,c,e,z⟩
    ·refine .inl ⟨k,?_⟩
     have:y≠x:=fun e=>hj (p8 hN e1 (e ▸ hi))
     simp [this,e]
    ·exact .inr ⟨k,c,e,z.sameBut hs (cne y c e)⟩
  ·obtain ⟨w',z⟩:=I.cell y c e
   exact ⟨w',z.sameBut hs (cne y c e)⟩
  ·obtain ⟨e,n,ne,nf,d⟩:=I.pin p hp
   exact ⟨(hs.2 p.1 ne).trans e,n,ne,nf,d⟩
 ·have hfn:X.fn x=true:=by
   rcases hf with z | z
   ·exact z
   ·rw [z] at hk; cases hk
  obtain ⟨c,hc⟩:=I.ok.has x (.inl hk)
  obtain ⟨w',z⟩:=I.cell x c hc
  refine wpAny_storeName_cell I.ok.kind hk hc z (fun h' hc' hs=>?_)
  obtain ⟨oc,hoc,hocd⟩:=id z
  refine h { s with heap:=h' } ⟨I.ok,I.os,I.bare,⟨fun b o e n hb hx=>?_,fun b o e n hb hx=>?_,I.base.free,fun b o e hx=>?_,I.base.tups,I.base.frzs,I.base.tbls⟩,⟨m,hn.sameBut hs (Ne.symm (cne x c hc)),fun j y v' e1 e2 e3=>?_⟩,fun y c' e=>?_,I.free,I.freeC,fun p hp=>?_,tracked ⟨oc,hoc,I.freeC x c hc⟩ hs,by simpa using I.len⟩ ⟨c,hs,.inr hc⟩
  ·exact (hs.2 b (Nat.ne_of_lt (Nat.lt_of_lt_of_le (Heap.lt_size e) (I.ok.cab x c hfn hc)))).trans (I.base.keep b o e n hb hx)
  ·obtain ⟨sl,e1⟩:=I.base.slot b o e n hb hx
   exact ⟨sl,(hs.2 b (Nat.ne_of_lt (Nat.lt_of_lt_of_le (Heap.lt_size e) (I.ok.cab x c hfn hc)))).trans e1⟩
  ·obtain ⟨o',e1⟩:=I.base.there b o e hx
   exact ⟨o',(hs.2 b (Nat.ne_of_lt (Nat.lt_of_lt_of_le (Heap.lt_size e) (I.ok.cab x c hfn hc)))).trans e1⟩
  ·by_cases hj:j=i
   ·subst hj
    rw [hi] at e1; cases e1
    rw [List.getElem?_set_self hiσ] at e2
    cases e2
    exact ⟨u,r,.inr ⟨.inl hk,c,hc,hc'⟩⟩
   ·rw [List.getElem?_set_ne (Ne.symm hj)] at e2
    obtain ⟨u',r',q⟩:=hl j y v' e1 e2 e3
    refine ⟨u',r',?_⟩
    rcases q with q | ⟨k,c',e,z'⟩
    ·exact .inl q
    ·refine .inr ⟨k,c',e,z'.sameBut hs ?_⟩
     rintro rfl
     exact hj (p8 hN e1 (I.ok.inj _ _ _ e hc ▸ hi))
  ·by_cases hcc:c'=c
   ·subst hcc; exact ⟨_,hc'⟩
   ·obtain ⟨w2,z2⟩:=I.cell y c' e
    exact ⟨w2,z2.sameBut hs hcc⟩
  ·obtain ⟨e,n,ne,nf,d⟩:=I.pin p hp
   refine ⟨(hs.2 p.1 ?_).trans e,n,ne,nf,d⟩
   intro q
   rw [q,hoc] at e
   have q':oc=p.2:=Option.some.inj e
   exact d w' (by rw [← q']; exact hocd)
theorem mr {M:Model} {A:Around} {E:Value→Shared→Prop} {i:Nat} {x:Str} {v:V} {u:Value} {Q:Unit→Shared→Prop} (I:Inv X pins σ H s) (hN:X.N.Nodup) (hi:X.N[i]? = some x) (hx:Loc X.env.scope x) (r:RelV v u)
  (h:∀ s',Inv X pins (σ.set i (some v)) H s'→Q () s') (hf:X.fn x=true∨X.env.scope.names.lookup x=some .local:=by first | exact .inl rfl | exact .inr rfl | assumption):wpAny M A (storeName X.env x u) Q E s:=lX I hN hi hx r (fun s' I' _=>h s' I') hf
theorem Inv.call' {s':Shared} {ch:List Addr} (I:Inv X pins σ H s) (ho:s'.os=s.os) (u:Un (frs X.stack) ch H H' s.heap s'.heap) (hok:HOk X.prog X.w H' s'.heap) (hg:AllBare s'.gens)
  (hch:∀ b∈ch,(b∈X.ex∨X.s₀.heap.objs.size≤b)∧b≠X.env.locals∧(∀ x c,X.env.cells.lookup x=some c→c≠b)∧∀ p∈X.pn++pins,p.1≠b):Inv X pins σ H' s':=by
 obtain ⟨h',g',d',t',o'⟩:=s'
 have e:o'=s.os:=ho
 subst e
 exact I.call (g':=g') (t':=t') (d':=d') u hok hg hch
end
abbrev XK:=Value→Option Addr→Hp→Prop
abbrev St:=List (Option V)
abbrev VK:=V→Hp→Prop
abbrev TE:=St→Hp→VK→Prop
abbrev TT:=St→Hp→(Bool→Hp→Prop)→Prop
abbrev TA:=St→Hp→(List V→Hp→Prop)→Prop
structure Ends where
 nx:St→Hp→Prop
 rt:VK
 bk:St→Hp→Prop:=fun _ _=>False
 ct:St→Hp→Prop:=fun _ _=>False
abbrev TS:=Ends→St→Hp→Prop
def EP (X:Cx) (pins:List (Addr×Obj)) (σ:St) (Q:VK) (u:Value) (s':Shared):Prop:=∃ v H',Inv X pins σ H' s'∧RelV v u∧Q v H'
def TP (X:Cx) (pins:List (Addr×Obj)) (σ:St) (Q:Bool→Hp→Prop) (b:Bool) (s':Shared):Prop:=∃ H',Inv X pins σ H' s'∧Q b H'
def AP (X:Cx) (pins:List (Addr×Obj)) (σ:St) (Q:List V→Hp→Prop) (us:List Value) (s':Shared):Prop:=∃ vs H',Inv X pins σ H' s'∧Vals vs us∧Q vs H'
def SP (X:Cx) (pins:List (Addr×Obj)) (D:Ends) (f:Flow) (s':Shared):Prop:=
 match f with
 | .next=>∃ σ' H',Inv X pins σ' H' s'∧D.nx σ' H'
 | .brk=>∃ σ' H',Inv X pins σ' H' s'∧D.bk σ' H'
 | .cont=>∃ σ' H',Inv X pins σ' H' s'∧D.ct σ' H'
 | .ret u=>∃ v σ' H',Inv X pins σ' H' s'∧RelV v u∧D.rt v H'
def PE (X:Cx) (e:Expr) (t:TE):Prop:=∀ (pins:List (Addr×Obj)) (s:Shared) (σ:St) (H:Hp) (Q:VK),Inv X pins σ H s→t σ H Q→wpAny (model X.prog X.w) X.A (eval e X.env) (EP X pins σ Q) X.xe s
def PT (X:Cx) (e:Expr) (t:TT):Prop:=∀ (pins:List (Addr×Obj)) (s:Shared) (σ:St) (H:Hp) (Q:Bool→Hp→Prop),Inv X pins σ H s→t σ H Q→wpAny (model X.prog X.w) X.A (isTrue e X.env (eval e X.env)) (TP X pins σ Q) X.xe s
def PW (X:Cx) (e:Expr) (t:TT):Prop:=∀ (whole:Sem Value) (pins:List (Addr×Obj)) (s:Shared) (σ:St) (H:Hp) (Q:Bool→Hp→Prop),Inv X pins σ H s→t σ H Q→wpAny (model X.prog X.w) X.A (isTrue e X.env whole) (TP X pins σ Q) X.xe s
theorem PW.pt {X:Cx} {e:Expr} {t:TT} (h:PW X e t):PT X e t:=h _
def PA (X:Cx) (es:List Expr) (t:TA):Prop:=∀ (pos:Pos) (pins:List (Addr×Obj)) (s:Shared) (σ:St) (H:Hp) (Q:List V→Hp→Prop),Inv X pins σ H s→t σ H Q→wpAny (model X.prog X.w) X.A (spliced (backTo pos (starEach es X.env))) (AP X pins σ Q) X.xe s
def PS (X:Cx) (st:Stmt) (t:TS):Prop:=∀ (pins:List (Addr×Obj)) (s:Shared) (σ:St) (H:Hp) (D:Ends),Inv X pins σ H s→t D σ H→wpAny (model X.prog X.w) X.A (exec st X.env) (SP X pins D) X.xe s
def PSs (X:Cx) (st:List Stmt) (t:TS):Prop:=∀ (pins:List (Addr×Obj)) (s:Shared) (σ:St) (H:Hp) (D:Ends),Inv X pins σ H s→t D σ H→wpAny (model X.prog X.w) X.A (execs st X.env) (SP X pins D) X.xe s
theorem thn {α:Type} {t:Sem α} {Q Q':α→Shared→Prop} {M:Model} {A:Around} {E:Value→Shared→Prop} {s:Shared} (h:wpAny M A t Q E s) (hQ:∀ a s,Q a s→Q' a s):wpAny M A t Q' E s:=wpAny_mono h hQ fun _ _ x=>x
section
variable {X:Cx}
def t4 (i:Nat):TE:=fun σ H Q=>∃ v,σ[i]? = some (some v)∧Q v H
def tC (v:V):TE:=fun _ H Q=>Q v H
theorem A1 {i:Nat} {x:Str} {pos:Pos} (hN:X.N[i]? = some x) (hv:Vis X.env.scope x) (hd:(x == ("__debug__" : Str))=false:=by decide) (hcd:(x == ("__classdict__" : Str))=false:=by decide):PE X (.Name x pos) (t4 i):=by
 intro pins s σ H Q I h
 obtain ⟨v,e,h⟩:=h
 obtain ⟨m,hn,hl⟩:=I.loc
 obtain ⟨u,r,l⟩:=hl i x v hN e hv
 have fin:EP X pins σ Q u s:=⟨v,H,I,r,h⟩
 rcases l with ⟨hk,hm⟩ | ⟨hk,c,hc,hcell⟩
 ·exact wpAny_Name (wpAny_loadName_local I.ok.kind hk hn hm fin) hd
 ·rcases hk with hk | hk
  ·exact wpAny_Name (wpAny_loadName_cell I.ok.kind hk hc hcell fin) hd
  ·exact wpAny_Name (wpAny_loadName_free I.ok.kind hk hc hcell fin hcd) hd
theorem A5 {i j pos}:PE X (.Constant (.int i) j pos) (tC (.int i)):=fun _ _ _ H _ I h=>wpAny_Constant_int ⟨.int i,H,I.tok _,⟨_,rfl⟩,h⟩
theorem CD {b j pos}:PE X (.Constant (.bool b) j pos) (tC (.bl b)):=fun _ _ _ H _ I h=>Constant_bool ⟨.bl b,H,I,rfl,h⟩
theorem A4 {j pos}:PE X (.Constant .none j pos) (tC .non):=fun _ _ _ H _ I h=>Constant_none ⟨.non,H,I,rfl,h⟩
theorem sm {x j pos}:PE X (.Constant (.str x) j pos) (tC (.str x)):=fun _ _ _ H _ I h=>Calls.Constant_str ⟨.str x,H,I.tok _,⟨_,rfl⟩,h⟩
def Gl (X:Cx) (x:Str):Prop:=X.env.kindOf x=some .globalImplicit
theorem qS {E:Value→Shared→Prop} {pins:List (Addr×Obj)} {s:Shared} {σ:St} {H:Hp} {x:Str} {u:Value} {pos:Pos} {Q:Value→Shared→Prop} (I:Inv X pins σ H s) (hg:Gl X x) (hm:X.mg x=some u) (h:Q u s)
  (hd:(x == ("__debug__" : Str))=false:=by decide):wpAny (model X.prog X.w) X.A (eval (.Name x pos) X.env) Q E s:=Calls.Name_function_global I.ok.kind hg (Calls.loadGlobal_global (by rw [I.ok.glob]; exact I.mod.glob.keeps I.bk) hm h) hd
theorem h7 {E:Value→Shared→Prop} {pins:List (Addr×Obj)} {s:Shared} {σ:St} {H:Hp} {x:Str} {u:Value} {pos:Pos} {Q:Value→Shared→Prop} (I:Inv X pins σ H s) (hg:Gl X x) (hm:X.mg x=none) (hv:bootBuiltins x=some u) (h:Q u s)
  (hn:x≠"__name__":=by decide) (hd:(x == ("__debug__" : Str))=false:=by decide):wpAny (model X.prog X.w) X.A (eval (.Name x pos) X.env) Q E s:=by
 obtain ⟨mb,h1,h2⟩:=I.mod.blt
 exact Calls.Name_function_global I.ok.kind hg (Calls.loadGlobal_builtin (by rw [I.ok.glob]; exact I.mod.glob.keeps I.bk) hm (by rw [I.ok.blt]; exact h1.keeps I.bk) ((h2 x hn).trans hv) h) hd
theorem mM {x:Str} {v:V} {u:Value} {pos:Pos} (hg:Gl X x) (hm:X.mg x=some u) (r:RelV v u) (hd:(x == ("__debug__" : Str))=false:=by decide):PE X (.Name x pos) (tC v):=fun _ _ _ H _ I h=>qS I hg hm ⟨v,H,I,r,h⟩ hd
theorem ki {x:Str} {v:V} {u:Value} {pos:Pos} (hg:Gl X x) (hm:X.mg x=none) (hv:bootBuiltins x=some u) (r:RelV v u) (hn:x≠"__name__":=by decide) (hd:(x == ("__debug__" : Str))=false:=by decide):PE X (.Name x pos) (tC v):=fun _ _ _ H _ I h=>h7 I hg hm hv ⟨v,H,I,r,h⟩ hn hd
variable {a b:Expr} {ta tb:TE} {pos:Pos}
variable {tA tB':TT} {rest:List Expr}
def Dv (t u:TT):TT:=fun σ H Q=>t σ H fun c H1=>if c=true then u σ H1 Q else Q false H1
def tOr (t u:TT):TT:=fun σ H Q=>t σ H fun c H1=>if c=true then Q true H1 else u σ H1 Q
def Dr (t:TT):TT:=fun σ H Q=>t σ H fun c H1=>Q (!c) H1
theorem yZ (ha:PT X a tA):PW X (.BoolOp .And [a] pos) tA:=by
 intro wh pins s σ H Q I h
 refine isTrue_and (thn (ha pins s σ H Q I h) fun c s1 e=>?_)
 cases c with
 | true=>exact isTrue_and_nil e
 | false=>exact e
theorem AU (ha:PT X a tA):PW X (.BoolOp .Or [a] pos) tA:=by
 intro wh pins s σ H Q I h
 refine isTrue_or (thn (ha pins s σ H Q I h) fun c s1 e=>?_)
 cases c with
 | false=>exact isTrue_or_nil e
 | true=>exact e
theorem AV (ha:PT X a tA) (hb:PW X (.BoolOp .And (b::rest) pos) tB'):PW X (.BoolOp .And (a::b::rest) pos) (Dv tA tB'):=by
 intro wh pins s σ H Q I h
 refine isTrue_and (thn (ha pins s σ H _ I h) fun c s1 ⟨H1,I1,q1⟩=>?_)
 cases c with
 | true=>exact hb wh pins s1 σ H1 Q I1 q1
 | false=>exact ⟨H1,I1,q1⟩
theorem Cs (ha:PT X a tA) (hb:PW X (.BoolOp .Or (b::rest) pos) tB'):PW X (.BoolOp .Or (a::b::rest) pos) (tOr tA tB'):=by
 intro wh pins s σ H Q I h
 refine isTrue_or (thn (ha pins s σ H _ I h) fun c s1 ⟨H1,I1,q1⟩=>?_)
 cases c with
 | true=>exact ⟨H1,I1,q1⟩
 | false=>exact hb wh pins s1 σ H1 Q I1 q1
theorem AW (ha:PT X a tA):PT X (.UnaryOp .Not a pos) (Dr tA):=by
 intro pins s σ H Q I h
 exact isTrue_not (ha pins s σ H (fun c H1=>Q (!c) H1) I h)
def Cf (ta tb:TE):TE:=fun σ H Q=>ta σ H fun x H1=>∃ c,x=.bl c∧if c=true then tb σ H1 Q else Q (.bl false) H1
def Dq (ta tb:TE):TE:=fun σ H Q=>ta σ H fun x H1=>∃ c,x=.bl c∧if c=true then Q (.bl true) H1 else tb σ H1 Q
def Ca (ta:TE):TE:=fun σ H Q=>ta σ H fun x H1=>∃ c,x=.bl c∧Q (.bl (!c)) H1
theorem A2 {op} {t:TE} (h:PE X a t):PE X (.BoolOp op [a] pos) t:=fun pins s σ H Q I hw=>BoolOp_one (h pins s σ H Q I hw)
theorem A6 (ha:PE X a ta) (hb:PE X (.BoolOp .And (b::rest) pos) tb):PE X (.BoolOp .And (a::b::rest) pos) (Cf ta tb):=by
 intro pins s σ H Q I h
 refine BoolOp_and (thn (ha pins s σ H _ I h) fun v s1 ⟨x,H1,I1,r1,q1⟩=>?_)
 obtain ⟨c,rfl,q1⟩:=q1
 cases r1
 refine wpAny_truthy_bool ?_
 cases c with
 | true=>exact hb pins s1 σ H1 Q I1 q1
 | false=>exact ⟨.bl false,H1,I1,rfl,q1⟩
theorem Cy (ha:PE X a ta) (hb:PE X (.BoolOp .Or (b::rest) pos) tb):PE X (.BoolOp .Or (a::b::rest) pos) (Dq ta tb):=by
 intro pins s σ H Q I h
 refine BoolOp_or (thn (ha pins s σ H _ I h) fun v s1 ⟨x,H1,I1,r1,q1⟩=>?_)
 obtain ⟨c,rfl,q1⟩:=q1
 cases r1
 refine wpAny_truthy_bool ?_
 cases c with
 | false=>exact hb pins s1 σ H1 Q I1 q1
 | true=>exact ⟨.bl true,H1,I1,rfl,q1⟩
theorem A3 (ha:PE X a ta):PE X (.UnaryOp .Not a pos) (Ca ta):=by
 intro pins s σ H Q I h
 refine UnaryOp_ (thn (ha pins s σ H _ I h) fun v s1 ⟨x,H1,I1,r1,q1⟩=>?_)
 obtain ⟨c,rfl,q1⟩:=q1
 cases r1
 exact not_of (wpAny_truthy_bool ⟨.bl (!c),H1,I1,rfl,q1⟩)
def tIf (t:TT) (ta tb:TE):TE:=fun σ H Q=>t σ H fun c H1=>if c=true then ta σ H1 Q else tb σ H1 Q
theorem xR {c:Expr} (hc:PT X c tA) (ha:PE X a ta) (hb:PE X b tb):PE X (.IfExp c a b pos) (tIf tA ta tb):=by
 intro pins s σ H Q I h
 refine wpAny_IfExp (thn (hc pins s σ H _ I h) fun d s1 ⟨H1,I1,q1⟩=>?_)
 cases d with
 | true=>exact ha pins s1 σ H1 Q I1 q1
 | false=>exact hb pins s1 σ H1 Q I1 q1
end
def SqL (K:Frag) (H:Hp) (a:Addr) (xs:List V):Prop:=
 Rd H a (.lst xs) ∨
  ∃ (o:Obj) (its:Array Value) (n:Nat),K.lookup a=some o∧o.cls=.type "list"∧o.dict=none∧o.data=.seq its n∧its.size≤sizeLine∧Vals xs its.toList
def SqT (K:Frag) (H:Hp) (a:Addr) (xs:List V):Prop:=
 Rd H a (.tup xs) ∨
  ∃ (o:Obj) (its:Array Value) (n:Nat),K.lookup a=some o∧o.cls=.type "tuple"∧o.data=.seq its n∧its.size≤sizeLine∧Vals xs its.toList
def DY:Value→Option V
 | .none=>some .non
 | .bool b=>some (.bl b)
 | .int i _=>some (.int i)
 | .str x _=>some (.str x)
 | .bytes b _=>some (.byt b)
 | .float b _=>some (.flt b)
 | .ref a=>some (.ref a)
 | .type n=>some (.ty n)
 | _=>none
theorem RelV.abs {x:V} {u:Value} (r:RelV x u):DY u=some x:=by
 cases x with
 | non=>cases r; rfl
 | bl _=>cases r; rfl
 | int _=>obtain ⟨t,rfl⟩:=r; rfl
 | str _=>obtain ⟨t,rfl⟩:=r; rfl
 | byt _=>obtain ⟨t,rfl⟩:=r; rfl
 | flt _=>obtain ⟨t,rfl⟩:=r; rfl
 | ref _=>cases r; rfl
 | ty _=>cases r; rfl
theorem RelV.inj {x y:V} {u:Value} (r:RelV x u) (q:RelV y u):x=y:=Option.some.inj (r.abs.symm.trans q.abs)
theorem Vals.inj:∀ {xs ys:List V} {us:List Value},Vals xs us→Vals ys us→xs=ys
 | _,_,_,.nil,.nil=>rfl
 | _,_,_,.cons r t,.cons r' t'=>by rw [r.inj r',Vals.inj t t']
section
variable {X:Cx} {pins:List (Addr×Obj)} {σ:St} {H:Hp} {s:Shared} {a:Addr} {xs ys:List V}
theorem SqL.of {K:Frag} (h:H a=some (.lst xs)):SqL K H a xs:=.inl (.inl h)
theorem SqT.of {K:Frag} (h:H a=some (.tup xs)):SqT K H a xs:=.inl (.inl h)
theorem Inv.list (I:Inv X pins σ H s) (h:SqL X.K H a xs):∃ its:List Value,Vals xs its∧PlainL s.heap a its.toArray∧xs.length≤sizeLine:=by
 rcases h with h | ⟨o,its,n,hk,hc,hd,hs,hz,r⟩
 ·obtain ⟨z,its,n,r,e⟩:=h.ok I.hok
  exact ⟨its,r,⟨_,n,e,rfl,rfl,rfl⟩,z⟩
 ·refine ⟨its.toList,r,⟨o,n,I.kIn a o hk,hc,hd,by simpa using hs⟩,?_⟩
  have e:=r.length
  simp only [Array.length_toList] at e
  omega
theorem Inv.tuple (I:Inv X pins σ H s) (h:SqT X.K H a xs):∃ its:List Value,Vals xs its∧IsTup s.heap a its.toArray∧xs.length≤sizeLine:=by
 rcases h with h | ⟨o,its,n,hk,hc,hs,hz,r⟩
 ·obtain ⟨z,its,r,p⟩:=h.ok I.hok
  exact ⟨its,r,p,z⟩
 ·refine ⟨its.toList,r,⟨o,I.kIn a o hk,hc,n,by simpa using hs⟩,?_⟩
  have e:=r.length
  simp only [Array.length_toList] at e
  omega
theorem Inv.list_inj (I:Inv X pins σ H s) (h:SqL X.K H a xs) (h':SqL X.K H a ys):xs=ys:=by
 obtain ⟨its,r,⟨o,n,e,_,_,d⟩,_⟩:=I.list h
 obtain ⟨its',r',⟨o',n',e',_,_,d'⟩,_⟩:=I.list h'
 rw [e] at e'; cases e'
 rw [d] at d'
 injection d' with d1 _
 have:its=its':=by simpa using congrArg Array.toList d1
 subst this
 exact r.inj r'
theorem Inv.tuple_inj (I:Inv X pins σ H s) (h:SqT X.K H a xs) (h':SqT X.K H a ys):xs=ys:=by
 obtain ⟨its,r,⟨o,e,_,n,d⟩,_⟩:=I.tuple h
 obtain ⟨its',r',⟨o',e',_,n',d'⟩,_⟩:=I.tuple h'
 rw [e] at e'; cases e'
 rw [d] at d'
 injection d' with d1 _
 have:its=its':=by simpa using congrArg Array.toList d1
 subst this
 exact r.inj r'
end
abbrev Cx.wish (X:Cx) (E:Value→Shared→Prop):Cx:={ X with xe:=E }
abbrev Cx.nox (X:Cx):Cx:=X.wish fun _ _=>False
theorem Cx.Ok.wish {X:Cx} (ok:X.Ok) (E:Value→Shared→Prop):(X.wish E).Ok:=⟨ok.mod,ok.kind,ok.glob,ok.blt,ok.above,ok.inj,ok.has,ok.cab,ok.hd,ok.frames,ok.stk,ok.exf,ok.bs,ok.bsz,ok.noex,ok.exfs,ok.funs,ok.frf⟩
theorem Cx.Ok.unwish {X:Cx} {E:Value→Shared→Prop} (ok:(X.wish E).Ok):X.Ok:=⟨ok.mod,ok.kind,ok.glob,ok.blt,ok.above,ok.inj,ok.has,ok.cab,ok.hd,ok.frames,ok.stk,ok.exf,ok.bs,ok.bsz,ok.noex,ok.exfs,ok.funs,ok.frf⟩
section
variable {X:Cx} {pins:List (Addr×Obj)} {σ:St} {H:Hp} {s:Shared} {E:Value→Shared→Prop}
theorem Inv.wish (I:Inv X pins σ H s) (E:Value→Shared→Prop):Inv (X.wish E) pins σ H s:=⟨I.ok.wish E,I.os,I.bare,I.base,I.loc,I.cell,I.free,I.freeC,I.pin,I.hok,I.len⟩
theorem Inv.unwish (I:Inv (X.wish E) pins σ H s):Inv X pins σ H s:=⟨I.ok.unwish,I.os,I.bare,I.base,I.loc,I.cell,I.free,I.freeC,I.pin,I.hok,I.len⟩
theorem SP.unwish {D:Ends} {f:Flow} {s':Shared} (h:SP (X.wish E) pins D f s'):SP X pins D f s':=by
 cases f with
 | next=>obtain ⟨σ',H',I,q⟩:=h; exact ⟨σ',H',I.unwish,q⟩
 | brk=>obtain ⟨σ',H',I,q⟩:=h; exact ⟨σ',H',I.unwish,q⟩
 | cont=>obtain ⟨σ',H',I,q⟩:=h; exact ⟨σ',H',I.unwish,q⟩
 | ret u=>obtain ⟨v,σ',H',I,r,q⟩:=h; exact ⟨v,σ',H',I.unwish,r,q⟩
theorem PSs.nox {st:List Stmt} {t:TS} (h:PSs X.nox st t):PSs X st t:=fun pins s σ H D I hw=>
 wpAny_mono (h pins s σ H D (I.wish _) hw) (fun _ _ q=>q.unwish) fun _ _ z=>False.elim z
end
section
variable {X:Cx} {st:Stmt} {rest:List Stmt} {t u:TS} {e:Expr} {te:TE} {pos:Pos}
def Cb:TS:=fun D σ H=>D.nx σ H
def Do (t u:TS):TS:=fun D σ H=>t { D with nx:=u D } σ H
theorem ze:PSs X [] Cb:=fun _ _ σ H _ I h=>wpAny_execs_nil ⟨σ,H,I,h⟩
theorem xH (h1:PS X st t) (h2:PSs X rest u):PSs X (st::rest) (Do t u):=by
 intro pins s σ H D I h
 refine wpAny_execs_cons (thn (h1 pins s σ H { D with nx:=u D } I h) fun f s1 q=>?_)
 cases f with
 | next=>
  obtain ⟨σ',H',I',q⟩:=q
  exact h2 pins s1 σ' H' D I' q
 | ret v=>exact q
 | brk=>exact q
 | cont=>exact q
theorem y9 (h1:PS X st t):PSs X [st] t:=by
 intro pins s σ H D I h
 refine wpAny_execs_cons (thn (h1 pins s σ H D I h) fun f s1 q=>?_)
 cases f with
 | next=>exact wpAny_execs_nil q
 | ret v=>exact q
 | brk=>exact q
 | cont=>exact q
theorem Inv.quiet {pins:List (Addr×Obj)} {σ:St} {H:Hp} {s:Shared} (I:Inv X pins σ H s):interactive X.env=false:=by simp [interactive,I.ok.kind]
def Cd (te:TE):TS:=fun D σ H=>te σ H fun _ H1=>D.nx σ H1
theorem mJ (he:PE X e te) (hs:swapsWith e none pos.line X.env=pure false:=by rfl):PS X (.Expr e pos) (Cd te):=by
 intro pins s σ H D I h
 exact wpAny_Expr_any (thn (he pins s σ H _ I h) fun v s1 ⟨x,H1,I1,r1,q1⟩=>⟨σ,H1,I1,q1⟩) I.quiet hs
def Dp (te:TE):TS:=fun D σ H=>te σ H D.rt
theorem si (he:PE X e te):PS X (.Return (some e) pos) (Dp te):=by
 intro pins s σ H D I h
 exact wpAny_Return_some (thn (he pins s σ H _ I h) fun v s1 ⟨x,H1,I1,r1,q1⟩=>⟨x,σ,H1,I1,r1,q1⟩)
def Dt (c:TT) (t u:TS):TS:=fun D σ H=>c σ H fun b H1=>if b=true then t D σ H1 else u D σ H1
theorem Cu {c:Expr} {a b:List Stmt} {tc:TT} (hc:PT X c tc) (ha:PSs X a t) (hb:PSs X b u):PS X (.If c a b pos) (Dt tc t u):=by
 intro pins s σ H D I h
 refine wpAny_If (thn (hc pins s σ H _ I h) fun d s1 ⟨H1,I1,q1⟩=>?_)
 cases d with
 | true=>exact ha pins s1 σ H1 D I1 q1
 | false=>exact hb pins s1 σ H1 D I1 q1
end
abbrev TG:=V→St→Hp→(St→Hp→Prop)→Prop
abbrev TGs:=List V→St→Hp→(St→Hp→Prop)→Prop
def PG (X:Cx) (target:Expr) (t:TG):Prop:=
 ∀ (pins:List (Addr×Obj)) (s:Shared) (σ:St) (H:Hp) (v:V) (u:Value) (Q:St→Hp→Prop),Inv X pins σ H s→RelV v u→t v σ H Q →
  wpAny (model X.prog X.w) X.A (assign target X.env u) (fun _ s'=>∃ σ' H',Inv X pins σ' H' s'∧Q σ' H') X.xe s
def PGs (X:Cx) (ts:List Expr) (t:TGs):Prop:=
 ∀ (pins:List (Addr×Obj)) (s:Shared) (σ:St) (H:Hp) (vs:List V) (us:List Value) (Q:St→Hp→Prop),Inv X pins σ H s→Vals vs us→t vs σ H Q →
  wpAny (model X.prog X.w) X.A (assignInOrder ((assignEach ts X.env).map (·.2)) us) (fun _ s'=>∃ σ' H',Inv X pins σ' H' s'∧Q σ' H') X.xe s
section
variable {X:Cx} {pos:Pos}
def li (i:Nat):TG:=fun v σ H Q=>Q (σ.set i (some v)) H
theorem hJ {i:Nat} {x:Str} (hN:X.N.Nodup) (hi:X.N[i]? = some x) (hx:Loc X.env.scope x) (hf:X.fn x=true∨X.env.scope.names.lookup x=some .local:=by first | exact .inl rfl | exact .inr rfl | assumption):PG X (.Name x pos) (li i):=by
 intro pins s σ H v u Q I r h
 exact wpAny_assign_Name (mr I hN hi hx r (fun s' I'=>⟨_,H,I',h⟩) hf)
def um:TGs:=fun vs σ H Q=>vs=[]∧Q σ H
def nV (t:TG) (u:TGs):TGs:=fun vs σ H Q=>∃ v r,vs=v::r∧t v σ H fun σ' H'=>u r σ' H' Q
theorem mL:PGs X [] um:=by
 intro pins s σ H vs us Q I r h
 obtain ⟨e,h⟩:=h
 subst e
 cases r
 exact assignInOrder_nil ⟨σ,H,I,h⟩
theorem iK {e:Expr} {es:List Expr} {t:TG} {u:TGs} (h1:PG X e t) (h2:PGs X es u)
  (hs:(assignEach (e::es) X.env).map (·.2)=assign e X.env::(assignEach es X.env).map (·.2):=by rfl):PGs X (e::es) (nV t u):=by
 intro pins s σ H vs us Q I r h
 obtain ⟨v,vr,e1,h⟩:=h
 subst e1
 cases r with
 | cons r rr=>
  rw [hs]
  refine assignInOrder_cons (thn (h1 pins s σ H _ _ _ I r h) fun _ s1 ⟨σ1,H1,I1,q1⟩=>?_)
  exact h2 pins s1 σ1 H1 _ _ Q I1 rr q1
def ul (K:Frag) (n:Nat) (t:TGs):TG:=fun v σ H Q=>∃ a xs,v=.ref a∧SqT K H a xs∧xs.length=n∧t xs σ H Q
theorem nk {es:List Expr} {k:Nat} {t:TGs} {n:Nat} (hc:X.calm=true) (h:PGs X es t)
  (hn:(assignEach es X.env).length=n:=by rfl) (hst:(assignEach es X.env).findIdx? (·.1)=none:=by rfl):PG X (.Tuple es k pos) (ul X.K n t):=by
 intro pins s σ H v u Q I r hw
 obtain ⟨a,xs,e1,hq,hl,hw⟩:=hw
 subst e1
 cases r
 obtain ⟨its,rv,ht,hz⟩:=I.tuple hq
 refine assign_Tuple_tuple (I.ok.hd hc) ht (by simp [hn,← hl,rv.length]) hst fun h' hx=>?_
 have I1:Inv X pins σ H { s with heap:=h' }:=I.kept (t':=s.toks) fun b o e=>hx b o (Nat.ne_of_lt (Heap.lt_size e)) e
 exact h pins _ σ H xs _ Q I1 (by simpa using rv) hw
def t5 (te:TE) (g:TG):TS:=fun D σ H=>te σ H fun x H1=>g x σ H1 D.nx
theorem AY {tg e:Expr} {te:TE} {g:TG} (he:PE X e te) (hg:PG X tg g) (hs:swapsWithSole [tg] e pos.line X.env=pure false:=by rfl) (hw:swappedStores [tg] e X.env=pure none:=by rfl)
  (h1:(assignEach [tg] X.env).map (·.2)=[assign tg X.env]:=by rfl):PS X (.Assign [tg] e pos) (t5 te g):=by
 intro pins s σ H D I h
 refine wpAny_Assign_stores (thn (he pins s σ H _ I h) fun v s1 ⟨x,H1,I1,r1,q1⟩=>?_) hs hw
 rw [h1]
 exact thn (hg pins s1 σ H1 x v _ I1 r1 q1) fun _ s2 q=>q
theorem kD {i:Nat} {x:Str} {e:Expr} {te:TE} {pos':Pos} (hN:X.N.Nodup) (hi:X.N[i]? = some x) (hx:Loc X.env.scope x) (he:PE X e te) (hs:swapsWith e (some (.Name x pos')) pos.line X.env=pure false:=by rfl) (hf:X.fn x=true∨X.env.scope.names.lookup x=some .local:=by first | exact .inl rfl | exact .inr rfl | assumption) :
  PS X (.Assign [.Name x pos'] e pos) (t5 te (li i)):=by
 intro pins s σ H D I h
 refine wpAny_Assign_Name (thn (he pins s σ H _ I h) fun v s1 ⟨y,H1,I1,r1,q1⟩=>?_) hs
 exact mr I1 hN hi hx r1 (fun s2 I2=>⟨_,H1,I2,q1⟩) hf
def AB (c:TT) (tb:TS):TS:=fun D σ H=>∃ W:Nat→St→Hp→Prop,(∃ m,W m σ H)∧∀ m σ H,W m σ H →
 c σ H fun b H1=>if b=true then ∃ N:St→Hp→Prop,(∀ σ' H',N σ' H'→∃ m',m' < m∧W m' σ' H')∧tb { D with nx:=N,ct:=N,bk:=D.nx } σ H1 else D.nx σ H1
theorem xI {c:Expr} {body:List Stmt} {tc:TT} {tb:TS} (hp:PassesOwn (model X.prog X.w) X.A X.env X.xe) (hc:PT X c tc) (hb:PSs X body tb):PS X (.While c body [] pos) (AB tc tb):=by
 intro pins s σ H D I h
 obtain ⟨W,⟨m0,w0⟩,turn⟩:=h
 refine wpAny_While (codeAny_whileLoop (fun n s'=>∃ σ' H',Inv X pins σ' H' s'∧W n σ' H') ?_ m0 ⟨σ,H,I,w0⟩)
 rintro n s1 ⟨σ1,H1,I1,w1⟩
 refine wpAny_passesOwn hp (thn (hc pins s1 σ1 H1 _ I1 (turn n σ1 H1 w1)) fun b s2 ⟨H2,I2,q2⟩=>?_)
 cases b with
 | true=>
  obtain ⟨N,hN,q2⟩:=q2
  rw [if_pos rfl]
  refine wpAny_passesOwn hp (thn (hb pins s2 σ1 H2 _ I2 q2) fun f s3 q3=>?_)
  cases f with
  | next=>
   obtain ⟨σ3,H3,I3,n3⟩:=q3
   obtain ⟨m',hm,w3⟩:=hN σ3 H3 n3
   exact ⟨m',hm,σ3,H3,I3,w3⟩
  | cont=>
   obtain ⟨σ3,H3,I3,n3⟩:=q3
   obtain ⟨m',hm,w3⟩:=hN σ3 H3 n3
   exact ⟨m',hm,σ3,H3,I3,w3⟩
  | brk=>exact q3
  | ret v=>exact q3
 | false=>
  rw [if_neg Bool.false_ne_true]
  exact wpAny_execs_nil ⟨σ1,H2,I2,q2⟩
end
structure It where
 go:Nat→Hp→Prop
 yld:Nat→Hp→V→Hp→Prop
 stop:Nat→Hp→Prop
def cM (X:Cx) (pins:List (Addr×Obj)) (H:Hp) (b:Addr):Prop:=H b=none∧b≠X.env.locals∧b∉X.fs∧(b∈X.ex∨X.s₀.heap.objs.size≤b)∧(∀ x c,X.env.cells.lookup x=some c→c≠b)∧∀ p∈X.pn++pins,p.1≠b
theorem Inv.fpOk {X:Cx} {pins:List (Addr×Obj)} {σ:St} {H H':Hp} {s:Shared} {b:Addr} (I:Inv X pins σ H s) (hb:s.heap.objs.size≤b) (hn:H' b=none):cM X pins H' b:=by
 refine ⟨hn,Nat.ne_of_gt (Nat.lt_of_lt_of_le I.lt hb),I.nofs hb,.inr (Nat.le_trans I.sz hb),fun x c e z=>?_,fun p hp z=>?_⟩
 ·obtain ⟨v,q⟩:=I.cell x c e
  exact absurd (Nat.lt_of_lt_of_le q.lt (by rw [z]; exact hb)) (Nat.lt_irrefl _)
 ·exact absurd (Nat.lt_of_lt_of_le (Heap.lt_size (I.pin p hp).1) (by rw [z]; exact hb)) (Nat.lt_irrefl _)
structure Turn (P:Program) (w:World) (K:Frag) (tg:Expr) (J:It) (fp:List Addr) (it:Addr) (tn:Nat→Heap→Prop):Prop where
 mem:it∈fp
 obj:∀ i h,tn i h→∀ b∈fp,∃ o,h.get? b=some o∧∀ v,o.data≠.cell v
 keep:∀ i h h',tn i h→(∀ b∈fp,∀ o,h.get? b=some o→h'.get? b=some o)→tn i h'
 item:∀ (X:Cx),X.prog=P→X.w=w→X.K=K→X.calm=true→∀ (i:Nat) (pins:List (Addr×Obj)) (s:Shared) (σ:St) (H:Hp) (E:Value→Shared→Prop),Inv X pins σ H s→(∀ b∈fp,cM X pins H b)→tn i s.heap→J.go i H →
  wpAny (model P w) X.A (pyNext (.ref it)) (fun r s1=>∃ u,r=some u ∧
   wpAny (model P w) X.A (letOwnedTupleGo tg (.ref it) u) (fun _ s2=>∃ x H',Inv X pins σ H' s2∧RelV x u∧J.yld i H x H'∧tn (i + 1) s2.heap∧∀ b∈fp,H' b=none) E s1) E s
 done:∀ (X:Cx),X.prog=P→X.w=w→X.K=K→X.calm=true→∀ (i:Nat) (pins:List (Addr×Obj)) (s:Shared) (σ:St) (H:Hp) (E:Value→Shared→Prop),Inv X pins σ H s→(∀ b∈fp,cM X pins H b)→tn i s.heap→J.stop i H →
  wpAny (model P w) X.A (pyNext (.ref it)) (fun r s1=>r=none∧Inv X pins σ H s1) E s
 self:∀ (A:Around) (i:Nat) (s:Shared) (Q:Value→Shared→Prop) (E:Value→Shared→Prop),tn i s.heap→Q (.ref it) s→wpAny (model P w) A (pyIter (.ref it)) Q E s
abbrev TI:=St→Hp→(It→Hp→Prop)→Prop
def PIE (X:Cx) (pins:List (Addr×Obj)) (σ:St) (tg:Expr) (R:It→Hp→Prop) (itv:Value) (s2:Shared):Prop:=∃ (it:Addr) (fp:List Addr) (tn:Nat→Heap→Prop) (J:It) (H':Hp),itv=.ref it∧Inv X pins σ H' s2∧Turn X.prog X.w X.K tg J fp it tn∧tn 0 s2.heap∧(∀ b∈fp,cM X pins H' b)∧R J H'
def PI (X:Cx) (tg iter:Expr) (wi:TI):Prop:=
 ∀ (pins:List (Addr×Obj)) (s:Shared) (σ:St) (H:Hp) (R:It→Hp→Prop),Inv X pins σ H s→wi σ H R →
  wpAny (model X.prog X.w) X.A (eval iter X.env) (fun v s1=>wpAny (model X.prog X.w) X.A (pyIter v) (PIE X pins σ tg R) X.xe s1) X.xe s
theorem jL {M:Model} {A:Around} {E:Value→Shared→Prop} {s:Shared} {tg:Expr} {it:Addr} {u:Value} {o:Obj} {n:String} {vs:Array Value} {Q:Unit→Shared→Prop} (ho:s.heap.get? it=some o) (hc:o.cls=.type n) (hd:o.data=.fields vs)
  (hn:["enumerate","zip","dict_itemiterator","dict_reverseitemiterator","odict_iterator","itertools.zip_longest","itertools.pairwise"].contains n=false) (hQ:Q () s):wpAny M A (letOwnedTupleGo tg (.ref it) u) Q E s:=by
 unfold letOwnedTupleGo
 cases tg <;> first
  | exact wpAny_pure hQ
  | (cases u <;> first
    | exact wpAny_pure hQ
    | (refine wpAny_bind (wpAny_load ho ?_)
       rw [hc,hd]
       show wpAny M A (if (["enumerate","zip","dict_itemiterator","dict_reverseitemiterator","odict_iterator","itertools.zip_longest","itertools.pairwise"].contains n && vs[0]? == some (rawInt _))=true then _ else _) Q E s
       rw [if_neg (by intro h; rw [hn,Bool.false_and] at h; cases h)]
       exact wpAny_pure hQ))
def Itl (K:Frag) (a:Addr):It:=⟨fun i H=>∃ xs x,SqL K H a xs∧xs[i]? = some x,fun i H x H'=>H'=H∧∀ xs,SqL K H a xs→xs[i]? = some x,fun i H=>∃ xs,SqL K H a xs∧xs.length≤i⟩
def Itt (K:Frag) (a:Addr):It:=⟨fun i H=>∃ xs x,SqT K H a xs∧xs[i]? = some x,fun i H x H'=>H'=H∧∀ xs,SqT K H a xs→xs[i]? = some x,fun i H=>∃ xs,SqT K H a xs∧xs.length≤i⟩
def Itr (lo:Int) (n:Nat):It:=⟨fun i _=>i < n,fun i H x H'=>H'=H∧x=.int (lo + i),fun i _=>n≤i⟩
theorem wq {P:Program} {w:World} {K:Frag} {tg:Expr} (a it:Addr):Turn P w K tg (Itl K a) [it] it (fun i h=>h.IsListIter it a i) where
 mem:=by simp
 obj:=fun i h st b hb=>by
  have e:b=it:=by simpa using hb
  subst e
  obtain ⟨o,e,c,d⟩:=st
  exact ⟨o,e,fun v z=>by rw [d] at z; cases z⟩
 keep:=fun i h h' st k=>st.at fun o e=>k it (by simp) o e
 item:=by
  intro X hP hw hK hc i pins s σ H E I hf st hg
  subst hP hw hK
  obtain ⟨xs,x,hq,hx⟩:=hg
  obtain ⟨its,rv,p,hz⟩:=I.list hq
  obtain ⟨u,hu,ru⟩:=rv.get hx
  obtain ⟨f0,f1,f2,f3,f4,f5⟩:=hf it (by simp)
  refine wpAny_pyNext_list_item st p.isList (x:=u) (by simpa using hu) fun h' st' sb=>?_
  have I1:Inv X pins σ H { s with heap:=h' }:=I.turned (t':=s.toks) (fun b o hb e=>(sb.2 b hb).trans e) f0 f1 f3 f4 f5
  obtain ⟨o,e,c,d⟩:=id st'
  exact ⟨u,rfl,jL (s:={ s with heap:=h' }) e c d (by decide) ⟨x,H,I1,ru,⟨rfl,fun ys hy=>by rw [I.list_inj hy hq]; exact hx⟩,st',fun b hb=>(hf b hb).1⟩⟩
 done:=by
  intro X hP hw hK hc i pins s σ H E I hf st hg
  subst hP hw hK
  obtain ⟨xs,hq,hx⟩:=hg
  obtain ⟨its,rv,p,hz⟩:=I.list hq
  obtain ⟨f0,f1,f2,f3,f4,f5⟩:=hf it (by simp)
  have hl:=rv.length
  exact wpAny_pyNext_list_end (I.ok.hd hc) st p.isList (by simp; omega) fun h' eb=>⟨rfl,I.turned (t':=s.toks) (fun b o hb e=>eb b o hb e) f0 f1 f3 f4 f5⟩
 self:=fun _ _ _ _ _ st h=>wpAny_pyIter_listiter st h
theorem vX {P:Program} {w:World} {K:Frag} {tg:Expr} (a it:Addr):Turn P w K tg (Itt K a) [it] it (fun i h=>h.IsTupleIter it a i) where
 mem:=by simp
 obj:=fun i h st b hb=>by
  have e:b=it:=by simpa using hb
  subst e
  obtain ⟨o,e,c,d⟩:=st
  exact ⟨o,e,fun v z=>by rw [d] at z; cases z⟩
 keep:=fun i h h' st k=>st.at fun o e=>k it (by simp) o e
 item:=by
  intro X hP hw hK hc i pins s σ H E I hf st hg
  subst hP hw hK
  obtain ⟨xs,x,hq,hx⟩:=hg
  obtain ⟨its,rv,p,hz⟩:=I.tuple hq
  obtain ⟨u,hu,ru⟩:=rv.get hx
  obtain ⟨f0,f1,f2,f3,f4,f5⟩:=hf it (by simp)
  refine wpAny_pyNext_tuple_item st (show s.heap.IsTuple a its.toArray from p) (x:=u) (by simpa using hu) fun h' st' sb=>?_
  have I1:Inv X pins σ H { s with heap:=h' }:=I.turned (t':=s.toks) (fun b o hb e=>(sb.2 b hb).trans e) f0 f1 f3 f4 f5
  obtain ⟨o,e,c,d⟩:=id st'
  exact ⟨u,rfl,jL (s:={ s with heap:=h' }) e c d (by decide) ⟨x,H,I1,ru,⟨rfl,fun ys hy=>by rw [I.tuple_inj hy hq]; exact hx⟩,st',fun b hb=>(hf b hb).1⟩⟩
 done:=by
  intro X hP hw hK hc i pins s σ H E I hf st hg
  subst hP hw hK
  obtain ⟨xs,hq,hx⟩:=hg
  obtain ⟨its,rv,p,hz⟩:=I.tuple hq
  obtain ⟨f0,f1,f2,f3,f4,f5⟩:=hf it (by simp)
  have hl:=rv.length
  exact wpAny_pyNext_tuple_end (I.ok.hd hc) st (show s.heap.IsTuple a its.toArray from p) (by simp; omega) fun h' eb=>⟨rfl,I.turned (t':=s.toks) (fun b o hb e=>eb b o hb e) f0 f1 f3 f4 f5⟩
 self:=fun _ _ _ _ _ st h=>wpAny_pyIter_tupleiter st h
theorem vY {P:Program} {w:World} {K:Frag} {tg:Expr} (it:Addr) (lo:Int) (n:Nat):Turn P w K tg (Itr lo n) [it] it (fun i h=>IsRangeIter h it (lo + (i:Nat) * 1) ((n:Int) - (i:Nat)) 1) where
 mem:=by simp
 obj:=fun i h st b hb=>by
  have e:b=it:=by simpa using hb
  subst e
  exact ⟨_,st,fun v z=>by
   have z':Data.fields _=Data.cell v:=z
   cases z'⟩
 keep:=fun i h h' st k=>k it (by simp) _ st
 item:=by
  intro X hP hw hK hc i pins s σ H E I hf st hg
  subst hP hw hK
  obtain ⟨f0,f1,f2,f3,f4,f5⟩:=hf it (by simp)
  have W:=Walks.range (prog:=X.prog) (w:=X.w) (I.ok.hd hc) it lo 1 n
  refine W.item i s _ _ hg st fun v h' tk hv st' kk=>?_
  obtain ⟨t,rfl⟩:=hv
  have I1:Inv X pins σ H { s with heap:=h',toks:=tk }:=I.turned (fun b o hb e=>kk b o (by simpa using hb) e) f0 f1 f3 f4 f5
  refine ⟨_,rfl,jL (s:={ s with heap:=h',toks:=tk }) (n:="range_iterator") st' rfl rfl (by decide) ⟨.int (lo + i),H,I1,⟨t,?_⟩,⟨rfl,rfl⟩,st',fun b hb=>(hf b hb).1⟩⟩
  rw [Int.mul_one]
 done:=by
  intro X hP hw hK hc i pins s σ H E I hf st hg
  subst hP hw hK
  obtain ⟨f0,f1,f2,f3,f4,f5⟩:=hf it (by simp)
  exact wpAny_pyNext_range_end (I.ok.hd hc) st (by have:n≤i:=hg; omega) fun h' eb=>⟨rfl,I.turned (t':=s.toks) (fun b o hb e=>eb b o hb e) f0 f1 f3 f4 f5⟩
 self:=fun _ _ _ _ _ st h=>wpAny_pyIter_rangeiter st h
section
variable {X:Cx} {tg:Expr}
theorem pZ {pins:List (Addr×Obj)} {σ:St} {H:Hp} {s:Shared} {R:It→Hp→Prop} {E:Value→Shared→Prop} {lo hi:Int} {t u v:Tok} {tk:Nat} (I:Inv X pins σ H s) (h1 : -(2 ^ 62)≤lo) (h2:lo < 2 ^ 62) (h3 : -(2 ^ 62)≤hi) (h4:hi < 2 ^ 62)
  (q:R (Itr lo (hi - lo).toNat) H):wpAny (model X.prog X.w) X.A (pyIter (.ref s.heap.objs.size)) (PIE X pins σ tg R) E { s with heap:=s.heap.push { cls:=.type "range",data:=.fields #[.int lo t,.int hi u,.int 1 v] },toks:=tk }:=by
 refine wpAny_pyIter_range (IsRange.new ..) (small_one h1 h2 h3 h4) ?_
 have I1:Inv X pins σ H { s with heap:=s.heap.push { cls:=.type "range",data:=.fields #[.int lo t,.int hi u,.int 1 v] },toks:=tk }:=I.kept fun b o e=>Heap.get?_push_of_some _ e
 refine ⟨(s.heap.push { cls:=.type "range",data:=.fields #[.int lo t,.int hi u,.int 1 v] }).objs.size,[(s.heap.push { cls:=.type "range",data:=.fields #[.int lo t,.int hi u,.int 1 v] }).objs.size],_,_,H,rfl,
  I1.kept (t':=tk) fun b o e=>Heap.get?_push_of_some _ e,vY _ lo (hi - lo).toNat,?_,fun b hb=>?_,q⟩
 ·have e1:lo + ((0:Nat):Int) * 1=lo:=by simp
  have e2:(((hi - lo).toNat:Nat):Int) - ((0:Nat):Int)=Builtin.Range.rangeSize lo hi 1:=by rw [rangeSize_one]; split <;> omega
  show IsRangeIter _ _ (lo + ((0:Nat):Int) * 1) ((((hi - lo).toNat:Nat):Int) - ((0:Nat):Int)) 1
  rw [e1,e2]
  exact Heap.get?_push_size _ rfl
 ·have e:b=(s.heap.push { cls:=.type "range",data:=.fields #[.int lo t,.int hi u,.int 1 v] }).objs.size:=by simpa using hb
  subst e
  exact I1.fpOk (Nat.le_refl _) (I1.hok.fresh (Nat.le_refl _))
def CZ (ta:TA):TI:=fun σ H R=>ta σ H fun vs H1=>∃ j:Int,vs=[.int j]∧-(2 ^ 62)≤j∧j < 2 ^ 62∧R (Itr 0 j.toNat) H1
def CY (ta:TA):TI:=fun σ H R=>ta σ H fun vs H1=>∃ i j:Int,vs=[.int i,.int j]∧(-(2 ^ 62)≤i∧i < 2 ^ 62∧-(2 ^ 62)≤j∧j < 2 ^ 62)∧R (Itr i (j - i).toNat) H1
theorem wJ {a:Expr} {ta:TA} {p pos:Pos} (hg:Gl X "range") (hm:X.mg "range" = none) (ha:PA X [a] ta) (hs:starEach [a] X.env=[(false,eval a X.env)]:=by rfl):PI X tg (.Call (.Name "range" p) [a] [] pos) (CZ ta):=by
 intro pins s σ H R I h
 refine Call_ (h7 I hg hm boot_range (PyProof.Rows.callWith_type1 (thn (ha pos pins s σ H _ I h) fun us s1 ⟨vs,H1,I1,r1,q1⟩=>?_) hs rfl))
 obtain ⟨j,e,q1,q2,q⟩:=q1
 subst e
 cases r1 with
 | cons r rr=>
  cases rr
  obtain ⟨t,rfl⟩:=r
  exact call_range_1 (pZ I1 (by omega) (by omega) q1 q2 (by simpa using q))
theorem wI {a b:Expr} {ta:TA} {p pos:Pos} (hg:Gl X "range") (hm:X.mg "range" = none) (ha:PA X [a,b] ta) (hs:starEach [a,b] X.env=[(false,eval a X.env),(false,eval b X.env)]:=by rfl) (hs2:starEach [b] X.env=[(false,eval b X.env)]:=by rfl) :
  PI X tg (.Call (.Name "range" p) [a,b] [] pos) (CY ta):=by
 intro pins s σ H R I h
 refine Call_ (h7 I hg hm boot_range (PyProof.Rows.callWith_type1 (thn (ha pos pins s σ H _ I h) fun us s1 ⟨vs,H1,I1,r1,q1⟩=>?_) (by rw [hs,hs2]) (by rw [hs2]; rfl)))
 obtain ⟨i,j,e,⟨q1,q2,q3,q4⟩,q⟩:=q1
 subst e
 cases r1 with
 | cons r rr=>
  cases rr with
  | cons r' rr=>
   cases rr
   obtain ⟨t,rfl⟩:=r
   obtain ⟨t',rfl⟩:=r'
   exact call_range_2 (pZ I1 q1 q2 q3 q4 q)
def Du (wi:TI) (g:TG) (tb:TS):TS:=fun D σ H=>wi σ H fun J H1=>∃ W:Nat→Nat→St→Hp→Prop,(∃ m,W 0 m σ H1)∧∀ i m σ H,W i m σ H →
 (J.stop i H∧D.nx σ H)∨(J.go i H∧∃ N:St→Hp→Prop,(∀ σ' H',N σ' H'→∃ m',m' < m∧W (i + 1) m' σ' H')∧∀ x H',J.yld i H x H'→g x σ H' fun σ2 H2=>tb { D with nx:=N,ct:=N,bk:=D.nx } σ2 H2)
def eF (fp:List Addr) (h:Heap):List (Addr×Obj):=fp.filterMap fun b=>(h.get? b).map fun o=>(b,o)
theorem iI {fp:List Addr} {h:Heap} {b:Addr} {o:Obj} (hb:b∈fp) (e:h.get? b=some o):(b,o)∈eF fp h:=List.mem_filterMap.mpr ⟨b,hb,by rw [e]; rfl⟩
theorem wQ {fp:List Addr} {h:Heap} {p:Addr×Obj} (hp:p∈eF fp h):p.1∈fp∧h.get? p.1=some p.2:=by
 obtain ⟨b,hb,e⟩:=List.mem_filterMap.mp hp
 cases q:h.get? b with
 | none=>rw [q] at e; cases e
 | some o=>
  rw [q] at e
  have e':(b,o)=p:=Option.some.inj e
  subst e'
  exact ⟨hb,q⟩
theorem Inv.pinned {pins:List (Addr×Obj)} {σ:St} {H:Hp} {s:Shared} {fp:List Addr} (I:Inv X pins σ H s) (hf:∀ b∈fp,cM X pins H b) (ho:∀ b∈fp,∃ o,s.heap.get? b=some o∧∀ v,o.data≠.cell v):Inv X (pins++eF fp s.heap) σ H s:=
 I.pins_of fun p hp=>(List.mem_append.mp hp).elim (fun z=>I.pin p (List.mem_append_right _ z)) fun z=>by
  obtain ⟨hb,e⟩:=wQ z
  obtain ⟨f0,f1,f2,_⟩:=hf p.1 hb
  obtain ⟨o,e',d⟩:=ho p.1 hb
  rw [e] at e'; cases e'
  exact ⟨e,f0,f1,f2,d⟩
theorem Inv.unpinned {pins pl:List (Addr×Obj)} {σ:St} {H:Hp} {s:Shared} (I:Inv X (pins++pl) σ H s):Inv X pins σ H s:=I.pins_of fun p hp=>I.pin p (List.mem_append_right _ (List.mem_append_left _ hp))
theorem sj {iter:Expr} {body:List Stmt} {wi:TI} {g:TG} {tb:TS} {pos:Pos} (hp:PassesOwn (model X.prog X.w) X.A X.env X.xe) (hc:X.calm=true) (hi:PI X tg iter wi) (hg:PG X tg g) (hb:PSs X body tb)
  (hs:∀ x,foldedSetIterable iter X.env x=pure x:=by intro _; rfl):PS X (.For tg iter body [] pos) (Du wi g tb):=by
 intro pins s σ H D I h
 refine wpAny_For (thn (hi pins s σ H _ I h) fun v s1 h1=>thn h1 fun itv s2 h2=>?_) hs
 obtain ⟨it,fp,tn,J,H2,e,I2,T,st2,f2,W,⟨m0,w0⟩,turn⟩:=h2
 subst e
 have stat:∀ {H':Hp},(∀ b∈fp,H' b=none)→∀ b∈fp,cM X pins H' b:=fun hn b hb=>⟨hn b hb,(f2 b hb).2⟩
 refine codeAny_forLoop_any (fun n s'=>∃ i σ' H',Inv X pins σ' H' s'∧tn i s'.heap∧(∀ b∈fp,H' b=none)∧W i n σ' H') ?_ m0 ⟨0,σ,H2,I2,st2,fun b hb=>(f2 b hb).1,w0⟩
 rintro n s3 ⟨i,σ3,H3,I3,st3,fr3,w3⟩
 rcases turn i n σ3 H3 w3 with ⟨stop,qn⟩ | ⟨go,N,hN,step⟩
 ·refine wpAny_passesOwn hp (thn (T.done X rfl rfl rfl hc i pins s3 σ3 H3 X.xe I3 (stat fr3) st3 stop) fun r s4 ⟨hr,I4⟩=>?_)
  subst hr
  exact wpAny_execs_nil ⟨σ3,H3,I4,qn⟩
 ·refine wpAny_passesOwn hp (thn (T.item X rfl rfl rfl hc i pins s3 σ3 H3 X.xe I3 (stat fr3) st3 go) fun r s4 ⟨u,hr,h4⟩=>?_)
  subst hr
  refine wpAny_passesOwn hp (thn h4 fun _ s5 ⟨x,H5,I5,r5,y5,st5,fr5⟩=>?_)
  have I5':=I5.pinned (stat fr5) (T.obj _ _ st5)
  refine wpAny_passesOwn hp (thn (hg _ s5 σ3 H5 x u _ I5' r5 (step x H5 y5)) fun _ s6 ⟨σ6,H6,I6,q6⟩=>?_)
  refine wpAny_passesOwn hp (thn (hb _ s6 σ6 H6 _ I6 q6) fun f s7 q7=>?_)
  have again:∀ {σ7:St} {H7:Hp},Inv X (pins++eF fp s5.heap) σ7 H7 s7→N σ7 H7→∃ m,m < n∧∃ i σ' H',Inv X pins σ' H' s7∧tn i s7.heap∧(∀ b∈fp,H' b=none)∧W i m σ' H':=fun {σ7 H7} I7 n7=>by
   obtain ⟨m',hm,w7⟩:=hN σ7 H7 n7
   refine ⟨m',hm,i + 1,σ7,H7,I7.unpinned,T.keep _ _ _ st5 fun b hb o e=>(I7.pin (b,o) (List.mem_append_right _ (List.mem_append_right _ (iI hb e)))).1,fun b hb=>?_,w7⟩
   obtain ⟨o,e,d⟩:=T.obj _ _ st5 b hb
   exact (I7.pin (b,o) (List.mem_append_right _ (List.mem_append_right _ (iI hb e)))).2.1
  cases f with
  | next=>obtain ⟨σ7,H7,I7,n7⟩:=q7; exact again I7 n7
  | cont=>obtain ⟨σ7,H7,I7,n7⟩:=q7; exact again I7 n7
  | brk=>obtain ⟨σ7,H7,I7,q7⟩:=q7; exact ⟨σ7,H7,I7.unpinned,q7⟩
  | ret v=>obtain ⟨x7,σ7,H7,I7,r7,q7⟩:=q7; exact ⟨x7,σ7,H7,I7.unpinned,r7,q7⟩
end
abbrev R2:=V→V→Hp→VK→Prop
def OpR (X:Cx) (f:Value→Value→Sem Value) (r:R2):Prop:=
 ∀ (pins:List (Addr×Obj)) (s:Shared) (σ:St) (H:Hp) (x y:V) (v u:Value) (Q:VK),Inv X pins σ H s→RelV x v→RelV y u→r x y H Q →
  wpAny (model X.prog X.w) X.A (f v u) (EP X pins σ Q) X.xe s
def UnR (X:Cx) (f:Value→Sem Value) (r:V→Hp→VK→Prop):Prop:=
 ∀ (pins:List (Addr×Obj)) (s:Shared) (σ:St) (H:Hp) (x:V) (v:Value) (Q:VK),Inv X pins σ H s→RelV x v→r x H Q →
  wpAny (model X.prog X.w) X.A (f v) (EP X pins σ Q) X.xe s
def CallR (X:Cx) (f:Value) (r:List V→Hp→VK→Prop):Prop:=
 ∀ (pins:List (Addr×Obj)) (s:Shared) (σ:St) (H:Hp) (xs:List V) (us:List Value) (Q:VK),Inv X pins σ H s→Vals xs us→r xs H Q →
  wpAny (model X.prog X.w) X.A (call f us) (EP X pins σ Q) X.xe s
def DZ (X:Cx) (r:V→Hp→(Bool→Hp→Prop)→Prop):Prop:=
 ∀ (pins:List (Addr×Obj)) (s:Shared) (σ:St) (H:Hp) (x:V) (v:Value) (Q:Bool→Hp→Prop),Inv X pins σ H s→RelV x v→r x H Q →
  wpAny (model X.prog X.w) X.A (truthy v) (TP X pins σ Q) X.xe s
def tOp (r:R2) (ta tb:TE):TE:=fun σ H Q=>ta σ H fun x H1=>tb σ H1 fun y H2=>r x y H2 Q
def tUn (r:V→Hp→VK→Prop) (ta:TE):TE:=fun σ H Q=>ta σ H fun x H1=>r x H1 Q
def rI (C:Int→Int→Prop) (g:Int→Int→V):R2:=fun x y H Q=>∃ i j,x=.int i∧y=.int j∧C i j∧Q (g i j) H
def rI0 (g:Int→Int→V):R2:=fun x y H Q=>∃ i j,x=.int i∧y=.int j∧Q (g i j) H
def rU (g:Int→V):V→Hp→VK→Prop:=fun x H Q=>∃ i,x=.int i∧Q (g i) H
section
variable {X:Cx} {a b c:Expr} {ta tb tc:TE} {pos:Pos}
theorem ou (ha:PE X a ta) (hb:PE X b tb) {pins:List (Addr×Obj)} {s:Shared} {σ:St} {H:Hp} {R:V→V→Hp→Prop} (I:Inv X pins σ H s)
  (h:ta σ H fun x H1=>tb σ H1 fun y H2=>R x y H2) {Q:Value→Shared→Prop} {f:Value→Value→Sem Value}
  (hf:∀ v u s2 x y H2,Inv X pins σ H2 s2→RelV x v→RelV y u→R x y H2→wpAny (model X.prog X.w) X.A (f v u) Q X.xe s2) :
  wpAny (model X.prog X.w) X.A (eval a X.env) (fun v s₁=>wpAny (model X.prog X.w) X.A (eval b X.env) (fun u s₂=>wpAny (model X.prog X.w) X.A (f v u) Q X.xe s₂) X.xe s₁) X.xe s:=by
 refine thn (ha pins s σ H _ I h) fun v s1 ⟨x,H1,I1,r1,q1⟩=>?_
 refine thn (hb pins s1 σ H1 _ I1 q1) fun u s2 ⟨y,H2,I2,r2,q2⟩=>?_
 exact hf v u s2 x y H2 I2 r1 r2 q2
theorem Cz {op:Operator} {r:R2} (ho:OpR X (binaryOp op) r) (ha:PE X a ta) (hb:PE X b tb):PE X (.BinOp a op b pos) (tOp r ta tb):=by
 intro pins s σ H Q I h
 exact wpAny_BinOp (ou ha hb I h fun v u s2 x y H2 I2 rx ry q=>ho pins s2 σ H2 x y v u Q I2 rx ry q)
theorem Cw {op:UnaryOp} {r:V→Hp→VK→Prop} (ho:UnR X (unaryOp op) r) (ha:PE X a ta):PE X (.UnaryOp op a pos) (tUn r ta):=by
 intro pins s σ H Q I h
 exact UnaryOp_ (thn (ha pins s σ H _ I h) fun v s1 ⟨x,H1,I1,r1,q1⟩=>ho pins s1 σ H1 x v Q I1 r1 q1)
theorem opI {f:Value→Value→Sem Value} {C:Int→Int→Prop} {g:Int→Int→Int}
  (rule:∀ (i j:Int) (t u:Tok) (s:Shared) (Q:Value→Shared→Prop) (E:Value→Shared→Prop),C i j→Q (.int (g i j) s.toks) { s with toks:=s.toks + 1 }→wpAny (model X.prog X.w) X.A (f (.int i t) (.int j u)) Q E s) :
  OpR X f (rI C fun i j=>.int (g i j)):=by
 intro pins s σ H x y v u Q I rx ry h
 obtain ⟨i,j,rfl,rfl,hc,q⟩:=h
 obtain ⟨t,rfl⟩:=rx
 obtain ⟨t',rfl⟩:=ry
 exact rule i j t t' s _ _ hc ⟨.int (g i j),H,I.tok _,⟨_,rfl⟩,q⟩
theorem ug {f:Value→Value→Sem Value} {g:Int→Int→Int}
  (rule:∀ (i j:Int) (t u:Tok) (s:Shared) (Q:Value→Shared→Prop) (E:Value→Shared→Prop),Q (.int (g i j) s.toks) { s with toks:=s.toks + 1 }→wpAny (model X.prog X.w) X.A (f (.int i t) (.int j u)) Q E s) :
  OpR X f (rI0 fun i j=>.int (g i j)):=by
 intro pins s σ H x y v u Q I rx ry h
 obtain ⟨i,j,rfl,rfl,q⟩:=h
 obtain ⟨t,rfl⟩:=rx
 obtain ⟨t',rfl⟩:=ry
 exact rule i j t t' s _ _ ⟨.int (g i j),H,I.tok _,⟨_,rfl⟩,q⟩
theorem lG {f:Value→Value→Sem Value} {g:Int→Int→Bool}
  (rule:∀ (i j:Int) (t u:Tok) (s:Shared) (Q:Value→Shared→Prop) (E:Value→Shared→Prop),Q (.bool (g i j)) s→wpAny (model X.prog X.w) X.A (f (.int i t) (.int j u)) Q E s) :
  OpR X f (rI0 fun i j=>.bl (g i j)):=by
 intro pins s σ H x y v u Q I rx ry h
 obtain ⟨i,j,rfl,rfl,q⟩:=h
 obtain ⟨t,rfl⟩:=rx
 obtain ⟨t',rfl⟩:=ry
 exact rule i j t t' s _ _ ⟨.bl (g i j),H,I,rfl,q⟩
def D5 (i j:Int):Prop:=0 < j∧j < 1073741824
def D4 (i j:Int):Prop:=0≤j∧j≤1000000∧i.natAbs < 2 ^ 64
def CMul (i j:Int):Prop:=(-(2 ^ 64) < i∧i < 2 ^ 64)∨(-(2 ^ 64) < j∧j < 2 ^ 64)
theorem CMul.ok {i j:Int} (h:CMul i j):IntMulOk i j:=by
 rcases h with ⟨h1,h2⟩ | ⟨h1,h2⟩
 ·exact .of_left (intBits_le_64 h1 h2)
 ·exact .of_right (intBits_le_64 h1 h2)
theorem vW (k:Nat):(0:Int)≤2 ^ k:=by
 rw [two_pow_cast]
 exact Int.natCast_nonneg _
theorem op_add:OpR X (binaryOp .Add) (rI0 fun i j=>.int (i + j)):=ug fun _ _ _ _ _ _ _ q=>add_int q
theorem A9:OpR X (binaryOp .Sub) (rI0 fun i j=>.int (i - j)):=ug fun _ _ _ _ _ _ _ q=>sub_int q
theorem op_mul:OpR X (binaryOp .Mult) (rI CMul fun i j=>.int (i * j)):=opI fun _ _ _ _ _ _ _ hc q=>mul_int q hc.ok
theorem zw:OpR X (binaryOp .FloorDiv) (rI D5 fun i j=>.int (i / j)):=opI fun i j _ _ _ _ _ hc q=>by
 have h1:(0:Int) < j:=hc.1
 have h2:j < 1073741824:=hc.2
 exact floordiv_int (by omega) (by rw [Int.fdiv_eq_ediv_of_nonneg i (by omega)]; exact q) (.inl (PyProof.noPylong_small (by omega)))
theorem Bd:OpR X (binaryOp .Mod) (rI (fun _ j=>0 < j) fun i j=>.int (i % j)):=opI fun i j _ _ _ _ _ hc q=>by
 have h1:(0:Int) < j:=hc
 exact mod_int' (by omega) (by rw [Int.fmod_eq_emod_of_nonneg i (by omega)]; exact q)
theorem Bb:OpR X (binaryOp .Pow) (rI D4 fun i j=>.int (i ^ j.toNat)):=opI fun _ _ _ _ _ _ _ hc q=>pow_int_small hc.1 hc.2.1 hc.2.2 q
theorem Ba:OpR X (binaryOp .RShift) (rI (fun _ j=>0≤j) fun i j=>.int (i / 2 ^ j.toNat)):=opI fun i j _ _ _ _ _ hc q=>
 rshift_int hc (by rw [Int.fdiv_eq_ediv_of_nonneg i (vW _)]; exact q)
theorem unI {f:Value→Sem Value} {g:Int→Int}
  (rule:∀ (i:Int) (t:Tok) (s:Shared) (Q:Value→Shared→Prop) (E:Value→Shared→Prop),Q (.int (g i) s.toks) { s with toks:=s.toks + 1 }→wpAny (model X.prog X.w) X.A (f (.int i t)) Q E s) :
  UnR X f (rU fun i=>.int (g i)):=by
 intro pins s σ H x v Q I rx h
 obtain ⟨i,rfl,q⟩:=h
 obtain ⟨t,rfl⟩:=rx
 exact rule i t s _ _ ⟨.int (g i),H,I.tok _,⟨_,rfl⟩,q⟩
theorem Au:UnR X (unaryOp .USub) (rU fun i=>.int (-i)):=unI fun _ _ _ _ _ q=>neg_int q
end
def ol:V→V→Bool
 | .non,.non=>true | .non,.int _=>true | .int _,.non=>true | .non,.bl _=>true | .bl _,.non=>true | .non,.str _=>true | .str _,.non=>true
 | .int _,.int _=>true | .bl _,.bl _=>true | .str _,.str _=>true | .byt _,.byt _=>true
 | .int _,.str _=>true | .str _,.int _=>true | .bl _,.str _=>true | .str _,.bl _=>true
 | _,_=>false
def rEq:R2:=fun x y H Q=>ol x y=true∧Q (.bl (decide (x=y))) H
def rNe:R2:=fun x y H Q=>ol x y=true∧Q (.bl (!decide (x=y))) H
theorem rj {i j:Int}:decide (V.int i=V.int j)=(i == j):=by
 rw [Bool.eq_iff_iff]
 simp
theorem sS {i j:Bool}:decide (V.bl i=V.bl j)=(i == j):=by
 rw [Bool.eq_iff_iff]
 simp
theorem ri {i j:Str}:decide (V.str i=V.str j)=(i == j):=by
 rw [Bool.eq_iff_iff]
 simp
theorem rl {i j:Array UInt8}:decide (V.byt i=V.byt j)=(i.toList == j.toList):=by
 rw [Bool.eq_iff_iff]
 cases i
 cases j
 simp
section
variable {X:Cx} {a b c:Expr} {ta tb tc:TE} {pos:Pos}
theorem bz {pins:List (Addr×Obj)} {σ:St} {H:Hp} {s:Shared} {Q:VK} {k k':Bool} (I:Inv X pins σ H s) (q:Q (.bl k) H) (e:k=k'):EP X pins σ Q (.bool k') s:=by
 subst e
 exact ⟨.bl k,H,I,rfl,q⟩
theorem CL:OpR X (compareOp .Eq) rEq:=by
 intro pins s σ H x y v u Q I rx ry h
 obtain ⟨hs,q⟩:=h
 cases x with
 | non=>
  cases rx
  cases y with
  | non=>cases ry; exact PySem.EqNone.eq_none_none (bz I q (by simp))
  | bl j=>cases ry; exact PySem.EqNone.eq_none_bool (bz I q (by simp))
  | int j=>obtain ⟨t',rfl⟩:=ry; exact PySem.EqNone.eq_none_int (bz I q (by simp))
  | str j=>obtain ⟨t',rfl⟩:=ry; exact PySem.EqNone.eq_none_str (bz I q (by simp))
  | _=>exact absurd (show false=true from hs) Bool.false_ne_true
 | bl i=>
  cases rx
  cases y with
  | non=>cases ry; exact PySem.EqNone.eq_bool_none (bz I q (by simp))
  | bl j=>cases ry; exact eq_bool (bz I q sS)
  | str j=>obtain ⟨t',rfl⟩:=ry; exact PySem.EqMixed.eq_bool_str (bz I q (by simp))
  | _=>exact absurd (show false=true from hs) Bool.false_ne_true
 | int i=>
  obtain ⟨t,rfl⟩:=rx
  cases y with
  | non=>cases ry; exact PySem.EqNone.eq_int_none (bz I q (by simp))
  | int j=>obtain ⟨t',rfl⟩:=ry; exact eq_int (bz I q rj)
  | str j=>obtain ⟨t',rfl⟩:=ry; exact PySem.EqMixed.eq_int_str (bz I q (by simp))
  | _=>exact absurd (show false=true from hs) Bool.false_ne_true
 | str i=>
  obtain ⟨t,rfl⟩:=rx
  cases y with
  | non=>cases ry; exact PySem.EqNone.eq_str_none (bz I q (by simp))
  | bl j=>cases ry; exact PySem.EqMixed.eq_str_bool (bz I q (by simp))
  | int j=>obtain ⟨t',rfl⟩:=ry; exact PySem.EqMixed.eq_str_int (bz I q (by simp))
  | str j=>obtain ⟨t',rfl⟩:=ry; exact eq_str (bz I q ri)
  | _=>exact absurd (show false=true from hs) Bool.false_ne_true
 | byt i=>
  obtain ⟨t,rfl⟩:=rx
  cases y with
  | byt j=>obtain ⟨t',rfl⟩:=ry; exact PySem.W.eq_bytes (bz I q rl)
  | _=>exact absurd (show false=true from hs) Bool.false_ne_true
 | _=>cases y <;> exact absurd (show false=true from hs) Bool.false_ne_true
theorem CG:OpR X (compareOp .NotEq) rNe:=by
 intro pins s σ H x y v u Q I rx ry h
 obtain ⟨hs,q⟩:=h
 cases x with
 | non=>
  cases rx
  cases y with
  | non=>cases ry; exact PySem.EqNone.ne_none_none (bz I q (by simp))
  | bl j=>cases ry; exact PySem.EqNone.ne_none_bool (bz I q (by simp))
  | int j=>obtain ⟨t',rfl⟩:=ry; exact PySem.EqNone.ne_none_int (bz I q (by simp))
  | str j=>obtain ⟨t',rfl⟩:=ry; exact PySem.EqNone.ne_none_str (bz I q (by simp))
  | _=>exact absurd (show false=true from hs) Bool.false_ne_true
 | bl i=>
  cases rx
  cases y with
  | non=>cases ry; exact PySem.EqNone.ne_bool_none (bz I q (by simp))
  | bl j=>cases ry; exact ne_bool (bz I q (congrArg not sS))
  | str j=>obtain ⟨t',rfl⟩:=ry; exact PySem.EqMixed.ne_bool_str (bz I q (by simp))
  | _=>exact absurd (show false=true from hs) Bool.false_ne_true
 | int i=>
  obtain ⟨t,rfl⟩:=rx
  cases y with
  | non=>cases ry; exact PySem.EqNone.ne_int_none (bz I q (by simp))
  | int j=>obtain ⟨t',rfl⟩:=ry; exact ne_int (bz I q (congrArg not rj))
  | str j=>obtain ⟨t',rfl⟩:=ry; exact PySem.EqMixed.ne_int_str (bz I q (by simp))
  | _=>exact absurd (show false=true from hs) Bool.false_ne_true
 | str i=>
  obtain ⟨t,rfl⟩:=rx
  cases y with
  | non=>cases ry; exact PySem.EqNone.ne_str_none (bz I q (by simp))
  | bl j=>cases ry; exact PySem.EqMixed.ne_str_bool (bz I q (by simp))
  | int j=>obtain ⟨t',rfl⟩:=ry; exact PySem.EqMixed.ne_str_int (bz I q (by simp))
  | str j=>obtain ⟨t',rfl⟩:=ry; exact ne_str (bz I q (congrArg not ri))
  | _=>exact absurd (show false=true from hs) Bool.false_ne_true
 | byt i=>
  obtain ⟨t,rfl⟩:=rx
  cases y with
  | byt j=>obtain ⟨t',rfl⟩:=ry; exact PySem.W.ne_bytes (bz I q (congrArg not rl))
  | _=>exact absurd (show false=true from hs) Bool.false_ne_true
 | _=>cases y <;> exact absurd (show false=true from hs) Bool.false_ne_true
theorem CH:OpR X (compareOp .Lt) (rI0 fun i j=>.bl (decide (i < j))):=lG fun _ _ _ _ _ _ _ q=>lt_int q
theorem CI:OpR X (compareOp .LtE) (rI0 fun i j=>.bl (decide (i≤j))):=lG fun _ _ _ _ _ _ _ q=>le_int q
theorem CJ:OpR X (compareOp .Gt) (rI0 fun i j=>.bl (decide (j < i))):=lG fun _ _ _ _ _ _ _ q=>gt_int q
theorem CK:OpR X (compareOp .GtE) (rI0 fun i j=>.bl (decide (j≤i))):=lG fun _ _ _ _ _ _ _ q=>ge_int q
theorem op_in_str:OpR X (compareOp .In) (fun x y H Q=>∃ i j,x=.str i∧y=.str j∧Q (.bl (!(Builtin.Str.occurrences j i 0 j.length 1).isEmpty)) H):=by
 intro pins s σ H x y v u Q I rx ry h
 obtain ⟨i,j,rfl,rfl,q⟩:=h
 obtain ⟨t,rfl⟩:=rx
 obtain ⟨t',rfl⟩:=ry
 exact in_str (bz I q rfl)
theorem Be:OpR X (compareOp .Is) (fun x y H Q=>y=.non∧Q (.bl (decide (x=.non))) H):=by
 intro pins s σ H x y v u Q I rx ry h
 obtain ⟨rfl,q⟩:=h
 cases ry
 refine is_none_gen (bz I q ?_)
 cases x <;> first
  | (cases rx; rfl)
  | (obtain ⟨t,rfl⟩:=rx; rfl)
theorem op_notN:OpR X (compareOp .IsNot) (fun x y H Q=>y=.non∧Q (.bl (!decide (x=.non))) H):=by
 intro pins s σ H x y v u Q I rx ry h
 obtain ⟨rfl,q⟩:=h
 cases ry
 refine isnot_none_gen (bz I q ?_)
 cases x <;> first
  | (cases rx; rfl)
  | (obtain ⟨t,rfl⟩:=rx; rfl)
theorem op_notin_str:OpR X (compareOp .NotIn) (fun x y H Q=>∃ i j,x=.str i∧y=.str j∧Q (.bl (!(!(Builtin.Str.occurrences j i 0 j.length 1).isEmpty))) H):=by
 intro pins s σ H x y v u Q I rx ry h
 obtain ⟨i,j,rfl,rfl,q⟩:=h
 obtain ⟨t,rfl⟩:=rx
 obtain ⟨t',rfl⟩:=ry
 exact notIn_str (bz I q rfl)
theorem OpR.or {f:Value→Value→Sem Value} {r r':R2} (h:OpR X f r) (h':OpR X f r'):OpR X f (fun x y H Q=>r x y H Q∨r' x y H Q):=by
 intro pins s σ H x y v u Q I rx ry q
 rcases q with q | q
 ·exact h pins s σ H x y v u Q I rx ry q
 ·exact h' pins s σ H x y v u Q I rx ry q
theorem sv (b:Expr) {op:CmpOp} (h:op≠.In:=by decide) (h2:op≠.NotIn:=by decide):behindInMarks op b=false:=by
 have e1:(op == CmpOp.In)=false:=by cases op <;> first | rfl | exact absurd rfl h
 have e2:(op == CmpOp.NotIn)=false:=by cases op <;> first | rfl | exact absurd rfl h2
 cases b <;> simp [behindInMarks,e1,e2]
theorem zo {op:CmpOp} {r:R2} (ho:OpR X (compareOp op) r) (ha:PE X a ta) (hb:PE X b tb) (hm:behindInMarks op b=false):PE X (.Compare a [op] [b] pos) (tOp r ta tb):=by
 intro pins s σ H Q I h
 exact wpAny_Compare1 (ou ha hb I h fun v u s2 x y H2 I2 rx ry q=>ho pins s2 σ H2 x y v u Q I2 rx ry q) hm
def ti (t:TE):TT:=fun σ H Q=>t σ H fun x H'=>∃ k,x=.bl k∧Q k H'
theorem y8 {op:CmpOp} {r:R2} (ho:OpR X (compareOp op) r) (ha:PE X a ta) (hb:PE X b tb) (hm:behindInMarks op b=false):PT X (.Compare a [op] [b] pos) (ti (tOp r ta tb)):=by
 intro pins s σ H Q I h
 refine wpAny_isTrue_Compare1 (thn (ha pins s σ H _ I h) fun v s1 ⟨x,H1,I1,r1,q1⟩=>thn (hb pins s1 σ H1 _ I1 q1) fun u s2 ⟨y,H2,I2,r2,q2⟩=>
  thn (ho pins s2 σ H2 x y v u _ I2 r1 r2 q2) fun c s3 ⟨z,H3,I3,r3,k,e,q3⟩=>?_) hm
 subst e
 cases r3
 exact wpAny_truthy_bool ⟨H3,I3,q3⟩
def m7 (r r':R2) (ta tb tc:TE):TE:=fun σ H Q=>ta σ H fun x H1=>tb σ H1 fun y H2=>r x y H2 fun z H3=>∃ k,z=.bl k ∧
 (if k=true then tc σ H3 fun w' H4=>r' y w' H4 Q else Q (.bl false) H3)
theorem xV {op op':CmpOp} {r r':R2} (ho:OpR X (compareOp op) r) (ho':OpR X (compareOp op') r') (ha:PE X a ta) (hb:PE X b tb) (hc:PE X c tc)
  (hm:lastMarks [op,op'] [b,c]=false:=by with_unfolding_all rfl):PE X (.Compare a [op,op'] [b,c] pos) (m7 r r' ta tb tc):=by
 intro pins s σ H Q I h
 refine Compare_chain (thn (ha pins s σ H _ I h) fun v s1 ⟨x,H1,I1,r1,q1⟩=>chain_link (thn (hb pins s1 σ H1 _ I1 q1) fun u s2 ⟨y,H2,I2,r2,q2⟩=>
  thn (ho pins s2 σ H2 x y v u _ I2 r1 r2 q2) fun d s3 ⟨z,H3,I3,r3,k,e,q3⟩=>?_)) hm
 subst e
 cases r3
 refine wpAny_truthy_bool ?_
 cases k with
 | false=>exact ite_ff ⟨.bl false,H3,I3,rfl,q3⟩
 | true=>exact ite_tt (chain_last (thn (hc pins s3 σ H3 _ I3 q3) fun w' s4 ⟨z',H4,I4,r4,q4⟩=>ho' pins s4 σ H4 y z' u w' Q I4 r2 r4 q4))
theorem xG {op op':CmpOp} {r r':R2} (ho:OpR X (compareOp op) r) (ho':OpR X (compareOp op') r') (ha:PE X a ta) (hb:PE X b tb) (hc:PE X c tc)
  (hm:lastMarks [op,op'] [b,c]=false:=by with_unfolding_all rfl):PT X (.Compare a [op,op'] [b,c] pos) (ti (m7 r r' ta tb tc)):=by
 intro pins s σ H Q I h
 refine isTrue_chain (thn (ha pins s σ H _ I h) fun v s1 ⟨x,H1,I1,r1,q1⟩=>test_link (thn (hb pins s1 σ H1 _ I1 q1) fun u s2 ⟨y,H2,I2,r2,q2⟩=>
  thn (ho pins s2 σ H2 x y v u _ I2 r1 r2 q2) fun d s3 ⟨z,H3,I3,r3,k,e,q3⟩=>?_)) hm
 subst e
 cases r3
 refine wpAny_truthy_bool ?_
 cases k with
 | false=>
  obtain ⟨k',e',q'⟩:=q3
  cases e'
  exact ite_ff ⟨H3,I3,q'⟩
 | true=>
  refine ite_tt (test_last (thn (hc pins s3 σ H3 _ I3 q3) fun w' s4 ⟨z',H4,I4,r4,q4⟩=>thn (ho' pins s4 σ H4 y z' u w' _ I4 r2 r4 q4) fun d' s5 ⟨z2,H5,I5,r5,k2,e2,q5⟩=>?_))
  subst e2
  cases r5
  exact wpAny_truthy_bool ⟨H5,I5,q5⟩
def ow (K:Frag) (x:V) (H:Hp) (k:Bool):Prop:=
 match x with
 | .non=>k=false
 | .bl b=>k=b
 | .int i=>k=(i != 0)
 | .str y=>y.length≤sizeLine∧k=((y.length:Int) != 0)
 | .byt y=>y.size≤sizeLine∧k=((y.size:Int) != 0)
 | .ref p=>(∃ xs,SqL K H p xs∧k = !xs.isEmpty)∨(∃ xs,SqT K H p xs∧k = !xs.isEmpty)∨∃ kvs,H p=some (.dK kvs)∧k = !kvs.isEmpty
 | _=>False
theorem we {κ:Type} {kvs:List (κ×V)} {vs:List (κ×Value)} (r:KV kvs vs):(!vs.isEmpty) = !kvs.isEmpty:=by cases r <;> rfl
theorem oP {xs:List V} {its:List Value} (r:Vals xs its):(!its.toArray.isEmpty) = !xs.isEmpty:=by cases r <;> simp
theorem iT:(sizeLine:Nat) < 2 ^ 63:=by rw [sizeLine_eq]; decide
theorem Ax:DZ X (fun x H Q=>∃ k,ow X.K x H k∧Q k H):=by
 intro pins s σ H x v Q I rx h
 obtain ⟨k,e,q⟩:=h
 have hl:=iT
 have hs:sizeLine=16777216:=sizeLine_eq
 cases x with
 | non=>
  cases rx
  have e':k=false:=e
  subst e'
  exact truthy_none ⟨H,I,q⟩
 | bl b=>
  cases rx
  have e':k=b:=e
  subst e'
  exact wpAny_truthy_bool ⟨H,I,q⟩
 | int i=>
  obtain ⟨t,rfl⟩:=rx
  have e':k=(i != 0):=e
  subst e'
  exact PySem.P.truthy_int ⟨H,I,q⟩
 | str y=>
  obtain ⟨t,rfl⟩:=rx
  obtain ⟨hy,e'⟩:y.length≤sizeLine∧k=((y.length:Int) != 0):=e
  subst e'
  exact PySem.P.truthy_str (by omega) ⟨H,I.tok _,q⟩
 | byt y=>
  obtain ⟨t,rfl⟩:=rx
  obtain ⟨hy,e'⟩:y.size≤sizeLine∧k=((y.size:Int) != 0):=e
  subst e'
  exact PySem.W.truthy_bytes (by omega) ⟨H,I.tok _,q⟩
 | ref p=>
  cases rx
  have e':(∃ xs,SqL X.K H p xs∧k = !xs.isEmpty)∨(∃ xs,SqT X.K H p xs∧k = !xs.isEmpty)∨∃ kvs,H p=some (.dK kvs)∧k = !kvs.isEmpty:=e
  rcases e' with ⟨xs,hx,e'⟩ | ⟨xs,hx,e'⟩ | ⟨kvs,hx,e'⟩
  ·subst e'
   obtain ⟨its,r,pl,hz⟩:=I.list hx
   have hlen:=r.length
   exact wpAny_truthy_list pl.isList (by simp only [List.size_toArray]; omega) ⟨H,I.tok _,by rw [oP r]; exact q⟩
  ·subst e'
   obtain ⟨its,r,pl,hz⟩:=I.tuple hx
   have hlen:=r.length
   exact truthy_tuple pl (by simp only [List.size_toArray]; omega) ⟨H,I.tok _,by rw [oP r]; exact q⟩
  ·subst e'
   obtain ⟨hz,hS,vs,r,m⟩:kvs.length≤sizeLine∧(p == sysModules)=false∧∃ vs,KV kvs vs∧s.heap.DictOf (bW X.prog X.w) p vs:=I.hok p _ hx
   have hlen:kvs.length=vs.length:=Paired.length r
   exact wpAny_truthy_dict hS m (by omega) ⟨H,I.tok _,by rw [we r]; exact q⟩
 | _=>exact (show False from e).elim
theorem xF (ha:PE X a ta) (he:∀ whole,isTrue a X.env whole=(do let v ← whole; standAt a.pos; holding [v] (truthy v))) :
  PT X a (fun σ H Q=>ta σ H fun x H'=>∃ k,ow X.K x H' k∧Q k H'):=by
 intro pins s σ H Q I h
 exact isTrue_plain (thn (ha pins s σ H _ I h) fun v s1 ⟨x,H1,I1,r1,q1⟩=>Ax pins s1 σ H1 x v Q I1 r1 q1) (he _)
theorem op_add_str:OpR X (binaryOp .Add) (fun x y H Q=>∃ i j,x=.str i∧y=.str j∧i.length + j.length≤sizeLine∧Q (.str (i++j)) H):=by
 intro pins s σ H x y v u Q I rx ry h
 obtain ⟨i,j,rfl,rfl,hz,q⟩:=h
 obtain ⟨t,rfl⟩:=rx
 obtain ⟨t',rfl⟩:=ry
 exact add_str (fun t' tk=>⟨.str (i++j),H,I.tok _,⟨_,rfl⟩,q⟩) hz
theorem vals1 {x:V} {us:List Value} (r:Vals [x] us):∃ u,us=[u]∧RelV x u:=by
 cases r with
 | cons r1 r2=>cases r2; exact ⟨_,rfl,r1⟩
theorem vals2 {x y:V} {us:List Value} (r:Vals [x,y] us):∃ u w',us=[u,w']∧RelV x u∧RelV y w':=by
 cases r with
 | cons r1 r2=>
  cases r2 with
  | cons r3 r4=>cases r4; exact ⟨_,_,rfl,r1,r3⟩
theorem yw:CallR X (.builtin "abs") (fun xs H Q=>∃ i,xs=[.int i]∧Q (.int (if i < 0 then -i else i)) H):=by
 intro pins s σ H xs us Q I r h
 obtain ⟨i,rfl,q⟩:=h
 obtain ⟨u,rfl,t,rfl⟩:=vals1 r
 exact call_abs_int fun u tk=>⟨.int (if i < 0 then -i else i),H,I.tok _,⟨_,rfl⟩,q⟩
theorem xk (hc:X.calm=true):CallR X (.builtin "min") (fun xs H Q=>∃ i j,xs=[.int i,.int j]∧Q (.int (if j < i then j else i)) H):=by
 intro pins s σ H xs us Q I r h
 obtain ⟨i,j,rfl,q⟩:=h
 obtain ⟨u,w',rfl,⟨t,rfl⟩,⟨t',rfl⟩⟩:=vals2 r
 refine min_two_ints (I.ok.hd hc) fun h' tk k=>⟨_,H,I.kept k,?_,q⟩
 by_cases hj:j < i
 ·rw [if_pos hj,if_pos hj]; exact ⟨_,rfl⟩
 ·rw [if_neg hj,if_neg hj]; exact ⟨_,rfl⟩
theorem call_int1:CallR X (.type "int") (fun xs H Q=>(∃ i,xs=[.int i]∧Q (.int i) H)∨∃ k,xs=[.bl k]∧Q (.int (if k then 1 else 0)) H):=by
 intro pins s σ H xs us Q I r h
 rcases h with ⟨i,rfl,q⟩ | ⟨k,rfl,q⟩
 ·obtain ⟨u,rfl,t,rfl⟩:=vals1 r
  exact call_int_int ⟨.int i,H,I,⟨_,rfl⟩,q⟩
 ·obtain ⟨u,rfl,r1⟩:=vals1 r
  cases r1
  exact call_int_bool ⟨.int (if k then 1 else 0),H,I.tok _,⟨_,rfl⟩,q⟩
theorem vv:CallR X (.type "str") (fun xs H Q=>∃ i,xs=[.int i]∧i.natAbs.log2 < 1920∧Q (.str (toString i)) H):=by
 intro pins s σ H xs us Q I r h
 obtain ⟨i,rfl,hz,q⟩:=h
 obtain ⟨u,rfl,t,rfl⟩:=vals1 r
 exact PySem.P.str_of_int hz ⟨.str _,H,I.tok _,⟨_,rfl⟩,q⟩
end
structure ObjM (h:Heap) (x dx C:Addr) (mA:Str→Option Value):Prop where
 obj:h.get? x=some (PySem.W.instObj C dx)
 ns:h.Ns1 dx mA
 ne:dx≠x
theorem w4 {h:Heap} {dx:Addr} {mA:Str→Option Value} (n:h.Ns1 dx mA):∃ od,h.get? dx=some od∧∀ name,PySem.W.lookIn name od=some (mA name):=by
 obtain ⟨o,es,ep,ho,hd,hk,_,hm⟩:=n
 refine ⟨o,ho,fun name=>?_⟩
 have e:=hm name
 unfold nsFind findBy at e
 rw [← Array.find?_toList] at e
 unfold PySem.W.lookIn
 rw [hd]
 dsimp only
 split
 ·rename_i y q
  rw [q] at e
  exact congrArg some e
 ·rename_i q
  rw [q] at e
  have a:es.toList.any (·.refKey)=false:=by
   rw [List.any_eq_false]
   intro y hy
   obtain ⟨z,t,hkey⟩:=hk y (Array.mem_toList_iff.mp hy)
   simp [DictEntry.refKey,hkey]
  have a':¬ es.toList.any (·.refKey)=true:=by rw [a]; exact Bool.false_ne_true
  rw [if_neg a']
  exact congrArg some e
theorem ObjM.look {h:Heap} {x dx C:Addr} {mA:Str→Option Value} (I:ObjM h x dx C mA):∃ od,PySem.W.InstAt h x (PySem.W.instObj C dx) C (some od)∧∀ name,PySem.W.lookIn name od=some (mA name):=
 let ⟨od,ho,hl⟩:=w4 I.ns
 ⟨od,⟨I.obj,rfl,rfl,ho⟩,hl⟩
section
variable {prog:Program} {w:World} {A:Around} {E:Value→Shared→Prop} {s:Shared} {K:Frag} {x dx C f:Addr} {mA:Str→Option Value} {name:Str} {v:Value}
end
theorem RelO.some_of {v:V} {o:Option Value} (r:RelO (some v) o):∃ u,o=some u∧RelV v u:=by
 cases o with
 | none=>exact (show False from r).elim
 | some u=>exact ⟨u,rfl,r⟩
section
variable {P:Program} {w:World} {H H':Hp} {h h':Heap} {a C dx:Addr} {fs fs':List (Str×V)}
theorem zQ (hok:HOk P w H h) (e:H a=some (.ins C dx fs)):∃ mA,ObjM h a dx C mA∧(∀ f,RelO (fs.lookup f) (mA f))∧PySem.Within mA (fs.map (·.1))∧fs.length≤1000∧H dx=some (.own a):=by
 obtain ⟨d,z,ne,ob,mA,n,r,q⟩:=(show ObjOk P w H h a (.ins C dx fs) from hok a _ e)
 exact ⟨mA,⟨ob,n,ne⟩,r,q,z,d⟩
end
structure Cls (K:Frag) (C:Addr):Prop where
 pg:PySem.W.plainGet K C Str.empty=true
 hd:PySem.W.hasDictIn K C=true
 po:PySem.W.plainOver K C=true
 sa:PySem.W.findIn K (.ref C) "__setattr__" = some (some (.builtin "object.__setattr__"))
theorem Cls.get {K:Frag} {C:Addr} (c:Cls K C) (f:Str):PySem.W.plainGet K C f=true:=c.pg
structure Con (K:Frag) (C:Addr) (f:Str) (v:V) (u:Value):Prop where
 at_:PySem.W.findIn K (.ref C) f=some (some u)
 rel:RelV v u
 get:PySem.W.specialIn K u "__get__" = some none
 cp:PySem.W.copiedNames.contains f=false
structure Meth (K:Frag) (C:Addr) (m:Str) (f:Addr):Prop where
 at_:PySem.W.findIn K (.ref C) m=some (some (.ref f))
 fn:PySem.W.isFn K (.ref f)=true
 kp:PySem.W.keepIn K (.ref f)=true
section
variable {X:Cx} {pins:List (Addr×Obj)} {σ:St} {H:Hp} {s:Shared} {a C dx:Addr} {fs:List (Str×V)} {f:Str} {v:V} {A:Around} {E:Value→Shared→Prop}
end
section
variable {X:Cx} {o e value:Expr} {f:Str} {pos pos' tpos:Pos} {ta tv:TE}
end
section
variable {X:Cx} {pins:List (Addr×Obj)} {σ:St} {H:Hp} {s:Shared} {A:Around} {E:Value→Shared→Prop} {Q:Value→Shared→Prop} {c:Value} {b:Bool}
inductive TyOf (K:Frag) (H:Hp):V→Value→Prop where
 | non:TyOf K H .non (.type "NoneType")
 | bl (x:Bool):TyOf K H (.bl x) (.type "bool")
 | int (i:Int):TyOf K H (.int i) (.type "int")
 | str (x:Str):TyOf K H (.str x) (.type "str")
 | flt (x:UInt64):TyOf K H (.flt x) (.type "float")
 | lst {a:Addr} {xs:List V} (e:H a=some (.lst xs)):TyOf K H (.ref a) (.type "list")
 | frz {a:Addr} {o:Obj} {xs:List V} (e:H a=some (.frz o (.lst xs))):TyOf K H (.ref a) (.type "list")
 | tup {a:Addr} {xs:List V} (e:H a=some (.tup xs)):TyOf K H (.ref a) (.type "tuple")
 | dK {a:Addr} {kvs:List (Key×V)} (e:H a=some (.dK kvs)):TyOf K H (.ref a) (.type "dict")
 | dT {a:Addr} {kvs:List (List Key×V)} (e:H a=some (.dT kvs)):TyOf K H (.ref a) (.type "dict")
 | ins {a C dx:Addr} {fs:List (Str×V)} (e:H a=some (.ins C dx fs)) (cl:Cls K C) (ha:PySem.W.findIn K (.ref C) "__class__" = some (some (.builtin "object.__class__")))
   (hn:PySem.W.specialIn K (.builtin "object.__class__") "__get__" = some (some (.builtin "getset_descriptor.__get__"))) (htk:PySem.W.takesIn K (.builtin "object.__class__")=some true)
   (hm:PySem.W.mroIn K C (.type "object")=some true):TyOf K H (.ref a) (.ref C)
theorem j3 {x:V} {u t:Value} (I:Inv X pins σ H s) (rx:RelV x u) (ty:TyOf X.K H x t) (e:PySem.W.kitOne X.K t c=some b) (h:∀ tk,Q (.bool b) { s with toks:=tk }) :
  wpAny (model X.prog X.w) A (call (.builtin "isinstance") [u,c]) Q E s:=by
 cases ty with
 | non=>cases (show u=Value.none from rx); exact PySem.W.kia_one PySem.W.kitx_none I.kIn True.intro e (fun z=>nomatch z) h
 | bl y=>cases (show u=Value.bool y from rx); exact PySem.W.kia_one PySem.W.kitx_bool I.kIn True.intro e (fun z=>nomatch z) h
 | int i=>obtain ⟨t,q⟩:=(show ∃ t,u=Value.int i t from rx); cases q; exact PySem.W.kia_one PySem.W.kitx_int I.kIn True.intro e (fun z=>nomatch z) h
 | str y=>obtain ⟨t,q⟩:=(show ∃ t,u=Value.str y t from rx); cases q; exact PySem.W.kia_one PySem.W.kitx_str I.kIn True.intro e (fun z=>nomatch z) h
 | flt y=>obtain ⟨t,q⟩:=(show ∃ t,u=Value.float y t from rx); cases q; exact PySem.W.kia_one PySem.W.kitx_float I.kIn True.intro e (fun z=>nomatch z) h
 | @lst a xs ea=>
  cases (show u=Value.ref a from rx)
  obtain ⟨_,_,n,_,h1⟩:=(show ObjOk X.prog X.w H s.heap a (.lst xs) from I.hok a _ ea)
  exact PySem.W.kia_one PySem.W.kitx_list I.kIn ⟨_,h1,rfl⟩ e (fun z=>nomatch z) h
 | @frz a ob xs ea=>
  cases (show u=Value.ref a from rx)
  obtain ⟨_,_,_,n,_,h1⟩:=(show ObjOk X.prog X.w H s.heap a (.frz ob (.lst xs)) from I.hok a _ ea)
  exact PySem.W.kia_one PySem.W.kitx_list I.kIn ⟨_,h1,rfl⟩ e (fun z=>nomatch z) h
 | @tup a xs ea=>
  cases (show u=Value.ref a from rx)
  obtain ⟨_,_,_,p⟩:=(show ObjOk X.prog X.w H s.heap a (.tup xs) from I.hok a _ ea)
  obtain ⟨o,h1,h2,_⟩:=p
  exact PySem.W.kia_one PySem.W.kitx_tuple I.kIn ⟨o,h1,h2⟩ e (fun z=>nomatch z) h
 | @dK a kvs ea=>
  cases (show u=Value.ref a from rx)
  obtain ⟨_,_,vs,_,p⟩:=(show ObjOk X.prog X.w H s.heap a (.dK kvs) from I.hok a _ ea)
  obtain ⟨o,es,ep,h1,h2,_⟩:=p
  exact PySem.W.kia_one PySem.W.kitx_dict I.kIn ⟨o,h1,h2.1⟩ e (fun z=>nomatch z) h
 | @dT a kvs ea=>
  cases (show u=Value.ref a from rx)
  obtain ⟨_,_,xs,_,o,es,ep,h1,h2,_⟩:=(show ObjOk X.prog X.w H s.heap a (.dT kvs) from I.hok a _ ea)
  exact PySem.W.kia_one PySem.W.kitx_dict I.kIn ⟨o,h1,h2.1⟩ e (fun z=>nomatch z) h
 | @ins a C dx fs ea cl ha hn htk hm=>
  cases (show u=Value.ref a from rx)
  obtain ⟨mA,O,_⟩:=zQ I.hok ea
  obtain ⟨od,J,_⟩:=O.look
  exact PySem.W.kia_one (PySem.W.kitx_own (cl.get _) cl.hd ha hn htk hm) I.kIn J e (fun z=>nomatch z) h
end
structure Room (k:Nat) (A:Around):Prop where
 hd:A.handled=none
 dp:A.depth + 3 * k + 5 < recursionLimit
 un:A.units + 16 * k + 200 < cLine
 gd:A.guards=some []
theorem Room.mono {j k:Nat} {A:Around} (r:Room k A) (h:j≤k):Room j A:=⟨r.hd,by have:=r.dp; omega,by have:=r.un; omega,r.gd⟩
theorem Room.deeper {k:Nat} {A:Around} (r:Room (k + 1) A) (env:Env):Room k (A.deeper env):=⟨r.hd,by have:=r.dp; show A.depth + 1 + 3 * k + 5 < _; omega,by have:=r.un; show A.units + 3 + 16 * k + 200 < _; omega,r.gd⟩
theorem Room.depth {k:Nat} {A:Around} (r:Room k A):A.depth < recursionLimit:=by have:=r.dp; omega
def lE:TA:=fun _ H Q=>Q [] H
def iV (ta:TE) (tr:TA):TA:=fun σ H Q=>ta σ H fun x H1=>tr σ H1 fun xs H2=>Q (x::xs) H2
section
variable {X:Cx} {e:Expr} {es:List Expr} {te:TE} {t:TA} {pos:Pos}
theorem dO:PA X [] lE:=fun _ _ _ _ H Q I h=>Calls.spliced_nil ⟨[],H,I,.nil,h⟩
theorem cq (ha:PE X e te) (hr:PA X es t) (hs:starEach (e::es) X.env=(false,eval e X.env)::starEach es X.env:=by rfl):PA X (e::es) (iV te t):=by
 intro pos pins s σ H Q I h
 rw [hs]
 show wpAny _ _ (spliced ((false,eval e X.env)::backTo pos (starEach es X.env))) _ _ s
 refine Calls.spliced_cons (thn (ha pins s σ H _ I h) fun u s1 ⟨x,H1,I1,r1,q1⟩=>?_)
 exact thn (hr pos pins s1 σ H1 _ I1 q1) fun us s2 ⟨xs,H2,I2,r2,q2⟩=>⟨x::xs,H2,I2,.cons r1 r2,q2⟩
def Dm (t:TA):TE:=fun σ H Q=>t σ H fun xs H1=>xs.length≤sizeLine∧∀ p,H1 p=none→Q (.ref p) (upd H1 p (.tup xs))
def Ds (t:TA):TE:=fun σ H Q=>t σ H fun xs H1=>xs.length≤sizeLine∧∀ p,H1 p=none→Q (.ref p) (upd H1 p (.lst xs))
theorem nq {x1} (h:PA X es t):PE X (.Tuple es x1 pos) (Dm t):=by
 intro pins s σ H Q I hq
 refine wpAny_Tuple_spliced (thn (h pos pins s σ H _ I hq) fun us s1 ⟨xs,H1,I1,r,z,q⟩=>⟨by rw [← r.length]; exact z,?_⟩)
 have hf:H1 s1.heap.objs.size=none:=I1.hok.fresh (Nat.le_refl _)
 refine ⟨.ref s1.heap.objs.size,upd H1 s1.heap.objs.size (.tup xs),I1.laid (t':=s1.toks) (fun b u e=>Heap.get?_push_of_some _ e) (Nat.le_refl _) ?_,rfl,q _ hf⟩
 exact ⟨z,us,r,⟨_,Heap.get?_push_size _ rfl,rfl,_,rfl⟩⟩
theorem so (h:PA X es t):PE X (.List es pos) (Ds t):=by
 intro pins s σ H Q I hq
 refine wpAny_List_spliced (thn (h pos pins s σ H _ I hq) fun us s1 ⟨xs,H1,I1,r,z,q⟩=>⟨by rw [← r.length]; exact z,?_⟩)
 have hf:H1 s1.heap.objs.size=none:=I1.hok.fresh (Nat.le_refl _)
 refine ⟨.ref s1.heap.objs.size,upd H1 s1.heap.objs.size (.lst xs),I1.laid (t':=s1.toks) (fun b u e=>Heap.get?_push_of_some _ e) (Nat.le_refl _) ?_,rfl,q _ hf⟩
 exact ⟨z,us,0,r,Heap.get?_push_size _ rfl⟩
end
abbrev Sp:=List V→Hp→VK→XK→Prop
abbrev CXT:=List Env→Hp→Shared→XK→Value→Shared→Prop
structure Env0 (P:Program) (w:World) (K:Frag) (mg:Str→Option Value) (base:Heap) (A:Around) (outer:List Env) (s:Shared) (H:Hp):Prop where
 frames:A.frames=some outer
 mod:Mod K mg base
 bs:∀ b o,base.get? b=some o→s.heap.get? b=some o∧H b=none
 bsz:base.objs.size≤s.heap.objs.size
 funs:s.heap.FunFrames base outer
 frf:∀ b∈frs outer,H b=none
 hok:HOk P w H s.heap
 bare:AllBare s.gens
def CE (outer:List Env) (P:Program) (w:World) (H:Hp) (s:Shared) (Q:VK) (u:Value) (s':Shared):Prop:=∃ v H',s'.os=s.os∧AllBare s'.gens∧Un (frs outer) [] H H' s.heap s'.heap∧HOk P w H' s'.heap∧RelV v u∧Q v H'
def CR (CX:CXT) (outer:List Env) (P:Program) (w:World) (H:Hp) (s:Shared) (Q:VK) (E:XK) (r:Result) (s':Shared):Prop:=
 match r with
 | .ok (.ret u)=>CE outer P w H s Q u s'
 | .ok _=>False
 | .error e=>CX outer H s E e s'
structure FnOk (P:Program) (w:World) (K:Frag) (mg:Str→Option Value) (base:Heap) (CX:CXT) (k:Nat) (f:Addr) (fd:FuncData) (ps:List Str) (sp:Sp):Prop where
 len:∀ vs H Q E,sp vs H Q E→vs.length=ps.length
 run:∀ (A:Around) (outer:List Env) (s:Shared) (H:Hp) (args:Args) (us:List Value) (vs:List V) (Q:VK) (E:XK),Room k A→Env0 P w K mg base A outer s H→BindsTo s fd args (ps.zip us)→Vals vs us→sp vs H Q E →
  codeAny (model P w) A (.call (.ref f) args) (CR CX outer P w H s Q E) s
section
variable {X:Cx} {pins:List (Addr×Obj)} {σ:St} {H:Hp} {s s':Shared}
theorem Inv.env0 (I:Inv X pins σ H s):Env0 X.prog X.w X.K X.mg X.base X.A X.stack s H:=⟨I.ok.frames,I.ok.mod,I.bs,Nat.le_trans I.ok.bsz I.sz,I.stack,I.stkFree,I.hok,I.bare⟩
theorem Inv.after {Q:VK} {u:Value} (I:Inv X pins σ H s) (h:CE X.stack X.prog X.w H s Q u s'):EP X pins σ Q u s':=by
 obtain ⟨v,H',os,bare,un,hok,r,q⟩:=h
 obtain ⟨hh,g,d,t,os'⟩:=s'
 obtain rfl:os'=s.os:=os
 exact ⟨v,H',I.call (h':=hh) (g':=g) (d':=d) (t':=t) (ch:=[]) un hok bare (fun b z=>absurd z (by simp)),r,q⟩
end
def tm (sp:Sp) (dvs:List V) (E:XK) (t:TA):TE:=fun σ H Q=>t σ H fun vs H1=>sp (vs++dvs) H1 Q E
def Binds (K:Frag) (fd:FuncData) (ps:List Str) (ds:List Value):Prop:=∀ (s:Shared) (us:List Value),K.In s.heap→(us++ds).length=ps.length→BindsTo s fd ⟨us,[]⟩ (ps.zip (us++ds))
theorem Binds.all {K:Frag} {fd:FuncData} {ps:List Str} (h:∀ us:List Value,us.length=ps.length→bindArgs fd ⟨us,[]⟩=pure (ps.zip us)):Binds K fd ps []:=fun s us _ hl=>by
 rw [List.append_nil] at hl ⊢
 exact .of_eq (h us hl)
def nL (CX:CXT) (X:Cx) (E:XK):Prop:=∀ (pins:List (Addr×Obj)) (σ:St) (H:Hp) (s:Shared) (e:Value) (s':Shared),Inv X pins σ H s→CX X.stack H s E e s'→X.xe e s'
section
variable {X:Cx} {CX:CXT} {k:Nat} {f C:Addr} {fd:FuncData} {ps:List Str} {sp:Sp} {dvs:List V} {ds:List Value} {E:XK} {x m:Str} {p pos apos:Pos} {e o:Expr} {es:List Expr} {ta:TE} {t:TA}
theorem AQ {pins:List (Addr×Obj)} {σ:St} {H:Hp} {s:Shared} {Q:VK} {us:List Value} {vs:List V} (F:FnOk X.prog X.w X.K X.mg X.base CX k f fd ps sp) (hr:Room k X.A) (hb:Binds X.K fd ps ds) (hd:Vals dvs ds) (hx:nL CX X E)
  (I:Inv X pins σ H s) (r:Vals vs us) (h:sp (vs++dvs) H Q E):wpAny (model X.prog X.w) X.A (call (.ref f) us) (EP X pins σ Q) X.xe s:=by
 have r2:Vals (vs++dvs) (us++ds):=r.append hd
 have hl:(us++ds).length=ps.length:=by rw [← r2.length]; exact F.len _ _ _ _ h
 refine wpAny_call (codeAny_mono (F.run X.A X.stack s H ⟨us,[]⟩ (us++ds) (vs++dvs) Q E hr I.env0 (hb s us I.kIn hl) r2 h) fun r s' hq=>?_)
 cases r with
 | error e=>exact hx pins σ H s e s' I hq
 | ok fl=>
  cases fl with
  | ret u=>exact I.after hq
  | next=>exact False.elim hq
  | brk=>exact False.elim hq
  | cont=>exact False.elim hq
theorem zq (F:FnOk X.prog X.w X.K X.mg X.base CX k f fd ps sp) (hr:Room k X.A) (hg:Gl X x) (hm:X.mg x=some (.ref f)) (hk:PySem.W.keepIn X.K (.ref f)=true) (hb:Binds X.K fd ps ds) (hd:Vals dvs ds) (hx:nL CX X E)
  (ha:PA X (e::es) t) (hdb:(x == ("__debug__" : Str))=false:=by decide) (he:starEach (e::es) X.env=(false,eval e X.env)::starEach es X.env:=by rfl) (hpl:(backTo pos (starEach es X.env)).any (·.1)=false:=by rfl) :
  PE X (.Call (.Name x p) (e::es) [] pos) (tm sp dvs E t):=by
 intro pins s σ H Q I h
 refine wpAny_Call_Name_kw (qS I hg hm ?_ hdb)
 refine PySem.W.callWith_K (h₀:=X.base) I.ok.mod.kin hk (thn (ha pos pins s σ H _ I h) fun us s1 ⟨vs,H1,I1,r,q⟩=>⟨I1.kIn,?_⟩) he hpl
 exact AQ F hr hb hd hx I1 r q
structure Mk (K:Frag) (C f:Addr):Prop where
 makes:PySem.W.makesIn K C=true
 init:PySem.W.findIn K (.ref C) "__init__" = some (some (.ref f))
 fn:PySem.W.isFn K (.ref f)=true
 kp:PySem.W.keepIn K (.ref C)=true
end
section
variable {X:Cx} {CX:CXT} {k:Nat} {f C:Addr} {fd:FuncData} {ps ks:List Str} {sp:Sp} {E:XK} {x m:Str} {p pos apos kpos:Pos} {e o:Expr} {es:List Expr} {kws:List Keyword} {te ta:TE} {t tk:TA} {nm:Option Str}
structure KBinds (K:Frag) (fd:FuncData) (ps ks:List Str) (g:List Value→List Value→List Value) (gV:List V→List V→List V):Prop where
 to:∀ (s:Shared) (us ws:List Value),K.In s.heap→(g us ws).length=ps.length→BindsTo s fd ⟨us,ks.zip ws⟩ (ps.zip (g us ws))
 rel:∀ {vs:List V} {us:List Value} {zs:List V} {ws:List Value},Vals vs us→Vals zs ws→Vals (gV vs zs) (g us ws)
variable {g:List Value→List Value→List Value} {gV:List V→List V→List V}
end
structure FnScope (N P:List Str) (sc:Scope):Prop where
 kind:sc.kind=.function
 co:sc.isCoroutine=false
 gen:sc.isGenerator=false
 nd:N.Nodup
 pre:N.take P.length=P
 par:∀ x∈P,sc.names.lookup x=some .local∨sc.names.lookup x=some .cell
 nofree:∀ y∈sc.names,y.2≠.free
theorem pL {kindOf:Str→Option NameKind} {x:Str}:∀ {binds:List (Str×Value)} {m:Str→Option Value},(∀ v,(x,v)∉binds)→bindL kindOf binds m x=m x
 | [],_,_=>rfl
 | (n,v)::r,m,h=>by
  unfold bindL
  rw [pL fun w hw=>h w (List.mem_cons_of_mem _ hw)]
  split
  ·have:x≠n:=by rintro rfl; exact h v List.mem_cons_self
   simp [this]
  ·rfl
theorem pN {kindOf:Str→Option NameKind} {x:Str}:∀ {binds:List (Str×Value)} {m:Str→Option Value},(∀ v,(x,v)∉binds)→bindC kindOf binds m x=m x
 | [],_,_=>rfl
 | (n,v)::r,m,h=>by
  unfold bindC
  rw [pN fun w hw=>h w (List.mem_cons_of_mem _ hw)]
  split
  ·rfl
  ·have:x≠n:=by rintro rfl; exact h v List.mem_cons_self
   simp [this]
theorem pM {kindOf:Str→Option NameKind} {x:Str} {v:Value}:∀ {P:List Str} {vs:List Value} {i:Nat} {m:Str→Option Value},P.Nodup→P[i]? = some x→vs[i]? = some v→kindOf x=some .local →
  bindL kindOf (P.zip vs) m x=some v
 | [],_,_,_,_,h,_,_=>by simp at h
 | _::_,[],_,_,_,_,h,_=>by simp at h
 | p::P,w::vs,0,m,nd,h1,h2,hk=>by
  simp at h1 h2; subst h1; subst h2
  show bindL kindOf ((p,w)::P.zip vs) m p=_
  unfold bindL
  rw [pL fun v hv=>(List.nodup_cons.mp nd).1 (List.of_mem_zip hv).1,if_pos hk]
  simp
 | p::P,w::vs,i + 1,m,nd,h1,h2,hk=>by
  show bindL kindOf ((p,w)::P.zip vs) m x=_
  unfold bindL
  exact pM (i:=i) (List.nodup_cons.mp nd).2 (by simpa using h1) (by simpa using h2) hk
theorem pO {kindOf:Str→Option NameKind} {x:Str} {v:Value}:∀ {P:List Str} {vs:List Value} {i:Nat} {m:Str→Option Value},P.Nodup→P[i]? = some x→vs[i]? = some v→kindOf x≠some .local →
  bindC kindOf (P.zip vs) m x=some v
 | [],_,_,_,_,h,_,_=>by simp at h
 | _::_,[],_,_,_,_,h,_=>by simp at h
 | p::P,w::vs,0,m,nd,h1,h2,hk=>by
  simp at h1 h2; subst h1; subst h2
  show bindC kindOf ((p,w)::P.zip vs) m p=_
  unfold bindC
  rw [pN fun v hv=>(List.nodup_cons.mp nd).1 (List.of_mem_zip hv).1,if_neg hk]
  simp
 | p::P,w::vs,i + 1,m,nd,h1,h2,hk=>by
  show bindC kindOf ((p,w)::P.zip vs) m x=_
  unfold bindC
  exact pO (i:=i) (List.nodup_cons.mp nd).2 (by simpa using h1) (by simpa using h2) hk
def start (N:List Str) (vs:List V):St:=vs.map some++List.replicate (N.length - vs.length) none
def gU (CX:CXT) (P:Program) (w:World) (K:Frag) (mg:Str→Option Value) (base:Heap) (N:List Str) (qual:Str) (scope:Scope) (f:Addr) (cd:Value) (A:Around) (outer:List Env) (s:Shared) (H:Hp) (E:XK):Cx where
 prog:=P
 w:=w
 K:=K
 mg:=mg
 base:=base
 A:=A.deeper (envOfC qual scope s.heap.objs.size f cd)
 N:=N
 s₀:=s
 H₀:=H
 env:=envOfC qual scope s.heap.objs.size f cd
 outer:=outer
 stack:=envOfC qual scope s.heap.objs.size f cd::outer
 ex:=[]
 calm:=true
 fn:=fun _=>true
 pn:=[]
 xe:=fun e s'=>wpAny (model P w) (A.deeper (envOfC qual scope s.heap.objs.size f cd)) (leaving (envOfC qual scope s.heap.objs.size f cd) e) (fun _ s''=>CX outer H s E e s'') (fun e' s''=>CX outer H s E e' s'') s'
theorem qm {sc:Scope} {n:Nat} {x:Str} (h:sc.names.lookup x=some .cell):∃ c,(cellsFrom n sc.names []).lookup x=some c:=by
 have q:=PySem.W.cellsFrom_some sc.names n [] (.inl h)
 exact Option.isSome_iff_exists.mp q
theorem xc {CX:CXT} {P:Program} {w:World} {K:Frag} {mg:Str→Option Value} {base:Heap} {N ps:List Str} {qual:Str} {scope:Scope} {f:Addr} {cd:Value} {A:Around} {outer:List Env} {s s1:Shared} {H:Hp} {E:XK} {us:List Value} {vs:List V}
  (S:FnScope N ps scope) (hd:A.handled=none) (e0:Env0 P w K mg base A outer s H) (hl:vs.length=ps.length) (r:Vals vs us)
  (x:InCallC s s.heap.objs.size (bindL (envOfC qual scope s.heap.objs.size f cd).kindOf (ps.zip us) fun _=>none) (cellsFrom (s.heap.objs.size + 1) scope.names []) (bindC (envOfC qual scope s.heap.objs.size f cd).kindOf (ps.zip us) fun _=>none) s1) :
  Inv (gU CX P w K mg base N qual scope f cd A outer s H E) [] (start N vs) H s1:=by
 have hpl:ps.length≤N.length:=by have:=congrArg List.length S.pre; rw [List.length_take] at this; omega
 obtain ⟨h1,tk,rfl,hk⟩:=x.done
 have noA:∀ b:Addr,b∉(gU CX P w K mg base N qual scope f cd A outer s H E).ex:=fun b z=>absurd (show b∈([]:List Addr) from z) (by simp)
 refine ⟨⟨e0.mod,S.kind,rfl,rfl,Nat.le_refl _,fun y z c h1 h2=>?_,fun y hy=>?_,fun y c _ h=>?_,fun _=>hd,Around.frames_deeper e0.frames,.inr ⟨rfl,rfl⟩,fun b z=>absurd z (noA b),e0.bs,e0.bsz,fun b _ _=>noA b,fun b z=>absurd z (noA b),e0.funs,e0.frf⟩,
  rfl,e0.bare,Un.kept hk,⟨_,x.toInCall.ns,fun i y v h1 h2 h3=>?_⟩,fun y c h=>⟨_,x.cell y c h⟩,e0.hok.fresh (Nat.le_refl _),fun y c h=>?_,fun p hp=>absurd (show p∈([]:List (Addr×Obj)) from hp) (by simp),e0.hok.kept hk,?_⟩
 ·exact name_of_addr x.apart (PySem.mem_of_lookup h1) (PySem.mem_of_lookup h2)
 ·have hy:scope.names.lookup y=some .cell∨scope.names.lookup y=some .free:=hy
  rcases hy with hy | hy
  ·exact qm hy
  ·exact absurd rfl (S.nofree _ (PySem.mem_of_lookup hy))
 ·exact Nat.le_of_lt (x.above y c (PySem.mem_of_lookup h))
 ·have hi:i < vs.length:=by
   unfold start at h2
   by_cases hi:i < vs.length
   ·exact hi
   ·rw [List.getElem?_append_right (by simpa using hi)] at h2
    rw [List.getElem?_replicate] at h2
    split at h2 <;> cases h2
  have ha:vs[i]? = some v:=by
   unfold start at h2
   rw [List.getElem?_append_left (by simpa using hi),List.getElem?_map] at h2
   cases e:vs[i]? with
   | none=>rw [e] at h2; cases h2
   | some a=>rw [e] at h2; cases h2; rfl
  obtain ⟨u,hu,rv⟩:=r.get ha
  have hp:ps[i]? = some y:=by
   rw [← S.pre,List.getElem?_take_of_lt (by omega)]; exact h1
  have ndP:ps.Nodup:=by rw [← S.pre]; exact S.nd.sublist (List.take_sublist _ _)
  refine ⟨u,rv,?_⟩
  rcases S.par y (List.mem_of_getElem? hp) with k | k
  ·exact .inl ⟨k,pM ndP hp hu k⟩
  ·obtain ⟨c,e⟩:=qm (n:=s.heap.objs.size + 1) k
   refine .inr ⟨.inl k,c,e,?_⟩
   have q:=x.cell y c e
   rw [pO ndP hp hu (by show scope.names.lookup y≠_; rw [k]; decide)] at q
   exact q
 ·exact e0.hok.fresh (Nat.le_of_lt (x.above y c (PySem.mem_of_lookup h)))
 ·unfold start
  show _=N.length
  rw [List.length_append,List.length_map,List.length_replicate]
  omega
theorem C2 {CX:CXT} {P:Program} {w:World} {K:Frag} {mg:Str→Option Value} {base:Heap} {k:Nat} {f:Addr} {name qual:Str} {params:Arguments} {body:List Stmt} {scope:Scope} {dV kV doc pm cdv ct oc:Value} {an od:Option Addr}
  {osl:Array (Option Value)} {N ps:List Str} {sp:Sp} (lk:K.lookup f=some ⟨oc,od,.func (PySem.W.fnOf name qual params body scope dV kV doc pm an cdv ct),osl⟩) (hcd:PySem.W.codeIn K cdv qual=true) (S:FnScope N ps scope)
  (len:∀ vs H Q E,sp vs H Q E→vs.length=ps.length)
  (hbody:∀ (A:Around) (outer:List Env) (s:Shared) (H:Hp) (vs:List V) (Q:VK) (E:XK),Room k (A.deeper (envOfC qual scope s.heap.objs.size f cdv))→sp vs H Q E →
   ∃ t,PSs (gU CX P w K mg base N qual scope f cdv A outer s H E) body t∧t { nx:=fun _ H'=>Q .non H',rt:=Q } (start N vs) H) :
  FnOk P w K mg base CX (k + 1) f (PySem.W.fnOf name qual params body scope dV kV doc pm an cdv ct) ps sp:=by
 refine ⟨len,fun A outer s H args us vs Q E hr e0 hb r hsp=>?_⟩
 have hl:=len _ _ _ _ hsp
 have KX:K.In s.heap:=e0.mod.kin.keeps fun b o e=>(e0.bs b o e).1
 have lim:s.heap.NoLimit:=e0.mod.nolimit.keeps fun b o e=>(e0.bs b o e).1
 have hkind:∀ y∈ps.zip us,scope.names.lookup y.1=some .local∨(scope.names.lookup y.1=some .cell∧((cellsFrom (s.heap.objs.size + 1) scope.names []).lookup y.1).isSome=true):=fun ⟨n,v⟩ hy=>by
  rcases S.par n (List.of_mem_zip hy).1 with q | q
  ·exact .inl q
  ·exact .inr ⟨q,PySem.W.cellsFrom_some _ _ _ (.inl q)⟩
 refine codeAny_call_function hr.depth (KX _ _ lk) rfl S.co S.gen rfl (PySem.W.codeRec_of KX hcd) (hb _ _ _ _ ?_)
 refine wpAny_newFunctionEnv_cells S.kind hkind fun env he s1 x=>?_
 subst he
 refine ⟨lim.keeps x.toInCall.keep,codeAny_func ?_⟩
 obtain ⟨t,ht,hq⟩:=hbody A outer s H vs Q E (hr.deeper _) hsp
 have I:Inv (gU CX P w K mg base N qual scope f cdv A outer s H E) [] (start N vs) H s1:=xc S hr.hd e0 hl r x
 refine wpAny_mono (ht [] s1 (start N vs) H _ I hq) (fun fl s' hs=>?_) fun e s' hs=>hs
 have fin:∀ {σ':St} {H':Hp} {v:V} {u:Value},Inv (gU CX P w K mg base N qual scope f cdv A outer s H E) [] σ' H' s'→RelV v u→Q v H'→CE outer P w H s Q u s':=
  fun {σ' H' v u} J rv q=>⟨v,H',J.os,J.bare,J.base,J.hok,rv,q⟩
 cases fl with
 | ret u=>
  obtain ⟨v,σ',H',J,rv,q⟩:=hs
  exact fin J rv q
 | next=>
  obtain ⟨σ',H',J,q⟩:=hs
  exact fin (v:=V.non) (u:=Value.none) J rfl q
 | brk=>
  obtain ⟨_,_,_,q⟩:=hs
  exact False.elim q
 | cont=>
  obtain ⟨_,_,_,q⟩:=hs
  exact False.elim q
section
variable {X:Cx} {x:Str} {p pos:Pos} {e:Expr} {es:List Expr} {t:TA} {id T:String} {r:List V→Hp→VK→Prop}
def tCB (r:List V→Hp→VK→Prop) (t:TA):TE:=fun σ H Q=>t σ H fun vs H1=>r vs H1 Q
theorem ms (hc:CallR X (.builtin id) r) (hg:Gl X x) (hm:X.mg x=none) (hv:bootBuiltins x=some (.builtin id)) (ha:PA X (e::es) t) (hn:x≠"__name__":=by decide) (hdb:(x == ("__debug__" : Str))=false:=by decide)
  (he:starEach (e::es) X.env=(false,eval e X.env)::starEach es X.env:=by rfl) (hpl:(backTo pos (starEach es X.env)).any (·.1)=false:=by rfl):PE X (.Call (.Name x p) (e::es) [] pos) (tCB r t):=by
 intro pins s σ H Q I h
 refine wpAny_Call_Name_kw (h7 I hg hm hv ?_ hn hdb)
 exact PyProof.Rows.callWith_builtin1 (thn (ha pos pins s σ H _ I h) fun us s1 ⟨vs,H1,I1,r1,q1⟩=>hc pins s1 σ H1 vs us Q I1 r1 q1) he hpl
theorem wK (hc:CallR X (.type T) r) (hg:Gl X x) (hm:X.mg x=none) (hv:bootBuiltins x=some (.type T)) (ha:PA X (e::es) t) (hn:x≠"__name__":=by decide) (hdb:(x == ("__debug__" : Str))=false:=by decide)
  (he:starEach (e::es) X.env=(false,eval e X.env)::starEach es X.env:=by rfl) (hpl:(backTo pos (starEach es X.env)).any (·.1)=false:=by rfl):PE X (.Call (.Name x p) (e::es) [] pos) (tCB r t):=by
 intro pins s σ H Q I h
 refine wpAny_Call_Name_kw (h7 I hg hm hv ?_ hn hdb)
 exact PyProof.Rows.callWith_type1 (thn (ha pos pins s σ H _ I h) fun us s1 ⟨vs,H1,I1,r1,q1⟩=>hc pins s1 σ H1 vs us Q I1 r1 q1) he hpl
end
end L2
namespace HT
open PySem PyProof.Rows
section
open PySem.SeqAt
open PySem.AutoSeq1 (wpAny_loadPart')
open PySem.MeetsSeq PySem.MeetsSeq2 PySem.MeetsSeq3
end
section
variable {prog:Program} {w:World} {A:Around} {E:Value→Shared→Prop} {s:Shared}
theorem Ag {t b:Addr} {vs ws:List Value} {Q:Value→Shared→Prop} (ht:IsTup s.heap t vs.toArray) (hb:IsTup s.heap b ws.toArray) (hv:vs≠[])
  (h1:ws=[]→Q (.ref t) s) (h2:ws≠[]→Q (.ref s.heap.objs.size) { s with heap:=s.heap.push { cls:=.type "tuple",data:=.seq (vs++ws).toArray } })
  (hsz:vs.length + ws.length≤sizeLine):wpAny (model prog w) A (binaryOp .Add (.ref t) (.ref b)) Q E s:=by
 obtain ⟨⟨cls,dd,data,sl⟩,ho,hc,n,hd⟩:=id ht
 obtain ⟨⟨cls2,dd2,data2,sl2⟩,ho2,hc2,n2,hd2⟩:=id hb
 simp only at hc hd hc2 hd2
 subst hc hd hc2 hd2
 have e:vs.toArray++ws.toArray=(vs++ws).toArray:=by simp
 by_cases hw:ws=[]
 ·exact concat_meets ⟨_,ho,rfl⟩ ⟨_,ho2,rfl⟩ noFill_tuple_add seq_tuple_add PySem.F.slot_tuple_add PySem.F.entry_tuple_add (PySem.F.args_tuple_add_2 _ _)
   (tuple_addW1 t b vs.toArray ws.toArray n n2 dd dd2 sl sl2 (by simpa using hv) (by simp [hw])) ⟨ho,ho2,h1 hw⟩
 ·refine concat_meets ⟨_,ho,rfl⟩ ⟨_,ho2,rfl⟩ noFill_tuple_add seq_tuple_add PySem.F.slot_tuple_add PySem.F.entry_tuple_add (PySem.F.args_tuple_add_2 _ _)
   (tuple_addW2 t b vs.toArray ws.toArray n n2 dd dd2 sl sl2 (by simpa using hv) (by simpa using hw) (by rw [List.size_toArray,List.size_toArray]; exact hsz)) ⟨ho,ho2,?_⟩
  rw [e]
  exact h2 hw
def sIx (n d:Nat):Option Int→Nat
 | none=>d
 | some v=>if v < 0 then (v + (n:Int)).toNat else min v.toNat n
theorem AL (n d:Nat) (hd:d≤n) (o:Option Int):sIx n d o≤n:=by
 cases o with
 | none=>exact hd
 | some v=>
  show (if v < 0 then (v + (n:Int)).toNat else min v.toNat n)≤n
  by_cases hv:v < 0
  ·rw [if_pos hv]; omega
  ·rw [if_neg hv]; exact Nat.min_le_right _ _
theorem rH (v:Int) (n d:Nat):(if v < 0 then max (v + (n:Int)) 0 else min v (n:Int))=((sIx n d (some v):Nat):Int):=by
 show (if v < 0 then max (v + (n:Int)) 0 else min v (n:Int))=(((if v < 0 then (v + (n:Int)).toNat else min v.toNat n):Nat):Int)
 by_cases hv:v < 0
 ·simp only [if_pos hv]; omega
 ·simp only [if_neg hv]; omega
theorem wo (lo hi:Option Int) (n:Nat):Builtin.Slice.sliceAdjust lo hi 1 (n:Int)=(((sIx n 0 lo:Nat):Int),((sIx n n hi:Nat):Int)):=by
 have h1:¬ ((1:Int) < 0):=by omega
 unfold Builtin.Slice.sliceAdjust
 simp only [h1,if_false]
 refine Prod.ext ?_ ?_
 ·cases lo with
  | none=>rfl
  | some v=>exact rH v n 0
 ·cases hi with
  | none=>rfl
  | some v=>exact rH v n n
theorem v8 (i j:Nat):Builtin.Slice.slicePlaces (i:Int) (j:Int) 1=j - i:=by
 unfold Builtin.Slice.slicePlaces
 have h1:(1:Int) > 0:=by omega
 simp only [h1,if_true,Int.ediv_one]
 split <;> omega
theorem oK {v:Value} {o:Option Int} {Q:Option Int→Shared→Prop} (p:IsPart v o) (h:Q o s):wpAny (model prog w) A (Builtin.Slice.slicePartIndex v) Q E s:=by
 cases p with
 | none=>exact slicePart_none h
 | int i t=>exact slicePart_int h
theorem oA {sl:Addr} {vl vu:Value} {lo hi:Option Int} {n:Nat} {Q:Int×Int×Nat→Shared→Prop} (hs:s.heap.IsSliceOf sl vl vu .none) (pl:IsPart vl lo) (pu:IsPart vu hi)
  (h:Q (((sIx n 0 lo:Nat):Int),1,sIx n n hi - sIx n 0 lo) s):wpAny (model prog w) A (Builtin.Slice.sliceApplied (.ref sl) (pure (n:Int))) Q E s:=by
 obtain ⟨os,hos,hcs,hds⟩:=id hs
 unfold Builtin.Slice.sliceApplied Builtin.Slice.sliceFields
 refine wpAny_bind (wpAny_bind (wpAny_field hos hds (x:=vl) rfl (wpAny_bind (wpAny_field hos hds (x:=vu) rfl (wpAny_bind (wpAny_field hos hds (x:=.none) rfl (wpAny_pure ?_)))))))
 refine wpAny_bind (slicePart_none ?_)
 show wpAny _ _ (if ((1:Int) == 0)=true then _ else _) _ _ s
 rw [if_neg (by decide)]
 refine wpAny_bind (oK pl (wpAny_bind (oK pu (wpAny_bind (wpAny_pure ?_)))))
 show wpAny _ _ (match Builtin.Slice.sliceAdjust lo hi 1 (n:Int) with | (lo,hi)=>pure (lo,(1:Int),Builtin.Slice.slicePlaces lo hi 1)) _ _ s
 rw [wo lo hi n]
 show wpAny _ _ (pure (((sIx n 0 lo:Nat):Int),(1:Int),Builtin.Slice.slicePlaces ((sIx n 0 lo:Nat):Int) ((sIx n n hi:Nat):Int) 1)) _ _ s
 rw [v8]
 exact wpAny_pure h
theorem xO (xs:Array Value) (i k:Nat):((List.range k).filterMap fun (m:Nat)=>xs[((i:Int) + (m:Int) * 1).toNat]?).toArray=((xs.toList.drop i).take k).toArray:=by
 have e:(fun (m:Nat)=>xs[((i:Int) + (m:Int) * 1).toNat]?)=fun m=>xs[i + m]?:=by
  funext m
  have:((i:Int) + (m:Int) * 1).toNat=i + m:=by omega
  rw [this]
 rw [e]
 have:=pick_run xs i k
 rw [List.filterMap_map] at this
 have e2:((fun x=>xs[x]?) ∘ fun x=>i + x)=fun m=>xs[i + m]?:=rfl
 rw [e2] at this
 rw [this]
theorem uB {t sl:Addr} {items:Array Value} {vl vu:Value} {lo hi:Option Int} {Q:Value→Shared→Prop} (ht:IsTup s.heap t items) (hs:s.heap.IsSliceOf sl vl vu .none) (pl:IsPart vl lo) (pu:IsPart vu hi)
  (hw:¬ (sIx items.size 0 lo=0∧sIx items.size items.size hi=items.size))
  (h:Q (.ref s.heap.objs.size) { s with heap:=s.heap.push { cls:=.type "tuple",data:=.seq ((items.toList.drop (sIx items.size 0 lo)).take (sIx items.size items.size hi - sIx items.size 0 lo)).toArray } })
  (hsz:items.size≤sizeLine):wpAny (model prog w) A (getItem (.ref t) (.ref sl)) Q E s:=by
 have htake:sizeOk (.seq ((items.toList.drop (sIx items.size 0 lo)).take (sIx items.size items.size hi - sIx items.size 0 lo)).toArray):=by
  show ((items.toList.drop (sIx items.size 0 lo)).take (sIx items.size items.size hi - sIx items.size 0 lo)).toArray.size≤sizeLine
  rw [List.size_toArray,List.length_take,List.length_drop,Array.length_toList]
  omega
 have hj:sIx items.size items.size hi≤items.size:=AL _ _ (Nat.le_refl _) hi
 obtain ⟨os,hos,hcs,hds⟩:=id hs
 have hTs:s.TypeIs (.ref sl) "slice":=⟨os,hos,hcs⟩
 unfold getItem
 try with_reducible refine wpAny_holding ?_
 first | refine wpAny_bind (wpAny_pure ?_) | skip
 refine wpAny_bind (wpAny_sequenceKey ht.typeIs (by decide) ?_)
 refine wpAny_bind (wpAny_callSpecial?_slot (name:=Str.ofString "__getitem__") ht.typeIs PyProof.Rows.slot_tuple_getitem
  (wpAny_call_entry PyProof.Rows.slot_tuple_getitem ht.typeIs entry_tuple_getitem ?_ (args_tuple_getitem _ _)))
 show wpAny _ _ (Builtin.Tuple.tupleItemsOf (.ref t) >>= _) _ _ s
 refine wpAny_bind (tupleItemsOf_ ht ?_)
 refine wpAny_bind (wpAny_typeOf hTs ?_)
 rw [if_pos (by decide)]
 refine wpAny_bind (oA hs pl pu ?_)
 have hno:¬ ((((sIx items.size 0 lo:Nat):Int) == 0 && (1:Int) == 1 && (sIx items.size items.size hi - sIx items.size 0 lo) == items.size)=true):=by
  intro q
  rw [Bool.and_eq_true,Bool.and_eq_true] at q
  have q1:((sIx items.size 0 lo:Nat):Int)=0:=eq_of_beq q.1.1
  have q2:sIx items.size items.size hi - sIx items.size 0 lo=items.size:=eq_of_beq q.2
  exact hw ⟨by omega,by omega⟩
 show wpAny _ _ (if (((sIx items.size 0 lo:Nat):Int) == 0 && (1:Int) == 1 && (sIx items.size items.size hi - sIx items.size 0 lo) == items.size)=true then _ else _) _ _ s
 rw [if_neg hno,xO]
 first
  | exact wpAny_bind (m:=Builtin.Tuple.tupleExact _) (wpAny_newObj_type (wpAny_pure ⟨_,rfl,wpAny_pure h⟩) htake)
  | exact wpAny_bind (m:=Builtin.Tuple.tupleExact _) (wpAny_newObj_type (wpAny_bind (wpAny_pure (wpAny_pure ⟨_,rfl,wpAny_pure h⟩))) htake)
  | exact wpAny_bind (wpAny_bind (m:=Builtin.Tuple.tupleExact _) (wpAny_newObj_type (wpAny_pure (wpAny_pure ⟨_,rfl,wpAny_pure h⟩)) htake))
  | exact wpAny_bind (wpAny_bind (m:=Builtin.Tuple.tupleExact _) (wpAny_newObj_type (wpAny_pure ⟨_,rfl,wpAny_pure h⟩) htake))
end
end HT
namespace L2
open PySem PySem.Spec PyProof.Rows
abbrev TO:=St→Hp→(Option Int→Hp→Prop)→Prop
def PO (X:Cx) (e:Option Expr) (t:TO):Prop:=
 ∀ (pins:List (Addr×Obj)) (s:Shared) (σ:St) (H:Hp) (Q:Option Int→Hp→Prop),Inv X pins σ H s→t σ H Q →
  wpAny (model X.prog X.w) X.A (evalPart e X.env) (fun u s'=>∃ o H',Inv X pins σ H' s'∧IsPart u o∧Q o H') X.xe s
def yQ:TO:=fun _ H Q=>Q none H
def B9 (t:TE):TO:=fun σ H Q=>t σ H fun x H1=>∃ i,x=.int i∧Q (some i) H1
section
variable {X:Cx} {e:Expr} {te:TE} {lo hi:Option Expr} {tl th:TO} {pos p2:Pos}
theorem zj:PO X none yQ:=by
 intro pins s σ H Q I h
 rw [evalPart_none]
 exact wpAny_pure ⟨none,H,I,.none,h⟩
theorem zi (h:PE X e te):PO X (some e) (B9 te):=by
 intro pins s σ H Q I hw
 rw [evalPart_some]
 refine thn (h pins s σ H _ I hw) fun u s1 ⟨x,H1,I1,r1,q1⟩=>?_
 obtain ⟨i,rfl,q⟩:=q1
 obtain ⟨t,rfl⟩:=r1
 exact ⟨some i,H1,I1,.int i t,q⟩
def SlR (X:Cx) (r:V→Option Int→Option Int→Hp→VK→Prop):Prop:=
 ∀ (pins:List (Addr×Obj)) (s:Shared) (σ:St) (H:Hp) (x:V) (v vl vu:Value) (lo hi:Option Int) (sl:Addr) (Q:VK),Inv X pins σ H s→RelV x v→s.heap.IsSliceOf sl vl vu .none→IsPart vl lo→IsPart vu hi→r x lo hi H Q →
  ∃ T id,typeLookup (.type T) "__getitem__" = pure (some (.builtin id))∧s.TypeIs v T∧wpAny (model X.prog X.w) X.A (getItem v (.ref sl)) (EP X pins σ Q) X.xe s
theorem SlR.or {r r':V→Option Int→Option Int→Hp→VK→Prop} (h:SlR X r) (h':SlR X r'):SlR X (fun x lo hi H Q=>r x lo hi H Q∨r' x lo hi H Q):=by
 intro pins s σ H x v vl vu lo hi sl Q I rx hs pl pu q
 rcases q with q | q
 ·exact h pins s σ H x v vl vu lo hi sl Q I rx hs pl pu q
 ·exact h' pins s σ H x v vl vu lo hi sl Q I rx hs pl pu q
def tSl (r:V→Option Int→Option Int→Hp→VK→Prop) (te:TE) (tl th:TO):TE:=fun σ H Q=>te σ H fun x H1=>tl σ H1 fun l H2=>th σ H2 fun u H3=>r x l u H3 Q
theorem xQ {r:V→Option Int→Option Int→Hp→VK→Prop} (hr:SlR X r) (he:PE X e te) (hl:PO X lo tl) (hu:PO X hi th):PE X (.Subscript e (.Slice lo hi none p2) pos) (tSl r te tl th):=by
 intro pins s σ H Q I h
 refine Subscript_ (thn (he pins s σ H _ I h) fun v s1 ⟨x,H1,I1,r1,q1⟩=>?_)
 refine wpAny_Slice (thn (hl pins s1 σ H1 _ I1 q1) fun vl s2 ⟨l,H2,I2,pl,q2⟩=>thn (hu pins s2 σ H2 _ I2 q2) fun vu s3 ⟨u,H3,I3,pu,q3⟩=>?_)
 rw [evalPart_none]
 refine wpAny_pure ?_
 have I4:Inv X pins σ H3 { s3 with heap:=s3.heap.push { cls:=.type "slice",data:=.fields #[vl,vu,.none] } }:=I3.kept (t':=s3.toks) fun b ob q=>Heap.get?_push_of_some _ q
 obtain ⟨T,id,hT,ht,hg⟩:=hr pins { s3 with heap:=s3.heap.push { cls:=.type "slice",data:=.fields #[vl,vu,.none] } } σ H3 x v vl vu l u s3.heap.objs.size Q I4 r1 (Heap.IsSliceOf.new ..) pl pu q3
 show wpAny (model X.prog X.w) X.A (subscriptTail e (.Slice lo hi none p2) v (.ref s3.heap.objs.size)) (EP X pins σ Q) X.xe { s3 with heap:=s3.heap.push { cls:=.type "slice",data:=.fields #[vl,vu,.none] } }
 exact tail_any (ops:=[.ref s3.heap.objs.size,v]) ht hT hg (by with_unfolding_all rfl)
def gF (xs:List V) (lo hi:Option Int):List V:=(xs.drop (HT.sIx xs.length 0 lo)).take (HT.sIx xs.length xs.length hi - HT.sIx xs.length 0 lo)
theorem oF (xs:List V) (lo hi:Option Int):(gF xs lo hi).length≤xs.length:=by
 unfold gF
 rw [List.length_take,List.length_drop]
 omega
def Dy (K:Frag):V→Option Int→Option Int→Hp→VK→Prop:=fun x lo hi H Q=>∃ a xs,x=.ref a∧SqT K H a xs ∧
 ¬ (HT.sIx xs.length 0 lo=0∧HT.sIx xs.length xs.length hi=xs.length)∧∀ p,H p=none→Q (.ref p) (upd H p (.tup (gF xs lo hi)))
theorem AJ:SlR X (Dy X.K):=by
 intro pins s σ H x v vl vu lo hi sl Q I rx hs pl pu h
 obtain ⟨a,xs,rfl,hx,hw,q⟩:=h
 cases rx
 obtain ⟨its,r,ht,hz⟩:=I.tuple hx
 have hlen:its.toArray.size=xs.length:=by rw [List.size_toArray]; exact r.length.symm
 refine ⟨"tuple",_,PyProof.Rows.slot_tuple_getitem.lookup,ht.typeIs,?_⟩
 refine HT.uB ht hs pl pu (by rw [hlen]; exact hw) ?_ (by rw [hlen]; exact hz)
 rw [hlen]
 refine ⟨.ref s.heap.objs.size,_,I.laid (t':=s.toks) (o:=.tup (gF xs lo hi)) (fun b ob q=>Heap.get?_push_of_some _ q) (Nat.le_refl _) ?_,rfl,q _ (I.hok.fresh (Nat.le_refl _))⟩
 exact ⟨Nat.le_trans (oF xs lo hi) hz,_,(r.drop (HT.sIx xs.length 0 lo)).take (HT.sIx xs.length xs.length hi - HT.sIx xs.length 0 lo),IsTup.new _ _⟩
def Cq (K:Frag):R2:=fun x y H Q=>∃ a b xs ys,x=.ref a∧y=.ref b∧SqT K H a xs∧SqT K H b ys∧xs≠[]∧xs.length + ys.length≤sizeLine ∧
 (ys=[]→Q (.ref a) H)∧(ys≠[]→∀ p,H p=none→Q (.ref p) (upd H p (.tup (xs++ys))))
theorem Vals.nil_iff {xs:List V} {us:List Value} (r:Vals xs us):us=[]↔xs=[]:=by
 cases r with
 | nil=>simp
 | cons _ _=>simp
theorem zC:OpR X (binaryOp .Add) (Cq X.K):=by
 intro pins s σ H x y v u Q I rx ry h
 obtain ⟨a,b,xs,ys,rfl,rfl,ha,hb,hx,hz,q1,q2⟩:=h
 cases rx
 cases ry
 obtain ⟨its,r1,p1,_⟩:=I.tuple ha
 obtain ⟨its2,r2,p2,_⟩:=I.tuple hb
 refine HT.Ag p1 p2 (fun z=>hx (r1.nil_iff.mp z)) (fun z=>⟨.ref a,H,I,rfl,q1 (r2.nil_iff.mp z)⟩) (fun z=>?_) (by rw [← r1.length,← r2.length]; exact hz)
 refine ⟨.ref s.heap.objs.size,_,I.laid (t':=s.toks) (o:=.tup (xs++ys)) (fun b ob q=>Heap.get?_push_of_some _ q) (Nat.le_refl _) ?_,rfl,q2 (fun w=>z (r2.nil_iff.mpr w)) _ (I.hok.fresh (Nat.le_refl _))⟩
 exact ⟨by rw [List.length_append]; exact hz,_,r1.append r2,IsTup.new _ _⟩
end
def ixN (n:Nat) (i:Int):Option Nat:=if 0≤i then (if i < n then some i.toNat else none) else if -(n:Int)≤i then some (i + n).toNat else none
def atI {α:Type} (xs:List α) (i:Int):Option α:=(ixN xs.length i).bind fun j=>xs[j]?
theorem zN {n:Nat} {i:Int} {j:Nat} (h:ixN n i=some j):seqIndex? i n=some j∧j < n∧-(n:Int)≤i∧i < n:=by
 unfold ixN at h
 by_cases h0:0≤i
 ·rw [if_pos h0] at h
  by_cases h1:i < n
  ·rw [if_pos h1] at h
   have e:i.toNat=j:=Option.some.inj h
   exact ⟨by rw [seqIndex_of h0 h1,e],by omega,by omega,h1⟩
  ·rw [if_neg h1] at h; cases h
 ·rw [if_neg h0] at h
  by_cases h1 : -(n:Int)≤i
  ·rw [if_pos h1] at h
   have e:(i + n).toNat=j:=Option.some.inj h
   exact ⟨by rw [seqIndex_neg (by omega) h1,e],by omega,h1,by omega⟩
  ·rw [if_neg h1] at h; cases h
theorem mX {α:Type} {xs:List α} {i:Int} {v:α} (h:atI xs i=some v):∃ j,seqIndex? i xs.length=some j∧xs[j]? = some v∧j < xs.length∧-(xs.length:Int)≤i∧i < xs.length:=by
 unfold atI at h
 cases e:ixN xs.length i with
 | none=>rw [e] at h; cases h
 | some j=>
  rw [e] at h
  obtain ⟨h1,h2,h3,h4⟩:=zN e
  exact ⟨j,h1,h,h2,h3,h4⟩
theorem eY {α:Type} {xs:List α} {j:Nat} {v:α} (h:xs[j]? = some v):atI xs (j:Int)=some v:=by
 have hj:j < xs.length:=(List.getElem?_eq_some_iff.mp h).1
 have e:ixN xs.length (j:Int)=some j:=by
  unfold ixN
  rw [if_pos (by omega),if_pos (by omega)]; simp
 unfold atI; rw [e]; exact h
def rL (b:Expr):Prop:=∀ o i,subscripted b false o i=operate [o,i] (getItem o i)
def IxR (X:Cx) (r:R2):Prop:=
 ∀ (value slice:Expr) (pins:List (Addr×Obj)) (s:Shared) (σ:St) (H:Hp) (x y:V) (v u:Value) (Q:VK),Inv X pins σ H s→RelV x v→RelV y u→r x y H Q →
  subscripted slice false v u=operate [v,u] (getItem v u)→wpAny (model X.prog X.w) X.A (subscriptTail value slice v u) (EP X pins σ Q) X.xe s
def MtR (X:Cx) (id:String) (r:V→List V→Hp→VK→Prop):Prop:=
 ∀ (pins:List (Addr×Obj)) (s:Shared) (σ:St) (H:Hp) (x:V) (xs:List V) (v:Value) (us:List Value) (Q:VK),Inv X pins σ H s→RelV x v→Vals xs us→r x xs H Q →
  wpAny (model X.prog X.w) X.A (call (.builtin id) (v::us)) (EP X pins σ Q) X.xe s
section
variable {X:Cx} {a b:Expr} {ta tb:TE} {pos:Pos}
theorem IxR.or {r r':R2} (h:IxR X r) (h':IxR X r'):IxR X (fun x y H Q=>r x y H Q∨r' x y H Q):=by
 intro value slice pins s σ H x y v u Q I rx ry q hs
 rcases q with q | q
 ·exact h value slice pins s σ H x y v u Q I rx ry q hs
 ·exact h' value slice pins s σ H x y v u Q I rx ry q hs
theorem CB {r:R2} (hr:IxR X r) (ha:PE X a ta) (hb:PE X b tb) (hs:rL b):PE X (.Subscript a b pos) (tOp r ta tb):=by
 intro pins s σ H Q I h
 exact Subscript_ (ou ha hb I h fun v u s2 x y H2 I2 rx ry q=>hr a b pins s2 σ H2 x y v u Q I2 rx ry q (hs _ _))
def ue (K:Frag):R2:=fun x y H Q=>∃ p xs i v,x=.ref p∧y=.int i∧SqL K H p xs∧atI xs i=some v∧Q v H
def uc (K:Frag):R2:=fun x y H Q=>∃ p xs i v,x=.ref p∧y=.int i∧SqT K H p xs∧atI xs i=some v∧Q v H
def ud:R2:=fun x y H Q=>∃ z i c,x=.str z∧y=.int i∧z.length≤sizeLine∧atI z.cps.toList i=some c∧Q (.str ⟨#[c]⟩) H
theorem ix_list:IxR X (ue X.K):=by
 intro value slice pins s σ H x y v u Q I rx ry h hs
 obtain ⟨p,xs,i,z,rfl,rfl,hq,he,q⟩:=h
 cases rx
 obtain ⟨t,rfl⟩:=ry
 obtain ⟨its,r,pl,hz⟩:=I.list hq
 obtain ⟨j,h1,h2,h3,h4,h5⟩:=mX he
 obtain ⟨w,ew,rw'⟩:=r.get h2
 have hl:=r.length
 have hn:=iT
 have fin:EP X pins σ Q w s:=⟨z,H,I,rw',q⟩
 by_cases h0:0≤i
 ·have hj:i.toNat=j:=by
   rw [seqIndex_of h0 h5] at h1
   exact Option.some.inj h1
  exact item_listR pl.isList h0 (by omega) (by rw [hj]; simpa using ew) fin hs
 ·have hj:(i + (its.toArray.size:Int)).toNat=j:=by
   rw [seqIndex_neg (by omega) h4] at h1
   rw [List.size_toArray,← hl]
   exact Option.some.inj h1
  exact subscriptTail_builtinR (x:=w) pl.isList.typeIs slot_list_getitem.lookup
   (wpAny_getItem_list_neg (Q:=fun r s'=>r=w∧EP X pins σ Q r s') pl.isList (by omega) (by rw [List.size_toArray] <;> omega) (by omega) (by rw [hj]; simpa using ew) ⟨rfl,fin⟩) hs
theorem ix_tup:IxR X (uc X.K):=by
 intro value slice pins s σ H x y v u Q I rx ry h hs
 obtain ⟨p,xs,i,z,rfl,rfl,hq,he,q⟩:=h
 cases rx
 obtain ⟨t,rfl⟩:=ry
 obtain ⟨its,r,pl,hz⟩:=I.tuple hq
 obtain ⟨j,h1,h2,h3,h4,h5⟩:=mX he
 obtain ⟨w,ew,rw'⟩:=r.get h2
 have hl:=r.length
 have hn:=iT
 have fin:EP X pins σ Q w s:=⟨z,H,I,rw',q⟩
 exact subscriptTail_builtinR (x:=w) pl.typeIs slot_tuple_getitem.lookup
  (getItem_tuple (j:=j) (Q:=fun r s'=>r=w∧EP X pins σ Q r s') pl (by omega) (by omega) (by rw [List.size_toArray,← hl]; exact h1) (by simpa using ew) ⟨rfl,fin⟩) hs
theorem Bx:IxR X ud:=by
 intro value slice pins s σ H x y v u Q I rx ry h hs
 obtain ⟨z,i,c,rfl,rfl,hz,he,q⟩:=h
 obtain ⟨t,rfl⟩:=rx
 obtain ⟨t',rfl⟩:=ry
 obtain ⟨j,h1,h2,h3,h4,h5⟩:=mX he
 have hl:z.cps.toList.length=z.length:=by simp [Str.length]
 rw [hl] at h1 h4 h5
 have hn:=iT
 exact tail_any (typeIs_str s z t) slot_str_getitem.lookup (getItem_str (c:=c) (by
  have e1:decide (i < -(2 ^ 63:Int))=false:=decide_eq_false (by omega)
  have e2:decide (i≥2 ^ 63)=false:=decide_eq_false (by omega)
  rw [e1,e2,Bool.or_false]) (by rw [h1]; simpa using h2) ⟨.str ⟨#[c]⟩,H,I.tok _,⟨_,rfl⟩,q⟩) hs
def rIx (K:Frag):R2:=fun x y H Q=>ue K x y H Q∨uc K x y H Q∨ud x y H Q
theorem By:IxR X (rIx X.K):=ix_list.or (ix_tup.or Bx)
theorem u5 (lo hi:Option Int) (n:Nat):(sliceBounds lo hi none n).1=((HT.sIx n 0 lo:Nat):Int)∧(sliceBounds lo hi none n).2.1=((HT.sIx n n hi:Nat):Int)∧(sliceBounds lo hi none n).2.2=1:=by
 refine ⟨?_,?_,rfl⟩
 ·cases lo with
  | none=>simp [sliceBounds,HT.sIx]
  | some i=>
   simp only [sliceBounds,HT.sIx,Option.getD_none,show (1:Int) > 0 by decide,if_true]
   by_cases h:i < 0
   ·simp only [h,if_true] <;> omega
   ·simp only [h,if_false] <;> omega
 ·cases hi with
  | none=>simp [sliceBounds,HT.sIx]
  | some i=>
   simp only [sliceBounds,HT.sIx,Option.getD_none,show (1:Int) > 0 by decide,if_true]
   by_cases h:i < 0
   ·simp only [h,if_true] <;> omega
   ·simp only [h,if_false] <;> omega
theorem uN (its:List Value) (lo hi:Option Int):slicePick its.toArray lo hi none=((its.drop (HT.sIx its.length 0 lo)).take (HT.sIx its.length its.length hi - HT.sIx its.length 0 lo)).toArray:=by
 obtain ⟨h1,h2,h3⟩:=u5 lo hi its.toArray.size
 unfold slicePick
 rw [h1,h2,h3]
 simp only [sliceRange_one,pick_run,List.size_toArray] <;> rfl
def Dz (K:Frag):V→Option Int→Option Int→Hp→VK→Prop:=fun x lo hi H Q=>∃ a xs,x=.ref a∧SqL K H a xs∧∀ p,H p=none→Q (.ref p) (upd H p (.lst (gF xs lo hi)))
theorem sl_list:SlR X (Dz X.K):=by
 intro pins s σ H x v vl vu lo hi sl Q I rx hs pl pu h
 obtain ⟨a,xs,rfl,hx,q⟩:=h
 cases rx
 obtain ⟨its,r,ht,hz⟩:=I.list hx
 have hlen:=r.length
 refine ⟨"list",_,slot_list_getitem.lookup,ht.isList.typeIs,?_⟩
 refine wpAny_getItem_list_slice ht.isList hs pl pu .none (by simp) ?_ (by rw [List.size_toArray] <;> omega)
 rw [uN,← hlen]
 refine ⟨.ref s.heap.objs.size,_,I.laid (t':=s.toks) (o:=.lst (gF xs lo hi)) (fun b ob q=>Heap.get?_push_of_some _ q) (Nat.le_refl _) ?_,rfl,q _ (I.hok.fresh (Nat.le_refl _))⟩
 exact ⟨Nat.le_trans (oF xs lo hi) hz,_,0,(r.drop (HT.sIx xs.length 0 lo)).take (HT.sIx xs.length xs.length hi - HT.sIx xs.length 0 lo),Heap.get?_push_size _ rfl⟩
def fQ:V→Bool
 | .non=>true
 | .bl _=>true
 | .int _=>true
 | .str _=>true
 | _=>false
def eqV:V→V→Bool
 | .non,.non=>true
 | .bl a,.bl b=>a == b
 | .bl a,.int b=>(if a then 1 else 0) == b
 | .int a,.bl b=>a == (if b then 1 else 0)
 | .int a,.int b=>a == b
 | .str a,.str b=>a == b
 | _,_=>false
theorem BM {A:Around} {s:Shared} {y x:V} {u v:Value} (ry:RelV y u) (rx:RelV x v) (fy:fQ y=true) (fx:fQ x=true):SeqAt.EqAt A s u v (eqV y x):=by
 cases y with
 | non=>
  cases ry
  cases x with
  | non=>cases rx; exact SeqAt.EqAt.same _
  | bl b=>cases rx; exact SeqAt.EqAt.none_bool b
  | int b=>obtain ⟨t,rfl⟩:=rx; exact SeqAt.EqAt.none_int b t
  | str b=>obtain ⟨t,rfl⟩:=rx; exact SeqAt.EqAt.none_str b t
  | _=>exact absurd (show false=true from fx) Bool.false_ne_true
 | bl a=>
  cases ry
  cases x with
  | non=>cases rx; exact SeqAt.EqAt.bool_none a
  | bl b=>cases rx; exact SeqAt.EqAt.bool_bool a b
  | int b=>obtain ⟨t,rfl⟩:=rx; exact SeqAt.EqAt.bool_int a b t
  | str b=>obtain ⟨t,rfl⟩:=rx; exact SeqAt.EqAt.bool_str a b t
  | _=>exact absurd (show false=true from fx) Bool.false_ne_true
 | int a=>
  obtain ⟨t',rfl⟩:=ry
  cases x with
  | non=>cases rx; exact SeqAt.EqAt.int_none a t'
  | bl b=>cases rx; exact SeqAt.EqAt.int_bool a t' b
  | int b=>obtain ⟨t,rfl⟩:=rx; exact SeqAt.EqAt.int_int a t' b t
  | str b=>obtain ⟨t,rfl⟩:=rx; exact SeqAt.EqAt.int_str a t' b t
  | _=>exact absurd (show false=true from fx) Bool.false_ne_true
 | str a=>
  obtain ⟨t',rfl⟩:=ry
  cases x with
  | non=>cases rx; exact SeqAt.EqAt.str_none a t'
  | bl b=>cases rx; exact SeqAt.EqAt.str_bool a t' b
  | int b=>obtain ⟨t,rfl⟩:=rx; exact SeqAt.EqAt.str_int a t' b t
  | str b=>obtain ⟨t,rfl⟩:=rx; exact SeqAt.EqAt.str_str a t' b t
  | _=>exact absurd (show false=true from fx) Bool.false_ne_true
 | _=>exact absurd (show false=true from fy) Bool.false_ne_true
def eqU (x:V) (u:Value):Bool:=match u with
 | .none=>eqV .non x
 | .bool b=>eqV (.bl b) x
 | .int i _=>eqV (.int i) x
 | .str z _=>eqV (.str z) x
 | _=>false
theorem sP {x y:V} {u:Value} (r:RelV y u) (f:fQ y=true):eqU x u=eqV y x:=by
 cases y with
 | non=>cases r; rfl
 | bl b=>cases r; rfl
 | int i=>obtain ⟨t,rfl⟩:=r; rfl
 | str z=>obtain ⟨t,rfl⟩:=r; rfl
 | _=>exact absurd (show false=true from f) Bool.false_ne_true
theorem jr {x:V}:∀ {xs:List V} {us:List Value},Vals xs us→xs.all fQ=true→us.any (eqU x)=xs.any fun y=>eqV y x
 | _,_,.nil,_=>rfl
 | y::xs,u::us,.cons r t,f=>by
  rw [List.all_cons,Bool.and_eq_true] at f
  rw [List.any_cons,List.any_cons,sP r f.1,jr t f.2]
theorem jl {A:Around} {s:Shared} {x:V} {v:Value} (rx:RelV x v) (fx:fQ x=true):∀ {xs:List V} {us:List Value},Vals xs us→xs.all fQ=true→∀ u∈us,SeqAt.EqAt A s u v (eqU x u)
 | _,_,.nil,_=>fun u hu=>by cases hu
 | y::xs,u::us,.cons r t,f=>fun u' hu=>by
  rw [List.all_cons,Bool.and_eq_true] at f
  rcases List.mem_cons.mp hu with rfl | hu
  ·rw [sP r f.1]; exact BM r rx f.1 fx
  ·exact jl rx fx t f.2 u' hu
def inV (x:V) (xs:List V):Bool:=xs.any fun y=>eqV y x
def rIn (K:Frag) (neg:Bool):R2:=fun x y H Q=>∃ p xs,y=.ref p∧(SqL K H p xs∨SqT K H p xs)∧fQ x=true∧xs.all fQ=true∧Q (.bl (if neg then !inV x xs else inV x xs)) H
theorem wM:OpR X (compareOp .In) (rIn X.K false):=by
 intro pins s σ H x y v u Q I rx ry h
 obtain ⟨p,xs,rfl,hq,fx,fs,q⟩:=h
 cases ry
 rcases hq with hq | hq
 ·obtain ⟨its,r,pl,hz⟩:=I.list hq
  refine SeqAt.in_listAt (eqU x) pl.isList (fun w hw=>jl rx fx r fs w (by simpa using hw)) ⟨.bl _,H,I,rfl,?_⟩
  rw [show its.toArray.any (eqU x)=its.any (eqU x) by simp,jr r fs]
  exact q
 ·obtain ⟨its,r,pl,hz⟩:=I.tuple hq
  refine SeqAt.in_tupleAt (eqU x) pl (fun w hw=>jl rx fx r fs w (by simpa using hw)) ⟨.bl _,H,I,rfl,?_⟩
  rw [show its.toArray.any (eqU x)=its.any (eqU x) by simp,jr r fs]
  exact q
theorem oB:OpR X (compareOp .NotIn) (rIn X.K true):=by
 intro pins s σ H x y v u Q I rx ry h
 obtain ⟨p,xs,rfl,hq,fx,fs,q⟩:=h
 cases ry
 rcases hq with hq | hq
 ·obtain ⟨its,r,pl,hz⟩:=I.list hq
  refine SeqAt.notIn_listAt (eqU x) pl.isList (fun w hw=>jl rx fx r fs w (by simpa using hw)) ⟨.bl _,H,I,rfl,?_⟩
  rw [show its.toArray.any (eqU x)=its.any (eqU x) by simp,jr r fs]
  exact q
 ·obtain ⟨its,r,pl,hz⟩:=I.tuple hq
  refine SeqAt.notIn_tupleAt (eqU x) pl (fun w hw=>jl rx fx r fs w (by simpa using hw)) ⟨.bl _,H,I,rfl,?_⟩
  rw [show its.toArray.any (eqU x)=its.any (eqU x) by simp,jr r fs]
  exact q
theorem call_len_seq:CallR X (.builtin "len") (fun xs H Q=>∃ p ys,xs=[.ref p]∧(SqL X.K H p ys∨SqT X.K H p ys)∧Q (.int ys.length) H):=by
 intro pins s σ H xs us Q I r h
 obtain ⟨p,ys,rfl,hq,q⟩:=h
 obtain ⟨u,rfl,rx⟩:=vals1 r
 cases rx
 have hn:=iT
 rcases hq with hq | hq
 ·obtain ⟨its,r',pl,hz⟩:=I.list hq
  have hlen:=r'.length
  exact Calls.call_len_list pl.isList (by simp only [List.size_toArray] <;> omega) ⟨.int ys.length,H,I.tok _,⟨s.toks + 1,by rw [List.size_toArray,hlen]⟩,q⟩
 ·obtain ⟨its,r',pl,hz⟩:=I.tuple hq
  have hlen:=r'.length
  exact len_tuple pl (by simp only [List.size_toArray] <;> omega) ⟨.int ys.length,H,I.tok _,⟨s.toks + 1,by rw [List.size_toArray,hlen]⟩,q⟩
theorem call_len_str:CallR X (.builtin "len") (fun xs H Q=>∃ z,xs=[.str z]∧z.length≤sizeLine∧Q (.int z.length) H):=by
 intro pins s σ H xs us Q I r h
 obtain ⟨z,rfl,hz,q⟩:=h
 obtain ⟨u,rfl,t,rfl⟩:=vals1 r
 have hn:=iT
 exact len_str (by omega) ⟨.int z.length,H,I.tok _,⟨_,rfl⟩,q⟩
theorem CallR.or {f:Value} {r r':List V→Hp→VK→Prop} (h:CallR X f r) (h':CallR X f r'):CallR X f (fun xs H Q=>r xs H Q∨r' xs H Q):=by
 intro pins s σ H xs us Q I rs q
 rcases q with q | q
 ·exact h pins s σ H xs us Q I rs q
 ·exact h' pins s σ H xs us Q I rs q
theorem vz:CallR X (.type "list") (fun xs H Q=>∃ p ys,xs=[.ref p]∧(SqL X.K H p ys∨SqT X.K H p ys)∧∀ l,H l=none→Q (.ref l) (upd H l (.lst ys))):=by
 intro pins s σ H xs us Q I r h
 obtain ⟨p,ys,rfl,hq,q⟩:=h
 obtain ⟨u,rfl,rx⟩:=vals1 r
 cases rx
 have fin:∀ (its:List Value),Vals ys its→ys.length≤sizeLine→∀ (h':Heap) (c':Nat),(∀ b o',s.heap.get? b=some o'→h'.get? b=some o') →
   h'.get? s.heap.objs.size=some { cls:=.type "list",dict:=none,data:=.seq its.toArray c',slots:=#[] }→EP X pins σ Q (.ref s.heap.objs.size) { s with heap:=h' }:=fun its r' hz h' c' kp e=>
  ⟨.ref s.heap.objs.size,_,I.laid (t':=s.toks) kp (Nat.le_refl _) (show ObjOk X.prog X.w _ h' _ (.lst ys) from ⟨hz,its,c',r',e⟩),rfl,q _ (I.hok.fresh (Nat.le_refl _))⟩
 rcases hq with hq | hq
 ·obtain ⟨its,r',pl,hz⟩:=I.list hq
  have hlen:=r'.length
  obtain ⟨o,ho,hc,n,hd⟩:=pl.isList
  exact call_list_seq p (.inl rfl) ho hc hd (fun h' c' kp e=>fin its r' hz h' c' kp e) (by simp only [List.size_toArray] <;> omega)
 ·obtain ⟨its,r',pl,hz⟩:=I.tuple hq
  have hlen:=r'.length
  obtain ⟨o,ho,hc,n,hd⟩:=pl
  exact call_list_seq p (.inr rfl) ho hc hd (fun h' c' kp e=>fin its r' hz h' c' kp e) (by simp only [List.size_toArray] <;> omega)
theorem uZ:CallR X (.type "tuple") (fun xs H Q=>∃ p ys,xs=[.ref p]∧((SqL X.K H p ys∧∀ l,H l=none→Q (.ref l) (upd H l (.tup ys)))∨(SqT X.K H p ys∧Q (.ref p) H))):=by
 intro pins s σ H xs us Q I r h
 obtain ⟨p,ys,rfl,h⟩:=h
 obtain ⟨u,rfl,rx⟩:=vals1 r
 cases rx
 rcases h with ⟨hq,q⟩ | ⟨hq,q⟩
 ·obtain ⟨its,r',pl,hz⟩:=I.list hq
  have hlen:=r'.length
  refine call_tuple_list pl.isList (fun h' kp=>?_) (by simp only [List.size_toArray] <;> omega)
  have I1:Inv X pins σ H { s with heap:=h' }:=I.kept (t':=s.toks) kp
  have I2:Inv X pins σ (upd H h'.objs.size (.tup ys)) { s with heap:=h'.push { cls:=.type "tuple",data:=.seq its.toArray } }:=
   I1.laid (t':=s.toks) (fun b o e=>Heap.get?_push_of_some _ e) (Nat.le_refl _) (show ObjOk X.prog X.w _ _ _ (.tup ys) from ⟨hz,its,r',IsTup.new _ _⟩)
  exact ⟨.ref h'.objs.size,_,I2,rfl,q _ (I1.hok.fresh (Nat.le_refl _))⟩
 ·obtain ⟨its,r',pl,hz⟩:=I.tuple hq
  exact call_tuple_same pl ⟨.ref p,H,I,rfl,q⟩
def tyV (K:Frag) (T:String) (x:V) (H:Hp):Prop:=match x with
 | .str _=>T = "str"
 | .int _=>T = "int"
 | .ref p=>(T = "list"∧∃ xs,SqL K H p xs)∨(T = "tuple"∧∃ o,K.lookup p=some o∧o.cls=.type "tuple"∧o.dict=none) ∨
   (T = "dict"∧((∃ kvs,H p=some (.dK kvs))∨∃ kvs,H p=some (.dT kvs)))∨(T = "set"∧∃ S n,H p=some (.set S n))
 | _=>False
theorem Av {pins:List (Addr×Obj)} {σ:St} {H:Hp} {s:Shared} {T:String} {x:V} {v:Value} (I:Inv X pins σ H s) (r:RelV x v) (ty:tyV X.K T x H) :
  s.TypeIs v T∧∀ a,v=.ref a→∃ ob,s.heap.get? a=some ob∧ob.dict=none:=by
 cases x with
 | str z=>
  obtain ⟨t,rfl⟩:=r
  cases (show T = "str" from ty)
  exact ⟨typeIs_str s z t,fun _ e=>nomatch e⟩
 | int i=>
  obtain ⟨t,rfl⟩:=r
  cases (show T = "int" from ty)
  exact ⟨typeIs_int s i t,fun _ e=>nomatch e⟩
 | ref p=>
  cases r
  rcases ty with ⟨rfl,xs,hq⟩ | ⟨rfl,o,hk,hc,hd⟩ | ⟨rfl,hk⟩ | ⟨rfl,S,n,hk⟩
  ·obtain ⟨its,_,pl,_⟩:=I.list hq
   refine ⟨pl.isList.typeIs,fun a e=>?_⟩
   cases e
   obtain ⟨o,n,e,c,hd,_⟩:=pl
   exact ⟨o,e,hd⟩
  ·refine ⟨⟨o,I.kIn p o hk,hc⟩,fun a e=>?_⟩
   cases e
   exact ⟨o,I.kIn _ o hk,hd⟩
  ·have z:∃ o,s.heap.get? p=some o∧o.ExactDict:=by
    rcases hk with ⟨kvs,hk⟩ | ⟨kvs,hk⟩
    ·obtain ⟨_,_,_,_,o,_,_,e,ex,_⟩:=I.hok p _ hk
     exact ⟨o,e,ex⟩
    ·obtain ⟨_,_,_,_,o,_,_,e,ex,_⟩:=I.hok p _ hk
     exact ⟨o,e,ex⟩
   obtain ⟨o,e,ex⟩:=z
   refine ⟨⟨o,e,ex.1⟩,fun a e2=>?_⟩
   cases e2
   exact ⟨o,e,ex.2.1⟩
  ·obtain ⟨o,_,_,_,e,ex,_⟩:=I.hok p _ hk
   refine ⟨⟨o,e,ex.1⟩,fun a e2=>?_⟩
   cases e2
   exact ⟨o,e,ex.2.1⟩
 | _=>exact False.elim ty
def tBM (K:Frag) (T:String) (r:V→List V→Hp→VK→Prop) (to:TE) (t:TA):TE:=fun σ H Q=>to σ H fun x H1=>tyV K T x H1∧t σ H1 fun xs H2=>r x xs H2 Q
variable {o e:Expr} {es:List Expr} {to:TE} {t:TA} {name:Str} {apos cpos:Pos} {T id:String} {r:V→List V→Hp→VK→Prop}
theorem jG (pa:PlainAttrs T) (slot:Slot T name id) (hty:typeOf (.builtin id)=pure (.type "method_descriptor")) (hm:MtR X id r) (ho:PE X o to) (ha:PA X (e::es) t)
  (hbase:attributeBase o name X.env (eval o X.env)=eval o X.env:=by rfl)
  (hfew:((backTo cpos (starEach (e::es) X.env)).all (fun x=>!x.1) && (backToKw cpos (keywordEach [] X.env)).all (fun x=>x.1.isSome)
   && decide ((e::es).length + ([]:List Keyword).length + (if ([]:List Keyword).isEmpty then 0 else 1) < 30))=true:=by rfl)
  (hline:(apos.endLine == cpos.line)=true:=by rfl) (hs:starEach (e::es) X.env=(false,eval e X.env)::starEach es X.env:=by rfl) (hplain:(backTo cpos (starEach es X.env)).any (·.1)=false:=by rfl) :
  PE X (.Call (.Attribute o name apos) (e::es) [] cpos) (tBM X.K T r to t):=by
 intro pins s σ H Q I h
 refine wpAny_Call_method_late hbase hfew hline rfl (thn (ho pins s σ H _ I h) fun v s1 ⟨x,H1,I1,r1,ty,q1⟩=>?_)
 obtain ⟨h1,h2⟩:=Av I1 r1 ty
 refine ⟨T,id,pa,slot,hty,h1,h2,?_⟩
 have hA:=ha cpos pins s1 σ H1 _ I1 q1
 rw [hs] at hA ⊢
 refine Calls.callWith_builtin (by show (false || (backTo cpos (starEach es X.env)).any (·.1))=false; rw [hplain] <;> rfl) (Calls.evalArgs_plain ?_)
 exact thn hA fun us s2 ⟨vs,H2,I2,r2,q2⟩=>hm pins s2 σ H2 x vs v us Q I2 r1 r2 q2
end
def MtM (X:Cx) (id:String) (r:V→List V→Hp→VK→Prop):Prop:=
 ∀ (pins:List (Addr×Obj)) (s:Shared) (σ:St) (H:Hp) (x:V) (xs:List V) (v:Value) (us:List Value) (Q:VK),Inv X pins σ H s→RelV x v→Vals xs us→r x xs H Q →
  wpAny (model X.prog X.w) X.A (call (.builtin id) (v::us)) (EP X pins σ Q) X.xe s
theorem Vals.one:∀ {x:V} {us:List Value},Vals [x] us→∃ u,us=[u]∧RelV x u
 | _,_,.cons r .nil=>⟨_,rfl,r⟩
theorem Vals.rep {xs:List V} {us:List Value} (h:Vals xs us):∀ k:Nat,Vals (List.replicate k xs).flatten (List.replicate k us).flatten
 | 0=>.nil
 | k + 1=>by
  rw [List.replicate_succ,List.replicate_succ,List.flatten_cons,List.flatten_cons]
  exact Vals.append h (Vals.rep h k)
theorem foldl_rep (its:List Value):∀ (k:Nat) (acc:List Value),
  List.foldl (fun x1 x2=>x1++x2) acc.toArray (List.replicate k its.toArray)=(acc++(List.replicate k its).flatten).toArray
 | 0,acc=>by simp
 | k + 1,acc=>by
  have e:acc.toArray++its.toArray=(acc++its).toArray:=by simp
  have e2:(acc++its)++(List.replicate k its).flatten=acc++(List.replicate (k + 1) its).flatten:=by
   rw [List.replicate_succ,List.flatten_cons,List.append_assoc]
  rw [← e2,← foldl_rep its k (acc++its),← e,List.replicate_succ,List.foldl_cons]
section
variable {X:Cx} {pins:List (Addr×Obj)} {σ:St} {H:Hp} {s:Shared} {l b:Addr} {xs ys zs:List V}
theorem Inv.lset {its its':List Value} {n:Nat} {f:Array Value→Array Value} {t':Nat} (I:Inv X pins σ H s) (hH:H l=some (.lst xs))
  (e:s.heap.get? l=some { cls:=.type "list",data:=.seq its.toArray n }) (hf:f its.toArray=its'.toArray) (hv:Vals ys its') (hz:ys.length≤sizeLine) :
  Inv X pins σ (upd H l (.lst ys)) { s with heap:=s.heap.update l (Obj.mapSeq f),toks:=t' }:=by
 have q:=PySem.IsL.update e f
 rw [hf] at q
 refine I.write (x:=l) (e:=l) (by rw [hH]; exact trivial) (.inl rfl) (fun b' u hb hu=>(Heap.get?_update_other s.heap (Obj.mapSeq f) (Ne.symm hb)).trans hu) ⟨_,q⟩ ?_
 exact ⟨hz,its',_,hv,q⟩
theorem Inv.lnew {its:List Value} {t':Nat} (I:Inv X pins σ H s) (hv:Vals ys its) (hz:ys.length≤sizeLine) :
  Inv X pins σ (upd H s.heap.objs.size (.lst ys)) { s with heap:=s.heap.push { cls:=.type "list",data:=.seq its.toArray },toks:=t' }:=I.laid (fun _ _ q=>Heap.get?_push_of_some _ q) (Nat.le_refl _) ⟨hz,its,0,hv,Heap.get?_push_size _ rfl⟩
theorem Inv.fresh (I:Inv X pins σ H s):H s.heap.objs.size=none:=I.hok.fresh (Nat.le_refl _)
theorem Inv.lstM (I:Inv X pins σ H s) (hH:H l=some (.lst xs)):xs.length≤sizeLine∧∃ (its:List Value) (n:Nat),Vals xs its∧xs.length=its.length∧s.heap.get? l=some { cls:=.type "list",data:=.seq its.toArray n }:=by
 obtain ⟨z,its,n,r,e⟩:=I.hok l _ hH
 exact ⟨z,its,n,r,r.length,e⟩
end
section
variable {X:Cx}
def yY:V→List V→Hp→VK→Prop:=fun x vs H Q=>∃ l xs y,x=.ref l∧vs=[y]∧H l=some (.lst xs)∧xs.length < sizeLine∧Q .non (upd H l (.lst (xs++[y])))
theorem wY:MtM X "list.append" yY:=by
 intro pins s σ H x vs v us Q I rx rv h
 obtain ⟨l,xs,y,rfl,rfl,hH,hz,q⟩:=h
 cases rx
 obtain ⟨u,rfl,ru⟩:=rv.one
 obtain ⟨z,its,n,r,hl,e⟩:=I.lstM hH
 refine call_meets F.slot_list_append ⟨_,e,rfl⟩ F.entry_list_append (F.args_list_append_2 _ _) (PySem.list_append l its.toArray n u (by rw [List.size_toArray]; omega)) ⟨e,?_⟩
 refine ⟨.non,_,I.lset (its':=its++[u]) hH e (by simp) (r.append (.cons ru .nil)) ?_,rfl,q⟩
 rw [List.length_append,List.length_singleton]
 omega
theorem len_rep {α:Type} (xs:List α) (k:Nat):(List.replicate k xs).flatten.length=k * xs.length:=by
 induction k with
 | zero=>simp
 | succ k ih=>rw [List.replicate_succ,List.flatten_cons,List.length_append,ih,Nat.succ_mul,Nat.add_comm]
end
section
variable {prog:Program} {w:World} {A:Around} {E:Value→Shared→Prop} {s:Shared}
end
section
variable {X:Cx}
end
section
variable {κ:Type} [DecidableEq κ]
def bT (kvs:List (κ×V)) (k:κ):Option V:=(kvs.find? fun kv=>decide (kv.1=k)).map (·.2)
def putK (kvs:List (κ×V)) (k:κ) (v:V):List (κ×V):=if (kvs.any fun kv=>decide (kv.1=k))=true then kvs.map (fun kv=>if kv.1=k then (kv.1,v) else kv) else kvs++[(k,v)]
theorem ml {p:κ×V} {r:List (κ×V)} {k:κ} (e:p.1=k):bT (p::r) k=some p.2:=by simp [bT,List.find?_cons,e]
theorem mn {p:κ×V} {r:List (κ×V)} {k:κ} (e:¬ p.1=k):bT (p::r) k=bT r k:=by simp [bT,List.find?_cons,e]
theorem mq (k:κ):∀ kvs:List (κ×V),(kvs.any fun kv=>decide (kv.1=k))=(bT kvs k).isSome
 | []=>rfl
 | p::r=>by
  rw [List.any_cons]
  by_cases e:p.1=k
  ·simp only [ml e,decide_eq_true e,Bool.true_or,Option.isSome_some]
  ·rw [mn e,decide_eq_false e,Bool.false_or]; exact mq k r
theorem lQ (kvs:List (κ×V)) (k:κ) (v:V):(putK kvs k v).length≤kvs.length + 1:=by
 unfold putK
 split
 ·rw [List.length_map]; omega
 ·rw [List.length_append,List.length_cons,List.length_nil]; omega
theorem xD {kvs:List (κ×V)} {k:κ} (v:V) (h:bT kvs k=none):putK kvs k v=kvs++[(k,v)]:=by
 unfold putK
 rw [mq,h]
 exact if_neg (by decide)
theorem RelO.isSome_eq {o:Option V} {u:Option Value} (r:RelO o u):o.isSome=u.isSome:=by
 cases o with
 | none=>cases u with
  | none=>rfl
  | some _=>exact (show False from r).elim
 | some _=>cases u with
  | none=>exact (show False from r).elim
  | some _=>rfl
theorem RelO.getD {o:Option V} {u:Option Value} {d:V} {d':Value} (r:RelO o u) (rd:RelV d d'):RelV (o.getD d) (u.getD d'):=by
 cases o with
 | none=>cases u with
  | none=>exact rd
  | some _=>exact (show False from r).elim
 | some _=>cases u with
  | none=>exact (show False from r).elim
  | some _=>exact r
theorem KV.val {kvs:List (κ×V)} {vs:List (κ×Value)} (r:KV kvs vs) (k:κ):RelO (bT kvs k) (valueAt vs k):=by
 unfold KV at r
 induction r with
 | nil=>exact True.intro
 | @cons p q ps qs h t ih=>
  obtain ⟨h1,h2⟩:=h
  by_cases e:p.1=k
  ·have e':q.1=k:=h1.symm.trans e
   have b:valueAt (q::qs) k=some q.2:=by simp [valueAt,List.find?_cons,e']
   rw [ml e,b]; exact h2
  ·have e':¬ q.1=k:=fun z=>e (h1.trans z)
   have b:valueAt (q::qs) k=valueAt qs k:=by simp [valueAt,List.find?_cons,e']
   rw [mn e,b]; exact ih
theorem KV.any {kvs:List (κ×V)} {vs:List (κ×Value)} (r:KV kvs vs) (k:κ):(kvs.any fun kv=>decide (kv.1=k))=vs.any fun kv=>decide (kv.1=k):=by
 unfold KV at r
 induction r with
 | nil=>rfl
 | cons h t ih=>rw [List.any_cons,List.any_cons,ih,h.1]
theorem KV.repl {kvs:List (κ×V)} {vs:List (κ×Value)} (r:KV kvs vs) (k:κ) {y:V} {u:Value} (ry:RelV y u) :
  KV (kvs.map fun kv=>if kv.1=k then (kv.1,y) else kv) (vs.map fun kv=>if kv.1=k then (kv.1,u) else kv):=by
 unfold KV at r ⊢
 induction r with
 | nil=>exact .nil
 | @cons p q ps qs h t ih=>
  rw [List.map_cons,List.map_cons]
  refine .cons ?_ ih
  obtain ⟨h1,h2⟩:=h
  by_cases e:p.1=k
  ·rw [if_pos e,if_pos (h1.symm.trans e)]; exact ⟨h1,ry⟩
  ·rw [if_neg e,if_neg (fun z=>e (h1.trans z))]; exact ⟨h1,h2⟩
theorem KV.put {kvs:List (κ×V)} {vs:List (κ×Value)} (r:KV kvs vs) (k:κ) {y:V} {u:Value} (ry:RelV y u):KV (putK kvs k y) (stored vs k u):=by
 unfold putK stored
 rw [r.any k]
 by_cases e:(vs.any fun kv=>decide (kv.1=k))=true
 ·rw [if_pos e,if_pos e]; exact r.repl k ry
 ·rw [if_neg e,if_neg e]; exact Paired.snoc r ⟨rfl,ry⟩
theorem KV.keys {kvs:List (κ×V)} {vs:List (κ×Value)} (r:KV kvs vs):kvs.map (·.1)=vs.map (·.1):=by
 unfold KV at r
 induction r with
 | nil=>rfl
 | cons h t ih=>rw [List.map_cons,List.map_cons,ih,h.1]
theorem KV.length {kvs:List (κ×V)} {vs:List (κ×Value)} (r:KV kvs vs):kvs.length=vs.length:=Paired.length r
end
theorem i4 {P:Program} {w:World} {k:Key} {u:Value} (r:RelV (kV k) u):(bW P w).is k u=true:=by
 cases k with
 | inl i=>obtain ⟨t,e⟩:=(show ∃ t,u=Value.int i t from r); subst e; exact vP P w i t
 | inr x=>obtain ⟨t,e⟩:=(show ∃ t,u=Value.str x t from r); subst e; exact vO P w x t
theorem pA {P:Program} {w:World}:∀ {ks:List Key} {us:List Value},Vals (ks.map kV) us→ItemsAre (bW P w) ks us
 | [],_,r=>by rw [List.map_nil] at r; cases r; exact .nil
 | k::ks,_,r=>by
  rw [List.map_cons] at r
  cases r with
  | cons h t=>exact .cons (i4 h) (pA t)
abbrev KT (H:Hp):List (List Key×V)→List (List Key×Addr×Value)→Prop:=Paired fun p q=>p.1=q.1∧H q.2.1=some (.tup (p.1.map kV))∧RelV p.2 q.2.2
theorem KT.val {H:Hp} {kvs:List (List Key×V)} {xs:List (List Key×Addr×Value)} (r:KT H kvs xs) (k:List Key):RelO (bT kvs k) ((atKey xs k).map (·.2)):=by
 induction r with
 | nil=>exact True.intro
 | @cons p q ps qs h t ih=>
  obtain ⟨h1,_,h2⟩:=h
  by_cases e:p.1=k
  ·have e':q.1=k:=h1.symm.trans e
   have b:atKey (q::qs) k=some q.2:=by simp [atKey,List.find?_cons,e']
   rw [ml e,b]; exact h2
  ·have e':¬ q.1=k:=fun z=>e (h1.trans z)
   have b:atKey (q::qs) k=atKey qs k:=by simp [atKey,List.find?_cons,e']
   rw [mn e,b]; exact ih
theorem KT.repl {H:Hp} {kvs:List (List Key×V)} {xs:List (List Key×Addr×Value)} (r:KT H kvs xs) (k:List Key) {y:V} {u:Value} (ry:RelV y u) :
  KT H (kvs.map fun kv=>if kv.1=k then (kv.1,y) else kv) (xs.map (putAt k u)):=by
 induction r with
 | nil=>exact .nil
 | @cons p q ps qs h t ih=>
  rw [List.map_cons,List.map_cons]
  refine .cons ?_ ih
  obtain ⟨h1,h2,h3⟩:=h
  unfold putAt
  by_cases e:p.1=k
  ·rw [if_pos e,if_pos (h1.symm.trans e)]; exact ⟨h1,h2,ry⟩
  ·rw [if_neg e,if_neg (fun z=>e (h1.trans z))]; exact ⟨h1,h2,h3⟩
theorem KT.put {H:Hp} {kvs:List (List Key×V)} {xs:List (List Key×Addr×Value)} (r:KT H kvs xs) (k:List Key) {b:Addr} {y:V} {u:Value} (hb:H b=some (.tup (k.map kV))) (ry:RelV y u) :
  KT H (putK kvs k y) (storedH xs k b u):=by
 have e:(kvs.any fun kv=>decide (kv.1=k))=(atKey xs k).isSome:=by
  rw [mq,(r.val k).isSome_eq,Option.isSome_map]
 unfold putK storedH
 rw [e]
 by_cases q:(atKey xs k).isSome=true
 ·rw [if_pos q,if_pos q]; exact r.repl k ry
 ·rw [if_neg q,if_neg q]; exact Paired.snoc r ⟨rfl,hb,ry⟩
theorem KT.keeps {H H':Hp} {kvs:List (List Key×V)} {xs:List (List Key×Addr×Value)} (r:KT H kvs xs) (ht:∀ b ys,H b=some (.tup ys)→H' b=some (.tup ys)):KT H' kvs xs:=Paired.mapP r fun _ _ z=>⟨z.1,ht _ _ z.2.1,z.2.2⟩
section
variable {P:Program} {w:World} {H:Hp} {h:Heap} {a:Addr}
theorem tD {u:HO} (ok:HOk P w H h) (e:Rd H a u):ObjOk P w H h a u:=e.ok ok
theorem fR {kvs:List (Key×V)} (ok:HOk P w H h) (e:Rd H a (.dK kvs)):kvs.length≤sizeLine∧(a == sysModules)=false∧∃ vs,KV kvs vs∧h.DictOf (bW P w) a vs:=show ObjOk P w H h a (.dK kvs) from tD ok e
theorem nX {kvs:List (Key×V)} (ok:HOk P w H h) (e:H a=some (.dK kvs)):kvs.length≤sizeLine∧(a == sysModules)=false∧∃ vs,KV kvs vs∧h.DictOf (bW P w) a vs:=fR ok (.inl e)
theorem jw {ks:List Key} (ok:HOk P w H h) (e:H a=some (.tup (ks.map kV))):(tupleKind (bW P w)).is h ks a:=by
 obtain ⟨_,its,r,o,h1,h2,n,h3⟩:=(show ObjOk P w H h a (.tup (ks.map kV)) from ok a _ e)
 exact ⟨o,its.toArray,n,h1,h2,h3,by simpa using pA r⟩
theorem i8 {kvs:List (List Key×V)} (ok:HOk P w H h) (e:Rd H a (.dT kvs)):kvs.length≤sizeLine∧(a == sysModules)=false ∧
  ∃ xs,KT H kvs xs∧h.DictOfH (tupleKind (bW P w)) a xs:=by
 obtain ⟨z,y,xs,r,o,es,ep,h1,h2,h3,h4,h5⟩:=(show ObjOk P w H h a (.dT kvs) from tD ok e)
 refine ⟨z,y,xs,r,o,es,ep,h1,h2,h3,h4,fun x hx=>?_,h5⟩
 have all:∀ {l:List (List Key×V)} {m:List (List Key×Addr×Value)},KT H l m→∀ x∈m,(tupleKind (bW P w)).is h x.1 x.2.1:=by
  intro l m q
  induction q with
  | nil=>intro x hx; exact nomatch hx
  | @cons p q ps qs hq t ih=>
   intro x hx
   rcases List.mem_cons.mp hx with e | hx
   ·subst e
    exact jw ok (by rw [← hq.1]; exact hq.2.1)
   ·exact ih x hx
 exact all r x hx
theorem C3 {kvs:List (List Key×V)} (ok:HOk P w H h) (e:H a=some (.dT kvs)):kvs.length≤sizeLine∧(a == sysModules)=false ∧
  ∃ xs,KT H kvs xs∧h.DictOfH (tupleKind (bW P w)) a xs:=i8 ok (.inl e)
end
def DGet (H:Hp) (a:Addr) (y:V) (r:Option V):Prop:=(∃ kvs k,Rd H a (.dK kvs)∧y=kV k∧r=bT kvs k)∨∃ kvs k b,Rd H a (.dT kvs)∧y=.ref b∧H b=some (.tup (k.map kV))∧r=bT kvs k
def DPut (H:Hp) (a:Addr) (y v:V) (H':Hp):Prop:=
 (∃ kvs k,H a=some (.dK kvs)∧y=kV k∧kvs.length < sizeLine∧H'=upd H a (.dK (putK kvs k v))) ∨
 ∃ kvs k b,H a=some (.dT kvs)∧y=.ref b∧H b=some (.tup (k.map kV))∧kvs.length < sizeLine∧H'=upd H a (.dT (putK kvs k v))
theorem DPut.k {H:Hp} {a:Addr} {kvs:List (Key×V)} {k:Key} {v:V} (e:H a=some (.dK kvs)) (hl:kvs.length < sizeLine):DPut H a (kV k) v (upd H a (.dK (putK kvs k v))):=.inl ⟨kvs,k,e,rfl,hl,rfl⟩
section
variable {X:Cx} {pins:List (Addr×Obj)} {σ:St} {H:Hp} {s:Shared} {a:Addr} {y v:V} {u r:Value} {o:Option V} {A:Around} {E:Value→Shared→Prop}
theorem Inv.big (I:Inv X pins σ H s):sysModules < s.heap.objs.size:=by
 have h:mainGlobals < s.heap.objs.size:=(I.mod.glob.keeps I.bk).lt
 exact Nat.lt_trans (by decide) h
theorem xi {Q:Value→Shared→Prop} (hu:A.units + 1 < cLine) (I:Inv X pins σ H s) (g:DGet H a y (some v)) (ry:RelV y u) (h:∀ w' s',Inv X pins σ H s'→RelV v w'→Q w' s') :
  wpAny (model X.prog X.w) A (getItem (.ref a) u) Q E s:=by
 rcases g with ⟨kvs,k,e,ey,l⟩ | ⟨kvs,k,b,e,ey,eb,l⟩
 ·subst ey
  obtain ⟨z,hd,vs,rel,dd⟩:=fR I.hok e
  obtain ⟨w',hw,rw'⟩:=RelO.some_of (v:=v) (o:=valueAt vs k) (by rw [l]; exact rel.val k)
  exact wpAny_getItem_of (i4 ry) dd.mapOf hw (h w' _ (I.tok _) rw')
 ·subst ey
  cases (show u=Value.ref b from ry)
  obtain ⟨z,hd,xs,rel,dd⟩:=i8 I.hok e
  obtain ⟨w',hw,rw'⟩:=RelO.some_of (v:=v) (o:=(atKey xs k).map (·.2)) (by rw [l]; exact rel.val k)
  obtain ⟨p,hp,hp2⟩:=Option.map_eq_some_iff.mp hw
  refine wpAny_getItem_heap (tupleKind_room_in1 hu) (jw I.hok eb) dd hp ?_
  rw [hp2]
  exact h w' _ (I.tok _) rw'
theorem Af {Q:Value→Shared→Prop} (hu:A.units + 1 < cLine) (I:Inv X pins σ H s) (g:DGet H a y o) (ry:RelV y u) (h:∀ s',Inv X pins σ H s'→Q (.bool (!o.isSome)) s') :
  wpAny (model X.prog X.w) A (compareOp .NotIn u (.ref a)) Q E s:=by
 rcases g with ⟨kvs,k,e,ey,l⟩ | ⟨kvs,k,b,e,ey,eb,l⟩
 ·subst ey
  obtain ⟨z,hd,vs,rel,dd⟩:=fR I.hok e
  refine wpAny_notIn_of (i4 ry) hd dd.mapOf ?_
  rw [← (rel.val k).isSome_eq,← l]
  exact h _ (I.tok _)
 ·subst ey
  cases (show u=Value.ref b from ry)
  obtain ⟨z,hd,xs,rel,dd⟩:=i8 I.hok e
  refine wpAny_notIn_heap (tupleKind_room_in1 hu) (jw I.hok eb) hd dd ?_
  have q:=(rel.val k).isSome_eq
  rw [Option.isSome_map] at q
  rw [← q,← l]
  exact h _ (I.tok _)
theorem kn {h':Heap} {t':Nat} {ob:HO} (I:Inv X pins σ H s) (mu:Mut (H a)) (hs:Heap.SameBut a s.heap h') (he:∃ q,h'.get? a=some q) (new:ObjOk X.prog X.w (upd H a ob) h' a ob) :
  Inv X pins σ (upd H a ob) { s with heap:=h',toks:=t' }:=I.write (x:=a) (e:=a) mu (.inl rfl) (fun b q hb z=>(hs.2 b hb).trans z) he new
theorem nH {P:Program} {w:World} {H':Hp} {h':Heap} {kvs:List (Key×V)} {vs:List (Key×Value)} (z:kvs.length≤sizeLine) (hd:(a == sysModules)=false) (rel:KV kvs vs) (dd:h'.DictOf (bW P w) a vs) :
  ObjOk P w H' h' a (.dK kvs):=⟨z,hd,vs,rel,dd⟩
theorem xh {H':Hp} {Q:Unit→Shared→Prop} (hu:A.units + 1 < cLine) (I:Inv X pins σ H s) (g:DPut H a y v H') (ry:RelV y u) (rv:RelV v r) (h:∀ s',Inv X pins σ H' s'→Q () s') :
  wpAny (model X.prog X.w) A (setItem (.ref a) u r) Q E s:=by
 rcases g with ⟨kvs,k,e,ey,l,eH⟩ | ⟨kvs,k,b,e,ey,eb,l,eH⟩
 ·subst ey eH
  obtain ⟨z,hd,vs,rel,dd⟩:=nX I.hok e
  have hz:vs.length≤sizeLine:=by rw [← rel.length]; exact z
  have hl:(putK kvs k v).length≤sizeLine:=by have:=lQ kvs k v; omega
  refine wpAny_setItem_pairs (hsz:=hz) (i4 ry) dd fun h' dd' hs=>h _ ?_
  have he:∃ q,h'.get? a=some q:=let ⟨q,_,_,hq,_⟩:=dd'; ⟨q,hq⟩
  exact kn I (by rw [e]; exact True.intro) hs he (nH hl hd (rel.put k rv) dd')
 ·subst ey eH
  cases (show u=Value.ref b from ry)
  obtain ⟨z,hd,xs,rel,dd⟩:=C3 I.hok e
  have hz:xs.length≤sizeLine:=by rw [← Paired.length rel]; exact z
  have hl:(putK kvs k v).length≤sizeLine:=by have:=lQ kvs k v; omega
  refine wpAny_setItem_heap (hsz:=hz) (tupleKind_room_in1 hu) (jw I.hok eb) dd fun h' dd' hs=>h _ ?_
  obtain ⟨q,es,ep,hq,h2,h3,h4,_,h5⟩:=dd'
  refine kn I (by rw [e]; exact True.intro) hs ⟨q,hq⟩ ⟨hl,hd,_,(rel.put k eb rv).keeps fun c ys ec=>?_,q,es,ep,hq,h2,h3,h4,h5⟩
  rw [aO (CN ec e (fun z=>nomatch z))]
  exact ec
end
section
variable {X:Cx} {pins:List (Addr×Obj)} {σ:St} {H:Hp} {s:Shared} {a:Addr} {kvs:List (Key×V)} {k:Key} {u:Value} {A:Around} {E:Value→Shared→Prop}
theorem C7 {Q:Value→Shared→Prop} (I:Inv X pins σ H s) (e:Rd H a (.dK kvs)) (h:∀ t s',Inv X pins σ H s'→Q (.int kvs.length t) s'):wpAny (model X.prog X.w) A (call (.builtin "len") [.ref a]) Q E s:=by
 obtain ⟨z,hd,vs,rel,dd⟩:=fR I.hok e
 refine call_len_dict hd dd (by rw [← rel.length]; rw [sizeLine_eq] at z; omega) ?_
 rw [← rel.length]
 exact h _ _ (I.tok _)
end
theorem oE {X:Cx} {pins:List (Addr×Obj)} {σ:St} {H:Hp} {s:Shared} {a:Addr} {y:V} {o:Option V} (I:Inv X pins σ H s) (g:DGet H a y o):s.TypeIs (.ref a) "dict":=by
 rcases g with ⟨kvs,k,e,_,_⟩ | ⟨kvs,k,b,e,_,_,_⟩
 ·obtain ⟨_,_,vs,_,dd⟩:=fR I.hok e
  exact dd.typeIs
 ·obtain ⟨_,_,xs,_,dd⟩:=i8 I.hok e
  exact dd.typeIs
def Cn (td ty tv:TE):TS:=fun D σ H=>tv σ H fun v H1=>td σ H1 fun x H2=>ty σ H2 fun y H3=>∃ a H4,x=.ref a∧DPut H3 a y v H4∧D.nx σ H4
section
variable {X:Cx} {o i e value:Expr} {pos pos' tpos:Pos} {td ty tv:TE}
theorem zg (hu:X.A.units + 1 < cLine) (ho:PE X o td) (hi:PE X i ty) (hv:PE X value tv) (hs:swapsWith value (some (.Subscript o i pos')) pos.line X.env=pure false) :
  PS X (.Assign [.Subscript o i pos'] value pos) (Cn td ty tv):=by
 intro pins s σ H D I h
 refine wpAny_Assign_Subscript (thn (hv pins s σ H _ I h) fun r s1 ⟨v,H1,I1,rv,q1⟩=>thn (ho pins s1 σ H1 _ I1 q1) fun u s2 ⟨x,H2,I2,rx,q2⟩=>thn (hi pins s2 σ H2 _ I2 q2) fun iv s3 ⟨y,H3,I3,ry,a,H4,ex,g,q3⟩=>?_) hs
 subst ex
 obtain rfl:u=Value.ref a:=rx
 exact xh hu I3 g ry rv fun s4 I4=>⟨σ,H4,I4,q3⟩
end
theorem qf {P:Program} {w:World} {H:Hp} (h:Heap) (hb:sysModules < h.objs.size):ObjOk P w H (h.push { cls:=.type "dict",data:=.dict #[] }) h.objs.size (.dK []):=⟨Nat.zero_le _,beq_eq_false_iff_ne.mpr (Ne.symm (Nat.ne_of_lt hb)),[],.nil,Heap.DictOf.new h⟩
def AC:TE:=fun _ H Q=>∀ p,H p=none→Q (.ref p) (upd H p (.dK []))
section
variable {X:Cx} {pos:Pos}
theorem xS:PE X (.Dict [] [] pos) AC:=fun pins s σ H Q I h=>
 wpAny_Dict_empty ⟨.ref s.heap.objs.size,_,I.laid (a:=s.heap.objs.size) (o:=.dK []) (t':=s.toks) (fun _ _ q=>Heap.get?_push_of_some _ q) (Nat.le_refl _) (qf s.heap I.big),rfl,h _ (I.hok.fresh (Nat.le_refl _))⟩
end
def ku:List (TE×TE)→St→Hp→(List (V×V)→Hp→Prop)→Prop
 | [],_,H,Q=>Q [] H
 | (tk,tv)::r,σ,H,Q=>tk σ H fun x H1=>tv σ H1 fun y H2=>ku r σ H2 fun ps H3=>Q ((x,y)::ps) H3
abbrev VV:List (V×V)→List (Value×Value)→Prop:=Paired fun p q=>RelV p.1 q.1∧RelV p.2 q.2
def PPs (X:Cx) (pos:Pos) (keys:List (Option Expr)) (values:List Expr) (trs:List (TE×TE)):Prop:=
 ∀ (pins:List (Addr×Obj)) (s:Shared) (σ:St) (H:Hp) (Q:List (V×V)→Hp→Prop),Inv X pins σ H s→ku trs σ H Q →
  wpAny (model X.prog X.w) X.A (evalPairs (pairTrees keys values X.env pos)) (fun vs s'=>∃ ps H',Inv X pins σ H' s'∧VV ps vs∧Q ps H') X.xe s
theorem zh {X:Cx} {pos:Pos}:PPs X pos [] [] []:=fun pins s σ H Q I h=>pairTrees_nil_walk ⟨[],H,I,.nil,h⟩
theorem xM {X:Cx} {pos:Pos} {k v:Expr} {ks:List (Option Expr)} {vs:List Expr} {tk tv:TE} {trs:List (TE×TE)} (hk:PE X k tk) (hv:PE X v tv) (hr:PPs X pos ks vs trs) :
  PPs X pos (some k::ks) (v::vs) ((tk,tv)::trs):=fun pins s σ H Q I h=>
 pairTrees_cons_walk (thn (hk pins s σ H _ I h) fun u s1 ⟨x,H1,I1,rx,q1⟩=>thn (hv pins s1 σ H1 _ I1 q1) fun w2 s2 ⟨y,H2,I2,ry,q2⟩=>
  thn (hr pins s2 σ H2 _ I2 q2) fun ws s3 ⟨ps,H3,I3,rel,q3⟩=>⟨(x,y)::ps,H3,I3,.cons ⟨rx,ry⟩ rel,q3⟩)
def d6 (kvs more:List (Key×V)):List (Key×V):=more.foldl (fun acc kv=>putK acc kv.1 kv.2) kvs
theorem KV.merge:∀ {more:List (Key×V)} {rs:List (Key×Value)} {kvs:List (Key×V)} {vs:List (Key×Value)},KV more rs→KV kvs vs→KV (d6 kvs more) (merged vs rs):=by
 intro more rs kvs vs r
 unfold KV at r
 induction r generalizing kvs vs with
 | nil=>intro q; exact q
 | @cons p q ps qs h t ih=>
  intro r0
  have e:KV (putK kvs p.1 p.2) (stored vs q.1 q.2):=by
   have:=r0.put p.1 h.2
   rw [← h.1]; exact this
  exact ih e
theorem lP:∀ (more kvs:List (Key×V)),(d6 kvs more).length≤kvs.length + more.length
 | [],kvs=>by show kvs.length≤kvs.length + 0; omega
 | p::r,kvs=>by
  have h1:=lP r (putK kvs p.1 p.2)
  have h2:=lQ kvs p.1 p.2
  show (d6 (putK kvs p.1 p.2) r).length≤_
  rw [List.length_cons]; omega
theorem oV {P:Program} {w:World}:∀ {kvs:List (Key×V)} {ws:List (Value×Value)},VV (kvs.map fun kv=>(kV kv.1,kv.2)) ws→∃ rs,Carries (bW P w) ws rs∧KV kvs rs
 | [],_,r=>by rw [List.map_nil] at r; cases r; exact ⟨[],True.intro,.nil⟩
 | p::kvs,_,r=>by
  rw [List.map_cons] at r
  cases r with
  | @cons a b as bs h t=>
   obtain ⟨rs,c,q⟩:=oV (P:=P) (w:=w) t
   obtain ⟨b1,b2⟩:=b
   exact ⟨(p.1,b2)::rs,⟨i4 h.1,rfl,c⟩,.cons ⟨rfl,h.2⟩ q⟩
def Ce (trs:List (TE×TE)):TE:=fun σ H Q=>∀ p,H p=none→ku trs σ (upd H p (.dK [])) fun ps H2=>H2 p=some (.dK [])∧∃ kvs:List (Key×V),ps=kvs.map (fun kv=>(kV kv.1,kv.2))∧kvs.length≤15∧Q (.ref p) (upd H2 p (.dK (d6 [] kvs)))
theorem qJ {X:Cx} {pos:Pos} {keys:List (Option Expr)} {values:List Expr} {trs:List (TE×TE)} (h:PPs X pos keys values trs) (hall:keys.all (·.isSome)=true) (hl:keys.length=values.length) (h0:keys≠[])
  (h15:keys.length≤15):PE X (.Dict keys values pos) (Ce trs):=by
 intro pins s σ H Q I q
 have hn:=I.hok.fresh (Nat.le_refl s.heap.objs.size)
 have I1:=I.laid (a:=s.heap.objs.size) (o:=.dK []) (h':=s.heap.push { cls:=.type "dict",data:=.dict #[] }) (t':=s.toks) (fun _ _ q=>Heap.get?_push_of_some _ q) (Nat.le_refl _) (qf s.heap I.big)
 refine wpAny_Dict_walk (knd:=bW X.prog X.w) hall hl h0 h15 (thn (h pins _ σ _ _ I1 (q _ hn)) fun ws s2 ⟨ps,H2,I2,rel,e,kvs,ep,lk,q2⟩=>?_)
 subst ep
 obtain ⟨rs,c,rk⟩:=oV (P:=X.prog) (w:=X.w) rel
 obtain ⟨z,hd,vs0,r0,dd⟩:=nX I2.hok e
 cases r0
 refine ⟨rs,c,dd,fun h' dd' hs=>⟨.ref s.heap.objs.size,_,?_,rfl,q2⟩⟩
 have hz:(d6 [] kvs).length≤sizeLine:=by
  have h1:=lP kvs []
  rw [List.length_nil] at h1
  rw [sizeLine_eq]; omega
 have he:∃ q,h'.get? s.heap.objs.size=some q:=let ⟨q,_,_,hq,_⟩:=dd'; ⟨q,hq⟩
 exact kn I2 (by rw [e]; exact True.intro) hs he (nH hz hd (rk.merge .nil) dd')
structure M1 (X:Cx) (o:Expr) (m:Str) (apos:Pos) (e:Expr) (cpos:Pos):Prop where
 base:attributeBase o m X.env (eval o X.env)=eval o X.env
 few:((backTo cpos (starEach [e] X.env)).all (fun x=>!x.1) && (backToKw cpos (keywordEach [] X.env)).all (fun x=>x.1.isSome)
  && decide (([e]:List Expr).length + ([]:List Keyword).length + (if ([]:List Keyword).isEmpty then 0 else 1) < 30))=true
 line:(apos.endLine == cpos.line)=true
 trees:backTo cpos (starEach [e] X.env)=[(false,eval e X.env)]
structure M2 (X:Cx) (o:Expr) (m:Str) (apos:Pos) (e f:Expr) (cpos:Pos):Prop where
 base:attributeBase o m X.env (eval o X.env)=eval o X.env
 few:((backTo cpos (starEach [e,f] X.env)).all (fun x=>!x.1) && (backToKw cpos (keywordEach [] X.env)).all (fun x=>x.1.isSome)
  && decide (([e,f]:List Expr).length + ([]:List Keyword).length + (if ([]:List Keyword).isEmpty then 0 else 1) < 30))=true
 line:(apos.endLine == cpos.line)=true
 trees:backTo cpos (starEach [e,f] X.env)=[(false,eval e X.env),(false,eval f X.env)]
def IsD (H:Hp) (a:Addr):Prop:=(∃ kvs,Rd H a (.dK kvs))∨∃ kvs,Rd H a (.dT kvs)
theorem BB {X:Cx} {pins:List (Addr×Obj)} {σ:St} {H:Hp} {s:Shared} {a:Addr} (I:Inv X pins σ H s) (d:IsD H a) :
  s.TypeIs (.ref a) "dict"∧(∀ b,Value.ref a=.ref b→∃ ob,s.heap.get? b=some ob∧ob.dict=none)∧(a == sysModules)=false:=by
 rcases d with ⟨kvs,e⟩ | ⟨kvs,e⟩
 ·obtain ⟨_,hd,vs,_,dd⟩:=fR I.hok e
  refine ⟨dd.typeIs,fun b q=>?_,hd⟩
  cases q
  obtain ⟨ob,_,_,h1,h2,_⟩:=dd
  exact ⟨ob,h1,h2.2.1⟩
 ·obtain ⟨_,hd,xs,_,dd⟩:=i8 I.hok e
  refine ⟨dd.typeIs,fun b q=>?_,hd⟩
  cases q
  obtain ⟨ob,_,_,h1,h2,_⟩:=dd
  exact ⟨ob,h1,h2.2.1⟩
section
variable {X:Cx} {pins:List (Addr×Obj)} {σ:St} {H:Hp} {s:Shared} {a:Addr} {y d:V} {u r:Value} {o:Option V} {A:Around} {E:Value→Shared→Prop}
theorem BS {Q:Value→Shared→Prop} (hu:A.units + 1 < cLine) (I:Inv X pins σ H s) (g:DGet H a y o) (ry:RelV y u) (rd:RelV d r) (h:∀ w' s',Inv X pins σ H s'→RelV (o.getD d) w'→Q w' s') :
  wpAny (model X.prog X.w) A (call (.builtin "dict.get") [.ref a,u,r]) Q E s:=by
 rcases g with ⟨kvs,k,e,ey,l⟩ | ⟨kvs,k,b,e,ey,eb,l⟩
 ·subst ey
  obtain ⟨z,hd,vs,rel,dd⟩:=fR I.hok e
  refine call_meetsIn PySem.F.slot_dict_get dd.typeIs PySem.F.entry_dict_get (PySem.F.args_dict_get_3 _ _ _) (meets_dict_get_default (bW X.prog X.w) a (i4 ry) hd r) ⟨_,dd.mapOf,h _ _ (I.tok _) ?_⟩
  rw [l]
  exact (rel.val k).getD rd
 ·subst ey
  cases (show u=Value.ref b from ry)
  obtain ⟨z,hd,xs,rel,dd⟩:=i8 I.hok e
  refine call_meetsIn PySem.F.slot_dict_get dd.typeIs PySem.F.entry_dict_get (PySem.F.args_dict_get_3 _ _ _) (meetsH_dict_get_default (tupleKind (bW X.prog X.w)) a b hd r) ⟨tupleKind_room_in1 hu,k,xs,jw I.hok eb,dd,h _ _ (I.tok _) ?_⟩
  rw [l]
  exact (rel.val k).getD rd
end
def AD (td ty tx:TE):TE:=fun σ H Q=>td σ H fun x H1=>∃ a,x=.ref a∧IsD H1 a∧ty σ H1 fun y H2=>tx σ H2 fun z H3=>∃ o,DGet H3 a y o∧Q (o.getD z) H3
section
variable {X:Cx} {o e f:Expr} {apos cpos:Pos} {td ty tx:TE}
theorem xT (hu:X.A.units + 1 < cLine) (ho:PE X o td) (he:PE X e ty) (hf:PE X f tx) (m:M2 X o "get" apos e f cpos):PE X (.Call (.Attribute o "get" apos) [e,f] [] cpos) (AD td ty tx):=by
 intro pins s σ H Q I h
 refine wpAny_Call_method m.base m.few m.line PySem.F.plainAttrs_dict PySem.F.slot_dict_get PySem.F.type_dict_get (thn (ho pins s σ H _ I h) fun u s1 ⟨x,H1,I1,rx,a,ex,d,q1⟩=>?_)
 subst ex
 obtain rfl:u=Value.ref a:=rx
 obtain ⟨t1,t2,_⟩:=BB I1 d
 refine ⟨t1,t2,?_⟩
 rw [m.trees]
 refine Calls.callWith_builtin rfl (Calls.evalArgs_plain (Calls.spliced_cons (thn (he pins s1 σ H1 _ I1 q1) fun iv s2 ⟨y,H2,I2,ry,q2⟩=>
  Calls.spliced_cons (thn (hf pins s2 σ H2 _ I2 q2) fun fv s3 ⟨z,H3,I3,rz,ov,g,q3⟩=>Calls.spliced_nil ?_))))
 exact BS hu I3 g ry rz fun w' s4 I4 rw'=>⟨_,H3,I4,rw',q3⟩
end
section
variable {X:Cx} {pins:List (Addr×Obj)} {σ:St} {H:Hp} {s:Shared} {a:Addr} {kvs:List (Key×V)} {A:Around} {E:Value→Shared→Prop}
end
section
variable {X:Cx} {pins:List (Addr×Obj)} {σ:St} {H:Hp} {s:Shared} {a:Addr} {y:V} {u:Value} {A:Around} {E:Value→Shared→Prop}
end
end L2
namespace Att
open PySem PySem.W PySem.Calls PyProof.Rows
theorem uI {P:Params} {h:Heap}:∀ (ns:List Int) (vs:List Value),WellAll P h vs (ns.map WData.int)→IntsAre vs ns:=by
 intro ns
 induction ns with
 | nil=>
  intro vs w
  rw [List.map_nil] at w
  cases w
  exact .nil
 | cons n ns ih=>
  intro vs w
  rw [List.map_cons] at w
  cases w with
  | cons a b=>
   cases a
   exact .cons _ _ (ih _ b)
theorem wF {l:OpenLaw} {n:Nat} (hn:l.most=some n) {P:Params} {h:Heap} {args:List WData} {vals:List Value}
  (hpre:l.row.toRowW.claim.pre args=true) (hwl:WellAll P h vals args) :
  ∃ a vs ns,vals=[Value.ref a]∧args=[WData.list (ns.map WData.int)]∧h.get? a=some { cls:=.type "list",data:=.seq vs.toArray }∧IntsAre vs ns∧ns.length≤n:=by
 have hsh:WShape.hasAll [] args [.list .int]=true:=(pre_splitW hpre).1
 have hc:l.pre.holds [] { args:=args } = true:=(pre_splitW hpre).2
 obtain ⟨d,r,rfl,h1,h2⟩:=hasAllW_cons hsh
 obtain rfl:=hasAllW_nil h2
 obtain ⟨xs,rfl,h3⟩:=hasW_list h1
 obtain ⟨ns,rfl⟩:=items_int h3
 have hlen:ns.length≤n:=by
  unfold OpenLaw.pre at hc
  have h4:(WTm.not (.lt (.lit (.int (n:Int))) (.len (.arg 0)))).holds [] { args:=[.list (ns.map .int)] } = true:=by
   have h4:=(holds_andW hc).1
   rw [hn] at h4
   exact h4
  have h5:=condW_of h4 (w_not (w_lt w_lit (w_len_list (w_arg rfl))))
  rw [List.length_map] at h5
  refine Nat.le_of_not_lt fun q=>?_
  have q':(n:Int) < ((ns.length:Nat):Int):=by omega
  first
   | (rw [decide_eq_true q'] at h5; exact absurd h5 (by decide))
   | (simp at h5; omega)
 cases hwl with
 | cons w1 w2=>
  cases w2
  cases w1 with
  | list ho hall=>exact ⟨_,_,ns,rfl,rfl,ho,uI ns _ hall,hlen⟩
theorem wH (l:OpenLaw) (args:List WData):l.row.toRowW.claim.post args (.bool true) args=true:=
 postW_of (r:=l.row.toRowW) (X:=(true == true))
  (show WShape.has [] (.bool true) .bool=true by first | rfl | decide | simp [WShape.has,WShape.arms,WShape.armsAll])
  (show (WTm.eq .res (.lit (.bool true))).value [] { args:=args,res:=some (.bool true),after:=args } = some (.bool (true == true)) from w_eq_bool (w_res rfl) w_lit) rfl
theorem vV {l:OpenLaw} {n:Nat} {q:Program} {loose:List Str} {XP:(Str→Option Value)→Heap→Prop} {YP:World→Heap→Prop} {d:DefRec}
  (hn:l.most=some n) (hdf:d.params.defaults=[])
  (call:∀ (w:World) (s₀ s₁:Shared) (mg mb:Str→Option Value) (fa:Addr) (o:Obj) (pm cd doc:Value) (a:Addr) (vs:List Value) (ns:List Int),
   Ground q loose [] XP w s₀ mg mb s₁.heap→YP w s₁.heap →
   s₁.heap.get? fa=some o→o.data=.func (docDef d.name d.params d.body d.scope pm cd doc)→s₁.heap.CodeRec cd d.name→mg d.name=some (.ref fa) →
   s₁.heap.get? a=some { cls:=.type "list",data:=.seq vs.toArray }→IntsAre vs ns→ns.length≤n→s₁.gens = #[] →
   codeAny (model l.prog w) callerA (.call (.ref fa) ⟨[.ref a],[]⟩) (fun r s'=>r=.ok (.ret (.bool true))∧OldK s₁.heap s'.heap∧s'.os=s₁.os∧AllBare s'.gens) s₁) :
  WalkO q loose XP YP l.row.toRowW d [] (fun f vs=>PySem.call f vs):=by
 intro w s₀ s₁ mg mb G Y fa o pm cd doc dV kV ho hd hcd hD hmg hg args vals as hpre hlay hrd hwl hlo
 obtain rfl:dV=.none:=Dflts.none hD hdf
 obtain rfl:kV=.none:=Dflts.noKw hD
 obtain ⟨a,vs,ns,rfl,rfl,hobj,hints,hlen⟩:=wF hn hpre hwl
 refine enter_call (codeAny_mono (call w s₀ s₁ mg mb fa o pm cd doc a vs ns G Y ho (fd_plain hd) hcd hmg hobj hints hlen hg) fun r s' hq=>?_)
 obtain ⟨rfl,h2,h3,h4⟩:=hq
 exact ⟨.inl ⟨.bool true,.bool true,[],rfl,fun _=>rfl,.bool true,wH l _,fun _=>⟨List.Pairwise.nil,fun _ hm=>(nomatch hm)⟩⟩,h2,h3,h4⟩
section
variable {prog:Program} {w:World} {A:Around} {E:Value→Shared→Prop} {s:Shared} {K:Frag}
end
end Att
namespace L2
open PySem PySem.Spec PyProof.Rows
theorem oY:∀ {vs:List Value} {ns:List Int},IntsAre vs ns→Vals (ns.map V.int) vs
 | _,_,.nil=>.nil
 | _,_,.cons n t h=>.cons ⟨t,rfl⟩ (oY h)
def oz (H:Hp):Prop:=∀ b,H b=none∨∃ o xs,H b=some (.frz o (.lst xs))
theorem x9 {P:Program} {w:World} {K:Frag} {mg mb:Str→Option Value} {CX:CXT} {k:Nat} {fa a:Addr} {fd:FuncData} {x:Str} {sp:Sp} {s₁:Shared} {vs:List Value} {ns:List Int}
  (KX:K.In s₁.heap) (hns:s₁.heap.Ns mainGlobals mg) (hb:s₁.heap.Ns builtinsNs mb) (hbb:∀ x:Str,x≠"__name__"→mb x=bootBuiltins x) (hlim:s₁.heap.NoLimit) (hg:s₁.gens = #[])
  (ha:s₁.heap.get? a=some { cls:=.type "list",data:=.seq vs.toArray }) (hi:IntsAre vs ns) (hl:ns.length≤sizeLine) (hr:Room k callerA)
  (F:∀ base:Heap,K.In base→base.Ns mainGlobals mg→FnOk P w K mg base CX k fa fd [x] sp) (hbind:∀ (s:Shared) (u:Value),BindsTo s fd ⟨[u],[]⟩ [(x,u)])
  (hsp:∀ H:Hp,oz H→SqL K H a (ns.map V.int)→sp [.ref a] H (fun v _=>v=.bl true) fun _ _ _=>False)
  (hCX:∀ H e s',CX [] H s₁ (fun _ _ _=>False) e s'→False) :
  codeAny (model P w) callerA (.call (.ref fa) ⟨[.ref a],[]⟩) (fun r s'=>r=.ok (.ret (.bool true))∧OldK s₁.heap s'.heap∧s'.os=s₁.os∧AllBare s'.gens) s₁:=by
 have rv:=oY hi
 have lenV:=hi.length
 have core:∀ H:Hp,oz H→SqL K H a (ns.map V.int)→HOk P w H s₁.heap→(∀ b,H b≠none→b=a)→(H a≠none→K.lookup a=none) →
   codeAny (model P w) callerA (.call (.ref fa) ⟨[.ref a],[]⟩) (fun r s'=>r=.ok (.ret (.bool true))∧OldK s₁.heap s'.heap∧s'.os=s₁.os∧AllBare s'.gens) s₁:=by
  intro H hO hS hok hA hK
  have base_of:∀ {b:Addr} {o:Obj},s₁.heap.get? b=some o→H b=none→(gD s₁.heap H).get? b=some o:=fun e n=>yf e n
  have noA:∀ {b:Addr} {o:Obj} {es:Array DictEntry} {ep:Nat},s₁.heap.get? b=some o→o.data=.dict es ep→H b=none:=fun {b o es ep} e d=>by
   cases q:H b with
   | none=>rfl
   | some u=>
    have e':b=a:=hA b (by rw [q]; simp)
    subst e'
    rw [ha] at e; cases e
    have d':Data.seq vs.toArray _=Data.dict es ep:=d
    cases d'
  have nsK:∀ {b:Addr} {m:Str→Option Value},s₁.heap.Ns b m→(gD s₁.heap H).Ns b m:=fun {b m} ⟨o,es,ep,e,d,r⟩=>⟨o,es,ep,base_of e (noA e d),d,r⟩
  have hKb:K.In (gD s₁.heap H):=fun b o e=>base_of (KX b o e) (by
   cases q:H b with
   | none=>rfl
   | some u=>
    have e':b=a:=hA b (by rw [q]; simp)
    subst e'
    rw [hK (by rw [q]; simp)] at e; cases e)
  have hM:Mod K mg (gD s₁.heap H):=⟨hKb,nsK hns,⟨mb,nsK hb,hbb⟩,let ⟨mc,h1,h2⟩:=hlim; ⟨mc,nsK h1,h2⟩⟩
  have e0:Env0 P w K mg (gD s₁.heap H) callerA [] s₁ H:=⟨rfl,hM,fun b o e=>zE e,Nat.le_of_eq (xf _ _),trivial,fun b hb=>absurd (show b∈([]:List Addr) from hb) (by simp),hok,.of_eq hg⟩
  refine codeAny_mono ((F _ hKb (nsK hns)).run callerA [] s₁ H ⟨[.ref a],[]⟩ [.ref a] [.ref a] _ _ hr e0 (hbind s₁ (.ref a)) (.cons rfl .nil) (hsp H hO hS)) fun r s' h=>?_
  cases r with
  | error e=>exact (hCX H e s' h).elim
  | ok fl=>
   cases fl with
   | next=>exact False.elim h
   | brk=>exact False.elim h
   | cont=>exact False.elim h
   | ret u=>
    obtain ⟨v,H',os,bare,un,hok',r',q⟩:=h
    have q':v=.bl true:=q
    subst q'
    obtain rfl:u=Value.bool true:=r'
    refine ⟨rfl,OldK.of_keep fun b o e=>?_,os,bare⟩
    cases q:H b with
    | none=>exact un.keep b o e q (by intro z; exact absurd (show b∈([]:List Addr) from z) (by simp)) (by simp)
    | some u=>
     rcases hO b with z | ⟨ob,xs,z⟩
     ·rw [q] at z; cases z
     ·have z2:=un.frzs b ob _ z
      obtain ⟨e1,_⟩:=hok b _ z
      obtain ⟨e2,_⟩:=hok' b _ z2
      rw [e] at e1; cases e1
      exact e2
 cases hk:K.lookup a with
 | some o=>
  have e:=KX a o hk
  rw [ha] at e
  cases e
  refine core (fun _=>none) (fun _=>.inl rfl) (.inr ⟨_,vs.toArray,_,hk,rfl,rfl,rfl,by rw [List.size_toArray,lenV]; exact hl,by simpa using rv⟩) (fun b u z=>by have z':(none:Option HO)=some u:=z; cases z') (fun b z=>absurd rfl z) fun z=>absurd rfl z
 | none=>
  refine core (fun b=>if b=a then some (.frz { cls:=.type "list",data:=.seq vs.toArray } (.lst (ns.map V.int))) else none) (fun b=>?_) (.inl (.inr ⟨{ cls:=.type "list",data:=.seq vs.toArray },if_pos rfl⟩)) (fun b u z=>?_) (fun b z=>?_) fun _=>hk
  ·by_cases hb:b=a
   ·exact .inr ⟨_,_,if_pos hb⟩
   ·exact .inl (if_neg hb)
  ·by_cases hb:b=a
   ·have z':=(if_pos hb).symm.trans z
    cases z'
    subst hb
    exact ⟨ha,by rw [List.length_map]; exact hl,vs,_,rv,ha⟩
   ·have z':=(if_neg hb).symm.trans z
    cases z'
  ·by_cases hb:b=a
   ·exact hb
   ·exact absurd (if_neg hb) z
theorem yJ {l:PySem.W.OpenLaw} {n k:Nat} {q:Program} {loose:List Str} {XP:(Str→Option Value)→Heap→Prop} {YP:World→Heap→Prop} {d:DefRec} {K:Params→Frag} {CX:World→CXT} {sp:World→Sp} {x:Str}
  (hn:l.most=some n) (hn2:n≤sizeLine) (hdf:d.params.defaults=[]) (hr:Room k callerA)
  (hY:∀ (w:World) (h:Heap),YP w h→(K w.params).In h)
  (F:∀ (w:World) (mg:Str→Option Value) (fa:Addr) (h:Heap),(K w.params).In h→h.Ns mainGlobals mg→mg d.name=some (.ref fa) →
   ∃ fd:FuncData,(∀ (s:Shared) (u:Value),BindsTo s fd ⟨[u],[]⟩ [(x,u)]) ∧
    ∀ base:Heap,(K w.params).In base→base.Ns mainGlobals mg→FnOk l.prog w (K w.params) mg base (CX w) k fa fd [x] (sp w))
  (hsp:∀ (w:World) (H:Hp) (a:Addr) (ns:List Int),ns.length≤n→oz H→SqL (K w.params) H a (ns.map V.int)→sp w [.ref a] H (fun v _=>v=.bl true) fun _ _ _=>False)
  (hCX:∀ (w:World) (H:Hp) (s:Shared) (e:Value) (s':Shared),CX w [] H s (fun _ _ _=>False) e s'→False) :
  PySem.W.WalkO q loose XP YP l.row.toRowW d [] (fun f vs=>PySem.call f vs):=by
 refine Att.vV hn hdf fun w s₀ s₁ mg mb fa o pm cd doc a vs ns G Y ho hd hcd hmg hobj hints hlen hg=>?_
 have KX:=hY w _ Y
 obtain ⟨fd,hb,hF⟩:=F w mg fa _ KX G.T.g hmg
 exact x9 KX G.T.g G.T.b G.T.builtins G.T.nolimit hg hobj hints (Nat.le_trans hlen hn2) hr hF hb (fun H hO hS=>hsp w H a ns hlen hO hS) fun H e s'=>hCX w H s₁ e s'
def fG (s:Stmt):Arguments:=match s with
 | .FunctionDef _ a _ _ _ _ _ _ _ _=>a
 | _=>{ posonlyargs:=[],args:=[],vararg:=none,kwonlyargs:=[],kw_defaults:=[],kwarg:=none,defaults:=[] }
def d3 (s:Stmt):List Stmt:=match s with
 | .FunctionDef _ _ b _ _ _ _ _ _ _=>b
 | _=>[]
def aN (s:Stmt):Scope:=match s with
 | .FunctionDef _ _ _ _ _ _ sc _ _ _=>sc
 | _=>{ kind:=.function,names:=[],isGenerator:=false,isCoroutine:=false }
abbrev CX0:CXT:=fun _ _ _ _ _ _=>False
abbrev E0:XK:=fun _ _ _=>False
theorem CF {X:Cx}:nL CX0 X E0:=fun _ _ _ _ _ _ _ h=>h.elim
structure Fun (K:Frag) (x qual:Str) (st:Stmt) (f:Addr) (fd:FuncData):Prop where
 ex:∃ (oc:Value) (od:Option Addr) (kV doc pm:Value) (an:Option Addr) (cdv ct:Value) (osl:Array (Option Value)),
  fd=PySem.W.fnOf x qual (fG st) (d3 st) (aN st) .none kV doc pm an cdv ct∧K.lookup f=some ⟨oc,od,.func fd,osl⟩∧PySem.W.codeIn K cdv qual=true
 kp:PySem.W.keepIn K (.ref f)=true
section
variable {P:Program} {w:World} {K:Frag} {mg:Str→Option Value} {base:Heap}
theorem Fun.ok {x qual:Str} {st:Stmt} {f:Addr} {fd:FuncData} {N ps:List Str} {k:Nat} {sp:Sp} (F:Fun K x qual st f fd) (S:FnScope N ps (aN st)) (len:∀ vs H Q E,sp vs H Q E→vs.length=ps.length)
  (hbody:∀ (cdv:Value) (A:Around) (outer:List Env) (s:Shared) (H:Hp) (vs:List V) (Q:VK) (E:XK),Room k (A.deeper (envOfC qual (aN st) s.heap.objs.size f cdv))→sp vs H Q E →
   ∃ t,PSs (gU CX0 P w K mg base N qual (aN st) f cdv A outer s H E).nox (d3 st) t∧t { nx:=fun _ H'=>Q .non H',rt:=Q } (start N vs) H):FnOk P w K mg base CX0 (k + 1) f fd ps sp:=by
 obtain ⟨oc,od,kV,doc,pm,an,cdv,ct,osl,rfl,lk,hcd⟩:=F.ex
 refine C2 lk hcd S len fun A outer s H vs Q E hr hsp=>?_
 obtain ⟨t,h,q⟩:=hbody cdv A outer s H vs Q E hr hsp
 exact ⟨t,h.nox,q⟩
theorem Fun.binds {x qual:Str} {st:Stmt} {f:Addr} {fd:FuncData} {ps:List Str} (F:Fun K x qual st f fd)
  (h:∀ (kV doc pm:Value) (an:Option Addr) (cdv ct:Value) (us:List Value),us.length=ps.length→bindArgs (PySem.W.fnOf x qual (fG st) (d3 st) (aN st) .none kV doc pm an cdv ct) ⟨us,[]⟩=pure (ps.zip us)):Binds K fd ps []:=by
 obtain ⟨oc,od,kV,doc,pm,an,cdv,ct,osl,rfl,lk,hcd⟩:=F.ex
 exact .all (h kV doc pm an cdv ct)
theorem sH {x qual:Str} {st:Stmt} {f:Addr} {oc:Value} {od an:Option Addr} {osl:Array (Option Value)} {kV doc pm cdv ct:Value} (l:K.lookup f=some ⟨oc,od,.func (PySem.W.fnOf x qual (fG st) (d3 st) (aN st) .none kV doc pm an cdv ct),osl⟩)
  (c:PySem.W.codeIn K cdv qual=true) (k:PySem.W.keepIn K (.ref f)=true):Fun K x qual st f (PySem.W.fnOf x qual (fG st) (d3 st) (aN st) .none kV doc pm an cdv ct):=⟨⟨oc,od,kV,doc,pm,an,cdv,ct,osl,rfl,l,c⟩,k⟩
end
section
variable {X:Cx}
theorem pv (i:Nat) {x:Str} {pos:Pos} (hN:X.N[i]? = some x:=by rfl) (hv:Vis X.env.scope x:=by first | exact Or.inl rfl | exact Or.inr (Or.inl rfl) | exact Or.inr (Or.inr rfl)) (hd:(x == ("__debug__" : Str))=false:=by decide)
  (hcd:(x == ("__classdict__" : Str))=false:=by decide):PE X (.Name x pos) (t4 i):=A1 hN hv hd hcd
end
theorem fY {A B:Prop} (h:B):if false=true then A else B:=by
 rw [if_neg Bool.false_ne_true]
 exact h
theorem fX {A B:Prop} (h:A):if true=true then A else B:=by
 rw [if_pos rfl]
 exact h
end L2
set_option maxHeartbeats 4000000
namespace K1
open PySem
def has (signs x:Str):Bool:=x.cps.toList.all fun c=>decide (c∈signs.cps.toList)
def LET:Str:="abcdefghijklmnopqrstuvwxyz"
def TXT:Str:="abcdefghijklmnopqrstuvwxyz0123456789-"
def single:PyData→Bool
 | .int i=>decide ((if i < 0 then -i else i)≤10 ^ 18)
 | .str x=>decide (x.length≤20) && has TXT x
 | _=>false
def bp:Nat→PyData→Bool
 | 0,.tuple _=>false
 | n + 1,.tuple ds=>decide (ds.length≤8) && ds.all (bp n)
 | _,d=>single d
def bx:Nat→PyData→Int
 | n + 1,.tuple ds=>1 + (ds.map (bx n)).sum
 | _,_=>1
def lsz:Nat→PyData→Int
 | n + 1,.tuple ds=>if ds.length > 8 then 100 else 1 + (ds.map (lsz n)).sum
 | _,d=>if single d=true then 1 else 100
def isName:PyData→Bool
 | .str x=>decide (1≤x.length) && decide (x.length≤8) && has LET x
 | _=>false
def aZ (d:PyData):Bool:=bp 4 d && decide (bx 4 d≤40)
theorem rX {α:Type} (f:α→Int) (h:∀ a,1≤f a):∀ l:List α,(l.length:Int)≤(l.map f).sum
 | []=>by simp
 | a::r=>by
  have:=rX f h r
  have:=h a
  simp only [List.map_cons,List.sum_cons,List.length_cons]
  omega
def tdp:Nat→PyData→Bool
 | 0,.tuple _=>false
 | n + 1,.tuple ds=>ds.all (tdp n)
 | _,_=>true
theorem pJ:∀ (n:Nat) (d:PyData),bp n d=true→tdp n d=true
 | 0,d,h=>by cases d <;> first | rfl | cases h
 | n + 1,d,h=>by
  cases d with
  | tuple ds=>
   have e:bp (n + 1) (.tuple ds)=(decide (ds.length≤8) && ds.all (bp n)):=rfl
   rw [e,Bool.and_eq_true] at h
   show ds.all (tdp n)=true
   exact List.all_eq_true.mpr fun x hx=>pJ n x (List.all_eq_true.mp h.2 x hx)
  | _=>rfl
def eU (best:Int):List Int→Int
 | []=>best
 | n::r=>eU (if n > best then n else best) r
def fq (d:Int):List Int→Int
 | []=>d
 | n::r=>eU n r
def tP:Nat→PyData→Int
 | n + 1,.tuple ds=>1 + fq 0 (ds.map (tP n))
 | _,_=>0
def tG (acc:Int):List Int→Int
 | []=>acc
 | n::r=>tG (if 1 + n > acc then 1 + n else acc) r
def ldp:Nat→PyData→Int
 | n + 1,.tuple ds=>tG 1 (ds.map (ldp n))
 | _,_=>0
end K1
namespace L2
open PySem
def bJ (env:Env):List (Str×NameKind)→List (Str×Addr)→List (Str×Addr)
 | [],acc=>acc
 | (n,k)::r,acc=>bJ env r (if (k == .free)=true then (n,(env.cells.lookup n).getD 0)::acc else acc)
theorem mj {env:Env}:∀ (l:List (Str×NameKind)) (acc:List (Str×Addr)),(∀ x∈l,x.2=.free→∃ c,env.cells.lookup x.1=some c) →
  (forIn l acc (fun x r=>match x with
   | (name,kind)=>if (kind == NameKind.free)=true then (do
     let c ← cellOf env name
     pure (ForInStep.yield ((name,c)::r))) else pure (ForInStep.yield r)):Sem (List (Str×Addr)))=pure (bJ env l acc)
 | [],acc,_=>rfl
 | (n,k)::r,acc,h=>by
  rw [List.forIn_cons]
  have hr:∀ x∈r,x.2=.free→∃ c,env.cells.lookup x.1=some c:=fun x hx=>h x (List.mem_cons_of_mem _ hx)
  cases hk:(k == NameKind.free) with
  | false=>
   have ih:=mj r acc hr
   have e:bJ env ((n,k)::r) acc=bJ env r acc:=by simp [bJ,hk]
   rw [e]
   dsimp only
   rw [if_neg (by rw [hk]; exact Bool.false_ne_true)]
   exact ih
  | true=>
   obtain ⟨c,hc⟩:=h (n,k) List.mem_cons_self (by simpa using hk)
   have ih:=mj r ((n,c)::acc) hr
   have hc':env.cells.lookup n=some c:=hc
   have e:bJ env ((n,k)::r) acc=bJ env r ((n,c)::acc):=by simp [bJ,hk,hc']
   have e2:cellOf env n=pure c:=by unfold cellOf; rw [hc']
   rw [e]
   dsimp only
   rw [if_pos hk,e2]
   exact ih
theorem lU {scope:Scope} {env:Env} (h:∀ x∈scope.names,x.2=.free→∃ c,env.cells.lookup x.1=some c):closureFor scope env=pure (bJ env scope.names []):=by
 have q:=mj (env:=env) scope.names [] h
 unfold closureFor
 exact congrArg (fun t=>t >>= fun z=>pure z) q
theorem lR {env:Env}:∀ (l:List (Str×NameKind)) (acc:List (Str×Addr)) (x:Str) (c:Addr),(∀ y d,acc.lookup y=some d→env.cells.lookup y=some d) →
  (∀ y∈l,y.2=.free→∃ c,env.cells.lookup y.1=some c)→(bJ env l acc).lookup x=some c→env.cells.lookup x=some c
 | [],acc,x,c,ha,_,e=>ha x c e
 | (n,k)::r,acc,x,c,ha,h,e=>by
  have hr:∀ x∈r,x.2=.free→∃ c,env.cells.lookup x.1=some c:=fun x hx=>h x (List.mem_cons_of_mem _ hx)
  refine lR r _ x c ?_ hr e
  intro y d q
  cases hk:(k == NameKind.free) with
  | false=>rw [hk,if_neg Bool.false_ne_true] at q; exact ha y d q
  | true=>
   rw [hk,if_pos rfl] at q
   obtain ⟨c',hc⟩:=h (n,k) List.mem_cons_self (by simpa using hk)
   have hc':env.cells.lookup n=some c':=hc
   rw [List.lookup_cons] at q
   by_cases z:y=n
   ·subst z
    simp [hc'] at q
    rw [hc',q]
   ·have z':(y == n)=false:=beq_eq_false_iff_ne.mpr z
    rw [z'] at q
    exact ha y d q
theorem oU {env:Env}:∀ (l:List (Str×NameKind)) (acc:List (Str×Addr)) (x:Str),(acc.lookup x).isSome=true→((bJ env l acc).lookup x).isSome=true
 | [],_,_,h=>h
 | (n,k)::r,acc,x,h=>by
  refine oU r _ x ?_
  cases hk:(k == NameKind.free) with
  | false=>rw [if_neg Bool.false_ne_true]; exact h
  | true=>
   rw [if_pos rfl,List.lookup_cons]
   cases z:(x == n) with
   | true=>rfl
   | false=>exact h
theorem lV {env:Env}:∀ (l:List (Str×NameKind)) (acc:List (Str×Addr)) (x:Str),(x,NameKind.free)∈l→((bJ env l acc).lookup x).isSome=true
 | [],_,_,h=>absurd h (by simp)
 | (n,k)::r,acc,x,h=>by
  rcases List.mem_cons.mp h with e | e
  ·cases e
   refine oU r _ _ ?_
   rw [if_pos (by decide),List.lookup_cons]
   simp
  ·exact lV r _ x e
open PySem PySem.Spec PyProof.Rows
structure CS (osc:Scope) (N:List Str) (x:Str) (scope:Scope) (N':List Str):Prop where
 kind:scope.kind=.function
 nocell:∀ y∈scope.names,y.2≠.cell
 names:∀ y∈scope.names,y.2=.local→scope.names.lookup y.1=some .local
 hx:scope.names.lookup x=some .local
 only:∀ y∈scope.names,y.2=.local→y.1=x∨y.1 = ".0"
 free:∀ y∈scope.names,y.2=.free→osc.names.lookup y.1=some .cell∨osc.names.lookup y.1=some .free
 nd:(x::N').Nodup
 n0:(".0" : Str)∉N'
 len:N'.length=N.length
 rel:∀ p∈N'.zip N,p.1=p.2∨∀ q∈scope.names,q.1≠p.1
theorem CS.at {osc:Scope} {N N':List Str} {x:Str} {scope:Scope} (S:CS osc N x scope N') {j:Nat} {y:Str} (h:N'[j]? = some y):N[j]? = some y∨∀ q∈scope.names,q.1≠y:=by
 have hl:j < N'.length:=(List.getElem?_eq_some_iff.mp h).1
 have hl2:j < N.length:=by rw [← S.len]; exact hl
 have m:(N'.zip N)[j]? = some (y,N[j]):=by
  rw [List.getElem?_zip_eq_some]
  exact ⟨h,List.getElem?_eq_getElem hl2⟩
 rcases S.rel _ (List.mem_of_getElem? m) with z | z
 ·left
  rw [List.getElem?_eq_getElem hl2]
  exact congrArg some z.symm
 ·exact .inr z
theorem qa {c:Str×NameKind→Bool}:∀ {names:List (Str×NameKind)} {y:Str} {k':NameKind},
  (names.map fun p=>if (p.2 == NameKind.free && c p)=true then (p.1,NameKind.cell) else (p.1,p.2)).lookup y=some k'→∃ k,(y,k)∈names∧(k'=k∨(k=.free∧k'=.cell))
 | [],_,_,h=>by simp at h
 | (n,k)::r,y,k',h=>by
  rw [List.map_cons] at h
  by_cases hy:y=n
  ·subst hy
   cases hc:(k == NameKind.free && c (y,k)) with
   | false=>
    simp only [hc,Bool.false_eq_true,if_false,List.lookup_cons,beq_self_eq_true] at h
    cases h
    exact ⟨k,List.mem_cons_self,.inl rfl⟩
   | true=>
    simp only [hc,if_true,List.lookup_cons,beq_self_eq_true] at h
    cases h
    have e:k=.free:=by
     have:=(Bool.and_eq_true _ _).mp hc
     simpa using this.1
    exact ⟨k,List.mem_cons_self,.inr ⟨e,rfl⟩⟩
  ·have hb:(y == n)=false:=beq_eq_false_iff_ne.mpr hy
   have h':(r.map fun p=>if (p.2 == NameKind.free && c p)=true then (p.1,NameKind.cell) else (p.1,p.2)).lookup y=some k':=by
    cases hc:(k == NameKind.free && c (n,k)) with
    | false=>simp only [hc,Bool.false_eq_true,if_false,List.lookup_cons,hb] at h; exact h
    | true=>simp only [hc,if_true,List.lookup_cons,hb] at h; exact h
   obtain ⟨k2,m,e⟩:=qa h'
   exact ⟨k2,List.mem_cons_of_mem _ m,e⟩
theorem iF {scope:Scope} {env:Env} {y:Str} {k':NameKind} (h:(relabel scope env).names.lookup y=some k'):∃ k,(y,k)∈scope.names∧(k'=k∨(k=.free∧k'=.cell)):=by
 refine qa (c:=fun p=>env.scope.kind == .function && env.kindOf p.1 == some .cell) ?_
 rw [← h]
 unfold relabel
 congr 1
 refine List.map_congr_left fun p _=>?_
 obtain ⟨n,k⟩:=p
 simp only [Bool.and_assoc]
abbrev cP (X:Cx) (x:Str) (scope:Scope) (C:Addr) (s0:Shared) (H0:Hp) (ex:List Addr) (N':List Str):Cx where
 prog:=X.prog
 w:=X.w
 K:=X.K
 mg:=X.mg
 base:=X.base
 A:=X.A
 N:=x::N'
 s₀:=s0
 H₀:=H0
 env:=compEnvC scope (bJ X.env scope.names []) C X.env
 outer:=X.stack
 stack:=X.stack
 ex:=ex
 fn:=fun _=>false
 calm:=X.calm
 pn:=[]
 xe:=fun _ _=>False
section
variable {X:Cx} {pins:List (Addr×Obj)} {σ:St} {H:Hp} {s:Shared} {x:Str} {scope:Scope} {N':List Str}
theorem my (I:Inv X pins σ H s) (S:CS X.env.scope X.N x scope N'):∀ y∈scope.names,y.2=.free→∃ c,X.env.cells.lookup y.1=some c:=fun y hy e=>
 I.ok.has y.1 (S.free y hy e)
theorem pG (I:Inv X pins σ H s) (S:CS X.env.scope X.N x scope N') {y:Str} {c:Addr} (e:(bJ X.env scope.names []).lookup y=some c):X.env.cells.lookup y=some c:=lR scope.names [] y c (fun _ _ z=>by simp at z) (my I S) e
theorem ql (I:Inv X pins σ H s) (S:CS X.env.scope X.N x scope N') {y:Str} (e:(y,NameKind.free)∈scope.names):∃ c,(bJ X.env scope.names []).lookup y=some c∧X.env.cells.lookup y=some c:=by
 obtain ⟨c,hc⟩:=Option.isSome_iff_exists.mp (lV (env:=X.env) scope.names [] y e)
 exact ⟨c,hc,pG I S hc⟩
theorem oR {fp:List Addr} {h':Heap} {m:Str→Option Value} {tk:Nat} {oD oC:Obj} (I:Inv X pins σ H s) (S:CS X.env.scope X.N x scope N') (hf:∀ b∈fp,cM X pins H b) (ho:∀ b∈fp,∃ o,s.heap.get? b=some o)
  (hns:h'.Ns (s.heap.push oD).objs.size m) (hsb:Heap.SameBut (s.heap.push oD).objs.size ((s.heap.push oD).push oC) h') :
  Inv (cP X x scope (s.heap.push oD).objs.size { s with heap:=s.heap.push oD } H (s.heap.objs.size::fp) N') [] (none::σ) H { s with heap:=h',toks:=tk }:=by
 have I3:Inv X pins σ H { s with heap:=s.heap.push oD,toks:=s.toks }:=I.kept fun b o e=>Heap.get?_push_of_some _ e
 have hC:(s.heap.push oD).objs.size=s.heap.objs.size + 1:=Heap.size_push ..
 have up3:∀ b o,(s.heap.push oD).get? b=some o→h'.get? b=some o:=fun b o e=>
  (hsb.2 b (Nat.ne_of_lt (Heap.lt_size e))).trans (Heap.get?_push_of_some _ e)
 have up:∀ b o,s.heap.get? b=some o→h'.get? b=some o:=fun b o e=>up3 b o (Heap.get?_push_of_some _ e)
 have cl:=fun {y c} e=>pG (y:=y) (c:=c) I S e
 have clt:∀ y c,X.env.cells.lookup y=some c→c < s.heap.objs.size:=fun y c e=>let ⟨v,q⟩:=I.cell y c e; q.lt
 have inner:∀ {y:Str} {k':NameKind},(relabel scope X.env).names.lookup y=some k'→(k'=.cell∨k'=.free)→(y,NameKind.free)∈scope.names:=fun {y k'} e hk=>by
  obtain ⟨k,mem,r⟩:=iF e
  rcases r with r | ⟨r,_⟩
  ·rcases hk with z | z
   ·exact absurd (r.symm.trans z) (S.nocell _ mem)
   ·rw [← r.symm.trans z]; exact mem
  ·rw [← r]; exact mem
 have ok:(cP X x scope (s.heap.push oD).objs.size { s with heap:=s.heap.push oD } H (s.heap.objs.size::fp) N').Ok:=by
  refine ⟨I.ok.mod,S.kind,I.ok.glob,I.ok.blt,Nat.le_refl _,fun y z c e1 e2=>I.ok.inj y z c (cl e1) (cl e2),fun y hk=>?_,fun y c e=>(nomatch e),I.ok.hd,I.ok.frames,.inl rfl,fun b hb=>?_,fun b o e=>?_,
   Nat.le_trans (Nat.le_trans I.ok.bsz I.sz) (by show s.heap.objs.size≤(s.heap.push oD).objs.size; omega),fun b o e hb=>?_,fun b hb z=>?_,I3.stack,I.stkFree⟩
  ·have mem:(y,NameKind.free)∈scope.names:=by
    rcases hk with z | z
    ·exact inner z (.inl rfl)
    ·exact inner z (.inr rfl)
   obtain ⟨c,hc,_⟩:=ql I S mem
   exact ⟨c,hc⟩
  ·rcases List.mem_cons.mp hb with e | e
   ·subst e
    exact ⟨by show s.heap.objs.size≠(s.heap.push oD).objs.size; omega,fun y c e=>Nat.ne_of_lt (clt y c (cl e))⟩
   ·obtain ⟨o,q⟩:=ho b e
    have q2:=Heap.lt_size q
    exact ⟨by show b≠(s.heap.push oD).objs.size; rw [hC]; exact Nat.ne_of_lt (Nat.lt_succ_of_lt q2),fun y c e'=>(hf b e).2.2.2.2.1 y c (cl e')⟩
  ·exact ⟨Heap.get?_push_of_some _ (I.bs b o e).1,(I.bs b o e).2⟩
  ·rcases List.mem_cons.mp hb with z | z
   ·have q2:=Heap.lt_size (I.bs b o e).1
    rw [z] at q2
    exact Nat.lt_irrefl _ q2
   ·rcases (hf b z).2.2.2.1 with q | q
    ·exact I.ok.noex b o e q
    ·have q2:=Heap.lt_size (I.ok.bs b o e).1
     exact Nat.lt_irrefl _ (Nat.lt_of_lt_of_le q2 q)
  ·have z':=I.stkSub b z
   rcases List.mem_cons.mp hb with e | e
   ·subst e
    rcases List.mem_cons.mp z' with q | q
    ·have q2:=I.lt
     rw [← q] at q2
     exact Nat.lt_irrefl _ q2
    ·exact I.nofs (Nat.le_refl _) q
   ·rcases List.mem_cons.mp z' with q | q
    ·exact (hf b e).2.1 q
    ·exact (hf b e).2.2.1 q
 obtain ⟨mo,hno,hlo⟩:=I.loc
 refine ⟨ok,rfl,I.bare,Un.kept up3,⟨m,hns,fun i y v e1 e2 e3=>?_⟩,fun y c e=>?_,I.hok.fresh (by show s.heap.objs.size≤(s.heap.push oD).objs.size; omega),fun y c e=>I.freeC y c (cl e),fun p hp=>absurd hp (by simp),I.hok.kept up,?_⟩
 ·cases i with
  | zero=>simp at e2
  | succ j=>
   have e1n:N'[j]? = some y:=by simpa using e1
   have vis:∃ k,(y,k)∈scope.names:=by
    rcases (show Vis (relabel scope X.env) y from e3) with z | z | z <;> exact let ⟨k,mem,_⟩:=iF z; ⟨k,mem⟩
   have e1':X.N[j]? = some y:=by
    rcases S.at e1n with z | z
    ·exact z
    ·obtain ⟨k,mem⟩:=vis
     exact absurd rfl (z _ mem)
   have e2':σ[j]? = some (some v):=by simpa using e2
   have yx:y≠x:=fun z=>by
    have nd:=S.nd
    rw [List.nodup_cons] at nd
    refine nd.1 ?_
    rw [← z]
    exact List.mem_of_getElem? e1n
   have kin:((relabel scope X.env).names.lookup y=some .cell∨(relabel scope X.env).names.lookup y=some .free):=by
    rcases (show Vis (relabel scope X.env) y from e3) with z | z | z
    ·obtain ⟨k,mem,r⟩:=iF z
     rcases r with r | ⟨_,r⟩
     ·rcases S.only _ mem r.symm with z2 | z2
      ·exact absurd z2 yx
      ·exact absurd (List.mem_of_getElem? e1n) (by rw [show y=(".0" : Str) from z2]; exact S.n0)
     ·cases r
    ·exact .inl z
    ·exact .inr z
   have mem:(y,NameKind.free)∈scope.names:=by
    rcases kin with z | z
    ·exact inner z (.inl rfl)
    ·exact inner z (.inr rfl)
   have vo:Vis X.env.scope y:=by
    rcases S.free _ mem rfl with z | z
    ·exact .inr (.inl z)
    ·exact .inr (.inr z)
   obtain ⟨u,ru,lk⟩:=hlo j y v e1' e2' vo
   refine ⟨u,ru,.inr ⟨kin,?_⟩⟩
   obtain ⟨c,hc,hc'⟩:=ql I S mem
   refine ⟨c,hc,?_⟩
   rcases lk with ⟨z,_⟩ | ⟨_,c2,z2,q⟩
   ·exfalso
    have z':X.env.scope.names.lookup y=some .local:=z
    rcases S.free _ mem rfl with r | r <;> (rw [z'] at r; cases r)
   ·rw [hc'] at z2
    cases z2
    obtain ⟨o,q1,q2⟩:=q
    exact ⟨o,up _ _ q1,q2⟩
 ·obtain ⟨v,o,q1,q2⟩:=I.cell y c (cl e)
  exact ⟨v,o,up _ _ q1,q2⟩
 ·have:=I.len
  simp [this,S.len]
theorem oQ {fp:List Addr} {σ':St} {pins':List (Addr×Obj)} {H1:Hp} {s1:Shared} {h':Heap} {C:Addr} {oD:Obj} {ys:List V} (I:Inv X pins σ H s) (hf:∀ b∈fp,cM X pins H b)
  (hCd:C=(s.heap.push oD).objs.size) (J:Inv (cP X x scope C { s with heap:=s.heap.push oD } H (s.heap.objs.size::fp) N') pins' σ' H1 s1) (hsb:Heap.SameBut C s1.heap h') (hD0:H1 s.heap.objs.size=none)
  (new:∃ its n,Vals ys its∧s1.heap.get? s.heap.objs.size=some { cls:=.type "list",data:=.seq its.toArray n }) (hz:ys.length≤sizeLine) :
  Inv X pins σ (upd H1 s.heap.objs.size (.lst ys)) { s1 with heap:=h' }:=by
 have hC:C=s.heap.objs.size + 1:=by rw [hCd]; exact Heap.size_push ..
 have nD:∀ b o,s.heap.get? b=some o→b≠s.heap.objs.size:=fun b o e=>Nat.ne_of_lt (Heap.lt_size e)
 have nC:∀ b o,s.heap.get? b=some o→b≠C:=fun b o e=>by rw [hC]; exact Nat.ne_of_lt (Nat.lt_succ_of_lt (Heap.lt_size e))
 have up:∀ b o,s.heap.get? b=some o→(s.heap.push oD).get? b=some o:=fun b o e=>Heap.get?_push_of_some _ e
 have nx:∀ b,b∉fp→b≠s.heap.objs.size→b∉s.heap.objs.size::fp:=fun b h1 h2 z=>(List.mem_cons.mp z).elim h2 h1
 have hDC:s.heap.objs.size≠C:=by rw [hC]; exact Nat.ne_of_lt (Nat.lt_succ_self _)
 have tr:∀ b u,H1 b=some u→b≠s.heap.objs.size:=fun b u e z=>by rw [z,hD0] at e; cases e
 have trC:∀ b u,H1 b=some u→b≠C:=fun b u e z=>by
  have:=J.free
  rw [z] at e
  have q:H1 C=none:=J.free
  rw [q] at e; cases e
 obtain ⟨its,n,rv,eD⟩:=new
 have B:Un (frs X.stack) (s.heap.objs.size::fp) H H1 (s.heap.push oD) s1.heap:=J.base
 refine I.call' (s':={ s1 with heap:=h' }) (ch:=fp) J.os ⟨fun b o e q h1 h2=>?_,fun b o e q h1 h2=>?_,fun b o e q h2=>?_,fun b o e h2=>?_,fun b xs e=>?_,fun b o u e=>?_,fun b ps e=>?_⟩ (fun b u e=>?_) J.bare fun b hb=>?_
 ·exact (hsb.2 b (nC b o e)).trans (B.keep b o (up b o e) q h1 (nx b h2 (nD b o e)))
 ·obtain ⟨sl,z⟩:=B.slot b o (up b o e) q h1 (nx b h2 (nD b o e))
  exact ⟨sl,(hsb.2 b (nC b o e)).trans z⟩
 ·rw [aO (nD b o e)]
  exact B.free b o (up b o e) q (nx b h2 (nD b o e))
 ·obtain ⟨o',z⟩:=B.there b o (up b o e) (nx b h2 (nD b o e))
  exact ⟨o',(hsb.2 b (nC b o e)).trans z⟩
 ·have z:=B.tups b xs e
  rw [aO (tr b _ z)]; exact z
 ·have z:=B.frzs b o u e
  rw [aO (tr b _ z)]; exact z
 ·obtain ⟨more,z⟩:=B.tbls b ps e
  exact ⟨more,by rw [aO (tr b _ z)]; exact z⟩
 ·by_cases hb:b=s.heap.objs.size
  ·subst hb
   rw [bG] at e
   cases e
   exact ⟨hz,its,n,rv,(hsb.2 _ hDC).trans eD⟩
  ·rw [aO hb] at e
   refine (J.hok b u e).stay (fun c v hc q=>(hsb.2 c ?_).trans q) (fun c q=>by rw [aO (tr c _ q)]; exact q) fun c xs q=>by rw [aO (tr c _ q)]; exact q
   rcases hc with z | z
   ·rw [z]; exact trC b u e
   ·exact trC c _ z
 ·obtain ⟨_,f1,_,f3,f4,f5⟩:=hf b hb
  exact ⟨f3,f1,f4,f5⟩
end
def PTs (X:Cx) (ifs:List Expr) (t:TT):Prop:=
 ∀ (pins:List (Addr×Obj)) (s:Shared) (σ:St) (H:Hp) (Q:Bool→Hp→Prop) (E:Value→Shared→Prop),Inv X pins σ H s→t σ H Q →
  wpAny (model X.prog X.w) X.A (forIn ifs true fun c r=>if r=true then do
   let ok ← isTrue c X.env (eval c X.env)
   pure (ForInStep.yield ok) else pure (ForInStep.yield r)) (TP X pins σ Q) E s
theorem y6 {X:Cx}:PTs X [] (fun _ H Q=>Q true H):=fun _ _ _ H _ _ I h=>wpAny_tests_nil ⟨H,I,h⟩
theorem y4 {X:Cx} {c:Expr} {t:TT} (hx:X.xe=fun _ _=>False) (h:PT X c t):PTs X [c] t:=fun pins s σ H Q _ I q=>
 wpAny_tests_one (wpAny_mono (h pins s σ H Q I q) (fun _ _ z=>z) fun e s' z=>by rw [hx] at z; exact z.elim)
def lu (σ:St) (J:It) (tt:TT) (te:TE) (W:Nat→Nat→List V→Hp→Prop) (D:List V→Hp→Prop):Prop:=∀ i m ys H,W i m ys H →
 (J.stop i H∧ys.length≤sizeLine∧D ys H)∨(J.go i H∧ys.length < sizeLine∧∃ N:List V→Hp→Prop,(∀ ys' H',N ys' H'→∃ m',m' < m∧W (i + 1) m' ys' H')∧∀ v H',J.yld i H v H'→tt (some v::σ) H' fun b H2=>
  if b=true then te (some v::σ) H2 fun y H3=>N (ys++[y]) H3 else N ys H2)
section
variable {X:Cx} {pins:List (Addr×Obj)} {σ:St} {H:Hp} {s:Shared} {x:Str} {scope:Scope} {N':List Str}
theorem pF {fp:List Addr} {it C:Addr} {tn:Nat→Heap→Prop} {J:It} {oD:Obj} {elt iter:Expr} {ifs:List Expr} {px pos:Pos} {te:TE} {tt:TT} {W:Nat→Nat→List V→Hp→Prop} {Dn:List V→Hp→Prop}
  {R:Result→Shared→Prop} {σ':St} {s4:Shared} {m0:Nat} (hcalm:X.calm=true) (S:CS X.env.scope X.N x scope N') (hf:∀ b∈fp,cM X pins H b) (ho:∀ b∈fp,∃ o,s.heap.get? b=some o) (hCd:C=(s.heap.push oD).objs.size)
  (T:Turn X.prog X.w X.K (.Name x px) J fp it tn) (I4:Inv (cP X x scope C { s with heap:=s.heap.push oD } H (s.heap.objs.size::fp) N') [] (none::σ) H s4) (st4:tn 0 s4.heap) (hD4:s4.heap.get? s.heap.objs.size=some { cls:=.type "list",data:=.seq #[] 0 })
  (hDn:H s.heap.objs.size=none) (hte:PE (cP X x scope C { s with heap:=s.heap.push oD } H (s.heap.objs.size::fp) N') elt te) (htt:PTs (cP X x scope C { s with heap:=s.heap.push oD } H (s.heap.objs.size::fp) N') ifs tt)
  (w0:W 0 m0 [] H) (turn:lu σ J tt te W Dn)
  (hR:∀ s1 H1 σ1 ys its n,Inv (cP X x scope C { s with heap:=s.heap.push oD } H (s.heap.objs.size::fp) N') [] σ1 H1 s1→H1 s.heap.objs.size=none→Vals ys its→s1.heap.get? s.heap.objs.size=some { cls:=.type "list",data:=.seq its.toArray n }→ys.length≤sizeLine→Dn ys H1→R (.ok .next) s1) :
  codeAny (model X.prog X.w) X.A (.compLoop (.ListComp elt [⟨.Name x px,iter,ifs,0⟩] scope pos) 0 (.ref it) (.ref s.heap.objs.size) (compEnvC scope (bJ X.env scope.names []) C X.env)) R s4:=by
 have hC:C=s.heap.objs.size + 1:=by rw [hCd]; exact Heap.size_push ..
 generalize hX:cP X x scope C { s with heap:=s.heap.push oD } H (s.heap.objs.size::fp) N'=X' at *
 have xP:X'.prog=X.prog:=by rw [← hX]
 have xW:X'.w=X.w:=by rw [← hX]
 have xK:X'.K=X.K:=by rw [← hX]
 have xA:X'.A=X.A:=by rw [← hX]
 have xE:X'.env=compEnvC scope (bJ X.env scope.names []) C X.env:=by rw [← hX]
 have xC:X'.calm=true:=by rw [← hX]; exact hcalm
 have xex:X'.ex=s.heap.objs.size::fp:=by rw [← hX]
 have xpn:X'.pn=[]:=by rw [← hX]
 have xxe:X'.xe=fun _ _=>False:=by rw [← hX]
 have xN:X'.N=x::N':=by rw [← hX]
 have xL:X'.env.locals=C:=by rw [xE]; rfl
 have xloc:X'.env.scope.names.lookup x=some .local:=by rw [xE]; exact lookup_relabel_local S.hx
 have lt:∀ b∈fp,b < s.heap.objs.size:=fun b hb=>let ⟨_,e⟩:=ho b hb; Heap.lt_size e
 have fpk:∀ {pl:List (Addr×Obj)} {H':Hp},(∀ p∈pl,p.1=s.heap.objs.size)→(∀ b∈fp,H' b=none)→∀ b∈fp,cM X' pl H' b:=fun {pl H'} hp hn b hb=>by
  have okk:=I4.ok
  have hm:b∈X'.ex:=by rw [xex]; exact List.mem_cons_of_mem _ hb
  refine ⟨hn b hb,(okk.exf b hm).1,okk.exfs b hm,.inl hm,(okk.exf b hm).2,fun p hpl z=>?_⟩
  rw [xpn] at hpl
  have q1:=hp p (by simpa using hpl)
  have q2:=lt b hb
  rw [← z,q1] at q2
  exact Nat.lt_irrefl _ q2
 have dok:∀ {pl:List (Addr×Obj)} {H':Hp},(∀ p∈pl,p.1∈fp)→H' s.heap.objs.size=none→cM X' pl H' s.heap.objs.size:=fun {pl H'} hp hn=>by
  have okk:=I4.ok
  have hm:s.heap.objs.size∈X'.ex:=by rw [xex]; exact List.mem_cons_self
  refine ⟨hn,(okk.exf _ hm).1,okk.exfs _ hm,.inl hm,(okk.exf _ hm).2,fun p hpl z=>?_⟩
  rw [xpn] at hpl
  have q2:=lt p.1 (hp p (by simpa using hpl))
  rw [z] at q2
  exact Nat.lt_irrefl _ q2
 refine codeAny_compLoop_tests (I:=fun m s'=>∃ i σx H' ys its n,Inv X' [] (σx::σ) H' s'∧tn i s'.heap∧(∀ b∈fp,H' b=none)∧H' s.heap.objs.size=none∧Vals ys its∧s'.heap.get? s.heap.objs.size=some { cls:=.type "list",data:=.seq its.toArray n }∧W i m ys H') ?_ m0
  ⟨0,none,H,[],[],0,I4,st4,fun b hb=>(hf b hb).1,hDn,.nil,hD4,w0⟩
 rintro m s5 ⟨i,σx,H5,ys,its,n,I5,st5,fr5,d5,rv,e5,w5⟩
 have I5d:Inv X' ([]++eF [s.heap.objs.size] s5.heap) (σx::σ) H5 s5:=I5.pinned (fun b hb=>by
   have e:b=s.heap.objs.size:=by simpa using hb
   rw [e]; exact dok (fun p hp=>absurd hp (by simp)) d5) fun b hb=>by
   have e:b=s.heap.objs.size:=by simpa using hb
   rw [e]; exact ⟨_,e5,fun v z=>by cases z⟩
 have pD:([]++eF [s.heap.objs.size] s5.heap:List (Addr×Obj))=[(s.heap.objs.size,{ cls:=.type "list",data:=.seq its.toArray n })]:=by
  simp [eF,e5]
 rw [pD] at I5d
 have p1:∀ p∈[(s.heap.objs.size,({ cls:=.type "list",data:=.seq its.toArray n }:Obj))],p.1=s.heap.objs.size:=fun p hp=>by
  have e:p=(s.heap.objs.size,{ cls:=.type "list",data:=.seq its.toArray n }):=by simpa using hp
  rw [e]
 have hsz:its.length=ys.length:=rv.length.symm
 rcases turn i m ys H5 w5 with ⟨stop,hz,dn⟩ | ⟨go,hz,N,hN,step⟩
 ·have q:=T.done X' xP xW xK xC i _ s5 (σx::σ) H5 (notedBy (model X.prog X.w) X.A (compEnvC scope (bJ X.env scope.names []) C X.env) fun e s'=>R (.error e) s') I5d (fpk p1 fr5) st5 stop
  rw [xA] at q
  refine wpAny_mono q (fun r s6 z=>?_) fun _ _ z=>z
  obtain ⟨rfl,I6⟩:=z
  refine hR s6 H5 (σx::σ) ys its n ?_ d5 rv (I6.pin _ (List.mem_append_right _ (List.mem_singleton.mpr rfl))).1 hz dn
  exact I6.pins_of fun p hp=>absurd hp (by simp)
 ·have q:=T.item X' xP xW xK xC i _ s5 (σx::σ) H5 (notedBy (model X.prog X.w) X.A (compEnvC scope (bJ X.env scope.names []) C X.env) fun e s'=>R (.error e) s') I5d (fpk p1 fr5) st5 go
  rw [xA] at q
  refine wpAny_mono q (fun r s6 z=>?_) fun _ _ z=>z
  obtain ⟨u,rfl,z⟩:=z
  dsimp only
  have z':wpAny (model X.prog X.w) X.A (pure ()) _ _ s6:=z
  refine wpAny_bind (m:=pure ()) (f:=fun _=>assign (.Name x px) (compEnvC scope (bJ X.env scope.names []) C X.env) u) (wpAny_mono z' (fun _ s7 z=>?_) fun _ _ z=>z)
  obtain ⟨v,H7,I7,rv7,y7,st7,fr7⟩:=z
  have I7p:=I7.pinned (fpk p1 fr7) (T.obj _ _ st7)
  rw [← xE]
  have nd:X'.N.Nodup:=by rw [xN]; exact S.nd
  have hi0:X'.N[0]? = some x:=by rw [xN]; rfl
  refine wpAny_assign_Name (mr (E:=notedBy (model X.prog X.w) X.A X'.env fun e s'=>R (.error e) s') (i:=0) I7p nd hi0 (.inl xloc) rv7 (fun s8 I8=>?_) (.inr xloc))
  have I8':Inv X' _ (some v::σ) H7 s8:=I8
  have t8:=htt _ s8 (some v::σ) H7 _ (notedBy (model X.prog X.w) X.A X'.env fun e s'=>R (.error e) s') I8' (step v H7 y7)
  rw [xP,xW,xA] at t8
  refine wpAny_mono t8 (fun ok s9 z=>?_) fun _ _ z=>z
  obtain ⟨H9,I9,q9⟩:=z
  have back:∀ {s':Shared} {H':Hp} {σ2:St},Inv X' ([(s.heap.objs.size,({ cls:=.type "list",data:=.seq its.toArray n }:Obj))]++eF fp s7.heap) σ2 H' s' →
    tn (i + 1) s'.heap∧(∀ b∈fp,H' b=none)∧H' s.heap.objs.size=none∧s'.heap.get? s.heap.objs.size=some { cls:=.type "list",data:=.seq its.toArray n }∧Inv X' [] σ2 H' s':=fun {s' H' σ2} I'=>by
   refine ⟨T.keep _ _ _ st7 fun b hb o e=>(I'.pin (b,o) (List.mem_append_right _ (List.mem_append_right _ (iI hb e)))).1,fun b hb=>?_,?_,?_,I'.pins_of fun p hp=>absurd hp (by simp)⟩
   ·obtain ⟨o,e,_⟩:=T.obj _ _ st7 b hb
    exact (I'.pin (b,o) (List.mem_append_right _ (List.mem_append_right _ (iI hb e)))).2.1
   ·exact (I'.pin (s.heap.objs.size,_) (List.mem_append_right _ (List.mem_append_left _ (List.mem_singleton.mpr rfl)))).2.1
   ·exact (I'.pin (s.heap.objs.size,_) (List.mem_append_right _ (List.mem_append_left _ (List.mem_singleton.mpr rfl)))).1
  cases ok with
  | false=>
   simp only [Bool.false_eq_true,if_false] at q9 ⊢
   obtain ⟨m',hm,w9⟩:=hN _ _ q9
   obtain ⟨a1,a2,a3,a4,a5⟩:=back I9
   exact ⟨m',hm,i + 1,some v,H9,ys,its,n,a5,a1,a2,a3,rv,a4,w9⟩
  | true=>
   simp only [if_true] at q9 ⊢
   have t9:=hte _ s9 (some v::σ) H9 _ I9 q9
   rw [xP,xW,xA,xxe] at t9
   refine wpAny_mono t9 (fun u2 s10 z=>?_) fun _ _ z=>z.elim
   obtain ⟨y,H10,I10,r10,q10⟩:=z
   obtain ⟨m',hm,w10⟩:=hN _ _ q10
   obtain ⟨a1,a2,a3,a4,a5⟩:=back I10
   refine wpAny_list_append_plain ⟨n,a4⟩ (fun h' pl sb=>?_) (by rw [List.size_toArray]; omega)
   obtain ⟨n',e'⟩:=pl
   have D0:=dok (pl:=[]) (fun p hp=>absurd hp (by simp)) a3
   refine ⟨m',hm,i + 1,some v,H10,ys++[y],its++[u2],n',a5.turned (t':=s10.toks) (fun b o hb e=>(sb.2 b hb).trans e) D0.1 D0.2.1 D0.2.2.2.1 D0.2.2.2.2.1 D0.2.2.2.2.2,?_,a2,a3,rv.append (.cons r10 .nil),by simpa using e',w10⟩
   exact T.keep _ _ _ a1 fun b hb o e=>(sb.2 b (Nat.ne_of_lt (lt b hb))).trans e
end
section
variable {X:Cx} {x:Str} {scope:Scope} {N':List Str} {elt iter:Expr} {ifs:List Expr} {px pos:Pos} {wi:TI} {te:TE} {tt:TT}
def tj (wi:TI) (tt:TT) (te:TE):TE:=fun σ H Q=>wi σ H fun J H1=>∃ W:Nat→Nat→List V→Hp→Prop,(∃ m,W 0 m [] H1)∧lu σ J tt te W fun ys H=>∀ p,H p=none→Q (.ref p) (upd H p (.lst ys))
theorem zm (hc:X.calm=true) (S:CS X.env.scope X.N x scope N') (hi:PI X (.Name x px) iter wi) (he:∀ C s0 H0 ex,PE (cP X x scope C s0 H0 ex N') elt te)
  (ht:∀ C s0 H0 ex,PTs (cP X x scope C s0 H0 ex N') ifs tt) (hs:∀ v,foldedSetIterable iter X.env v=pure v:=by intro _; rfl):PE X (.ListComp elt [⟨.Name x px,iter,ifs,0⟩] scope pos) (tj wi tt te):=by
 intro pins s σ H Q I h
 rw [eval_ListComp]
 refine wpAny_comprehension_free (use:=none) rfl hs (lU (my I S)) S.kind S.names (thn (hi pins s σ H _ I h) fun v s1 h1=>thn h1 fun itv s2 h2=>?_)
 obtain ⟨it,fp,tn,J,H2,rfl,I2,T,st2,f2,W,⟨m0,w0⟩,turn⟩:=h2
 have ho:∀ b∈fp,∃ o,s2.heap.get? b=some o:=fun b hb=>let ⟨o,e,_⟩:=T.obj _ _ st2 b hb; ⟨o,e⟩
 refine wpAny_newObj_type (wpAny_newFunctionEnv S.nocell (by intro y hy; simp at hy) (fun h' hns hsb=>?_) S.kind)
 have I4:=oR (x:=x) (scope:=scope) (tk:=s2.toks + ([]:List (Str×Value)).length) I2 S f2 ho hns hsb
 have up3:∀ b o,(s2.heap.push { cls:=.type "list",dict:=none,data:=.seq ([]:List Value).toArray }).get? b=some o→h'.get? b=some o:=fun b o e=>
  (hsb.2 b (Nat.ne_of_lt (Heap.lt_size e))).trans (Heap.get?_push_of_some _ e)
 have st4:tn 0 h':=T.keep _ _ _ st2 fun b _ o e=>up3 b o (Heap.get?_push_of_some _ e)
 have loop:=pF (elt:=elt) (iter:=iter) (ifs:=ifs) (pos:=pos) (R:=compPost (model X.prog X.w) X.A X.xe none (EP X pins σ Q) (.ref s2.heap.objs.size) (s2.heap.push { cls:=.type "list",dict:=none,data:=.seq ([]:List Value).toArray }).objs.size) (σ':=σ)
  hc S f2 ho rfl T I4 st4 (up3 _ _ (Heap.get?_push_size _ rfl)) (I2.hok.fresh (Nat.le_refl _)) (he _ _ _ _) (ht _ _ _ _) w0 turn fun s5 H5 σ5 ys its n J5 d5 rv e5 hz dn=>by
   obtain ⟨m,hn,_⟩:=J5.loc
   exact ⟨m,hn,fun h'' sb=>⟨.ref s2.heap.objs.size,_,oQ I2 f2 rfl J5 sb d5 ⟨its,n,rv,e5⟩ hz,rfl,dn _ d5⟩⟩
 exact codeAny_compStart_list loop (T.self X.A 0 _ _ _ st4 loop)
def Co (i:Nat) (wi:TI) (tt:TT) (te:TE):TS:=fun D σ H=>wi σ H fun J H1=>∃ W:Nat→Nat→List V→Hp→Prop,(∃ m,W 0 m [] H1)∧lu σ J tt te W fun ys H=>∀ p,H p=none→D.nx (σ.set i (some (.ref p))) (upd H p (.lst ys))
theorem zf {i:Nat} {y:Str} {py spos:Pos} (hc:X.calm=true) (S:CS X.env.scope X.N x scope N') (hN:X.N.Nodup) (hi':X.N[i]? = some y) (hy:Loc X.env.scope y) (hf':X.fn y=true∨X.env.scope.names.lookup y=some .local)
  (hi:PI X (.Name x px) iter wi) (he:∀ C s0 H0 ex,PE (cP X x scope C s0 H0 ex N') elt te)
  (ht:∀ C s0 H0 ex,PTs (cP X x scope C s0 H0 ex N') ifs tt) (hsw:swapsWith (.ListComp elt [⟨.Name x px,iter,ifs,0⟩] scope pos) (some (.Name y py)) spos.line X.env=pure true) (hs:∀ v,foldedSetIterable iter X.env v=pure v:=by intro _; rfl) :
  PS X (.Assign [.Name y py] (.ListComp elt [⟨.Name x px,iter,ifs,0⟩] scope pos) spos) (Co i wi tt te):=by
 intro pins s σ H D I h
 rw [exec_Assign_Name_used _ _ _ _ hsw]
 refine wpAny_bind (wpAny_standAt (wpAny_bind ?_))
 show wpAny _ _ (do let _ ← comprehension (.ListComp elt [⟨.Name x px,iter,ifs,0⟩] scope pos) scope X.env _ (newList []) false (eval iter X.env) (some (assign (.Name y py) X.env))) _ _ s
 refine wpAny_bind (wpAny_mono (wpAny_comprehension_free (use:=some (assign (.Name y py) X.env)) (Q:=fun _ s'=>SP X pins D .next s') rfl hs (lU (my I S)) S.kind S.names (thn (hi pins s σ H _ I h) fun v s1 h1=>thn h1 fun itv s2 h2=>?_)) (fun _ _ q=>wpAny_pure (wpAny_pure q)) fun _ _ q=>q)
 obtain ⟨it,fp,tn,J,H2,rfl,I2,T,st2,f2,W,⟨m0,w0⟩,turn⟩:=h2
 have ho:∀ b∈fp,∃ o,s2.heap.get? b=some o:=fun b hb=>let ⟨o,e,_⟩:=T.obj _ _ st2 b hb; ⟨o,e⟩
 refine wpAny_newObj_type (wpAny_newFunctionEnv S.nocell (by intro y hy; simp at hy) (fun h' hns hsb=>?_) S.kind)
 have I4:=oR (x:=x) (scope:=scope) (tk:=s2.toks + ([]:List (Str×Value)).length) I2 S f2 ho hns hsb
 have up3:∀ b o,(s2.heap.push { cls:=.type "list",dict:=none,data:=.seq ([]:List Value).toArray }).get? b=some o→h'.get? b=some o:=fun b o e=>
  (hsb.2 b (Nat.ne_of_lt (Heap.lt_size e))).trans (Heap.get?_push_of_some _ e)
 have st4:tn 0 h':=T.keep _ _ _ st2 fun b _ o e=>up3 b o (Heap.get?_push_of_some _ e)
 have hCs:s2.heap.objs.size≤(s2.heap.push { cls:=.type "list",dict:=none,data:=.seq ([]:List Value).toArray }).objs.size:=by rw [Heap.size_push]; omega
 have hDC:(s2.heap.push { cls:=.type "list",dict:=none,data:=.seq ([]:List Value).toArray }).objs.size≠s2.heap.objs.size:=by rw [Heap.size_push]; omega
 have loop:=pF (elt:=elt) (iter:=iter) (ifs:=ifs) (pos:=pos) (R:=compPost (model X.prog X.w) X.A X.xe (some (assign (.Name y py) X.env)) (fun _ s'=>SP X pins D .next s') (.ref s2.heap.objs.size) (s2.heap.push { cls:=.type "list",dict:=none,data:=.seq ([]:List Value).toArray }).objs.size) (σ':=σ)
  hc S f2 ho rfl T I4 st4 (up3 _ _ (Heap.get?_push_size _ rfl)) (I2.hok.fresh (Nat.le_refl _)) (he _ _ _ _) (ht _ _ _ _) w0 turn fun s5 H5 σ5 ys its n J5 d5 rv e5 hz dn=>by
   have J6:=oQ I2 f2 rfl J5 (Heap.SameBut.refl _ _) d5 ⟨its,n,rv,e5⟩ hz
   obtain ⟨m,hn,_⟩:=J5.loc
   refine wpAny_assign_Name (lX (u:=.ref s2.heap.objs.size) J6 hN hi' hy (show RelV (.ref s2.heap.objs.size) _ from rfl) (fun s7 I7 ⟨a,sb,ha⟩=>?_) hf')
   have hCa:(s2.heap.push { cls:=.type "list",dict:=none,data:=.seq ([]:List Value).toArray }).objs.size≠a:=by
    rcases ha with z | z
    ·rw [z]
     exact Nat.ne_of_gt (Nat.lt_of_lt_of_le I2.lt hCs)
    ·obtain ⟨v,q⟩:=I2.cell _ _ z
     exact Nat.ne_of_gt (Nat.lt_of_lt_of_le q.lt hCs)
   have hn5:H5 (s2.heap.push { cls:=.type "list",dict:=none,data:=.seq ([]:List Value).toArray }).objs.size=none:=J5.free
   have fk:=I2.fpOk (b:=(s2.heap.push { cls:=.type "list",dict:=none,data:=.seq ([]:List Value).toArray }).objs.size) (H':=upd H5 s2.heap.objs.size (.lst ys)) hCs (by rw [aO hDC]; exact hn5)
   refine ⟨m,hn.sameBut sb hCa,fun h'' sb2=>⟨_,_,I7.turned (t':=s7.toks) (fun b o hb e=>(sb2.2 b hb).trans e) fk.1 fk.2.1 fk.2.2.2.1 fk.2.2.2.2.1 fk.2.2.2.2.2,dn _ d5⟩⟩
 exact codeAny_compStart_list loop (T.self X.A 0 _ _ _ st4 loop)
end
section
variable {σ:St} {tt:TT} {te:TE}
end
def Its (z:Str):It:=⟨fun i _=>i < z.cps.size,fun i H v H'=>H'=H∧∃ c,z.cps[i]? = some c∧v=.str ⟨#[c]⟩,fun i _=>z.cps.size≤i⟩
theorem pP {P:Program} {w:World} {K:Frag} {tg:Expr} (z:Str) (t:Tok) (ty:String) (it:Addr) (hty:ty = "str_ascii_iterator"∨ty = "str_iterator") :
  Turn P w K tg (Its z) [it] it (fun i h=>h.IsStrIter it ty z t i) where
 mem:=by simp
 obj:=fun i h st b hb=>by
  have e:b=it:=by simpa using hb
  subst e
  obtain ⟨o,e,c,d⟩:=st
  exact ⟨o,e,fun v q=>by rw [d] at q; cases q⟩
 keep:=fun i h h' st k=>let ⟨o,e,r⟩:=st; ⟨o,k it (by simp) o e,r⟩
 item:=by
  intro X hP hw hK hc i pins s σ H E I hf st hg
  subst hP hw hK
  have hi:i < z.cps.size:=hg
  obtain ⟨f0,f1,f2,f3,f4,f5⟩:=hf it (by simp)
  have fin:∀ h',h'.IsStrIter it ty z t (i + 1)→Heap.SameBut it s.heap h'→∃ u,(some (Value.str ⟨#[z.cps[i]]⟩ s.toks):Option Value)=some u ∧
    wpAny (model X.prog X.w) X.A (letOwnedTupleGo tg (.ref it) u) (fun _ s2=>∃ x H',Inv X pins σ H' s2∧RelV x u∧(Its z).yld i H x H'∧s2.heap.IsStrIter it ty z t (i + 1)∧∀ b∈[it],H' b=none) E { s with heap:=h',toks:=s.toks + 1 }:=fun h' st' sb=>by
   have I1:Inv X pins σ H { s with heap:=h',toks:=s.toks + 1 }:=I.turned (fun b o hb e=>(sb.2 b hb).trans e) f0 f1 f3 f4 f5
   obtain ⟨o,e,c,d⟩:=id st'
   refine ⟨_,rfl,jL (s:={ s with heap:=h',toks:=s.toks + 1 }) (n:=ty) e c d ?_ ⟨.str ⟨#[z.cps[i]]⟩,H,I1,⟨_,rfl⟩,⟨rfl,z.cps[i],by simp [hi],rfl⟩,st',fun b hb=>(hf b hb).1⟩⟩
   rcases hty with e | e <;> (rw [e]; decide)
  rcases hty with e | e
  ·subst e
   exact wpAny_pyNext_ascii_item st (c:=z.cps[i]) (by simp [hi]) fin
  ·subst e
   exact wpAny_pyNext_wide_item st (c:=z.cps[i]) (by simp [hi]) fin
 done:=by
  intro X hP hw hK hc i pins s σ H E I hf st hg
  subst hP hw hK
  have hi:z.cps.size≤i:=hg
  obtain ⟨f0,f1,f2,f3,f4,f5⟩:=hf it (by simp)
  have fin:∀ h',Heap.ExtBut it s.heap h'→(none:Option Value)=none∧Inv X pins σ H { s with heap:=h' }:=fun h' eb=>⟨rfl,I.turned (t':=s.toks) (fun b o hb e=>eb b o hb e) f0 f1 f3 f4 f5⟩
  rcases hty with e | e
  ·subst e
   exact wpAny_pyNext_ascii_end (I.ok.hd hc) st (by simp; omega) fin
  ·subst e
   exact wpAny_pyNext_wide_end (I.ok.hd hc) st (by simp; omega) fin
 self:=fun _ _ _ _ _ st h=>by
  rcases hty with e | e
  ·subst e
   exact wpAny_pyIter_striter_ascii st h
  ·subst e
   exact wpAny_pyIter_striter_wide st h
section
variable {X:Cx} {tg:Expr}
end
theorem all_range (bs:List Bool) (n:Nat) (hn:n=bs.length):(List.range n).all (fun i=>bs.getD i false)=bs.all id:=by
 subst hn
 rw [Bool.eq_iff_iff,List.all_eq_true,List.all_eq_true]
 constructor
 ·intro h b hb
  obtain ⟨i,hi,rfl⟩:=List.getElem_of_mem hb
  have:=h i (List.mem_range.mpr hi)
  simpa [List.getD,hi] using this
 ·intro h i hi
  have hi':=List.mem_range.mp hi
  have:=h bs[i] (List.getElem_mem hi')
  simpa [List.getD,hi'] using this
theorem oN:∀ (ns:List Int) (k:Nat),k≤ns.length→preSum (fun i=>ns.getD i 0) k=(ns.take k).sum
 | ns,0,_=>by simp [preSum]
 | ns,k + 1,h=>by
  have hk:k < ns.length:=h
  have ih:=oN ns k (Nat.le_of_lt hk)
  have e:(ns.take (k + 1)).sum=(ns.take k).sum + ns.getD k 0:=by
   rw [List.take_add_one,List.sum_append]
   simp [List.getD,hk]
  rw [e,← ih]
  rfl
section
variable {X:Cx}
theorem yv (hc:X.calm=true):CallR X (.builtin "all") (fun xs H Q=>∃ (p:Addr) (bs:List Bool),xs=[.ref p]∧SqL X.K H p (bs.map V.bl)∧Q (.bl (bs.all id)) H):=by
 intro pins s σ H xs us Q I r h
 obtain ⟨p,bs,rfl,hq,q⟩:=h
 obtain ⟨u,rfl,ru⟩:=vals1 r
 cases ru
 obtain ⟨its,rv,pl,hz⟩:=I.list hq
 have hlen:its.length=bs.length:=by have:=rv.length; simpa using this.symm
 have hlt:p < s.heap.objs.size:=by
  obtain ⟨o,n,e,_⟩:=pl
  exact Heap.lt_size e
 refine call_all_walk (wpAny_pyIter_list pl.isList ?_)
 refine ⟨s.heap.objs.size,_,_,_,_,_,fun i=>bs.getD i false,rfl,Walks.list (A:=X.A.in1) (I.ok.hd hc) _ p (Nat.ne_of_lt hlt) its.toArray,⟨⟨_,Heap.get?_push_size _ rfl,rfl,rfl⟩,?_⟩,fun i v s' Q' E' hv hQ'=>?_,fun h' tk hk=>?_⟩
 ·obtain ⟨o,n,e,r⟩:=pl.isList
  exact ⟨o,Heap.get?_push_of_some _ n,e,r⟩
 ·have hi:i < its.length:=by
   have:=(Array.getElem?_eq_some_iff.mp hv).1
   simpa using this
  have hi2:i < bs.length:=by omega
  obtain ⟨u,hu,ru⟩:=rv.get (i:=i) (x:=.bl bs[i]) (by simp [hi2])
  have e:v=u:=by
   have hv':its[i]? = some v:=by simpa using hv
   rw [hu] at hv'
   exact (Option.some.inj hv').symm
  subst e
  cases (show v=Value.bool bs[i] from ru)
  refine wpAny_truthy_bool ?_
  have e:bs[i]=bs.getD i false:=by simp [List.getD,hi2]
  rw [e]
  exact hQ'
 ·have e:(List.range its.toArray.size).all (fun i=>bs.getD i false)=bs.all id:=all_range bs _ (by simpa using hlen)
  rw [e]
  exact ⟨.bl _,H,I.kept (t':=tk) fun b o q=>hk b o (by simp; exact Nat.ne_of_lt (Heap.lt_size q)) (Heap.get?_push_of_some _ q),rfl,q⟩
theorem mQ {ns:List Int} {its:List Value} (rv:Vals (ns.map V.int) its) {i:Nat} {v:Value} (hv:its.toArray[i]? = some v):∃ t,v=.int (ns.getD i 0) t:=by
 have hlen:its.length=ns.length:=by have:=rv.length; simpa using this.symm
 have hi:i < its.length:=by
  have:=(Array.getElem?_eq_some_iff.mp hv).1
  simpa using this
 have hi2:i < ns.length:=by omega
 obtain ⟨u,hu,ru⟩:=rv.get (i:=i) (x:=.int ns[i]) (by simp [hi2])
 have e:v=u:=by
  have hv':its[i]? = some v:=by simpa using hv
  rw [hu] at hv'
  exact (Option.some.inj hv').symm
 subst e
 obtain ⟨t,e⟩:=(show ∃ t,v=Value.int ns[i] t from ru)
 refine ⟨t,?_⟩
 rw [e]
 simp [List.getD,hi2]
theorem yt (hc:X.calm=true):CallR X (.builtin "sum") (fun xs H Q=>∃ (p:Addr) (ns:List Int),xs=[.ref p]∧SqL X.K H p (ns.map V.int)∧Q (.int ns.sum) H):=by
 intro pins s σ H xs us Q I r h
 obtain ⟨p,ns,rfl,hq,q⟩:=h
 obtain ⟨u,rfl,ru⟩:=vals1 r
 cases ru
 obtain ⟨its,rv,pl,hz⟩:=I.list hq
 have hlen:its.length=ns.length:=by have:=rv.length; simpa using this.symm
 have hlt:p < s.heap.objs.size:=by
  obtain ⟨o,n,e,_⟩:=pl
  exact Heap.lt_size e
 refine call_sum_walkG (wpAny_pyIter_list pl.isList ?_)
 refine ⟨s.heap.objs.size,_,_,_,_,_,fun i=>ns.getD i 0,rfl,Walks.list (A:=X.A.in1) (I.ok.hd hc) _ p (Nat.ne_of_lt hlt) its.toArray,⟨⟨_,Heap.get?_push_size _ rfl,rfl,rfl⟩,?_⟩,fun b hb=>?_,fun i v hv=>mQ rv hv,fun h' tk t' hk=>?_⟩
 ·obtain ⟨o,n,e,r⟩:=pl.isList
  exact ⟨o,Heap.get?_push_of_some _ n,e,r⟩
 ·rw [Heap.size_push]
  rcases (by simpa using hb:b=s.heap.objs.size∨b=p) with e | e
  ·rw [e]; exact Nat.lt_succ_self _
  ·rw [e]; exact Nat.lt_succ_of_lt hlt
 ·have e:preSum (fun i=>ns.getD i 0) its.toArray.size=ns.sum:=by
   rw [oN ns _ (by simp; omega)]
   rw [List.take_of_length_le (by simp; omega)]
  rw [e]
  exact ⟨.int _,H,I.kept (t':=tk) fun b o q=>hk b o (by simp; exact Nat.ne_of_lt (Heap.lt_size q)) (Heap.get?_push_of_some _ q),⟨t',rfl⟩,q⟩
end
open K1 (eU fq)
theorem zM {prog:Program} {w:World} {A:Around} {E:Value→Shared→Prop} {s:Shared} {Q:Value→Shared→Prop} {a b:Int} {t u:Tok} (h:Q (.bool (decide (a > b))) s):wpAny (model prog w) A (richCompare .Gt (.int a t) (.int b u)) Q E s:=
 CmpOf.ints_gt (P:=fun i v=>v=if i=0 then Value.int a t else Value.int b u) (fun i=>if i=0 then a else b) (fun i v hv=>by
  by_cases hi:i=0
  ·exact ⟨t,by rw [hv,if_pos hi,if_pos hi]⟩
  ·exact ⟨u,by rw [hv,if_neg hi,if_neg hi]⟩) 0 1 _ _ s Q E rfl rfl h
section
variable {prog:Program} {w:World} {A:Around} {R:Result→Shared→Prop} {it S:Addr} {fp wr:List Addr} {P:Nat→Value→Prop} {St:Nat→Heap→Prop} {ns:List Int} {kw:List (Str×Value)}
theorem pj (W:Walks prog w A.in1 it fp wr ns.length P St) (hval:∀ i v,P i v→∃ t,v=.int (ns.getD i 0) t) (hSf:S∉fp) :
  ∀ (k j:Nat) (s:Shared) (best:Int) (tb:Tok) (c:Nat),ns.length - j=k→j≤ns.length→St j s.heap →
   s.heap.get? S=some { cls:=.type "list",dict:=none,data:=.seq #[.int best tb,.int best tb] c,slots:=#[] } →
   (∀ h' tk t',(∀ b o,b∉wr→b≠S→s.heap.get? b=some o→h'.get? b=some o)→R (.ok (.ret (.int (eU best (ns.drop j)) t'))) { s with heap:=h',toks:=tk }) →
   codeAny (model prog w) A (.builtin "max.loop" ⟨[.ref it,.none,.ref S],kw⟩) R s:=by
 have sw:S∉wr:=fun h=>hSf (W.sub _ h)
 have nm:(toString "max"++toString ".loop" : String) = "max.loop":=by decide
 intro k
 induction k with
 | zero=>
  intro j s best tb c hk hj st hS hR
  have ej:j=ns.length:=by omega
  refine codeAny_builtin F.entry_max_loop ?_
  rw [Around.under_plainId F.plain_max_loop _]
  show wpAny (model prog w) A.in1 (seqItems? (.ref S) >>= _) _ _ s
  refine wpAny_bind (wpAny_seqItems hS rfl ?_)
  show wpAny (model prog w) A.in1 (tryCatch (pyNext (.ref it)) _ >>= _) _ _ s
  refine wpAny_bind (wpAny_tryCatch (W.done s _ _ (ej ▸ st) fun h' tk kk=>?_))
  have hS2:=kk S _ sw hS
  show wpAny (model prog w) A.in1 (updateSeq S (fun _=>#[]) >>= _) _ _ _
  refine wpAny_bind ?_
  refine wpAny_updateSeq hS2 rfl (wpAny_bind (wpAny_letGo (wpAny_pure ?_)))
  have q:=hR (h'.update S (Obj.mapSeq fun _=>#[])) tk tb fun b o h1 h2 e=>(Heap.get?_update_other _ _ (Ne.symm h2)).trans (kk b o h1 e)
  rw [List.drop_eq_nil_of_le (Nat.le_of_eq ej.symm)] at q
  exact q
 | succ k ih=>
  intro j s best tb c hk hj st hS hR
  have hlt:j < ns.length:=by omega
  have ed:ns.drop j=ns.getD j 0::ns.drop (j + 1):=by
   rw [List.drop_eq_getElem_cons hlt]
   simp [List.getD,hlt]
  refine codeAny_builtin F.entry_max_loop ?_
  rw [Around.under_plainId F.plain_max_loop _]
  show wpAny (model prog w) A.in1 (seqItems? (.ref S) >>= _) _ _ s
  refine wpAny_bind (wpAny_seqItems hS rfl ?_)
  show wpAny (model prog w) A.in1 (tryCatch (pyNext (.ref it)) _ >>= _) _ _ s
  refine wpAny_bind (wpAny_tryCatch (W.item j s _ _ hlt st fun v h' tk hP st2 kk=>?_))
  obtain ⟨t,rfl⟩:=hval j v hP
  have hS2:=kk S _ sw hS
  show wpAny (model prog w) A.in1 (tryCatch (holding [Value.int (ns.getD j 0) t,Value.int (ns.getD j 0) t] (richCompare .Gt (Value.int (ns.getD j 0) t) (Value.int best tb) >>= _)) _ >>= _) _ _ _
  refine wpAny_bind (wpAny_tryCatch (wpAny_holding (wpAny_bind (zM ?_))))
  refine wpAny_bind (wpAny_holding (wpAny_truthy_bool ?_))
  refine wpAny_bind (wpAny_letGo (wpAny_pure ?_))
  by_cases hb:ns.getD j 0 > best
  ·rw [decide_eq_true hb]
   simp only [if_true]
   refine wpAny_bind ?_
   refine wpAny_updateSeq hS2 rfl (wpAny_bind (wpAny_letGo ?_))
   rw [nm]
   refine wpAny_pure ⟨plainId_quiet F.plain_max_loop _,ih (j + 1) _ (ns.getD j 0) t _ (by omega) hlt (W.frame _ _ _ st2 fun b hbf o e=>?_) (Heap.get?_update_self _ hS2 rfl) fun h2 tk2 t2 k2=>?_⟩
   ·exact (Heap.get?_update_other _ _ (fun z:S=b=>hSf (by rw [z]; exact hbf))).trans e
   ·have q:=hR h2 tk2 t2 fun b o h1 h3 e=>k2 b o h1 h3 ((Heap.get?_update_other _ _ (Ne.symm h3)).trans (kk b o h1 e))
    rw [ed,eU,if_pos hb] at q
    exact q
  ·rw [decide_eq_false hb]
   simp only [Bool.false_eq_true,if_false]
   refine wpAny_bind (wpAny_letGo ?_)
   rw [nm]
   refine wpAny_pure ⟨plainId_quiet F.plain_max_loop _,ih (j + 1) _ best tb c (by omega) hlt st2 hS2 fun h2 tk2 t2 k2=>?_⟩
   have q:=hR h2 tk2 t2 fun b o h1 h3 e=>k2 b o h1 h3 (kk b o h1 e)
   rw [ed,eU,if_neg hb] at q
   exact q
theorem wd (W:Walks prog w A.in1 it fp wr ns.length P St) (hval:∀ i v,P i v→∃ t,v=.int (ns.getD i 0) t) (hSf:S∉fp) {s:Shared} {c:Nat} {d:Int} {td:Tok} (st:St 0 s.heap)
  (hS:s.heap.get? S=some { cls:=.type "list",dict:=none,data:=.seq #[] c,slots:=#[] })
  (hR:∀ h' tk t',(∀ b o,b∉wr→b≠S→s.heap.get? b=some o→h'.get? b=some o)→R (.ok (.ret (.int (fq d ns) t'))) { s with heap:=h',toks:=tk }) :
  codeAny (model prog w) A (.builtin "max.loop" ⟨[.ref it,.none,.ref S],[(Str.ofString "default",.int d td)]⟩) R s:=by
 have sw:S∉wr:=fun h=>hSf (W.sub _ h)
 have nm:(toString "max"++toString ".loop" : String) = "max.loop":=by decide
 refine codeAny_builtin F.entry_max_loop ?_
 rw [Around.under_plainId F.plain_max_loop _]
 show wpAny (model prog w) A.in1 (seqItems? (.ref S) >>= _) _ _ s
 refine wpAny_bind (wpAny_seqItems hS rfl ?_)
 show wpAny (model prog w) A.in1 (tryCatch (pyNext (.ref it)) _ >>= _) _ _ s
 cases hn:ns with
 | nil=>
  have e0:ns.length=0:=by rw [hn]; rfl
  refine wpAny_bind (wpAny_tryCatch (W.done s _ _ (by rw [e0]; exact st) fun h' tk kk=>?_))
  refine wpAny_bind (wpAny_rule (wpAny_pure ?_))
  have q:=hR h' tk td fun b o h1 _ e=>kk b o h1 e
  rw [hn] at q
  exact q
 | cons n0 r0=>
  have e0:0 < ns.length:=by rw [hn]; exact Nat.succ_pos _
  refine wpAny_bind (wpAny_tryCatch (W.item 0 s _ _ e0 st fun v h' tk hP st2 kk=>?_))
  obtain ⟨t,rfl⟩:=hval 0 v hP
  have hS2:=kk S _ sw hS
  show wpAny (model prog w) A.in1 (updateSeq S (fun _=>#[Value.int (ns.getD 0 0) t,Value.int (ns.getD 0 0) t]) >>= _) _ _ _
  refine wpAny_bind ?_
  refine wpAny_updateSeq hS2 rfl ?_
  rw [nm]
  refine wpAny_pure ⟨plainId_quiet F.plain_max_loop _,pj W hval hSf _ 1 _ (ns.getD 0 0) t _ rfl e0 (W.frame _ _ _ st2 fun b hbf o e=>?_) (Heap.get?_update_self _ hS2 rfl) fun h2 tk2 t2 k2=>?_⟩
  ·exact (Heap.get?_update_other _ _ (fun z:S=b=>hSf (by rw [z]; exact hbf))).trans e
  ·have q:=hR h2 tk2 t2 fun b o h1 h3 e=>k2 b o h1 h3 ((Heap.get?_update_other _ _ (Ne.symm h3)).trans (kk b o h1 e))
   rw [hn] at q ⊢
   exact q
end
theorem u4 (a v:Value):argsOk "max" ⟨[a],[(Str.ofString "default",v)]⟩:=by unfold argsOk; kernel_rfl
section
variable {X:Cx}
theorem xw (hc:X.calm=true) {pins:List (Addr×Obj)} {s:Shared} {σ:St} {H:Hp} {p:Addr} {ns:List Int} {d:Int} {td:Tok} {Q:VK} (I:Inv X pins σ H s) (hq:SqL X.K H p (ns.map V.int)) (q:Q (.int (fq d ns)) H) :
  wpAny (model X.prog X.w) X.A (call (.builtin "max") [.ref p] [(Str.ofString "default",.int d td)]) (EP X pins σ Q) X.xe s:=by
 obtain ⟨its,rv,pl,hz⟩:=I.list hq
 have hlen:its.length=ns.length:=by have:=rv.length; simpa using this.symm
 have hlt:p < s.heap.objs.size:=by
  obtain ⟨o,n,e,_⟩:=pl
  exact Heap.lt_size e
 have nm:(toString "max"++toString ".loop" : String) = "max.loop":=by decide
 refine kmk_tree PySem.F.kind_max PySem.F.plain_max PySem.F.entry_max (u4 _ _) ?_
 show wpAny (model X.prog X.w) X.A.in1 (Builtin.Builtins.bindParams "max" ["key","default"] 0 ⟨[],[(Str.ofString "default",Value.int d td)]⟩ >>= _) _ _ s
 refine wpAny_bind (wpAny_of_eq (show Builtin.Builtins.bindParams "max" ["key","default"] 0 ⟨[],[(Str.ofString "default",Value.int d td)]⟩=pure [none,some (.int d td)] from rfl) ?_)
 refine wpAny_bind (wpAny_pure ?_)
 refine wpAny_bind (wpAny_pyIter_list pl.isList ?_)
 refine wpAny_bind (wpAny_newObj_type ?_)
 rw [nm]
 have W:=Walks.list (prog:=X.prog) (w:=X.w) (A:=X.A.in1) (I.ok.hd hc) s.heap.objs.size p (Nat.ne_of_lt hlt) its.toArray
 have en:its.toArray.size=ns.length:=by simpa using hlen
 rw [en] at W
 have hS:(s.heap.push { cls:=.type "list_iterator",data:=.fields #[.ref p,.int 0 0] }).objs.size=s.heap.objs.size + 1:=Heap.size_push ..
 have nS:(s.heap.push { cls:=.type "list_iterator",data:=.fields #[.ref p,.int 0 0] }).objs.size∉[s.heap.objs.size,p]:=fun hm=>by
  rw [hS] at hm
  rcases List.mem_cons.mp hm with e | e
  ·exact Nat.succ_ne_self _ e
  ·rw [← List.mem_singleton.mp e] at hlt
   exact absurd hlt (Nat.not_lt_of_le (Nat.le_succ _))
 refine wpAny_pure ⟨plainId_quiet PySem.F.plain_max_loop _,wd W (fun i v hv=>mQ rv hv) nS ⟨⟨_,Heap.get?_push_of_some _ (Heap.get?_push_size _ rfl),rfl,rfl⟩,?_⟩ (Heap.get?_push_size _ rfl) fun h' tk t' hk=>?_⟩
 ·obtain ⟨o,n,e,r⟩:=pl.isList
  exact ⟨o,Heap.get?_push_of_some _ (Heap.get?_push_of_some _ n),e,r⟩
 ·exact ⟨.int _,H,I.kept (t':=tk) fun b o z=>hk b o (by simp; exact Nat.ne_of_lt (Heap.lt_size z)) (by rw [hS]; exact Nat.ne_of_lt (Nat.lt_succ_of_lt (Heap.lt_size z))) (Heap.get?_push_of_some _ (Heap.get?_push_of_some _ z)),⟨t',rfl⟩,q⟩
def Cc (K:Frag) (te td:TE):TE:=fun σ H Q=>te σ H fun x H1=>∃ x',[x]=[x']∧td σ H1 fun y H2=>∃ p ns d,x'=.ref p∧y=.int d∧SqL K H2 p (ns.map V.int)∧Q (.int (fq d ns)) H2
end
section
variable {X:Cx} {e ed:Expr} {te td:TE} {p pos kpos:Pos}
theorem zk (hc:X.calm=true) (hg:Gl X "max") (hm:X.mg "max" = none) (ha:PE X e te) (hd:PE X ed td) (hs:starEach [e] X.env=(false,eval e X.env)::starEach [] X.env:=by rfl)
  (h1:backTo pos (starEach [e] X.env)=(false,eval e X.env)::backTo pos (starEach [] X.env):=by rfl)
  (h2:(backTo pos (starEach [e] X.env)).any (·.1)=false:=by rfl) (h3:(backToKw pos (keywordEach [⟨some "default",ed,kpos⟩] X.env)).all (·.1.isSome)=true:=by rfl)
  (h4:(backToKw pos (keywordEach [⟨some "default",ed,kpos⟩] X.env)).any (·.1.isNone)=false:=by rfl) (h5:(backToKw pos (keywordEach [⟨some "default",ed,kpos⟩] X.env)).filterMap (·.1)=[Str.ofString "default"]:=by rfl) :
  PE X (.Call (.Name "max" p) [e] [⟨some "default",ed,kpos⟩] pos) (Cc X.K te td):=by
 intro pins s σ H Q I h
 refine wpAny_Call_Name_kw (h7 I hg hm boot_max ?_ (by decide) (by decide))
 refine PyProof.Rows.callWith_kw (thn ((cq ha dO hs) pos pins s σ H (fun vs H1=>∃ x,vs=[x]∧td σ H1 fun y H2=>∃ p ns d,x=.ref p∧y=.int d∧SqL X.K H2 p (ns.map V.int)∧Q (.int (fq d ns)) H2) I ?_) fun us s1 ⟨vs,H1,I1,r,x,ex,q⟩=>?_) h1 h2 h3 h4
 ·exact h
 ·subst ex
  obtain ⟨u,rfl,ru⟩:=vals1 r
  refine PyProof.Rows.kws_cons (thn (hd pins s1 σ H1 _ I1 q) fun v s2 ⟨y,H2,I2,r2,q2⟩=>PyProof.Rows.kws_nil ?_)
  obtain ⟨p,ns,d,rfl,rfl,hq,q⟩:=q2
  cases ru
  obtain ⟨t,rfl⟩:=r2
  rw [h5]
  exact xw hc I2 hq q
end
section
variable {X:Cx}
theorem wL:OpR X (compareOp .IsNot) (fun x y H Q=>∃ b c,x=.bl b∧y=.bl c∧Q (.bl (b != c)) H):=by
 intro pins s σ H x y v u Q I rx ry h
 obtain ⟨b,c,rfl,rfl,q⟩:=h
 cases rx
 cases ry
 exact isnot_bool ⟨.bl (b != c),H,I,rfl,q⟩
theorem op_catG:OpR X (binaryOp .Add) (fun x y H Q=>∃ a b xs ys,x=.ref a∧y=.ref b∧SqT X.K H a xs∧SqT X.K H b ys∧xs.length + ys.length≤sizeLine ∧
  (xs=[]→Q (.ref b) H)∧(xs≠[]→ys=[]→Q (.ref a) H)∧(xs≠[]→ys≠[]→∀ p,H p=none→Q (.ref p) (upd H p (.tup (xs++ys))))):=by
 intro pins s σ H x y v u Q I rx ry h
 obtain ⟨a,b,xs,ys,rfl,rfl,ha,hb,hz,q0,q1,q2⟩:=h
 by_cases hx:xs=[]
 ·cases rx
  cases ry
  obtain ⟨its,r1,p1,_⟩:=I.tuple ha
  obtain ⟨its2,r2,p2,_⟩:=I.tuple hb
  have hv:its=[]:=r1.nil_iff.mpr hx
  obtain ⟨⟨cls,dd,data,sl⟩,ho,hc,n,hd⟩:=id p1
  obtain ⟨⟨cls2,dd2,data2,sl2⟩,ho2,hc2,n2,hd2⟩:=id p2
  simp only at hc hd hc2 hd2
  subst hc hd hc2 hd2
  exact concat_meets ⟨_,ho,rfl⟩ ⟨_,ho2,rfl⟩ noFill_tuple_add seq_tuple_add PySem.F.slot_tuple_add PySem.F.entry_tuple_add (PySem.F.args_tuple_add_2 _ _)
   (tuple_addW0 a b its.toArray its2.toArray n n2 dd dd2 sl sl2 (by simp [hv])) ⟨ho,ho2,⟨.ref b,H,I,rfl,q0 hx⟩⟩
 ·exact zC pins s σ H _ _ v u Q I rx ry ⟨a,b,xs,ys,rfl,rfl,ha,hb,hx,hz,q1 hx,q2 hx⟩
theorem AK:SlR X (fun x lo hi H Q=>∃ z:Str,x=.str z∧z.length≤sizeLine∧Q (.str (Txt.slice z lo hi)) H):=by
 intro pins s σ H x v vl vu lo hi sl Q I rx hs pl pu h
 obtain ⟨z,rfl,hz,q⟩:=h
 obtain ⟨t,rfl⟩:=rx
 have fin:∀ l u:Option (Int×Tok),l.map (·.1)=lo→u.map (·.1)=hi→s.heap.IsSlice sl l u none→wpAny (model X.prog X.w) X.A (getItem (.str z t) (.ref sl)) (EP X pins σ Q) X.xe s:=fun l u el eu h=>by
  refine wpAny_getItem_str_slice h rfl ?_
  refine post_val_or_made (fun _=>?_) fun t' k=>?_
  ·have:=sliceIndices_le (l.map (·.1)) (u.map (·.1)) z.length
   have e:=List.length_filterMap_le (fun i=>z.cps[i]?) (slicePicked z l u none)
   show ((slicePicked z l u none).filterMap (z.cps[·]?)).toArray.size≤sizeLine
   rw [List.size_toArray]
   unfold slicePicked at e ⊢
   simp only [Option.map_none,Option.getD_none] at e ⊢
   omega
  ·refine ⟨.str (Txt.slice z lo hi),H,I.tok _,⟨t',?_⟩,q⟩
   rw [← el,← eu]
   rfl
 refine ⟨"str",_,PySem.F.slot_str_getitem.lookup,typeIs_str s z t,?_⟩
 cases pl with
 | none=>
  cases pu with
  | none=>exact fin none none rfl rfl hs
  | int j u=>exact fin none (some (j,u)) rfl rfl hs
 | int i u=>
  cases pu with
  | none=>exact fin (some (i,u)) none rfl rfl hs
  | int j u'=>exact fin (some (i,u)) (some (j,u')) rfl rfl hs
theorem op_mulS:OpR X (binaryOp .Mult) (fun x y H Q=>∃ z k,x=.str z∧y=.int k∧0≤k∧k≤2000∧z.length≤1000∧Q (.str (Txt.mul z k)) H):=by
 intro pins s σ H x y v u Q I rx ry h
 obtain ⟨z,k,rfl,rfl,h1,h2,h3,q⟩:=h
 obtain ⟨t,rfl⟩:=rx
 obtain ⟨t',rfl⟩:=ry
 have hm:z.length * k.toNat≤1000 * 2000:=Nat.mul_le_mul h3 (by omega)
 refine SB.mul ⟨?_,fun g1 g2=>?_,fun g1 g2=>?_⟩ fun t' k'=>⟨.str _,H,I.tok _,⟨t',rfl⟩,q⟩
 ·simp; omega
 ·have hk:1≤k:=by simp at g1; omega
  have e1:(1000:Int)≤(2 ^ 63 - 1) / k:=by
   rw [Int.le_ediv_iff_mul_le (by omega)]
   omega
  omega
 ·unfold Builtin.Str.tooLong
  simp [sizeLine]
  omega
end
theorem v4 {ys:List Str}:∀ {us:List Value},Vals (ys.map V.str) us→StrsAre us ys:=by
 induction ys with
 | nil=>intro us r; rw [List.map_nil] at r; cases r; exact .nil
 | cons y ys ih=>
  intro us r
  rw [List.map_cons] at r
  cases r with
  | cons r1 r2=>
   obtain ⟨t,e⟩:=r1
   subst e
   exact .cons y t (ih r2)
section
variable {X:Cx}
end
structure Fn (P:Program) (w:World) (K:Frag) (mg:Str→Option Value) (base:Heap) (name:Str) (ps:List Str) (k:Nat) (sp:Sp):Prop where
 ex:∃ f fd,FnOk P w K mg base CX0 k f fd ps sp∧Binds K fd ps []∧PySem.W.keepIn K (.ref f)=true∧mg name=some (.ref f)
section
variable {X:Cx} {name:Str} {ps:List Str} {k:Nat} {sp:Sp} {e:Expr} {es:List Expr} {t:TA} {p pos:Pos}
theorem nR (F:Fn X.prog X.w X.K X.mg X.base name ps k sp) (hr:Room k X.A) (hg:Gl X name) (ha:PA X (e::es) t) (hdb:(name == ("__debug__" : Str))=false:=by decide)
  (he:starEach (e::es) X.env=(false,eval e X.env)::starEach es X.env:=by rfl) (hpl:(backTo pos (starEach es X.env)).any (·.1)=false:=by rfl):PE X (.Call (.Name name p) (e::es) [] pos) (tm sp [] E0 t):=by
 obtain ⟨f,fd,h1,h2,h3,h4⟩:=F.ex
 exact zq h1 hr hg h4 h3 h2 .nil CF ha hdb he hpl
end
theorem xU {X:Cx} {x:Str} {scope osc:Scope} {N N':List Str} {elt iter:Expr} {ifs:List Expr} {px pos:Pos} {wi:TI} {te:TE} {tt:TT} (S:CS osc N x scope N') (hi:PI X (.Name x px) iter wi)
  (he:∀ C s0 H0 ex,PE (cP X x scope C s0 H0 ex N') elt te) (ht:∀ C s0 H0 ex,PTs (cP X x scope C s0 H0 ex N') ifs tt) (hc:X.calm=true:=by rfl) (hs:X.env.scope=osc:=by rfl) (hN:X.N=N:=by rfl)
  (hf:∀ v,foldedSetIterable iter X.env v=pure v:=by intro _; rfl):PE X (.ListComp elt [⟨.Name x px,iter,ifs,0⟩] scope pos) (tj wi tt te):=by
 subst hs hN
 exact zm hc S hi he ht hf
end L2
namespace D
open PySem PySem.Spec PyProof.Rows L2
inductive Gh (P:Hp→Prop):Hp→Prop where
 | done {H:Hp}:P H→Gh P H
 | frz {H:Hp} {a:Addr} {kvs:List (Key×V)}:H a=some (.dK kvs)→(∀ o,Gh P (upd H a (.frz o (.dK kvs))))→Gh P H
theorem Gh.imp {P P':Hp→Prop} {H:Hp} (g:Gh P H) (i:∀ H,P H→P' H):Gh P' H:=by
 induction g with
 | done h=>exact .done (i _ h)
 | frz e _ ih=>exact .frz e ih
section
variable {X:Cx} {pins:List (Addr×Obj)} {σ:L2.St} {H:Hp} {s:Shared}
theorem qW (I:Inv X pins σ H s) {a:Addr} {kvs:List (Key×V)} (e:H a=some (.dK kvs)):∃ o,Inv X pins σ (upd H a (.frz o (.dK kvs))) s:=by
 obtain ⟨z,y,vs,kv,o,es,ep,eo,r⟩:=I.hok a _ e
 have U:∀ {b:Addr} {u:HO},H b=some u→(∀ ks,u≠.dK ks)→upd H a (.frz o (.dK kvs)) b=some u:=fun {b u} q n=>by
  rw [aO (fun z=>by subst z; rw [e] at q; cases q; exact n _ rfl)]
  exact q
 have hok:HOk X.prog X.w (upd H a (.frz o (.dK kvs))) s.heap:=fun b u q=>by
  by_cases hb:b=a
  ·subst hb
   rw [bG] at q
   cases q
   exact ⟨eo,(I.hok b _ e).stay (fun _ _ _ q=>q) (fun c q=>U q (fun _ z=>nomatch z)) fun c xs q=>U q (fun _ z=>nomatch z)⟩
  ·rw [aO hb] at q
   exact (I.hok b u q).stay (fun _ _ _ q=>q) (fun c q=>U q (fun _ z=>nomatch z)) fun c xs q=>U q (fun _ z=>nomatch z)
 exact ⟨o,I.un (h':=s.heap) (t':=s.toks) ⟨fun b ob q n _ _=>q,fun b ob q n _ _=>⟨_,q⟩,fun b ob q n _=>by rw [aO (fun z=>by subst z; rw [e] at n; cases n)]; exact n,fun b ob q _=>⟨_,q⟩,fun b xs q=>U q (fun _ z=>nomatch z),
  fun b ob u q=>U q (fun _ z=>nomatch z),fun b ps q=>⟨#[],by rw [U q (fun _ z=>nomatch z)]; simp⟩⟩ hok⟩
theorem Gh.ok {P:Hp→Prop} (g:Gh P H) (I:Inv X pins σ H s):∃ H',Inv X pins σ H' s∧P H':=by
 induction g with
 | done h=>exact ⟨_,I,h⟩
 | frz e _ ih=>
  obtain ⟨o,I'⟩:=qW I e
  exact ih o I'
end
section
variable {X:Cx}
theorem Cv {st:Stmt} {t:TS} (h:PS X st t):PS X st (fun D σ H=>Gh (t D σ) H):=fun pins s σ H D I q=>by
 obtain ⟨H',I',q'⟩:=q.ok I
 exact h pins s σ H' D I' q'
theorem AX {st:List Stmt} {t:TS} (h:PSs X st t):PSs X st (fun D σ H=>Gh (t D σ) H):=fun pins s σ H D I q=>by
 obtain ⟨H',I',q'⟩:=q.ok I
 exact h pins s σ H' D I' q'
theorem CC {e:Expr} {t:TE} (h:PE X e t):PE X e (fun σ H Q=>t σ H fun v H1=>Gh (Q v) H1):=fun pins s σ H Q I q=>
 thn (h pins s σ H _ I q) fun u s' ⟨v,H',I',r,q'⟩=>by
  obtain ⟨H2,I2,q2⟩:=q'.ok I'
  exact ⟨v,H2,I2,r,q2⟩
end
def jg (o:Obj):Nat:=match o.data with
 | .dict _ ep=>ep
 | _=>0
def Itd (a:Addr) (o:Obj) (kvs:List (Key×V)):It:=⟨fun i H=>H a=some (.frz o (.dK kvs))∧i < kvs.length,fun i H x H'=>H'=H∧∃ k v,kvs[i]? = some (k,v)∧x=kV k,fun i H=>H a=some (.frz o (.dK kvs))∧i=kvs.length⟩
theorem mh {P:Program} {w:World} {H:Hp} {h:Heap} {a:Addr} {o:Obj} {kvs:List (Key×V)} (ok:HOk P w H h) (e:H a=some (.frz o (.dK kvs))):kvs.length≤sizeLine∧(a == sysModules)=false∧∃ vs,KV kvs vs∧h.DictAt (bW P w) a vs (jg o):=by
 obtain ⟨e1,z,y,vs,kv,o',es,ep,e2,ed,dd,r⟩:=ok a _ e
 rw [e1] at e2
 cases e2
 refine ⟨z,y,vs,kv,o,es,e1,ed,?_,r⟩
 unfold jg
 rw [dd]
theorem DJ {P:Program} {w:World} {k:Key} {v:Value} (e:(bW P w).is k v=true):RelV (kV k) v:=by
 rcases eQ (show gv k v=true from e) with ⟨i,t,rfl,rfl⟩ | ⟨x,t,rfl,rfl⟩
 ·exact ⟨t,rfl⟩
 ·exact ⟨t,rfl⟩
theorem CV {kvs:List (Key×V)} {vs:List (Key×Value)} (r:KV kvs vs) {i:Nat} {k:Key} {x:Value} (e:vs[i]? = some (k,x)):∃ v,kvs[i]? = some (k,v):=by
 have h:=r.keys
 have h1:(vs.map (·.1))[i]? = some k:=by rw [List.getElem?_map,e]; rfl
 rw [← h,List.getElem?_map] at h1
 cases q:kvs[i]? with
 | none=>rw [q] at h1; cases h1
 | some p=>
  rw [q] at h1
  cases h1
  exact ⟨p.2,rfl⟩
theorem wt {P:Program} {w:World} {K:Frag} {tg:Expr} (a it:Addr) (o:Obj) (kvs:List (Key×V)):Turn P w K tg (Itd a o kvs) [it] it (fun i h=>h.IsKeyIter it a i kvs.length (jg o)) where
 mem:=by simp
 obj:=fun i h st b hb=>by
  have e:b=it:=by simpa using hb
  subst e
  obtain ⟨o,e,c,d⟩:=st
  exact ⟨o,e,fun v z=>by rw [d] at z; cases z⟩
 keep:=fun i h h' st k=>st.at fun o e=>k it (by simp) o e
 item:=by
  intro X hP hw hK hc i pins s σ H E I hf st hg
  subst hP hw hK
  obtain ⟨hg1,hg2⟩:=hg
  obtain ⟨z,y,vs,kv,dd⟩:=mh I.hok hg1
  obtain ⟨f0,f1,f2,f3,f4,f5⟩:=hf it (by simp)
  have hl:=kv.length
  have ne:a≠it:=fun q=>by rw [q,f0] at hg1; cases hg1
  have W:=Walks.dictKeys (prog:=X.prog) (w:=X.w) (knd:=bW X.prog X.w) (I.ok.hd hc) it a ne vs (jg o)
  refine W.item i s _ _ (by omega) ⟨by rw [← hl]; exact st,dd⟩ fun v h' tk hv st' kk=>?_
  obtain ⟨k,x,h1,h2⟩:=hv
  have I1:Inv X pins σ H { s with heap:=h',toks:=tk }:=I.turned (fun b o hb e=>kk b o (by simpa using hb) e) f0 f1 f3 f4 f5
  have st1:h'.IsKeyIter it a (i + 1) kvs.length (jg o):=by rw [hl]; exact st'.1
  obtain ⟨o1,e1,c1,d1⟩:=id st1
  obtain ⟨v0,h3⟩:=CV kv h1
  exact ⟨v,rfl,jL (s:={ s with heap:=h',toks:=tk }) e1 c1 d1 (by decide) ⟨kV k,H,I1,DJ h2,⟨rfl,k,v0,h3,rfl⟩,st1,fun b hb=>(hf b hb).1⟩⟩
 done:=by
  intro X hP hw hK hc i pins s σ H E I hf st hg
  subst hP hw hK
  obtain ⟨hg1,hg2⟩:=hg
  obtain ⟨z,y,vs,kv,dd⟩:=mh I.hok hg1
  obtain ⟨f0,f1,f2,f3,f4,f5⟩:=hf it (by simp)
  have hl:=kv.length
  have ne:a≠it:=fun q=>by rw [q,f0] at hg1; cases hg1
  have W:=Walks.dictKeys (prog:=X.prog) (w:=X.w) (knd:=bW X.prog X.w) (I.ok.hd hc) it a ne vs (jg o)
  refine W.done s _ _ ⟨by rw [← hl,← hg2]; rw [← hg2] at st; exact st,dd⟩ fun h' tk kk=>⟨rfl,I.turned (fun b o hb e=>kk b o (by simpa using hb) e) f0 f1 f3 f4 f5⟩
 self:=fun _ _ _ _ _ st h=>wpAny_pyIter_keyiter st h
inductive W where
 | d (x:PyData) | tp (i:Nat) | loc (x:PyData)
abbrev Tp:=List (List PyData)
abbrev Rho:=List (Option W)
noncomputable def bnd {α β:Type} (o:Option (α×Tp)) (k:α→Tp→Option β):Option β:=match o with
 | some (a,T)=>k a T
 | none=>none
theorem aM {α β:Type} {o:Option (α×Tp)} {k:α→Tp→Option β} {b:β} (h:bnd o k=some b):∃ a T,o=some (a,T)∧k a T=some b:=by
 cases o with
 | none=>cases h
 | some p=>exact ⟨p.1,p.2,rfl,h⟩
theorem dh {α β:Type} {a:α} {T:Tp} {k:α→Tp→Option β}:bnd (some (a,T)) k=k a T:=rfl
def jV:Key→PyData
 | .inl i=>.int i
 | .inr x=>.str x
def TupAt (K:Frag) (O:Addr→Prop) (H:Hp) (a:Addr) (vs:List V):Prop:=(¬ O a∧Rd H a (.tup vs))∨SqT K (fun _=>none) a vs
def LstAt (K:Frag) (O:Addr→Prop) (H:Hp) (a:Addr) (vs:List V):Prop:=(¬ O a∧Rd H a (.lst vs))∨SqL K (fun _=>none) a vs
theorem AH {K:Frag} {H:Hp} {a:Addr} {vs:List V} (h:SqT K (fun _=>none) a vs):SqT K H a vs:=by
 rcases h with (h | ⟨o,h⟩) | h
 ·cases h
 ·cases h
 ·exact .inr h
theorem AI {K:Frag} {H:Hp} {a:Addr} {vs:List V} (h:SqL K (fun _=>none) a vs):SqL K H a vs:=by
 rcases h with (h | ⟨o,h⟩) | h
 ·cases h
 ·cases h
 ·exact .inr h
theorem TupAt.sq {K:Frag} {O:Addr→Prop} {H:Hp} {a:Addr} {vs:List V} (h:TupAt K O H a vs):SqT K H a vs:=by
 rcases h with h | h
 ·exact .inl h.2
 ·exact AH h
theorem LstAt.sq {K:Frag} {O:Addr→Prop} {H:Hp} {a:Addr} {vs:List V} (h:LstAt K O H a vs):SqL K H a vs:=by
 rcases h with h | h
 ·exact .inl h.2
 ·exact AI h
mutual
inductive Rep (K:Frag) (O:Addr→Prop) (H:Hp):V→PyData→Prop where
 | non:Rep K O H .non .none
 | bl (b:Bool):Rep K O H (.bl b) (.bool b)
 | int (i:Int):Rep K O H (.int i) (.int i)
 | str (x:Str):Rep K O H (.str x) (.str x)
 | tup {a:Addr} {vs:List V} {ds:List PyData}:TupAt K O H a vs→Reps K O H vs ds→Rep K O H (.ref a) (.tuple ds)
 | lst {a:Addr} {vs:List V} {ds:List PyData}:LstAt K O H a vs→Reps K O H vs ds→Rep K O H (.ref a) (.list ds)
 | dct {a:Addr} {o:Obj} {kvs:List (Key×V)} {ds:List (PyData×PyData)}:¬ O a→H a=some (.frz o (.dK kvs))→RepK K O H kvs ds→Rep K O H (.ref a) (.dict ds)
inductive Reps (K:Frag) (O:Addr→Prop) (H:Hp):List V→List PyData→Prop where
 | nil:Reps K O H [] []
 | cons {v:V} {d:PyData} {vs:List V} {ds:List PyData}:Rep K O H v d→Reps K O H vs ds→Reps K O H (v::vs) (d::ds)
inductive RepK (K:Frag) (O:Addr→Prop) (H:Hp):List (Key×V)→List (PyData×PyData)→Prop where
 | nil:RepK K O H [] []
 | cons {k:Key} {v:V} {d:PyData} {kvs:List (Key×V)} {ds:List (PyData×PyData)}:Rep K O H v d→RepK K O H kvs ds→RepK K O H ((k,v)::kvs) ((jV k,d)::ds)
end
def Le (O:Addr→Prop) (H:Hp) (O':Addr→Prop) (H':Hp):Prop:=∀ a o,¬ O a→H a=some o→¬ O' a∧H' a=some o
theorem Le.trans {O O1 O2:Addr→Prop} {H H1 H2:Hp} (h:Le O H O1 H1) (g:Le O1 H1 O2 H2):Le O H O2 H2:=fun a o n e=>let ⟨n1,e1⟩:=h a o n e; g a o n1 e1
theorem TupAt.mono {K:Frag} {O O':Addr→Prop} {H H':Hp} (h:Le O H O' H') {a:Addr} {vs:List V} (t:TupAt K O H a vs):TupAt K O' H' a vs:=by
 rcases t with ⟨n,t | ⟨o,t⟩⟩ | t
 ·exact .inl ⟨(h _ _ n t).1,.inl (h _ _ n t).2⟩
 ·exact .inl ⟨(h _ _ n t).1,.inr ⟨o,(h _ _ n t).2⟩⟩
 ·exact .inr t
theorem LstAt.mono {K:Frag} {O O':Addr→Prop} {H H':Hp} (h:Le O H O' H') {a:Addr} {vs:List V} (t:LstAt K O H a vs):LstAt K O' H' a vs:=by
 rcases t with ⟨n,t | ⟨o,t⟩⟩ | t
 ·exact .inl ⟨(h _ _ n t).1,.inl (h _ _ n t).2⟩
 ·exact .inl ⟨(h _ _ n t).1,.inr ⟨o,(h _ _ n t).2⟩⟩
 ·exact .inr t
mutual
theorem Rep.mono {K:Frag} {O O':Addr→Prop} {H H':Hp} (e:Le O H O' H'):∀ {v:V} {d:PyData},Rep K O H v d→Rep K O' H' v d
 | _,_,.non=>.non
 | _,_,.bl b=>.bl b
 | _,_,.int i=>.int i
 | _,_,.str x=>.str x
 | _,_,.tup t r=>.tup (t.mono e) (Reps.mono e r)
 | _,_,.lst t r=>.lst (t.mono e) (Reps.mono e r)
 | _,_,.dct n h r=>.dct (e _ _ n h).1 (e _ _ n h).2 (RepK.mono e r)
theorem Reps.mono {K:Frag} {O O':Addr→Prop} {H H':Hp} (e:Le O H O' H'):∀ {vs:List V} {ds:List PyData},Reps K O H vs ds→Reps K O' H' vs ds
 | _,_,.nil=>.nil
 | _,_,.cons r t=>.cons (Rep.mono e r) (Reps.mono e t)
theorem RepK.mono {K:Frag} {O O':Addr→Prop} {H H':Hp} (e:Le O H O' H'):∀ {vs:List (Key×V)} {ds:List (PyData×PyData)},RepK K O H vs ds→RepK K O' H' vs ds
 | _,_,.nil=>.nil
 | _,_,.cons r t=>.cons (Rep.mono e r) (RepK.mono e t)
end
section
variable {K:Frag} {O:Addr→Prop} {H:Hp}
theorem Reps.length:∀ {vs:List V} {ds:List PyData},Reps K O H vs ds→vs.length=ds.length
 | _,_,.nil=>rfl
 | _,_,.cons _ t=>congrArg (· + 1) (Reps.length t)
theorem Reps.get:∀ {vs:List V} {ds:List PyData} {i:Nat} {v:V},Reps K O H vs ds→vs[i]? = some v→∃ d,ds[i]? = some d∧Rep K O H v d
 | _,_,_,_,.nil,e=>by simp at e
 | _,_,0,_,.cons r _,e=>by simp at e; subst e; exact ⟨_,rfl,r⟩
 | _,_,i + 1,v,.cons _ t,e=>by
  obtain ⟨d,h1,h2⟩:=Reps.get (i:=i) (v:=v) t (by simpa using e)
  exact ⟨d,by simpa using h1,h2⟩
theorem Reps.getD:∀ {vs:List V} {ds:List PyData} {i:Nat} {d:PyData},Reps K O H vs ds→ds[i]? = some d→∃ v,vs[i]? = some v∧Rep K O H v d
 | _,_,_,_,.nil,e=>by simp at e
 | _,_,0,_,.cons r _,e=>by simp at e; subst e; exact ⟨_,rfl,r⟩
 | _,_,i + 1,v,.cons _ t,e=>by
  obtain ⟨d,h1,h2⟩:=Reps.getD (i:=i) (d:=v) t (by simpa using e)
  exact ⟨d,by simpa using h1,h2⟩
theorem Reps.append {ws:List V} {es:List PyData}:∀ {vs:List V} {ds:List PyData},Reps K O H vs ds→Reps K O H ws es→Reps K O H (vs++ws) (ds++es)
 | _,_,.nil,r=>r
 | _,_,.cons q t,r=>.cons q (Reps.append t r)
theorem Reps.take:∀ {vs:List V} {ds:List PyData} (n:Nat),Reps K O H vs ds→Reps K O H (vs.take n) (ds.take n)
 | _,_,0,_=>.nil
 | _,_,_ + 1,.nil=>.nil
 | _,_,n + 1,.cons r t=>.cons r (Reps.take n t)
theorem Reps.drop:∀ {vs:List V} {ds:List PyData} (n:Nat),Reps K O H vs ds→Reps K O H (vs.drop n) (ds.drop n)
 | _,_,0,r=>r
 | _,_,_ + 1,.nil=>.nil
 | _,_,n + 1,.cons _ t=>Reps.drop n t
theorem Reps.rep {vs:List V} {ds:List PyData} (r:Reps K O H vs ds):∀ n:Nat,Reps K O H (List.replicate n vs).flatten (List.replicate n ds).flatten
 | 0=>.nil
 | n + 1=>by
  rw [List.replicate_succ,List.replicate_succ,List.flatten_cons,List.flatten_cons]
  exact r.append (r.rep n)
end
def SameX (ts:List Addr) (H H':Hp):Prop:=∀ b o,b∉ts→H b=some o→H' b=some o
theorem SameX.refl (ts:List Addr) (H:Hp):SameX ts H H:=fun _ _ _ h=>h
theorem SameX.trans {ts:List Addr} {H H1 H2:Hp} (a:SameX ts H H1) (b:SameX ts H1 H2):SameX ts H H2:=fun c o n h=>b c o n (a c o n h)
theorem SameX.new {ts:List Addr} {H:Hp} {p:Addr} (h:H p=none) (o:HO):SameX ts H (upd H p o):=fun b u _ q=>by rw [aO (c9 q h)]; exact q
def Mut (o:Option HO):Prop:=(∃ vs,o=some (.lst vs))∨(∃ kvs,o=some (.dK kvs))∨∃ C dx fs,o=some (.ins C dx fs)
theorem Mut.ex {o:Option HO} (h:Mut o):∃ u,o=some u:=by rcases h with ⟨vs,e⟩ | ⟨vs,e⟩ | ⟨C,dx,fs,e⟩ <;> exact ⟨_,e⟩
theorem Mut.to {o o':Option HO} (h:Mut o) (k:∀ u,o=some u→o'=some u):Mut o':=by
 rcases h with ⟨vs,e⟩ | ⟨vs,e⟩ | ⟨C,dx,fs,e⟩
 ·exact .inl ⟨vs,k _ e⟩
 ·exact .inr (.inl ⟨vs,k _ e⟩)
 ·exact .inr (.inr ⟨C,dx,fs,k _ e⟩)
def Dl (C:Addr):PyData:=.dict [(.none,.int (C:Int))]
def isO:List PyData→Bool
 | .dict [(.none,_)]::_=>true
 | _=>false
def pairF (p:Str×PyData):PyData:=.tuple [.str p.1,p.2]
inductive RepF (K:Frag) (O:Addr→Prop) (H:Hp):List (Str×V)→List (Str×PyData)→Prop where
 | nil:RepF K O H [] []
 | cons {n:Str} {v:V} {d:PyData} {vs:List (Str×V)} {ds:List (Str×PyData)}:Rep K O H v d→RepF K O H vs ds→RepF K O H ((n,v)::vs) ((n,d)::ds)
theorem RepF.mono {K:Frag} {O O':Addr→Prop} {H H':Hp} (e:Le O H O' H') {vs:List (Str×V)} {ds:List (Str×PyData)} (r:RepF K O H vs ds):RepF K O' H' vs ds:=by
 induction r with
 | nil=>exact .nil
 | cons r _ ih=>exact .cons (Rep.mono e r) ih
def RowAt (K:Frag) (O:Addr→Prop) (H:Hp) (a:Addr) (xs:List PyData):Prop:=(isO xs=false∧∃ vs,H a=some (.lst vs)∧Reps K O H vs xs)∨∃ C dx fs fd,H a=some (.ins C dx fs)∧xs=Dl C::fd.map pairF∧RepF K O H fs fd
theorem RowAt.mono {K:Frag} {O O':Addr→Prop} {H H':Hp} {a:Addr} {xs:List PyData} (h:RowAt K O H a xs) (k:∀ o,H a=some o→H' a=some o) (l:Le O H O' H'):RowAt K O' H' a xs:=by
 rcases h with ⟨n,vs,h1,h2⟩ | ⟨C,dx,fs,fd,h1,h2,h3⟩
 ·exact .inl ⟨n,vs,k _ h1,h2.mono l⟩
 ·exact .inr ⟨C,dx,fs,fd,k _ h1,h2,h3.mono l⟩
theorem RowAt.lst {K:Frag} {O:Addr→Prop} {H:Hp} {a:Addr} {xs:List PyData} (h:RowAt K O H a xs) (n:isO xs=false):∃ vs,H a=some (.lst vs)∧Reps K O H vs xs:=by
 rcases h with ⟨_,h⟩ | ⟨C,dx,fs,fd,h1,h2,h3⟩
 ·exact h
 ·rw [h2] at n
  cases n
structure HC (K:Frag) (O:Addr→Prop) (ts:List Addr) (H:Hp) (T:Tp):Prop where
 own:∀ b∈ts,O b
 trk:∀ b,O b→Mut (H b)
 nd:ts.Nodup
 len:ts.length=T.length
 tape:∀ (i:Nat) (a:Addr) (xs:List PyData),ts[i]? = some a→T[i]? = some xs→RowAt K O H a xs
section
variable {K:Frag} {O:Addr→Prop} {ts:List Addr} {H H':Hp} {T:Tp}
theorem HC.le (c:HC K O ts H T) (s:SameX ts H H'):Le O H O H':=fun a o n e=>⟨n,s a o (fun z=>n (c.own a z)) e⟩
theorem HC.step (c:HC K O ts H T) (s:SameX ts H H') (t:∀ b∈ts,H' b=H b):HC K O ts H' T where
 own:=c.own
 trk:=fun b hb=>by
  by_cases z:b∈ts
  ·rw [t b z]; exact c.trk b hb
  ·exact (c.trk b hb).to fun u e=>s b _ z e
 nd:=c.nd
 len:=c.len
 tape:=fun i a xs e1 e2=>by
  exact (c.tape i a xs e1 e2).mono (fun o h1=>by rw [t a (List.mem_of_getElem? e1)]; exact h1) (c.le s)
theorem HC.fresh (c:HC K O ts H T) {p:Addr} (h:H p=none):¬ O p:=fun z=>by
 obtain ⟨u,e⟩:=(c.trk p z).ex
 rw [h] at e
 cases e
theorem HC.new (c:HC K O ts H T) {p:Addr} (h:H p=none) (o:HO):HC K O ts (upd H p o) T:=c.step (.new h o) fun b hb=>aO fun z=>c.fresh h (z ▸ c.own b hb)
theorem HC.leNew (c:HC K O ts H T) {p:Addr} (h:H p=none) (o:HO):Le O H O (upd H p o):=c.le (.new h o)
theorem HC.newT (c:HC K O ts H T) {p:Addr} (h:H p=none) {vs:List V} {ds:List PyData} (r:Reps K O H vs ds):Rep K O (upd H p (.tup vs)) (.ref p) (.tuple ds):=.tup (.inl ⟨c.fresh h,.inl bG⟩) (r.mono (c.leNew h _))
theorem HC.newL (c:HC K O ts H T) {p:Addr} (h:H p=none) {vs:List V} {ds:List PyData} (r:Reps K O H vs ds):Rep K O (upd H p (.lst vs)) (.ref p) (.list ds):=.lst (.inl ⟨c.fresh h,.inl bG⟩) (r.mono (c.leNew h _))
end
inductive Vw (K:Frag) (O:Addr→Prop) (H:Hp):V→PyData→Prop where
 | rep {v:V} {x:PyData}:Rep K O H v x→Vw K O H v x
 | raw {a:Addr} {vs:List V} {xs:List PyData}:H a=some (.lst vs)→Reps K O H vs xs→Vw K O H (.ref a) (.list xs)
 | rawD {a:Addr} {kvs:List (Key×V)} {ds:List (PyData×PyData)}:H a=some (.dK kvs)→RepK K O H kvs ds→Vw K O H (.ref a) (.dict ds)
section
variable {K:Frag} {O:Addr→Prop} {H:Hp} {v:V}
theorem Vw.int {i:Int} (h:Vw K O H v (.int i)):v=.int i:=by cases h with | rep h=>cases h; rfl
theorem Vw.str {x:Str} (h:Vw K O H v (.str x)):v=.str x:=by cases h with | rep h=>cases h; rfl
theorem Vw.bl {b:Bool} (h:Vw K O H v (.bool b)):v=.bl b:=by cases h with | rep h=>cases h; rfl
theorem Vw.non (h:Vw K O H v .none):v=.non:=by cases h with | rep h=>cases h; rfl
theorem Vw.tup {ds:List PyData} (h:Vw K O H v (.tuple ds)):∃ a vs,v=.ref a∧TupAt K O H a vs∧Reps K O H vs ds:=by cases h with | rep h=>cases h with | tup t r=>exact ⟨_,_,rfl,t,r⟩
theorem Vw.tupR {ds:List PyData} (h:Vw K O H v (.tuple ds)):Rep K O H v (.tuple ds):=by cases h with | rep h=>exact h
theorem Vw.lst {ds:List PyData} (h:Vw K O H v (.list ds)):∃ a vs,v=.ref a∧SqL K H a vs∧Reps K O H vs ds:=by
 cases h with
 | rep h=>cases h with | lst t r=>exact ⟨_,_,rfl,t.sq,r⟩
 | raw h r=>exact ⟨_,_,rfl,SqL.of h,r⟩
theorem Vw.dct {ds:List (PyData×PyData)} (h:Vw K O H v (.dict ds)):∃ a kvs,v=.ref a∧Rd H a (.dK kvs)∧RepK K O H kvs ds:=by
 cases h with
 | rep h=>cases h with | dct n t r=>exact ⟨_,_,rfl,.inr ⟨_,t⟩,r⟩
 | rawD t r=>exact ⟨_,_,rfl,.inl t,r⟩
end
def OwnAt (K:Frag) (O:Addr→Prop) (H:Hp) (a:Addr):PyData→Prop
 | .list xs=>∃ vs,H a=some (.lst vs)∧Reps K O H vs xs
 | .dict ds=>∃ kvs,H a=some (.dK kvs)∧RepK K O H kvs ds
 | _=>False
theorem OwnAt.mono {K:Frag} {O O':Addr→Prop} {H H':Hp} {a:Addr} {x:PyData} (h:OwnAt K O H a x) (k:∀ o,H a=some o→H' a=some o) (l:Le O H O' H'):OwnAt K O' H' a x:=by
 cases x with
 | list xs=>obtain ⟨vs,h1,h2⟩:=h; exact ⟨vs,k _ h1,h2.mono l⟩
 | dict ds=>obtain ⟨vs,h1,h2⟩:=h; exact ⟨vs,k _ h1,h2.mono l⟩
 | _=>cases h
theorem OwnAt.some {K:Frag} {O:Addr→Prop} {H:Hp} {a:Addr} {x:PyData} (h:OwnAt K O H a x):∃ o,H a=some o:=by
 cases x with
 | list xs=>obtain ⟨vs,h1,h2⟩:=h; exact ⟨_,h1⟩
 | dict ds=>obtain ⟨vs,h1,h2⟩:=h; exact ⟨_,h1⟩
 | _=>cases h
def RepW (K:Frag) (O:Addr→Prop) (ts:List Addr) (H:Hp) (v:V):W→Prop
 | .d x=>Rep K O H v x
 | .tp i=>∃ a,ts[i]? = some a∧v=.ref a
 | .loc x=>∃ a,v=.ref a∧O a∧a∉ts∧OwnAt K O H a x
def jc (xs:List PyData):Option PyData:=if isO xs=true then none else some (.list xs)
noncomputable def view (T:Tp):W→Option PyData
 | .d x=>some x
 | .tp i=>(T[i]?).bind jc
 | .loc (.list xs)=>some (.list xs)
 | .loc (.dict ds)=>some (.dict ds)
 | .loc _=>none
noncomputable def views (T:Tp):List W→Option (List PyData)
 | []=>some []
 | w::r=>match view T w with
  | some x=>(match views T r with
   | some xs=>some (x::xs)
   | none=>none)
  | none=>none
def gR (K:Frag) (O:Addr→Prop) (ts:List Addr) (H:Hp):List V→List W→Prop:=Paired fun v w=>RepW K O ts H v w
def Vws (K:Frag) (O:Addr→Prop) (H:Hp):List V→List PyData→Prop:=Paired fun v x=>Vw K O H v x
def RelE (K:Frag) (O:Addr→Prop) (ts:List Addr) (H:Hp) (σ:L2.St) (ρ:Rho):Prop:=∀ (i:Nat) (w:W),ρ[i]? = some (some w)→∃ v,σ[i]? = some (some v)∧RepW K O ts H v w
section
variable {K:Frag} {O:Addr→Prop} {ts:List Addr} {H H':Hp} {T:Tp} {v:V} {w:W}
theorem RepW.mono (r:RepW K O ts H v w) (c:HC K O ts H T) (s:SameX ts H H'):RepW K O ts H' v w:=by
 cases w with
 | d x=>exact Rep.mono (c.le s) r
 | tp i=>exact r
 | loc xs=>
  obtain ⟨a,e,h1,h2,h3⟩:=r
  exact ⟨a,e,h1,h2,h3.mono (fun o q=>s _ _ h2 q) (c.le s)⟩
theorem RelE.mono {σ:L2.St} {ρ:Rho} (r:RelE K O ts H σ ρ) (c:HC K O ts H T) (s:SameX ts H H'):RelE K O ts H' σ ρ:=fun i w e=>
 let ⟨v,h1,h2⟩:=r i w e; ⟨v,h1,h2.mono c s⟩
theorem HC.view (c:HC K O ts H T) {x:PyData} (r:RepW K O ts H v w) (e:view T w=some x):Vw K O H v x:=by
 cases w with
 | d y=>cases e; exact .rep r
 | tp i=>
  obtain ⟨a,h1,rfl⟩:=r
  have e':(T[i]?).bind jc=some x:=e
  cases ht:T[i]? with
  | none=>rw [ht] at e'; cases e'
  | some xs=>
   rw [ht] at e'
   have e2:(if isO xs=true then none else some (PyData.list xs))=some x:=e'
   split at e2
   ·cases e2
   ·rename_i hn
    cases e2
    obtain ⟨vs,h2,h3⟩:=(c.tape i a xs h1 ht).lst (by simpa using hn)
    exact .raw h2 h3
 | loc xs=>
  obtain ⟨a,rfl,_,_,h3⟩:=r
  cases xs with
  | list xs=>cases e; obtain ⟨vs,h1,h2⟩:=h3; exact .raw h1 h2
  | dict ds=>cases e; obtain ⟨vs,h1,h2⟩:=h3; exact .rawD h1 h2
  | _=>cases h3
theorem HC.views (c:HC K O ts H T):∀ {vs:List V} {ws:List W} {xs:List PyData},gR K O ts H vs ws→views T ws=some xs→Vws K O H vs xs
 | _,[],xs,.nil,e=>by cases e; exact .nil
 | _,w::r,xs,.cons h t,e=>by
  unfold D.views at e
  split at e
  ·rename_i x h1
   split at e
   ·rename_i ys h2
    cases e
    exact .cons (c.view h h1) (HC.views c t h2)
   ·cases e
  ·cases e
end
def noStar:Expr→Bool
 | .Starred _ _=>false
 | _=>true
theorem bQ {e:Expr} {es:List Expr} {env:Env} (h:noStar e=true):starEach (e::es) env=(false,eval e env)::starEach es env:=by cases e <;> first | rfl | cases h
theorem iJ {e:Expr} {env:Env} (h:noStar e=true):starEach [e] env=[(false,eval e env)]:=bQ h
theorem pT {e e':Expr} {env:Env} (h:noStar e=true) (h':noStar e'=true):starEach [e,e'] env=[(false,eval e env),(false,eval e' env)]:=by rw [bQ h,iJ h']
theorem dM {env:Env} {pos:Pos}:∀ {es:List Expr},es.all noStar=true→(backTo pos (starEach es env)).any (·.1)=false
 | [],_=>rfl
 | e::r,h=>by
  rw [List.all_cons,Bool.and_eq_true] at h
  rw [bQ h.1]
  show (false || (backTo pos (starEach r env)).any (·.1))=false
  rw [dM h.2]
  rfl
theorem o7 {e:Expr} {es:List Expr} {env:Env} {pos:Pos} (h:noStar e=true):backTo pos (starEach (e::es) env)=(false,eval e env)::backTo pos (starEach es env):=by
 rw [bQ h]
 rfl
theorem lK {e:Expr} {env:Env} {cpos:Pos} (h:noStar e=true):((backTo cpos (starEach [e] env)).all (fun x=>!x.1) && (backToKw cpos (keywordEach [] env)).all (fun x=>x.1.isSome)
   && decide (([e]:List Expr).length + ([]:List Keyword).length + (if ([]:List Keyword).isEmpty then 0 else 1) < 30))=true:=by
 rw [iJ h]
 rfl
abbrev FE:=Rho→Tp→Option (W×Tp)
abbrev FT:=Rho→Tp→Option (Bool×Tp)
abbrev FA:=Rho→Tp→Option (List W×Tp)
inductive LiftP (K:Frag) (f:FE) (σ:L2.St) (H:Hp) (Q:VK):Prop where
 | mk (O:Addr→Prop) (ts:List Addr) (ρ:Rho) (T:Tp) (w:W) (T':Tp) (hc:HC K O ts H T) (re:RelE K O ts H σ ρ) (e:f ρ T=some (w,T')) (q:∀ v H',SameX ts H H'→HC K O ts H' T'→RepW K O ts H' v w→Q v H'):LiftP K f σ H Q
def lift (K:Frag) (f:FE):TE:=fun σ H Q=>LiftP K f σ H Q
inductive LiftTP (K:Frag) (f:FT) (σ:L2.St) (H:Hp) (Q:Bool→Hp→Prop):Prop where
 | mk (O:Addr→Prop) (ts:List Addr) (ρ:Rho) (T:Tp) (b:Bool) (T':Tp) (hc:HC K O ts H T) (re:RelE K O ts H σ ρ) (e:f ρ T=some (b,T')) (q:∀ H',SameX ts H H'→HC K O ts H' T'→Q b H'):LiftTP K f σ H Q
def liftT (K:Frag) (f:FT):TT:=fun σ H Q=>LiftTP K f σ H Q
inductive LiftAP (K:Frag) (f:FA) (σ:L2.St) (H:Hp) (Q:List V→Hp→Prop):Prop where
 | mk (O:Addr→Prop) (ts:List Addr) (ρ:Rho) (T:Tp) (ws:List W) (T':Tp) (hc:HC K O ts H T) (re:RelE K O ts H σ ρ) (e:f ρ T=some (ws,T')) (q:∀ vs H',SameX ts H H'→HC K O ts H' T'→gR K O ts H' vs ws→Q vs H'):LiftAP K f σ H Q
def tI (K:Frag) (f:FA):TA:=fun σ H Q=>LiftAP K f σ H Q
structure DE (X:Cx) (e:Expr) (f:FE):Prop where
 pe:PE X e (lift X.K f)
structure DT (X:Cx) (e:Expr) (f:FT):Prop where
 pe:PT X e (liftT X.K f)
structure DW (X:Cx) (e:Expr) (f:FT):Prop where
 pe:PW X e (liftT X.K f)
structure DA (X:Cx) (es:List Expr) (f:FA):Prop where
 pe:PA X es (tI X.K f)
theorem bD {X:Cx} {e:Expr} {t t':TE} (h:PE X e t) (i:∀ σ H Q,t' σ H Q→t σ H Q):PE X e t':=fun pins s σ H Q I q=>h pins s σ H Q I (i σ H Q q)
theorem kC {X:Cx} {e:Expr} {t t':TT} (h:PT X e t) (i:∀ σ H Q,t' σ H Q→t σ H Q):PT X e t':=fun pins s σ H Q I q=>h pins s σ H Q I (i σ H Q q)
theorem se {X:Cx} {e:Expr} {t t':TT} (h:PW X e t) (i:∀ σ H Q,t' σ H Q→t σ H Q):PW X e t':=fun wh pins s σ H Q I q=>h wh pins s σ H Q I (i σ H Q q)
theorem su {X:Cx} {e:List Expr} {t t':TA} (h:PA X e t) (i:∀ σ H Q,t' σ H Q→t σ H Q):PA X e t':=fun po pins s σ H Q I q=>h po pins s σ H Q I (i σ H Q q)
def aa (i:Nat):FE:=fun ρ T=>match ρ[i]? with
 | some (some w)=>some (w,T)
 | _=>none
noncomputable def fC (x:PyData):FE:=fun _ T=>some (.d x,T)
section
variable {X:Cx} {pos:Pos}
theorem ah (i:Nat) {x:Str} (hN:X.N[i]? = some x:=by rfl) (hv:Vis X.env.scope x:=by first | exact Or.inl rfl | exact Or.inr (Or.inl rfl) | exact Or.inr (Or.inr rfl)) (hd:(x == ("__debug__" : Str))=false:=by decide)
  (hcd:(x == ("__classdict__" : Str))=false:=by decide):DE X (.Name x pos) (aa i):=by
 refine ⟨?_⟩
 refine bD (pv i hN hv hd hcd) fun σ H Q=>?_
 rintro ⟨O,ts,ρ,T,w,T',hc,re,e,q⟩
 unfold aa at e
 split at e
 ·rename_i w' he
  cases e
  obtain ⟨v,h1,h2⟩:=re i _ he
  exact ⟨v,h1,q v H (.refl _ _) hc h2⟩
 ·cases e
theorem hZ {x:PyData} {v:V} (h:∀ O H,Rep X.K O H v x):∀ σ H Q,lift X.K (fC x) σ H Q→tC v σ H Q:=by
 rintro σ H Q ⟨O,ts,ρ,T,w,T',hc,re,e,q⟩
 cases e
 exact q v H (.refl _ _) hc (h O H)
theorem ai {i j}:DE X (.Constant (.int i) j pos) (fC (.int i)):=⟨bD A5 (hZ fun _ _=>.int i)⟩
theorem dE {i j}:DE X (.Constant (.bool i) j pos) (fC (.bool i)):=⟨bD CD (hZ fun _ _=>.bl i)⟩
theorem aq {i j}:DE X (.Constant (.str i) j pos) (fC (.str i)):=⟨bD sm (hZ fun _ _=>.str i)⟩
theorem cC {j}:DE X (.Constant .none j pos) (fC .none):=⟨bD A4 (hZ fun _ _=>.non)⟩
theorem iN {x:Str} {i:Int} (hg:Gl X x) (hm:∃ t,X.mg x=some (.int i t)) (hd:(x == ("__debug__" : Str))=false:=by decide):DE X (.Name x pos) (fC (.int i)):=by
 refine ⟨?_⟩
 obtain ⟨t,hm⟩:=hm
 exact bD (mM (v:=.int i) hg hm ⟨t,rfl⟩ hd) (hZ fun _ _=>.int i)
theorem qh {x:Str} {i:Str} (hg:Gl X x) (hm:∃ t,X.mg x=some (.str i t)) (hd:(x == ("__debug__" : Str))=false:=by decide):DE X (.Name x pos) (fC (.str i)):=by
 refine ⟨?_⟩
 obtain ⟨t,hm⟩:=hm
 exact bD (mM (v:=.str i) hg hm ⟨t,rfl⟩ hd) (hZ fun _ _=>.str i)
end
def op1 (g:PyData→Option PyData) (T:Tp) (w:W):Option (W×Tp):=match view T w with
 | some x=>match g x with
  | some d=>some (.d d,T)
  | none=>none
 | none=>none
def op2 (g:PyData→PyData→Option PyData) (T:Tp) (w1 w2:W):Option (W×Tp):=match view T w1,view T w2 with
 | some x,some y=>match g x y with
  | some d=>some (.d d,T)
  | none=>none
 | _,_=>none
theorem kE {g:PyData→Option PyData} {T T':Tp} {w1 w:W} (e:op1 g T w1=some (w,T')):∃ x d,view T w1=some x∧g x=some d∧w=.d d∧T'=T:=by
 unfold op1 at e
 split at e
 ·rename_i x h1
  split at e
  ·rename_i d h3
   cases e
   exact ⟨x,d,h1,h3,rfl,rfl⟩
  ·cases e
 ·cases e
theorem iS {g:PyData→PyData→Option PyData} {T T':Tp} {w1 w2 w:W} (e:op2 g T w1 w2=some (w,T')):∃ x y d,view T w1=some x∧view T w2=some y∧g x y=some d∧w=.d d∧T'=T:=by
 unfold op2 at e
 split at e
 ·rename_i x y h1 h2
  split at e
  ·rename_i d h3
   cases e
   exact ⟨x,y,d,h1,h2,h3,rfl,rfl⟩
  ·cases e
 ·cases e
def ae (g:PyData→PyData→Option PyData) (fa fb:FE):FE:=fun ρ T=>bnd (fa ρ T) fun w1 T1=>bnd (fb ρ T1) fun w2 T2=>op2 g T2 w1 w2
def fUn (g:PyData→Option PyData) (fa:FE):FE:=fun ρ T=>bnd (fa ρ T) fun w1 T1=>op1 g T1 w1
def gW (K:Frag) (r:R2) (g:PyData→PyData→Option PyData):Prop:=∀ (O:Addr→Prop) (ts:List Addr) (H:Hp) (T:Tp) (v1 v2:V) (x y d:PyData) (Q:VK),HC K O ts H T→Vw K O H v1 x→Vw K O H v2 y→g x y=some d →
 (∀ v H',SameX ts H H'→HC K O ts H' T→Rep K O H' v d→Q v H')→r v1 v2 H Q
def D2 (K:Frag) (r:V→Hp→VK→Prop) (g:PyData→Option PyData):Prop:=∀ (O:Addr→Prop) (ts:List Addr) (H:Hp) (T:Tp) (v1:V) (x d:PyData) (Q:VK),HC K O ts H T→Vw K O H v1 x→g x=some d →
 (∀ v H',SameX ts H H'→HC K O ts H' T→Rep K O H' v d→Q v H')→r v1 H Q
def OpD (X:Cx) (f:Value→Value→Sem Value) (g:PyData→PyData→Option PyData):Prop:=∃ r,OpR X f r∧gW X.K r g
def IxD (X:Cx) (g:PyData→PyData→Option PyData):Prop:=∃ r,IxR X r∧gW X.K r g
theorem ko {K:Frag} {r:R2} {g:PyData→PyData→Option PyData} {fa fb:FE} (snd:gW K r g) {σ:L2.St} {H:Hp} {Q:VK} (h:lift K (ae g fa fb) σ H Q):tOp r (lift K fa) (lift K fb) σ H Q:=by
 obtain ⟨O,ts,ρ,T,w,T',hc,re,e,q⟩:=h
 obtain ⟨w1,T1,e1,e⟩:=aM e
 obtain ⟨w2,T2,e2,e⟩:=aM e
 obtain ⟨x,y,d,h1,h2,h3,rfl,rfl⟩:=iS e
 refine ⟨O,ts,ρ,T,w1,T1,hc,re,e1,fun v1 H1 s1 hc1 r1=>?_⟩
 refine ⟨O,ts,ρ,T1,w2,T',hc1,re.mono hc s1,e2,fun v2 H2 s2 hc2 r2=>?_⟩
 exact snd O ts H2 T' v1 v2 x y d Q hc2 (hc2.view (r1.mono hc1 s2) h1) (hc2.view r2 h2) h3 fun v H' s3 hc3 r3=>q v H' (s1.trans (s2.trans s3)) hc3 r3
noncomputable def asB:W→Option Bool
 | .d (.bool b)=>some b
 | _=>none
theorem jD {w:W} {b:Bool} (h:asB w=some b):w=.d (.bool b):=by
 unfold asB at h
 split at h
 ·cases h; rfl
 ·cases h
def au (f:FE):FT:=fun ρ T=>bnd (f ρ T) fun w T1=>match asB w with
 | some b=>some (b,T1)
 | none=>none
theorem qw {K:Frag} {f:FE} {σ:L2.St} {H:Hp} {Q:Bool→Hp→Prop} (h:liftT K (au f) σ H Q):lift K f σ H fun x H'=>∃ k,x=.bl k∧Q k H':=by
 obtain ⟨O,ts,ρ,T,w,T',hc,re,e,q⟩:=h
 obtain ⟨w1,T1,e1,e⟩:=aM e
 refine ⟨O,ts,ρ,T,w1,T1,hc,re,e1,fun v1 H1 s1 hc1 r1=>?_⟩
 split at e
 ·rename_i b hb
  cases e
  have hw:=jD hb
  subst hw
  cases (show Rep K O H1 v1 _ from r1)
  exact ⟨_,rfl,q H1 s1 hc1⟩
 ·cases e
section
variable {X:Cx} {pos:Pos} {a b c:Expr} {fa fb fc:FE} {g g':PyData→PyData→Option PyData}
theorem aG {op:Operator} (ho:OpD X (binaryOp op) g) (ha:DE X a fa) (hb:DE X b fb):DE X (.BinOp a op b pos) (ae g fa fb):=by
 refine ⟨?_⟩
 obtain ⟨r,hr,snd⟩:=ho
 exact bD (Cz hr ha.pe hb.pe) fun σ H Q=>ko snd
theorem cm {op:CmpOp} (ho:OpD X (compareOp op) g) (ha:DE X a fa) (hb:DE X b fb) (hm:behindInMarks op b=false:=by first | exact sv _ | with_unfolding_all rfl):DE X (.Compare a [op] [b] pos) (ae g fa fb):=by
 refine ⟨?_⟩
 obtain ⟨r,hr,snd⟩:=ho
 exact bD (zo hr ha.pe hb.pe hm) fun σ H Q=>ko snd
theorem aK {op:CmpOp} (ho:OpD X (compareOp op) g) (ha:DE X a fa) (hb:DE X b fb) (hm:behindInMarks op b=false:=by first | exact sv _ | with_unfolding_all rfl):DT X (.Compare a [op] [b] pos) (au (ae g fa fb)):=by
 refine ⟨?_⟩
 obtain ⟨r,hr,snd⟩:=ho
 exact kC (y8 hr ha.pe hb.pe hm) fun σ H Q h=>ko snd (qw h)
theorem aw (ho:IxD X g) (ha:DE X a fa) (hb:DE X b fb) (hs:rL b:=by exact fun _ _=>rfl):DE X (.Subscript a b pos) (ae g fa fb):=by
 refine ⟨?_⟩
 obtain ⟨r,hr,snd⟩:=ho
 exact bD (CB hr ha.pe hb.pe hs) fun σ H Q=>ko snd
def d7 (g g':PyData→PyData→Option PyData) (fa fb fc:FE):FE:=fun ρ T=>bnd (fa ρ T) fun w1 T1=>bnd (fb ρ T1) fun w2 T2=>bnd (op2 g T2 w1 w2) fun w T3=>match asB w with
 | some b=>if b=true then bnd (fc ρ T3) fun w3 T4=>op2 g' T4 w2 w3 else some (.d (.bool false),T3)
 | none=>none
theorem pI {K:Frag} {r r':R2} (snd:gW K r g) (snd':gW K r' g') {σ:L2.St} {H:Hp} {Q:VK} (h:lift K (d7 g g' fa fb fc) σ H Q):m7 r r' (lift K fa) (lift K fb) (lift K fc) σ H Q:=by
 obtain ⟨O,ts,ρ,T,w,T',hc,re,e,q⟩:=h
 obtain ⟨w1,T1,e1,e⟩:=aM e
 obtain ⟨w2,T2,e2,e⟩:=aM e
 obtain ⟨wz,T3,e3,ez⟩:=aM e
 obtain ⟨x,y,d,h1,h2,h3,rfl,rfl⟩:=iS e3
 clear e
 refine ⟨O,ts,ρ,T,w1,T1,hc,re,e1,fun v1 H1 s1 hc1 r1=>?_⟩
 refine ⟨O,ts,ρ,T1,w2,T3,hc1,re.mono hc s1,e2,fun v2 H2 s2 hc2 r2=>?_⟩
 refine snd O ts H2 T3 v1 v2 x y d _ hc2 (hc2.view (r1.mono hc1 s2) h1) (hc2.view r2 h2) h3 fun v H3 s3 hc3 r3=>?_
 split at ez
 ·rename_i b hb
  have hd:=jD hb
  injection hd with hd
  subst hd
  cases r3
  cases b with
  | true=>
   rw [if_pos rfl] at ez
   refine ⟨true,rfl,fX ?_⟩
   obtain ⟨w3,T4,e4,e5⟩:=aM ez
   obtain ⟨x',y',d',h1',h2',h3',rfl,rfl⟩:=iS e5
   refine ⟨O,ts,ρ,T3,w3,T',hc3,(re.mono hc (s1.trans (s2.trans s3))),e4,fun v3 H4 s4 hc4 r4=>?_⟩
   exact snd' O ts H4 T' v2 v3 x' y' d' Q hc4 (hc4.view (r2.mono hc2 (s3.trans s4)) h1') (hc4.view r4 h2') h3' fun v H' s5 hc5 r5=>q v H' (s1.trans (s2.trans (s3.trans (s4.trans s5)))) hc5 r5
  | false=>
   rw [if_neg Bool.false_ne_true] at ez
   cases ez
   exact ⟨false,rfl,fY (q _ H3 (s1.trans (s2.trans s3)) hc3 (.bl false))⟩
 ·cases ez
theorem qi {op op':CmpOp} (ho:OpD X (compareOp op) g) (ho':OpD X (compareOp op') g') (ha:DE X a fa) (hb:DE X b fb) (hc:DE X c fc)
  (hm:lastMarks [op,op'] [b,c]=false:=by with_unfolding_all rfl):DE X (.Compare a [op,op'] [b,c] pos) (d7 g g' fa fb fc):=by
 refine ⟨?_⟩
 obtain ⟨r,hr,snd⟩:=ho
 obtain ⟨r',hr',snd'⟩:=ho'
 exact bD (xV hr hr' ha.pe hb.pe hc.pe hm) fun σ H Q=>pI snd snd'
theorem mC {op op':CmpOp} (ho:OpD X (compareOp op) g) (ho':OpD X (compareOp op') g') (ha:DE X a fa) (hb:DE X b fb) (hc:DE X c fc)
  (hm:lastMarks [op,op'] [b,c]=false:=by with_unfolding_all rfl):DT X (.Compare a [op,op'] [b,c] pos) (au (d7 g g' fa fb fc)):=by
 refine ⟨?_⟩
 obtain ⟨r,hr,snd⟩:=ho
 obtain ⟨r',hr',snd'⟩:=ho'
 exact kC (xG hr hr' ha.pe hb.pe hc.pe hm) fun σ H Q h=>pI snd snd' (qw h)
def lC:PyData→Option Bool
 | .none=>some false
 | .bool b=>some b
 | .int i=>some (i != 0)
 | .str y=>if y.length≤sizeLine then some ((y.length:Int) != 0) else none
 | .list xs=>some (!xs.isEmpty)
 | .tuple xs=>some (!xs.isEmpty)
 | .dict _=>none
def lD (T:Tp) (w:W):Option (Bool×Tp):=match view T w with
 | some x=>match lC x with
  | some b=>some (b,T)
  | none=>none
 | none=>none
def aR (f:FE):FT:=fun ρ T=>bnd (f ρ T) fun w T1=>lD T1 w
theorem oM {K:Frag} {O:Addr→Prop} {H:Hp} {vs:List V} {ds:List PyData} (r:Reps K O H vs ds):vs.isEmpty=ds.isEmpty:=by cases r <;> rfl
theorem Ay {K:Frag} {O:Addr→Prop} {H:Hp} {v:V} {x:PyData} {b:Bool} (h:Vw K O H v x) (e:lC x=some b):ow K v H b:=by
 cases x with
 | none=>cases h.non; cases e; rfl
 | bool c=>cases h.bl; cases e; rfl
 | int i=>cases h.int; cases e; rfl
 | str y=>
  cases h.str
  have e':(if y.length≤sizeLine then some ((y.length:Int) != 0) else none)=some b:=e
  split at e'
  ·rename_i hl
   cases e'
   exact ⟨hl,rfl⟩
  ·cases e'
 | list xs=>
  obtain ⟨a,vs,rfl,h1,h2⟩:=h.lst
  cases e
  exact .inl ⟨vs,h1,by rw [oM h2]⟩
 | tuple xs=>
  obtain ⟨a,vs,rfl,h1,h2⟩:=h.tup
  cases e
  exact .inr (.inl ⟨vs,h1.sq,by rw [oM h2]⟩)
 | dict kvs=>
  cases e
theorem bw (ha:DE X a fa) (he:∀ whole,isTrue a X.env whole=(do let v ← whole; standAt a.pos; holding [v] (truthy v)):=by intro _; rfl):DT X a (aR fa):=by
 refine ⟨?_⟩
 refine kC (xF ha.pe he) fun σ H Q=>?_
 rintro ⟨O,ts,ρ,T,b,T',hc,re,e,q⟩
 obtain ⟨w1,T1,e1,e⟩:=aM e
 refine ⟨O,ts,ρ,T,w1,T1,hc,re,e1,fun v1 H1 s1 hc1 r1=>?_⟩
 unfold lD at e
 split at e
 ·rename_i x h1
  split at e
  ·rename_i k h2
   cases e
   exact ⟨b,Ay (hc1.view r1 h1) h2,q H1 s1 hc1⟩
  ·cases e
 ·cases e
def cz (f g:FT):FT:=fun ρ T=>bnd (f ρ T) fun b T1=>if b=true then g ρ T1 else some (false,T1)
def bE (f g:FT):FT:=fun ρ T=>bnd (f ρ T) fun b T1=>if b=true then some (true,T1) else g ρ T1
def bF (f:FT):FT:=fun ρ T=>bnd (f ρ T) fun b T1=>some (!b,T1)
variable {ta tb:FT} {rest:List Expr}
theorem cA {f:FT} (h:DW X a f):DT X a f:=⟨PW.pt h.pe⟩
theorem gi (ha:DT X a ta):DW X (.BoolOp .And [a] pos) ta:=⟨yZ ha.pe⟩
theorem d8 (ha:DT X a ta):DW X (.BoolOp .Or [a] pos) ta:=⟨AU ha.pe⟩
theorem fK (ha:DT X a ta) (hb:DW X (.BoolOp .And (b::rest) pos) tb):DW X (.BoolOp .And (a::b::rest) pos) (cz ta tb):=by
 refine ⟨?_⟩
 refine se (AV ha.pe hb.pe) fun σ H Q=>?_
 rintro ⟨O,ts,ρ,T,b,T',hc,re,e,q⟩
 obtain ⟨b1,T1,e1,e⟩:=aM e
 refine ⟨O,ts,ρ,T,b1,T1,hc,re,e1,fun H1 s1 hc1=>?_⟩
 cases b1 with
 | true=>exact fX ⟨O,ts,ρ,T1,b,T',hc1,re.mono hc s1,by simpa using e,fun H2 s2 hc2=>q H2 (s1.trans s2) hc2⟩
 | false=>
  have e':some (false,T1)=some (b,T'):=by simpa using e
  cases e'
  exact fY (q H1 s1 hc1)
theorem cY (ha:DT X a ta) (hb:DW X (.BoolOp .Or (b::rest) pos) tb):DW X (.BoolOp .Or (a::b::rest) pos) (bE ta tb):=by
 refine ⟨?_⟩
 refine se (Cs ha.pe hb.pe) fun σ H Q=>?_
 rintro ⟨O,ts,ρ,T,b,T',hc,re,e,q⟩
 obtain ⟨b1,T1,e1,e⟩:=aM e
 refine ⟨O,ts,ρ,T,b1,T1,hc,re,e1,fun H1 s1 hc1=>?_⟩
 cases b1 with
 | false=>exact fY ⟨O,ts,ρ,T1,b,T',hc1,re.mono hc s1,by simpa using e,fun H2 s2 hc2=>q H2 (s1.trans s2) hc2⟩
 | true=>
  have e':some (true,T1)=some (b,T'):=by simpa using e
  cases e'
  exact fX (q H1 s1 hc1)
theorem cW (ha:DT X a ta):DT X (.UnaryOp .Not a pos) (bF ta):=by
 refine ⟨?_⟩
 refine kC (AW ha.pe) fun σ H Q=>?_
 rintro ⟨O,ts,ρ,T,b,T',hc,re,e,q⟩
 obtain ⟨b1,T1,e1,e⟩:=aM e
 cases e
 exact ⟨O,ts,ρ,T,b1,T',hc,re,e1,fun H1 s1 hc1=>q H1 s1 hc1⟩
def bI (f g:FE):FE:=fun ρ T=>bnd (f ρ T) fun w T1=>match asB w with
 | some b=>if b=true then g ρ T1 else some (.d (.bool false),T1)
 | none=>none
def oq (f g:FE):FE:=fun ρ T=>bnd (f ρ T) fun w T1=>match asB w with
 | some b=>if b=true then some (.d (.bool true),T1) else g ρ T1
 | none=>none
def gy (f:FE):FE:=fun ρ T=>bnd (f ρ T) fun w T1=>match asB w with
 | some b=>some (.d (.bool (!b)),T1)
 | none=>none
theorem fi {op} (h:DE X a fa):DE X (.BoolOp op [a] pos) fa:=⟨A2 h.pe⟩
theorem dQ (ha:DE X a fa) (hb:DE X (.BoolOp .And (b::rest) pos) fb):DE X (.BoolOp .And (a::b::rest) pos) (bI fa fb):=by
 refine ⟨?_⟩
 refine bD (A6 ha.pe hb.pe) fun σ H Q=>?_
 rintro ⟨O,ts,ρ,T,w,T',hc,re,e,q⟩
 obtain ⟨w1,T1,e1,e⟩:=aM e
 refine ⟨O,ts,ρ,T,w1,T1,hc,re,e1,fun v1 H1 s1 hc1 r1=>?_⟩
 split at e
 ·rename_i b hb
  have hw:=jD hb
  subst hw
  cases (show Rep X.K O H1 v1 _ from r1)
  cases b with
  | true=>exact ⟨_,rfl,fX ⟨O,ts,ρ,T1,w,T',hc1,re.mono hc s1,by simpa using e,fun v H2 s2 hc2 r2=>q v H2 (s1.trans s2) hc2 r2⟩⟩
  | false=>
   rw [if_neg Bool.false_ne_true] at e
   cases e
   exact ⟨_,rfl,fY (q _ H1 s1 hc1 (.bl false))⟩
 ·cases e
theorem C6 (ha:DE X a fa) (hb:DE X (.BoolOp .Or (b::rest) pos) fb):DE X (.BoolOp .Or (a::b::rest) pos) (oq fa fb):=by
 refine ⟨?_⟩
 refine bD (Cy ha.pe hb.pe) fun σ H Q=>?_
 rintro ⟨O,ts,ρ,T,w,T',hc,re,e,q⟩
 obtain ⟨w1,T1,e1,e⟩:=aM e
 refine ⟨O,ts,ρ,T,w1,T1,hc,re,e1,fun v1 H1 s1 hc1 r1=>?_⟩
 split at e
 ·rename_i b hb
  have hw:=jD hb
  subst hw
  cases (show Rep X.K O H1 v1 _ from r1)
  cases b with
  | false=>exact ⟨_,rfl,fY ⟨O,ts,ρ,T1,w,T',hc1,re.mono hc s1,by simpa using e,fun v H2 s2 hc2 r2=>q v H2 (s1.trans s2) hc2 r2⟩⟩
  | true=>
   rw [if_pos rfl] at e
   cases e
   exact ⟨_,rfl,fX (q _ H1 s1 hc1 (.bl true))⟩
 ·cases e
theorem kQ (ha:DE X a fa):DE X (.UnaryOp .Not a pos) (gy fa):=by
 refine ⟨?_⟩
 refine bD (A3 ha.pe) fun σ H Q=>?_
 rintro ⟨O,ts,ρ,T,w,T',hc,re,e,q⟩
 obtain ⟨w1,T1,e1,e⟩:=aM e
 refine ⟨O,ts,ρ,T,w1,T1,hc,re,e1,fun v1 H1 s1 hc1 r1=>?_⟩
 split at e
 ·rename_i b hb
  have hw:=jD hb
  subst hw
  cases (show Rep X.K O H1 v1 _ from r1)
  cases e
  exact ⟨_,rfl,q _ H1 s1 hc1 (.bl _)⟩
 ·cases e
def bH (c:FT) (f g:FE):FE:=fun ρ T=>bnd (c ρ T) fun b T1=>if b=true then f ρ T1 else g ρ T1
theorem di (hc:DT X c ta) (ha:DE X a fa) (hb:DE X b fb):DE X (.IfExp c a b pos) (bH ta fa fb):=by
 refine ⟨?_⟩
 refine bD (xR hc.pe ha.pe hb.pe) fun σ H Q=>?_
 rintro ⟨O,ts,ρ,T,w,T',hc,re,e,q⟩
 obtain ⟨b1,T1,e1,e⟩:=aM e
 refine ⟨O,ts,ρ,T,b1,T1,hc,re,e1,fun H1 s1 hc1=>?_⟩
 cases b1 with
 | true=>exact fX ⟨O,ts,ρ,T1,w,T',hc1,re.mono hc s1,by simpa using e,fun v H2 s2 hc2 r2=>q v H2 (s1.trans s2) hc2 r2⟩
 | false=>exact fY ⟨O,ts,ρ,T1,w,T',hc1,re.mono hc s1,by simpa using e,fun v H2 s2 hc2 r2=>q v H2 (s1.trans s2) hc2 r2⟩
theorem C5 {op:UnaryOp} {r:V→Hp→VK→Prop} {g1:PyData→Option PyData} (hr:UnR X (unaryOp op) r) (snd:D2 X.K r g1) (ha:DE X a fa):DE X (.UnaryOp op a pos) (fUn g1 fa):=by
 refine ⟨?_⟩
 refine bD (Cw hr ha.pe) fun σ H Q=>?_
 rintro ⟨O,ts,ρ,T,w,T',hc,re,e,q⟩
 obtain ⟨w1,T1,e1,e⟩:=aM e
 obtain ⟨x,d,h1,h3,rfl,rfl⟩:=kE e
 refine ⟨O,ts,ρ,T,w1,T',hc,re,e1,fun v1 H1 s1 hc1 r1=>?_⟩
 exact snd O ts H1 T' v1 x d Q hc1 (hc1.view r1 h1) h3 fun v H' s3 hc3 r3=>q v H' (s1.trans s3) hc3 r3
end
def ag:FA:=fun _ T=>some ([],T)
def ab (f:FE) (g:FA):FA:=fun ρ T=>bnd (f ρ T) fun w T1=>bnd (g ρ T1) fun ws T2=>some (w::ws,T2)
def fm:List W→Option (List PyData)
 | []=>some []
 | .d x::r=>match fm r with
  | some xs=>some (x::xs)
  | none=>none
 | _::_=>none
theorem ke {K:Frag} {O:Addr→Prop} {ts:List Addr} {H:Hp}:∀ {vs:List V} {ws:List W} {xs:List PyData},gR K O ts H vs ws→fm ws=some xs→Reps K O H vs xs
 | _,[],_,.nil,e=>by cases e; exact .nil
 | _,.d x::r,xs,.cons h t,e=>by
  unfold fm at e
  split at e
  ·rename_i ys h2
   cases e
   exact .cons h (ke t h2)
  ·cases e
 | _,.tp _::_,_,.cons _ _,e=>by cases e
 | _,.loc _::_,_,.cons _ _,e=>by cases e
def ao (mk:List PyData→PyData) (f:FA):FE:=fun ρ T=>bnd (f ρ T) fun ws T1=>match fm ws with
 | some xs=>if xs.length≤1000 then some (.d (mk xs),T1) else none
 | none=>none
theorem mO {n:Nat} (h:n≤1000):n≤sizeLine:=Nat.le_trans h (by decide)
def eI (X:Cx) (f:Value) (g:List PyData→Option PyData):Prop:=∃ r,CallR X f r∧∀ (O:Addr→Prop) (ts:List Addr) (H:Hp) (T:Tp) (vs:List V) (xs:List PyData) (d:PyData) (Q:VK),HC X.K O ts H T→Vws X.K O H vs xs→g xs=some d →
 (∀ v H',SameX ts H H'→HC X.K O ts H' T→Rep X.K O H' v d→Q v H')→r vs H Q
def fCB (g:List PyData→Option PyData) (f:FA):FE:=fun ρ T=>bnd (f ρ T) fun ws T1=>match views T1 ws with
 | some xs=>match g xs with
  | some d=>some (.d d,T1)
  | none=>none
 | none=>none
section
variable {X:Cx} {pos p:Pos} {e:Expr} {es:List Expr} {f:FE} {g:FA}
theorem aj:DA X [] ag:=by
 refine ⟨?_⟩
 refine su dO fun σ H Q=>?_
 rintro ⟨O,ts,ρ,T,w,T',hc,re,e,q⟩
 cases e
 exact q [] H (.refl _ _) hc .nil
theorem af (ha:DE X e f) (hr:DA X es g) (hs:starEach (e::es) X.env=(false,eval e X.env)::starEach es X.env:=by exact bQ rfl):DA X (e::es) (ab f g):=by
 refine ⟨?_⟩
 refine su (cq ha.pe hr.pe hs) fun σ H Q=>?_
 rintro ⟨O,ts,ρ,T,w,T',hc,re,e,q⟩
 obtain ⟨w1,T1,e1,e⟩:=aM e
 obtain ⟨ws,T2,e2,e⟩:=aM e
 cases e
 refine ⟨O,ts,ρ,T,w1,T1,hc,re,e1,fun v1 H1 s1 hc1 r1=>?_⟩
 exact ⟨O,ts,ρ,T1,ws,_,hc1,re.mono hc s1,e2,fun vs H2 s2 hc2 r2=>q _ H2 (s1.trans s2) hc2 (.cons (r1.mono hc1 s2) r2)⟩
theorem qE {mk:List PyData→PyData} {g:FA} {ρ:Rho} {T T':Tp} {w:W} (e:ao mk g ρ T=some (w,T')):∃ ws xs,g ρ T=some (ws,T')∧fm ws=some xs∧xs.length≤1000∧w=.d (mk xs):=by
 obtain ⟨ws,T1,e1,e⟩:=aM e
 split at e
 ·rename_i xs h1
  split at e
  ·rename_i h2
   cases e
   exact ⟨ws,xs,e1,h1,h2,rfl⟩
  ·cases e
 ·cases e
theorem aB {x1} (h:DA X es g):DE X (.Tuple es x1 pos) (ao .tuple g):=by
 refine ⟨?_⟩
 refine bD (nq h.pe) fun σ H Q=>?_
 rintro ⟨O,ts,ρ,T,w,T',hc,re,e,q⟩
 obtain ⟨ws,xs,e1,h1,h2,rfl⟩:=qE e
 refine ⟨O,ts,ρ,T,ws,T',hc,re,e1,fun vs H1 s1 hc1 r1=>?_⟩
 have rs:=ke r1 h1
 refine ⟨mO (by rw [rs.length]; exact h2),fun p hp=>?_⟩
 exact q _ _ (s1.trans (.new hp _)) (hc1.new hp _) (hc1.newT hp rs)
theorem cK (h:DA X es g):DE X (.List es pos) (ao .list g):=by
 refine ⟨?_⟩
 refine bD (so h.pe) fun σ H Q=>?_
 rintro ⟨O,ts,ρ,T,w,T',hc,re,e,q⟩
 obtain ⟨ws,xs,e1,h1,h2,rfl⟩:=qE e
 refine ⟨O,ts,ρ,T,ws,T',hc,re,e1,fun vs H1 s1 hc1 r1=>?_⟩
 have rs:=ke r1 h1
 refine ⟨mO (by rw [rs.length]; exact h2),fun p hp=>?_⟩
 exact q _ _ (s1.trans (.new hp _)) (hc1.new hp _) (hc1.newL hp rs)
theorem sT {K:Frag} {r:List V→Hp→VK→Prop} {gg:List PyData→Option PyData} (snd:∀ (O:Addr→Prop) (ts:List Addr) (H:Hp) (T:Tp) (vs:List V) (xs:List PyData) (d:PyData) (Q:VK),HC K O ts H T→Vws K O H vs xs→gg xs=some d →
  (∀ v H',SameX ts H H'→HC K O ts H' T→Rep K O H' v d→Q v H')→r vs H Q) {σ:L2.St} {H:Hp} {Q:VK} (h:lift K (fCB gg g) σ H Q):tCB r (tI K g) σ H Q:=by
 obtain ⟨O,ts,ρ,T,w,T',hc,re,e,q⟩:=h
 obtain ⟨ws,T1,e1,e⟩:=aM e
 refine ⟨O,ts,ρ,T,ws,T1,hc,re,e1,fun vs H1 s1 hc1 r1=>?_⟩
 split at e
 ·rename_i xs h1
  split at e
  ·rename_i d h2
   cases e
   exact snd O ts H1 T' vs xs d Q hc1 (hc1.views r1 h1) h2 fun v H' s3 hc3 r3=>q v H' (s1.trans s3) hc3 r3
  ·cases e
 ·cases e
theorem aW {x:Str} {id:String} {gg:List PyData→Option PyData} (hc:eI X (.builtin id) gg) (hg:Gl X x) (hm:X.mg x=none) (hv:bootBuiltins x=some (.builtin id)) (ha:DA X (e::es) g) (hn:x≠"__name__":=by decide) (hdb:(x == ("__debug__" : Str))=false:=by decide)
  (he:starEach (e::es) X.env=(false,eval e X.env)::starEach es X.env:=by exact bQ rfl) (hpl:(backTo pos (starEach es X.env)).any (·.1)=false:=by exact dM rfl):DE X (.Call (.Name x p) (e::es) [] pos) (fCB gg g):=by
 refine ⟨?_⟩
 obtain ⟨r,hr,snd⟩:=hc
 exact bD (ms hr hg hm hv ha.pe hn hdb he hpl) fun σ H Q h=>sT snd h
theorem de {x:Str} {id:String} {gg:List PyData→Option PyData} (hc:eI X (.type id) gg) (hg:Gl X x) (hm:X.mg x=none) (hv:bootBuiltins x=some (.type id)) (ha:DA X (e::es) g) (hn:x≠"__name__":=by decide) (hdb:(x == ("__debug__" : Str))=false:=by decide)
  (he:starEach (e::es) X.env=(false,eval e X.env)::starEach es X.env:=by exact bQ rfl) (hpl:(backTo pos (starEach es X.env)).any (·.1)=false:=by exact dM rfl):DE X (.Call (.Name x p) (e::es) [] pos) (fCB gg g):=by
 refine ⟨?_⟩
 obtain ⟨r,hr,snd⟩:=hc
 exact bD (wK hr hg hm hv ha.pe hn hdb he hpl) fun σ H Q h=>sT snd h
end
abbrev FI:=Rho→Tp→Option (List PyData×Tp)
def DQ (K:Frag) (tl:TE):TI:=fun σ H R=>tl σ H fun x H1=>(∃ a xs,x=.ref a∧SqL K H1 a xs∧(xs.length≤sizeLine→R (Itl K a) H1))∨(∃ a xs,x=.ref a∧SqT K H1 a xs∧(xs.length≤sizeLine→R (Itt K a) H1))∨(∃ z,x=.str z∧R (Its z) H1)∨∃ a o kvs,x=.ref a∧H1 a=some (.frz o (.dK kvs))∧(kvs.length≤sizeLine→R (Itd a o kvs) H1)
theorem A0 {X:Cx} {tg l:Expr} {tl:TE} (hl:PE X l tl):PI X tg l (DQ X.K tl):=by
 intro pins s σ H R I h
 refine thn (hl pins s σ H _ I h) fun v s1 ⟨x,H1,I1,r1,q1⟩=>?_
 have fk:∀ b∈[s1.heap.objs.size],cM X pins H1 b:=fun b hb=>by
  have e:b=s1.heap.objs.size:=by simpa using hb
  subst e
  exact I1.fpOk (Nat.le_refl _) (I1.hok.fresh (Nat.le_refl _))
 rcases q1 with ⟨a,xs,e,hq,q⟩ | ⟨a,xs,e,hq,q⟩ | ⟨z,e,q⟩ | ⟨a,o,kvs,e,hq,q⟩
 ·subst e
  cases r1
  obtain ⟨its,rv,p,hz⟩:=I1.list hq
  refine wpAny_pyIter_list p.isList ?_
  exact ⟨s1.heap.objs.size,[s1.heap.objs.size],_,_,H1,rfl,I1.kept (t':=s1.toks) fun b o e=>Heap.get?_push_of_some _ e,wq a _,⟨_,Heap.get?_push_size _ rfl,rfl,rfl⟩,fk,q hz⟩
 ·subst e
  cases r1
  obtain ⟨its,rv,p,hz⟩:=I1.tuple hq
  refine wpAny_pyIter_tuple (show s1.heap.IsTuple a its.toArray from p) ?_
  exact ⟨s1.heap.objs.size,[s1.heap.objs.size],_,_,H1,rfl,I1.kept (t':=s1.toks) fun b o e=>Heap.get?_push_of_some _ e,vX a _,⟨_,Heap.get?_push_size _ rfl,rfl,rfl⟩,fk,q hz⟩
 ·subst e
  obtain ⟨t,rfl⟩:=r1
  cases ha:z.cps.all (· < 128) with
  | false=>
   refine wpAny_pyIter_wide ha ?_
   exact ⟨s1.heap.objs.size,[s1.heap.objs.size],_,_,H1,rfl,I1.kept (t':=s1.toks) fun b o e=>Heap.get?_push_of_some _ e,pP z t "str_iterator" _ (.inr rfl),⟨_,Heap.get?_push_size _ rfl,rfl,rfl⟩,fk,q⟩
  | true=>
   refine wpAny_pyIter_ascii ha ?_
   exact ⟨s1.heap.objs.size,[s1.heap.objs.size],_,_,H1,rfl,I1.kept (t':=s1.toks) fun b o e=>Heap.get?_push_of_some _ e,pP z t "str_ascii_iterator" _ (.inl rfl),⟨_,Heap.get?_push_size _ rfl,rfl,rfl⟩,fk,q⟩
 ·subst e
  cases r1
  obtain ⟨z,y,vs,kv,dd⟩:=mh I1.hok hq
  refine wpAny_pyIter_dict y dd ?_
  exact ⟨s1.heap.objs.size,[s1.heap.objs.size],_,_,H1,rfl,I1.kept (t':=s1.toks) fun b o e=>Heap.get?_push_of_some _ e,wt a _ o kvs,⟨_,Heap.get?_push_size _ rfl,rfl,by rw [kv.length]; rfl⟩,fk,q z⟩
def ItOk (K:Frag) (O:Addr→Prop) (H1:Hp) (J:It) (ds:List PyData):Prop:=∀ O' H',Le O H1 O' H'→(∀ i,i < ds.length→J.go i H')∧J.stop ds.length H'∧∀ i v H'',J.yld i H' v H''→i < ds.length→H''=H'∧∃ d,ds[i]? = some d∧Rep K O' H' v d
inductive LiftIP (K:Frag) (f:FI) (σ:L2.St) (H:Hp) (R:It→Hp→Prop):Prop where
 | mk (O:Addr→Prop) (ts:List Addr) (ρ:Rho) (T:Tp) (ds:List PyData) (T':Tp) (hc:HC K O ts H T) (re:RelE K O ts H σ ρ) (e:f ρ T=some (ds,T')) (q:∀ J H1,SameX ts H H1→HC K O ts H1 T'→ItOk K O H1 J ds→ds.length≤sizeLine→R J H1):LiftIP K f σ H R
def k6 (K:Frag) (f:FI):TI:=fun σ H R=>LiftIP K f σ H R
structure DI (X:Cx) (tg e:Expr) (f:FI):Prop where
 pe:PI X tg e (k6 X.K f)
theorem nj {X:Cx} {tg e:Expr} {t t':TI} (h:PI X tg e t) (i:∀ σ H Q,t' σ H Q→t σ H Q):PI X tg e t':=fun pins s σ H Q I q=>h pins s σ H Q I (i σ H Q q)
def signs (z:Str):List PyData:=z.cps.toList.map fun c=>.str ⟨#[c]⟩
def ic:PyData→Option (List PyData)
 | .list xs=>some xs
 | .tuple xs=>some xs
 | .str z=>if z.length≤sizeLine then some (signs z) else none
 | .dict ds=>some (ds.map (·.1))
 | _=>none
def br (f:FE):FI:=fun ρ T=>bnd (f ρ T) fun w T1=>match w with
 | .d x=>match ic x with
  | some xs=>some (xs,T1)
  | none=>none
 | _=>none
theorem ItOk.lst {K:Frag} {O:Addr→Prop} {H1:Hp} {a:Addr} {vs:List V} {ds:List PyData} (h:LstAt K O H1 a vs) (r:Reps K O H1 vs ds):ItOk K O H1 (Itl K a) ds:=fun O' H' le=>by
 have sq:=(h.mono le).sq
 have hl:=r.length
 refine ⟨fun i hi=>⟨vs,vs[i]'(by omega),sq,by simp⟩,⟨vs,sq,by omega⟩,fun i v H'' y hi=>?_⟩
 obtain ⟨e,y⟩:=y
 obtain ⟨d,h1,h2⟩:=r.get (y vs sq)
 exact ⟨e,d,h1,h2.mono le⟩
theorem ItOk.tup {K:Frag} {O:Addr→Prop} {H1:Hp} {a:Addr} {vs:List V} {ds:List PyData} (h:TupAt K O H1 a vs) (r:Reps K O H1 vs ds):ItOk K O H1 (Itt K a) ds:=fun O' H' le=>by
 have sq:=(h.mono le).sq
 have hl:=r.length
 refine ⟨fun i hi=>⟨vs,vs[i]'(by omega),sq,by simp⟩,⟨vs,sq,by omega⟩,fun i v H'' y hi=>?_⟩
 obtain ⟨e,y⟩:=y
 obtain ⟨d,h1,h2⟩:=r.get (y vs sq)
 exact ⟨e,d,h1,h2.mono le⟩
theorem ItOk.str {K:Frag} {O:Addr→Prop} {H1:Hp} {z:Str}:ItOk K O H1 (Its z) (signs z):=fun O' H' le=>by
 have hl:(signs z).length=z.cps.size:=by simp [signs]
 refine ⟨fun i hi=>by rw [hl] at hi; exact hi,by rw [hl]; exact Nat.le_refl _,fun i v H'' y hi=>?_⟩
 obtain ⟨e,c,hc,y⟩:=y
 subst y
 refine ⟨e,.str ⟨#[c]⟩,?_,.str _⟩
 unfold signs
 rw [List.getElem?_map]
 have:z.cps.toList[i]? = some c:=by simpa using hc
 rw [this]
 rfl
theorem l6 {K:Frag} {O:Addr→Prop} {H:Hp}:∀ {kvs:List (Key×V)} {ds:List (PyData×PyData)},RepK K O H kvs ds→kvs.length=ds.length
 | _,_,.nil=>rfl
 | _,_,.cons _ t=>congrArg (· + 1) (l6 t)
theorem pX {K:Frag} {O:Addr→Prop} {H:Hp}:∀ {kvs:List (Key×V)} {ds:List (PyData×PyData)} {i:Nat} {k:Key} {v:V},RepK K O H kvs ds→kvs[i]? = some (k,v)→(ds.map (·.1))[i]? = some (jV k)
 | _,_,_,_,_,.nil,e=>by simp at e
 | _,_,0,_,_,.cons r _,e=>by simp at e; obtain ⟨rfl,rfl⟩:=e; rfl
 | _,_,i + 1,k,v,.cons _ t,e=>by
  have:=pX (i:=i) t (by simpa using e)
  simpa using this
theorem yW {K:Frag} {O:Addr→Prop} {H:Hp} (k:Key):Rep K O H (kV k) (jV k):=by
 cases k with
 | inl i=>exact .int i
 | inr x=>exact .str x
theorem ItOk.dct {K:Frag} {O:Addr→Prop} {H1:Hp} {a:Addr} {o:Obj} {kvs:List (Key×V)} {ds:List (PyData×PyData)} (n:¬ O a) (h:H1 a=some (.frz o (.dK kvs))) (r:RepK K O H1 kvs ds):ItOk K O H1 (Itd a o kvs) (ds.map (·.1)):=fun O' H' le=>by
 have h':=(le a _ n h).2
 have hl:=l6 r
 refine ⟨fun i hi=>⟨h',by simp at hi; omega⟩,⟨h',by simp [hl]⟩,fun i v H'' y hi=>?_⟩
 obtain ⟨e,k,v0,y1,y2⟩:=y
 subst y2
 exact ⟨e,_,pX r y1,yW k⟩
theorem cB {X:Cx} {tg e:Expr} {f:FE} (h:DE X e f):DI X tg e (br f):=by
 refine ⟨?_⟩
 refine nj (A0 h.pe) fun σ H R=>?_
 rintro ⟨O,ts,ρ,T,ds,T',hc,re,e,q⟩
 obtain ⟨w1,T1,e1,e⟩:=aM e
 refine ⟨O,ts,ρ,T,w1,T1,hc,re,e1,fun v1 H1 s1 hc1 r1=>?_⟩
 split at e
 ·rename_i x
  split at e
  ·rename_i xs h1
   cases e
   have rr:Rep X.K O H1 v1 x:=r1
   cases x with
   | list ys=>
    cases h1
    cases rr with
    | lst t r=>exact .inl ⟨_,_,rfl,t.sq,fun hz=>q _ H1 s1 hc1 (.lst t r) (by rw [← r.length]; exact hz)⟩
   | tuple ys=>
    cases h1
    cases rr with
    | tup t r=>exact .inr (.inl ⟨_,_,rfl,t.sq,fun hz=>q _ H1 s1 hc1 (.tup t r) (by rw [← r.length]; exact hz)⟩)
   | str z=>
    have h1':(if z.length≤sizeLine then some (signs z) else none)=some _:=h1
    split at h1'
    ·rename_i hz
     cases h1'
     cases rr
     exact .inr (.inr (.inl ⟨z,rfl,q _ H1 s1 hc1 .str (by rw [show (signs z).length=z.cps.size by simp [signs]]; exact hz)⟩))
    ·cases h1'
   | dict ys=>
    cases h1
    cases rr with
    | dct n t r=>exact .inr (.inr (.inr ⟨_,_,_,rfl,t,fun hz=>q _ H1 s1 hc1 (.dct n t r) (by rw [List.length_map,← l6 r]; exact hz)⟩))
   | _=>cases h1
  ·cases e
 ·cases e
def cb (lo:Int) (n:Nat):List PyData:=(List.range n).map fun (i:Nat)=>.int (lo + (i:Int))
theorem ItOk.rng {K:Frag} {O:Addr→Prop} {H1:Hp} {lo:Int} {n:Nat}:ItOk K O H1 (Itr lo n) (cb lo n):=fun O' H' le=>by
 have hl:(cb lo n).length=n:=by simp [cb]
 refine ⟨fun i hi=>by rw [hl] at hi; exact hi,by rw [hl]; exact Nat.le_refl _,fun i v H'' y hi=>?_⟩
 obtain ⟨e,y⟩:=y
 subst y
 rw [hl] at hi
 exact ⟨e,.int (lo + i),by simp [cb,hi],.int _⟩
def cD (j:Int):Bool:=decide (-1000000≤j∧j≤16777216)
theorem ni {j:Int} (h:cD j=true) : -(2 ^ 62)≤j∧j < 2 ^ 62∧j.toNat≤sizeLine:=by
 have h':=of_decide_eq_true h
 have e:sizeLine=16777216:=by decide
 omega
def cG (f:FE):FI:=fun ρ T=>bnd (f ρ T) fun w T1=>match w with
 | .d (.int j)=>if cD j=true then some (cb 0 j.toNat,T1) else none
 | _=>none
def gw (f g:FE):FI:=fun ρ T=>bnd (f ρ T) fun w T1=>bnd (g ρ T1) fun w' T2=>match w,w' with
 | .d (.int i),.d (.int j)=>if 0≤i∧cD i=true∧cD j=true then some (cb i (j - i).toNat,T2) else none
 | _,_=>none
theorem gj {X:Cx} {tg a:Expr} {f:FE} {p pos:Pos} (hg:Gl X "range") (hm:X.mg "range" = none) (ha:DE X a f) (hs:starEach [a] X.env=[(false,eval a X.env)]:=by exact iJ rfl):DI X tg (.Call (.Name "range" p) [a] [] pos) (cG f):=by
 refine ⟨?_⟩
 refine nj (wJ (ta:=iV (lift X.K f) lE) hg hm (cq ha.pe dO (by rw [hs]; rfl)) hs) fun σ H R=>?_
 rintro ⟨O,ts,ρ,T,ds,T',hc,re,e,q⟩
 obtain ⟨w1,T1,e1,e⟩:=aM e
 refine ⟨O,ts,ρ,T,w1,T1,hc,re,e1,fun v1 H1 s1 hc1 r1=>?_⟩
 split at e
 ·rename_i j
  split at e
  ·rename_i h1
   cases e
   cases (show Rep X.K O H1 v1 _ from r1)
   obtain ⟨b1,b2,b3⟩:=ni h1
   exact ⟨j,rfl,b1,b2,q _ H1 s1 hc1 .rng (by simpa [cb] using b3)⟩
  ·cases e
 ·cases e
theorem z9 {X:Cx} {tg a b:Expr} {f g:FE} {p pos:Pos} (hg:Gl X "range") (hm:X.mg "range" = none) (ha:DE X a f) (hb:DE X b g) (hs:starEach [a,b] X.env=[(false,eval a X.env),(false,eval b X.env)]:=by exact pT rfl rfl) (hs2:starEach [b] X.env=[(false,eval b X.env)]:=by exact iJ rfl) :
  DI X tg (.Call (.Name "range" p) [a,b] [] pos) (gw f g):=by
 refine ⟨?_⟩
 refine nj (wI (ta:=iV (lift X.K f) (iV (lift X.K g) lE)) hg hm (cq ha.pe (cq hb.pe dO (by rw [hs2]; rfl)) (by rw [hs,hs2])) hs hs2) fun σ H R=>?_
 rintro ⟨O,ts,ρ,T,ds,T',hc,re,e,q⟩
 obtain ⟨w1,T1,e1,e⟩:=aM e
 obtain ⟨w2,T2,e2,e⟩:=aM e
 refine ⟨O,ts,ρ,T,w1,T1,hc,re,e1,fun v1 H1 s1 hc1 r1=>?_⟩
 refine ⟨O,ts,ρ,T1,w2,T2,hc1,re.mono hc s1,e2,fun v2 H2 s2 hc2 r2=>?_⟩
 split at e
 ·split at e
  ·rename_i h1
   cases e
   cases (show Rep X.K O H1 v1 _ from r1)
   cases (show Rep X.K O H2 v2 _ from r2)
   obtain ⟨a1,a2,a3⟩:=ni h1.2.1
   obtain ⟨b1,b2,b3⟩:=ni h1.2.2
   exact ⟨_,_,rfl,⟨a1,a2,b1,b2⟩,q _ H2 (s1.trans s2) hc2 .rng (by have:=h1.1; simp [cb]; omega)⟩
  ·cases e
 ·cases e
def bh (c:FT) (e:FE) (ρ:Rho):List PyData→Tp→Option (List PyData×Tp)
 | [],T=>some ([],T)
 | d::r,T=>bnd (c (some (.d d)::ρ) T) fun b T1=>if b=true then bnd (e (some (.d d)::ρ) T1) fun w T2=>match w with
   | .d y=>bnd (bh c e ρ r T2) fun ys T3=>some (y::ys,T3)
   | _=>none
  else bh c e ρ r T1
def bf (it:FI) (c:FT) (e:FE):FE:=fun ρ T=>bnd (it ρ T) fun ds T1=>bnd (bh c e ρ ds T1) fun ys T2=>some (.d (.list ys),T2)
def a6:FT:=fun _ T=>some (true,T)
theorem RelE.cons {K:Frag} {O:Addr→Prop} {ts:List Addr} {H:Hp} {σ:L2.St} {ρ:Rho} {v:V} {d:PyData} (re:RelE K O ts H σ ρ) (r:Rep K O H v d):RelE K O ts H (some v::σ) (some (.d d)::ρ):=fun i w e=>by
 cases i with
 | zero=>cases e; exact ⟨v,rfl,r⟩
 | succ i=>
  obtain ⟨u,h1,h2⟩:=re i w (by simpa using e)
  exact ⟨u,by simpa using h1,h2⟩
theorem rG {K:Frag} {O:Addr→Prop} {ts:List Addr} {H1:Hp} {σ:L2.St} {ρ:Rho} {J:It} {c:FT} {e:FE} {ds ys:List PyData} {T1 T2:Tp} {Dn:List V→Hp→Prop} (hc:HC K O ts H1 T1) (re:RelE K O ts H1 σ ρ) (ok:ItOk K O H1 J ds) (hz:ds.length≤sizeLine)
  (ee:bh c e ρ ds T1=some (ys,T2)) (q:∀ vs H',SameX ts H1 H'→HC K O ts H' T2→Reps K O H' vs ys→Dn vs H') :
  ∃ W:Nat→Nat→List V→Hp→Prop,(∃ m,W 0 m [] H1)∧lu σ J (liftT K c) (lift K e) W Dn:=by
 refine ⟨fun i m vs H'=>m=ds.length - i∧i≤ds.length∧vs.length≤i∧∃ T dn rs,SameX ts H1 H'∧HC K O ts H' T∧Reps K O H' vs dn∧bh c e ρ (ds.drop i) T=some (rs,T2)∧ys=dn++rs,⟨_,rfl,Nat.zero_le _,Nat.le_refl _,T1,[],ys,.refl _ _,hc,.nil,ee,rfl⟩,?_⟩
 rintro i m vs H' ⟨rfl,hi,hv,T,dn,rs,s1,hc1,rv,ec,ey⟩
 obtain ⟨k1,k2,k3⟩:=ok O H' (hc.le s1)
 by_cases hlt:i < ds.length
 ·refine .inr ⟨k1 i hlt,by omega,fun vs' H2=>i + 1≤ds.length∧vs'.length≤i + 1∧∃ T dn rs,SameX ts H1 H2∧HC K O ts H2 T∧Reps K O H2 vs' dn∧bh c e ρ (ds.drop (i + 1)) T=some (rs,T2)∧ys=dn++rs,fun vs' H2 n=>⟨ds.length - (i + 1),by omega,rfl,n⟩,fun v H2 y=>?_⟩
  obtain ⟨e2,d,hd,rd⟩:=k3 i v H2 y hlt
  subst e2
  have hdr:ds.drop i=d::ds.drop (i + 1):=by
   rw [List.drop_eq_getElem_cons hlt]
   have:=(List.getElem?_eq_some_iff.mp hd).2
   rw [this]
  rw [hdr] at ec
  obtain ⟨b,T3,e3,ec⟩:=aM ec
  refine ⟨O,ts,some (.d d)::ρ,T,b,T3,hc1,(re.mono hc s1).cons rd,e3,fun H3 s3 hc3=>?_⟩
  cases b with
  | false=>
   rw [if_neg Bool.false_ne_true] at ec
   exact fY ⟨hlt,by omega,T3,dn,rs,s1.trans s3,hc3,rv.mono (hc1.le s3),ec,ey⟩
  | true=>
   rw [if_pos rfl] at ec
   obtain ⟨w,T4,e4,ec⟩:=aM ec
   refine fX ⟨O,ts,some (.d d)::ρ,T3,w,T4,hc3,((re.mono hc s1).cons rd).mono hc1 s3,e4,fun u H4 s4 hc4 r4=>?_⟩
   split at ec
   ·rename_i y
    obtain ⟨zs,T5,e5,ec⟩:=aM ec
    cases ec
    refine ⟨hlt,by simp; omega,T4,dn++[y],zs,s1.trans (s3.trans s4),hc4,(rv.mono (hc1.le (s3.trans s4))).append (.cons r4 .nil),e5,by rw [ey]; simp⟩
   ·cases ec
 ·have e:i=ds.length:=by omega
  subst e
  rw [List.drop_eq_nil_of_le (Nat.le_refl _)] at ec
  cases ec
  rw [List.append_nil] at ey
  subst ey
  exact .inl ⟨k2,by omega,q vs H' s1 hc1 rv⟩
structure DTs (X:Cx) (es:List Expr) (f:FT):Prop where
 pe:PTs X es (liftT X.K f)
theorem cN {X:Cx}:DTs X [] a6:=⟨fun pins s σ H Q E I h=>by
 refine y6 pins s σ H Q E I ?_
 obtain ⟨O,ts,ρ,T,w,T',hc,re,e,q⟩:=h
 cases e
 exact q H (.refl _ _) hc⟩
theorem km {X:Cx} {c:Expr} {f:FT} (hx:X.xe=fun _ _=>False) (h:DT X c f):DTs X [c] f:=⟨y4 hx h.pe⟩
theorem df {X:Cx} {x:Str} {scope osc:Scope} {N N':List Str} {elt iter:Expr} {ifs:List Expr} {px pos:Pos} {it:FI} {c:FT} {f:FE} (S:CS osc N x scope N') (hi:DI X (.Name x px) iter it)
  (he:∀ C s0 H0 ex,DE (cP X x scope C s0 H0 ex N') elt f) (ht:∀ C s0 H0 ex,DTs (cP X x scope C s0 H0 ex N') ifs c) (hc:X.calm=true:=by rfl) (hs:X.env.scope=osc:=by rfl) (hN:X.N=N:=by rfl)
  (hf:∀ v,foldedSetIterable iter X.env v=pure v:=by intro _; rfl):DE X (.ListComp elt [⟨.Name x px,iter,ifs,0⟩] scope pos) (bf it c f):=by
 refine ⟨?_⟩
 refine bD (xU (wi:=k6 X.K it) (tt:=liftT X.K c) (te:=lift X.K f) S hi.pe (fun C s0 H0 ex=>(he C s0 H0 ex).pe) (fun C s0 H0 ex=>(ht C s0 H0 ex).pe) hc hs hN hf) fun σ H Q=>?_
 rintro ⟨O,ts,ρ,T,w,T',hc,re,e,q⟩
 obtain ⟨ds,T1,e1,e⟩:=aM e
 obtain ⟨ys,T2,e2,e⟩:=aM e
 cases e
 refine ⟨O,ts,ρ,T,ds,T1,hc,re,e1,fun J H1 s1 hc1 ok hz=>?_⟩
 exact rG hc1 (re.mono hc s1) ok hz e2 fun vs H' s2 hc2 r2 p hp=>q _ _ (s1.trans (s2.trans (.new hp _))) (hc2.new hp _) (hc2.newL hp r2)
inductive Fl where
 | nx | rt (x:PyData) | ro (x:PyData) | bk | ct
abbrev FS:=Rho→Tp→Option ((Fl×Rho)×Tp)
structure RS (K:Frag) (O₀:Addr→Prop) (H₀:Hp) (F:List ((Addr→Prop)×Hp)) (ts:List Addr) (O:Addr→Prop) (H:Hp) (σ:L2.St) (ρ:Rho) (T:Tp):Prop where
 hc:HC K O ts H T
 re:RelE K O ts H σ ρ
 sub:∀ b,O₀ b→O b
 ots:∀ b∈ts,O₀ b
 same:SameX ts H₀ H
 fresh:∀ (i:Nat) (xs:PyData) (a:Addr),ρ[i]? = some (some (.loc xs))→σ[i]? = some (some (.ref a))→H₀ a=none∧¬ O₀ a
 dist:∀ (i j:Nat) (xs ys:PyData) (v:V),ρ[i]? = some (some (.loc xs))→ρ[j]? = some (some (.loc ys))→σ[i]? = some (some v)→σ[j]? = some (some v)→i=j
 frs:∀ f∈F,Le f.1 f.2 O H
 len:σ.length=ρ.length
def uw (K:Frag) (O A:Addr→Prop) (H:Hp) (v:V):PyData→Prop
 | .tuple [x,y]=>∃ p a b,v=.ref p∧a≠b∧(∀ c,A c↔c=a∨c=b)∧¬ O p∧H p=some (.tup [.ref a,.ref b])∧OwnAt K O H a x∧OwnAt K O H b y
 | x=>∃ a,v=.ref a∧(∀ c,A c↔c=a)∧OwnAt K O H a x
def Dh (K:Frag) (O₀:Addr→Prop) (H₀:Hp) (F:List ((Addr→Prop)×Hp)) (ts:List Addr) (D:Ends) (ρ':Rho) (T':Tp):Fl→Prop
 | .nx=>∀ O' σ' H',RS K O₀ H₀ F ts O' H' σ' ρ' T'→D.nx σ' H'
 | .bk=>∀ O' σ' H',RS K O₀ H₀ F ts O' H' σ' ρ' T'→D.bk σ' H'
 | .ct=>∀ O' σ' H',RS K O₀ H₀ F ts O' H' σ' ρ' T'→D.ct σ' H'
 | .rt x=>∀ v H',SameX ts H₀ H'→HC K O₀ ts H' T'→Rep K O₀ H' v x→D.rt v H'
 | .ro x=>∀ (A:Addr→Prop) v H',SameX ts H₀ H'→(∀ b,A b→H₀ b=none∧¬ O₀ b)→HC K (fun b=>O₀ b∨A b) ts H' T'→uw K (fun b=>O₀ b∨A b) A H' v x→D.rt v H'
inductive LiftSP (K:Frag) (f:FS) (D:Ends) (σ:L2.St) (H:Hp):Prop where
 | mk (O₀:Addr→Prop) (H₀:Hp) (F:List ((Addr→Prop)×Hp)) (ts:List Addr) (O:Addr→Prop) (ρ:Rho) (T:Tp) (fl:Fl) (ρ':Rho) (T':Tp) (rs:RS K O₀ H₀ F ts O H σ ρ T) (e:f ρ T=some ((fl,ρ'),T')) (q:Dh K O₀ H₀ F ts D ρ' T' fl):LiftSP K f D σ H
def tH (K:Frag) (f:FS):TS:=fun D σ H=>LiftSP K f D σ H
structure DS (X:Cx) (s:Stmt) (f:FS):Prop where
 pe:PS X s (tH X.K f)
structure DSs (X:Cx) (s:List Stmt) (f:FS):Prop where
 pe:PSs X s (tH X.K f)
theorem cU {X:Cx} {e:Stmt} {t t':TS} (h:PS X e t) (i:∀ D σ H,t' D σ H→t D σ H):PS X e t':=fun pins s σ H D I q=>h pins s σ H D I (i D σ H q)
theorem mI {X:Cx} {e:List Stmt} {t t':TS} (h:PSs X e t) (i:∀ D σ H,t' D σ H→t D σ H):PSs X e t':=fun pins s σ H D I q=>h pins s σ H D I (i D σ H q)
section
variable {K:Frag} {O₀:Addr→Prop} {H₀:Hp} {F:List ((Addr→Prop)×Hp)} {ts:List Addr} {O:Addr→Prop} {H H1:Hp} {σ:L2.St} {ρ:Rho} {T T1:Tp}
theorem RS.step (r:RS K O₀ H₀ F ts O H σ ρ T) (s:SameX ts H H1) (c:HC K O ts H1 T1):RS K O₀ H₀ F ts O H1 σ ρ T1 where
 hc:=c
 re:=r.re.mono r.hc s
 sub:=r.sub
 ots:=r.ots
 same:=r.same.trans s
 fresh:=r.fresh
 dist:=r.dist
 frs:=fun f hf=>(r.frs f hf).trans (r.hc.le s)
 len:=r.len
theorem gf {i j:Nat} {w:W} {xs:PyData} (hw:∀ ys,w≠.loc ys) (e:(ρ.set i (some w))[j]? = some (some (.loc xs))):j≠i∧ρ[j]? = some (some (.loc xs)):=by
 by_cases z:i=j
 ·subst z
  rw [List.getElem?_set_self'] at e
  cases h:ρ[i]? with
  | none=>rw [h] at e; cases e
  | some u=>
   rw [h] at e
   have e':some (some w)=some (some (W.loc xs)):=e
   cases e'
   exact absurd rfl (hw xs)
 ·rw [List.getElem?_set_ne z] at e
  exact ⟨fun q=>z q.symm,e⟩
theorem RS.set {i:Nat} {v:V} {w:W} (r:RS K O₀ H₀ F ts O H σ ρ T) (rw':RepW K O ts H v w) (hw:∀ ys,w≠.loc ys):RS K O₀ H₀ F ts O H (σ.set i (some v)) (ρ.set i (some w)) T where
 hc:=r.hc
 re:=fun j u e=>by
  by_cases z:i=j
  ·subst z
   have hl:i < ρ.length:=by
    have:=(List.getElem?_eq_some_iff.mp e).1
    simpa using this
   rw [List.getElem?_set_self hl] at e
   cases e
   exact ⟨v,by rw [List.getElem?_set_self (by rw [r.len]; exact hl)],rw'⟩
  ·rw [List.getElem?_set_ne z] at e
   obtain ⟨x,h1,h2⟩:=r.re j u e
   exact ⟨x,by rw [List.getElem?_set_ne z]; exact h1,h2⟩
 sub:=r.sub
 ots:=r.ots
 same:=r.same
 fresh:=fun j xs a e1 e2=>by
  obtain ⟨n,e⟩:=gf hw e1
  rw [List.getElem?_set_ne (Ne.symm n)] at e2
  exact r.fresh j xs a e e2
 dist:=fun j k xs ys u e1 e2 e3 e4=>by
  obtain ⟨n1,e1⟩:=gf hw e1
  obtain ⟨n2,e2⟩:=gf hw e2
  rw [List.getElem?_set_ne (Ne.symm n1)] at e3
  rw [List.getElem?_set_ne (Ne.symm n2)] at e4
  exact r.dist j k xs ys u e1 e2 e3 e4
 frs:=r.frs
 len:=by simp [r.len]
theorem RS.ownO {i:Nat} {p:Addr} {o:HO} {xs:PyData} (r:RS K O₀ H₀ F ts O H σ ρ T) (hp:H p=none) (hm:Mut (some o)) (rv:Le O H (fun b=>O b∨b=p) (upd H p o)→OwnAt K (fun b=>O b∨b=p) (upd H p o) p xs):RS K O₀ H₀ F ts (fun b=>O b∨b=p) (upd H p o) (σ.set i (some (.ref p))) (ρ.set i (some (.loc xs))) T:=by
 have le:Le O H (fun b=>O b∨b=p) (upd H p o):=fun a o n e=>by
  have z:a≠p:=c9 e hp
  exact ⟨fun q=>q.elim n z,by rw [aO z]; exact e⟩
 have h0:∀ {G:Hp},SameX ts G H→p∉ts→G p=none:=fun {G} s nt=>by
  cases e:G p with
  | none=>rfl
  | some o=>rw [s p o nt e] at hp; cases hp
 have nO:=r.hc.fresh hp
 have nt:p∉ts:=fun z=>nO (r.hc.own p z)
 have old:∀ {j:Nat} {v:V} {w:W},σ[j]? = some (some v)→RepW K O ts H v w→RepW K (fun b=>O b∨b=p) ts (upd H p o) v w:=fun {j v w} e q=>by
  cases w with
  | d x=>exact Rep.mono le q
  | tp k=>exact q
  | loc ys=>
   obtain ⟨a,e1,h1,h2,h3⟩:=q
   exact ⟨a,e1,.inl h1,h2,h3.mono (fun o' q=>by rw [aO (c9 q hp)]; exact q) le⟩
 have notp:∀ {j:Nat} {ys:PyData},ρ[j]? = some (some (.loc ys))→σ[j]? = some (some (.ref p))→False:=fun {j ys} e1 e2=>by
  obtain ⟨v,h1,a,ea,h2,h3,h4⟩:=r.re j _ e1
  rw [e2] at h1
  cases h1
  cases ea
  obtain ⟨o',h5⟩:=h4.some
  rw [hp] at h5
  cases h5
 refine ⟨⟨fun b hb=>.inl (r.hc.own b hb),fun b hb=>?_,r.hc.nd,r.hc.len,fun j a ys e1 e2=>?_⟩,fun j w e=>?_,fun b hb=>.inl (r.sub b hb),r.ots,r.same.trans (.new hp _),fun j ys a e1 e2=>?_,fun j k ys zs v e1 e2 e3 e4=>?_,fun f hf=>(r.frs f hf).trans le,by simp [r.len]⟩
 ·by_cases z:b=p
  ·subst z; rw [bG]; exact hm
  ·rw [aO z]
   exact r.hc.trk b (hb.resolve_right z)
 ·exact (r.hc.tape j a ys e1 e2).mono (fun o' h1=>by rw [aO (c9 h1 hp)]; exact h1) le
 ·by_cases z:i=j
  ·subst z
   have hl:i < ρ.length:=by
    have:=(List.getElem?_eq_some_iff.mp e).1
    simpa using this
   rw [List.getElem?_set_self hl] at e
   cases e
   exact ⟨.ref p,by rw [List.getElem?_set_self (by rw [r.len]; exact hl)],p,rfl,.inr rfl,nt,rv le⟩
  ·rw [List.getElem?_set_ne z] at e
   obtain ⟨x,h1,h2⟩:=r.re j w e
   exact ⟨x,by rw [List.getElem?_set_ne z]; exact h1,old h1 h2⟩
 ·by_cases z:i=j
  ·subst z
   have hl:i < ρ.length:=by
    have:=(List.getElem?_eq_some_iff.mp e1).1
    simpa using this
   rw [List.getElem?_set_self (by rw [r.len]; exact hl)] at e2
   cases e2
   exact ⟨h0 r.same nt,fun q=>nO (r.sub _ q)⟩
  ·rw [List.getElem?_set_ne z] at e1 e2
   exact r.fresh j ys a e1 e2
 ·by_cases z:i=j
  ·by_cases z':i=k
   ·rw [← z,← z']
   ·exfalso
    subst z
    have hl:i < ρ.length:=by
     have:=(List.getElem?_eq_some_iff.mp e1).1
     simpa using this
    rw [List.getElem?_set_self (by rw [r.len]; exact hl)] at e3
    cases e3
    rw [List.getElem?_set_ne z'] at e2 e4
    exact notp e2 e4
  ·by_cases z':i=k
   ·exfalso
    subst z'
    have hl:i < ρ.length:=by
     have:=(List.getElem?_eq_some_iff.mp e2).1
     simpa using this
    rw [List.getElem?_set_self (by rw [r.len]; exact hl)] at e4
    cases e4
    rw [List.getElem?_set_ne z] at e1 e3
    exact notp e1 e3
   ·rw [List.getElem?_set_ne z] at e1 e3
    rw [List.getElem?_set_ne z'] at e2 e4
    exact r.dist j k ys zs v e1 e2 e3 e4
theorem RS.own {i:Nat} {p:Addr} {vs:List V} {xs:List PyData} (r:RS K O₀ H₀ F ts O H σ ρ T) (hp:H p=none) (rv:Reps K O H vs xs):RS K O₀ H₀ F ts (fun b=>O b∨b=p) (upd H p (.lst vs)) (σ.set i (some (.ref p))) (ρ.set i (some (.loc (.list xs)))) T:=r.ownO hp (.inl ⟨_,rfl⟩) fun le=>⟨vs,bG,rv.mono le⟩
theorem RS.putO {i:Nat} {a:Addr} {o:HO} {xs ys:PyData} (r:RS K O₀ H₀ F ts O H σ ρ T) (e1:ρ[i]? = some (some (.loc xs))) (e2:σ[i]? = some (some (.ref a))) (hm:Mut (some o)) (rv:Le O H O (upd H a o)→OwnAt K O (upd H a o) a ys):RS K O₀ H₀ F ts O (upd H a o) σ (ρ.set i (some (.loc ys))) T:=by
 obtain ⟨v,z1,a',ea,oa,nt,ha⟩:=r.re i _ e1
 rw [e2] at z1
 cases z1
 cases ea
 have hl:i < ρ.length:=(List.getElem?_eq_some_iff.mp e1).1
 obtain ⟨f1,f2⟩:=r.fresh i xs a e1 e2
 have le:Le O H O (upd H a o):=fun b o n e=>⟨n,by rw [aO (show b≠a from fun z=>n (by rw [z]; exact oa))]; exact e⟩
 have back:∀ {j:Nat} {zs:PyData},(ρ.set i (some (W.loc ys)))[j]? = some (some (.loc zs))→∃ ws,ρ[j]? = some (some (.loc ws)):=fun {j zs} e=>by
  by_cases z:i=j
  ·subst z; exact ⟨xs,e1⟩
  ·rw [List.getElem?_set_ne z] at e; exact ⟨zs,e⟩
 refine ⟨⟨r.hc.own,fun b hb=>?_,r.hc.nd,r.hc.len,fun j b zs q1 q2=>?_⟩,fun j w e=>?_,r.sub,r.ots,fun b o n e=>?_,fun j zs b q1 q2=>?_,fun j k zs zs' v q1 q2 q3 q4=>?_,fun f hf=>(r.frs f hf).trans le,by simp [r.len]⟩
 ·by_cases z:b=a
  ·subst z; rw [bG]; exact hm
  ·rw [aO z]; exact r.hc.trk b hb
 ·exact (r.hc.tape j b zs q1 q2).mono (fun o' h1=>by rw [aO (show b≠a from fun z=>nt (by rw [← z]; exact List.mem_of_getElem? q1))]; exact h1) le
 ·by_cases z:i=j
  ·subst z
   rw [List.getElem?_set_self hl] at e
   cases e
   exact ⟨.ref a,e2,a,rfl,oa,nt,rv le⟩
  ·rw [List.getElem?_set_ne z] at e
   obtain ⟨x,h1,h2⟩:=r.re j w e
   refine ⟨x,h1,?_⟩
   cases w with
   | d x=>exact Rep.mono le h2
   | tp k=>exact h2
   | loc zs=>
    obtain ⟨b,eb,k1,k2,k3⟩:=h2
    have n:b≠a:=fun q=>z (r.dist i j xs zs (.ref a) e1 e e2 (by rw [h1,eb,q]))
    exact ⟨b,eb,k1,k2,k3.mono (fun o' q=>by rw [aO n]; exact q) le⟩
 ·have:=r.same b o n e
  rw [aO (show b≠a from fun z=>by rw [z,f1] at e; cases e)]
  exact this
 ·obtain ⟨ws,q⟩:=back q1
  exact r.fresh j ws b q q2
 ·obtain ⟨ws,q⟩:=back q1
  obtain ⟨ws',q'⟩:=back q2
  exact r.dist j k ws ws' v q q' q3 q4
theorem RS.put {i:Nat} {a:Addr} {vs us:List V} {xs ys:List PyData} (r:RS K O₀ H₀ F ts O H σ ρ T) (e1:ρ[i]? = some (some (.loc (.list xs)))) (e2:σ[i]? = some (some (.ref a))) (rv:Reps K O H vs ys):RS K O₀ H₀ F ts O (upd H a (.lst vs)) σ (ρ.set i (some (.loc (.list ys)))) T:=r.putO e1 e2 (.inl ⟨_,rfl⟩) fun le=>⟨vs,bG,rv.mono le⟩
def jf:W→W
 | .loc x=>.d x
 | w=>w
def cg (ρ:Rho):Rho:=ρ.map (Option.map jf)
theorem RS.frzH (r:RS K O₀ H₀ F ts O H σ ρ T):HC K O₀ ts H T:=by
 have le:Le O H O₀ H:=fun a o n e=>⟨fun z=>n (r.sub a z),e⟩
 exact ⟨r.ots,fun b hb=>r.hc.trk b (r.sub b hb),r.hc.nd,r.hc.len,fun i a xs e1 e2=>(r.hc.tape i a xs e1 e2).mono (fun _ h=>h) le⟩
def ux (ρ:Rho):Prop:=∀ (i:Nat) (ds:List (PyData×PyData)),ρ[i]?≠some (some (.loc (.dict ds)))
theorem RS.frz (r:RS K O₀ H₀ F ts O H σ ρ T) (nd:ux ρ):HC K O₀ ts H T∧RelE K O₀ ts H σ (cg ρ):=by
 have le:Le O H O₀ H:=fun a o n e=>⟨fun z=>n (r.sub a z),e⟩
 refine ⟨r.frzH,fun i w e=>?_⟩
 unfold cg at e
 rw [List.getElem?_map] at e
 cases hu:ρ[i]? with
 | none=>rw [hu] at e; cases e
 | some u=>
  cases u with
  | none=>rw [hu] at e; cases e
  | some u=>
   rw [hu] at e
   cases e
   obtain ⟨v,h1,h2⟩:=r.re i u hu
   refine ⟨v,h1,?_⟩
   cases u with
   | d x=>exact Rep.mono le h2
   | tp k=>exact h2
   | loc xs=>
    obtain ⟨a,rfl,k1,k2,k3⟩:=h2
    cases xs with
    | list xs=>obtain ⟨vs,k3,k4⟩:=k3; exact .lst (.inl ⟨(r.fresh i _ a hu h1).2,.inl k3⟩) (k4.mono le)
    | dict xs=>exact absurd hu (nd i xs)
    | _=>cases k3
theorem RS.frzD {i:Nat} {ds:List (PyData×PyData)} (r:RS K O₀ H₀ F ts O H σ ρ T) (h1:ρ[i]? = some (some (.loc (.dict ds)))):∃ a kvs,H a=some (.dK kvs)∧∀ o,RS K O₀ H₀ F ts (fun b=>O b∧b≠a) (upd H a (.frz o (.dK kvs))) σ (ρ.set i (some (.d (.dict ds)))) T:=by
 obtain ⟨v,k1,a,rfl,k2,k3,kvs,k4,k5⟩:=r.re i _ h1
 refine ⟨a,kvs,k4,fun o=>?_⟩
 have hl:i < ρ.length:=(List.getElem?_eq_some_iff.mp h1).1
 have U:∀ {b:Addr},b≠a→upd H a (.frz o (.dK kvs)) b=H b:=fun n=>aO n
 have le:Le O H (fun b=>O b∧b≠a) (upd H a (.frz o (.dK kvs))):=fun b u n e=>⟨fun z=>n z.1,by rw [U (show b≠a from fun z=>n (by rw [z]; exact k2))]; exact e⟩
 have fr:=r.fresh i _ a h1 k1
 have hw:∀ ys,W.d (.dict ds)≠.loc ys:=fun _ z=>nomatch z
 refine ⟨⟨fun b hb=>⟨r.hc.own b hb,fun z=>k3 (z ▸ hb)⟩,fun b hb=>by rw [U hb.2]; exact r.hc.trk b hb.1,r.hc.nd,r.hc.len,fun j b ys e1 e2=>?_⟩,fun j w e=>?_,fun b hb=>⟨r.sub b hb,fun z=>fr.2 (z ▸ hb)⟩,r.ots,fun b u n e=>?_,fun j ys b e1 e2=>?_,fun j k ys zs v e1 e2 e3 e4=>?_,fun f hf=>(r.frs f hf).trans le,by simp [r.len]⟩
 ·exact (r.hc.tape j b ys e1 e2).mono (fun _ h=>by rw [U (show b≠a from fun z=>k3 (by rw [← z]; exact List.mem_of_getElem? e1))]; exact h) le
 ·by_cases z:i=j
  ·subst z
   rw [List.getElem?_set_self hl] at e
   cases e
   exact ⟨.ref a,k1,.dct (fun z=>z.2 rfl) bG (k5.mono le)⟩
  ·rw [List.getElem?_set_ne z] at e
   obtain ⟨x,q1,q2⟩:=r.re j w e
   refine ⟨x,q1,?_⟩
   cases w with
   | d y=>exact Rep.mono le q2
   | tp k=>exact q2
   | loc ys=>
    obtain ⟨b,eb,m1,m2,m3⟩:=q2
    have nb:b≠a:=fun q=>z (r.dist i j _ ys (.ref a) h1 e k1 (by rw [q1,eb,q]))
    exact ⟨b,eb,⟨m1,nb⟩,m2,m3.mono (fun _ q=>by rw [U nb]; exact q) le⟩
 ·rw [U (show b≠a from fun z=>by rw [z,fr.1] at e; cases e)]
  exact r.same b u n e
 ·obtain ⟨n,e⟩:=gf hw e1
  exact r.fresh j ys b e e2
 ·obtain ⟨n1,e1⟩:=gf hw e1
  obtain ⟨n2,e2⟩:=gf hw e2
  exact r.dist j k ys zs v e1 e2 e3 e4
theorem yh {i:Nat} {x:PyData} (h:ρ[i]? = some (some (.loc x))):cg (ρ.set i (some (.d x)))=cg ρ:=by
 apply List.ext_getElem?
 intro j
 unfold cg
 rw [List.getElem?_map,List.getElem?_map]
 by_cases z:i=j
 ·subst z
  rw [List.getElem?_set_self (List.getElem?_eq_some_iff.mp h).1,h]
  rfl
 ·rw [List.getElem?_set_ne z]
theorem RS.frzN (R:Rho):∀ (k:Nat) {O:Addr→Prop} {H:Hp} {ρ:Rho},RS K O₀ H₀ F ts O H σ ρ T→(∀ j ds,k≤j→ρ[j]?≠some (some (.loc (.dict ds))))→cg ρ=R →
  Gh (fun H'=>∃ O' ρ',RS K O₀ H₀ F ts O' H' σ ρ' T∧ux ρ'∧cg ρ'=R) H
 | 0,O,H,ρ,r,n,e=>.done ⟨O,ρ,r,fun j ds=>n j ds (Nat.zero_le _),e⟩
 | k + 1,O,H,ρ,r,n,e=>by
  by_cases h:∃ ds,ρ[k]? = some (some (.loc (.dict ds)))
  ·obtain ⟨ds,h⟩:=h
   obtain ⟨a,kvs,e1,f⟩:=r.frzD h
   refine .frz e1 fun o=>RS.frzN R k (f o) (fun j es hj=>?_) (by rw [yh h]; exact e)
   by_cases z:k=j
   ·subst z
    rw [List.getElem?_set_self (List.getElem?_eq_some_iff.mp h).1]
    intro q
    cases q
   ·rw [List.getElem?_set_ne z]
    exact n j es (by omega)
  ·refine RS.frzN R k r (fun j ds hj=>?_) e
   by_cases z:k=j
   ·subst z
    exact fun q=>h ⟨ds,q⟩
   ·exact n j ds (by omega)
theorem RS.frzG (r:RS K O₀ H₀ F ts O H σ ρ T):Gh (fun H'=>SameX ts H₀ H'∧HC K O₀ ts H' T∧RelE K O₀ ts H' σ (cg ρ)) H:=(RS.frzN (cg ρ) ρ.length r (fun j ds hj=>by rw [List.getElem?_eq_none hj]; exact fun z=>nomatch z) rfl).imp fun H' ⟨O',ρ',r',n,e⟩=>⟨r'.same,by rw [← e]; exact r'.frz n⟩
end
def aC:FS:=fun ρ T=>some ((.nx,ρ),T)
def ak (f g:FS):FS:=fun ρ T=>bnd (f ρ T) fun p T1=>match p with
 | (.nx,ρ1)=>g ρ1 T1
 | (fl,ρ1)=>some ((fl,ρ1),T1)
def aE (i:Nat) (f:FE):FS:=fun ρ T=>bnd (f ρ T) fun w T1=>match w with
 | .d x=>some ((.nx,ρ.set i (some (.d x))),T1)
 | .tp k=>some ((.nx,ρ.set i (some (.tp k))),T1)
 | .loc _=>none
def cF (i:Nat) (g:FA):FS:=fun ρ T=>bnd (g ρ T) fun ws T1=>match fm ws with
 | some xs=>if xs.length≤1000 then some ((.nx,ρ.set i (some (.loc (.list xs)))),T1) else none
 | none=>none
def cj (i:Nat) (f:FE):FS:=fun ρ T=>bnd (f ρ T) fun w T1=>match w with
 | .d x=>(match ρ[i]? with
  | some (some (.loc (.list xs)))=>if xs.length < sizeLine then some ((.nx,ρ.set i (some (.loc (.list (xs++[x]))))),T1) else none
  | _=>none)
 | _=>none
def fIf (c:FT) (f g:FS):FS:=fun ρ T=>bnd (c ρ T) fun b T1=>if b=true then f ρ T1 else g ρ T1
def av (f:FE):FS:=fun ρ T=>bnd (f (cg ρ) T) fun w T1=>match w with
 | .d x=>some ((.rt x,ρ),T1)
 | _=>none
def forL (i:Nat) (body:FS):List PyData→FS
 | []=>aC
 | d::r=>fun ρ T=>bnd (body (ρ.set i (some (.d d))) T) fun p T1=>match p with
  | (.nx,ρ1)=>forL i body r ρ1 T1
  | (.ct,ρ1)=>forL i body r ρ1 T1
  | (.bk,ρ1)=>some ((.nx,ρ1),T1)
  | (.rt x,ρ1)=>some ((.rt x,ρ1),T1)
  | (.ro x,ρ1)=>some ((.ro x,ρ1),T1)
def cI (i:Nat) (it:FI) (body:FS):FS:=fun ρ T=>bnd (it ρ T) fun ds T1=>forL i body ds ρ T1
def bc (c:FT) (body:FS):Nat→FS
 | 0=>fun _ _=>none
 | n + 1=>fun ρ T=>bnd (c ρ T) fun b T1=>if b=true then bnd (body ρ T1) fun p T2=>match p with
   | (.nx,ρ1)=>bc c body n ρ1 T2
   | (.ct,ρ1)=>bc c body n ρ1 T2
   | (.bk,ρ1)=>some ((.nx,ρ1),T2)
   | (.rt x,ρ1)=>some ((.rt x,ρ1),T2)
   | (.ro x,ρ1)=>some ((.ro x,ρ1),T2)
  else some ((.nx,ρ),T1)
section
variable {X:Cx} {pos:Pos} {st:Stmt} {rest:List Stmt} {f g:FS} {e:Expr} {fe:FE} {c:FT}
theorem aV:DSs X [] aC:=by
 refine ⟨?_⟩
 refine mI ze fun D σ H=>?_
 rintro ⟨O₀,H₀,F,ts,O,ρ,T,fl,ρ',T',rs,e,q⟩
 cases e
 exact q O σ H rs
theorem ay (h1:DS X st f) (h2:DSs X rest g):DSs X (st::rest) (ak f g):=by
 refine ⟨?_⟩
 refine mI (xH h1.pe h2.pe) fun D σ H=>?_
 rintro ⟨O₀,H₀,F,ts,O,ρ,T,fl,ρ',T',rs,e,q⟩
 obtain ⟨⟨fl1,ρ1⟩,T1,e1,e⟩:=aM e
 refine ⟨O₀,H₀,F,ts,O,ρ,T,fl1,ρ1,T1,rs,e1,?_⟩
 cases fl1 with
 | nx=>exact fun O' σ' H' rs'=>⟨O₀,H₀,F,ts,O',ρ1,T1,fl,ρ',T',rs',e,q⟩
 | rt x=>cases e; exact q
 | ro x=>cases e; exact q
 | bk=>cases e; exact q
 | ct=>cases e; exact q
theorem aA (h1:DS X st f):DSs X [st] f:=⟨y9 h1.pe⟩
theorem aT {i:Nat} {x:Str} {pos':Pos} (hN:X.N.Nodup) (he:DE X e fe) (hi:X.N[i]? = some x:=by rfl) (hx:Loc X.env.scope x:=by first | exact Or.inl rfl | exact Or.inr rfl) (hs:swapsWith e (some (.Name x pos')) pos.line X.env=pure false:=by rfl)
  (hf:X.fn x=true∨X.env.scope.names.lookup x=some .local:=by first | exact .inl rfl | exact .inr rfl | assumption):DS X (.Assign [.Name x pos'] e pos) (aE i fe):=by
 refine ⟨?_⟩
 refine cU (kD hN hi hx he.pe hs hf) fun D σ H=>?_
 rintro ⟨O₀,H₀,F,ts,O,ρ,T,fl,ρ',T',rs,e,q⟩
 obtain ⟨w,T1,e1,e⟩:=aM e
 refine ⟨O,ts,ρ,T,w,T1,rs.hc,rs.re,e1,fun v H1 s1 hc1 r1=>?_⟩
 cases w with
 | d x=>cases e; exact q O _ _ ((rs.step s1 hc1).set r1 fun _ z=>nomatch z)
 | tp k=>cases e; exact q O _ _ ((rs.step s1 hc1).set r1 fun _ z=>nomatch z)
 | loc xs=>cases e
theorem jq {i:Nat} {x y:Str} {scope osc:Scope} {N N':List Str} {elt iter:Expr} {ifs:List Expr} {px py spos:Pos} {it:FI} {c:FT} {f:FE} (S:CS osc N x scope N') (hN:X.N.Nodup) (hi:DI X (.Name x px) iter it)
  (he:∀ C s0 H0 ex,DE (cP X x scope C s0 H0 ex N') elt f) (ht:∀ C s0 H0 ex,DTs (cP X x scope C s0 H0 ex N') ifs c) (hi':X.N[i]? = some y:=by rfl) (hy:Loc X.env.scope y:=by first | exact Or.inl rfl | exact Or.inr rfl)
  (hf':X.fn y=true∨X.env.scope.names.lookup y=some .local:=by first | exact .inl rfl | exact .inr rfl | assumption) (hc:X.calm=true:=by rfl) (hs:X.env.scope=osc:=by rfl) (hN':X.N=N:=by rfl)
  (hsw:swapsWith (.ListComp elt [⟨.Name x px,iter,ifs,0⟩] scope pos) (some (.Name y py)) spos.line X.env=pure true:=by rfl) (hf:∀ v,foldedSetIterable iter X.env v=pure v:=by intro _; rfl) :
  DS X (.Assign [.Name y py] (.ListComp elt [⟨.Name x px,iter,ifs,0⟩] scope pos) spos) (aE i (bf it c f)):=by
 refine ⟨?_⟩
 subst hs hN'
 refine cU (zf (wi:=k6 X.K it) (tt:=liftT X.K c) (te:=lift X.K f) hc S hN hi' hy hf' hi.pe (fun C s0 H0 ex=>(he C s0 H0 ex).pe) (fun C s0 H0 ex=>(ht C s0 H0 ex).pe) hsw hf) fun D σ H=>?_
 rintro ⟨O₀,H₀,F,ts,O,ρ,T,fl,ρ',T',rs,e,q⟩
 obtain ⟨w,T1,e1,e⟩:=aM e
 obtain ⟨ds,T2,e2,e1⟩:=aM e1
 obtain ⟨ys,T3,e3,e1⟩:=aM e1
 cases e1
 cases e
 refine ⟨O,ts,ρ,T,ds,T2,rs.hc,rs.re,e2,fun J H1 s1 hc1 ok hz=>?_⟩
 exact rG hc1 (rs.re.mono rs.hc s1) ok hz e3 fun vs H' s2 hc2 r2 p hp=>q O _ _ ((rs.step (s1.trans (s2.trans (.new hp _))) (hc2.new hp _)).set (hc2.newL hp r2) fun _ z=>nomatch z)
theorem fF {i:Nat} {x:Str} {pos':Pos} {es:List Expr} {lpos:Pos} {g:FA} (hN:X.N.Nodup) (he:DA X es g) (hi:X.N[i]? = some x:=by rfl) (hx:Loc X.env.scope x:=by first | exact Or.inl rfl | exact Or.inr rfl)
  (hs:swapsWith (.List es lpos) (some (.Name x pos')) pos.line X.env=pure false:=by rfl) (hf:X.fn x=true∨X.env.scope.names.lookup x=some .local:=by first | exact .inl rfl | exact .inr rfl | assumption):DS X (.Assign [.Name x pos'] (.List es lpos) pos) (cF i g):=by
 refine ⟨?_⟩
 refine cU (kD hN hi hx (so he.pe) hs hf) fun D σ H=>?_
 rintro ⟨O₀,H₀,F,ts,O,ρ,T,fl,ρ',T',rs,e,q⟩
 obtain ⟨ws,T1,e1,e⟩:=aM e
 refine ⟨O,ts,ρ,T,ws,T1,rs.hc,rs.re,e1,fun vs H1 s1 hc1 r1=>?_⟩
 split at e
 ·rename_i xs h1
  split at e
  ·rename_i h2
   cases e
   have rv:=ke r1 h1
   exact ⟨mO (by rw [rv.length]; exact h2),fun p hp=>q _ _ _ ((rs.step s1 hc1).own hp rv)⟩
  ·cases e
 ·cases e
theorem aP {ce:Expr} {a b:List Stmt} (hc:DT X ce c) (ha:DSs X a f) (hb:DSs X b g):DS X (.If ce a b pos) (fIf c f g):=by
 refine ⟨?_⟩
 refine cU (Cu hc.pe ha.pe hb.pe) fun D σ H=>?_
 rintro ⟨O₀,H₀,F,ts,O,ρ,T,fl,ρ',T',rs,e,q⟩
 obtain ⟨b1,T1,e1,e⟩:=aM e
 refine ⟨O,ts,ρ,T,b1,T1,rs.hc,rs.re,e1,fun H1 s1 hc1=>?_⟩
 cases b1 with
 | true=>exact fX ⟨O₀,H₀,F,ts,O,ρ,T1,fl,ρ',T',rs.step s1 hc1,by simpa using e,q⟩
 | false=>exact fY ⟨O₀,H₀,F,ts,O,ρ,T1,fl,ρ',T',rs.step s1 hc1,by simpa using e,q⟩
theorem aH (he:DE X e fe):DS X (.Return (some e) pos) (av fe):=by
 refine ⟨?_⟩
 refine cU (Cv (si he.pe)) fun D σ H=>?_
 rintro ⟨O₀,H₀,F,ts,O,ρ,T,fl,ρ',T',rs,e,q⟩
 obtain ⟨w,T1,e1,e⟩:=aM e
 refine rs.frzG.imp fun H0 ⟨same,c0,re0⟩=>?_
 refine ⟨O₀,ts,cg ρ,T,w,T1,c0,re0,e1,fun v H1 s1 hc1 r1=>?_⟩
 cases w with
 | d x=>cases e; exact q v H1 (same.trans s1) hc1 r1
 | tp k=>cases e
 | loc xs=>cases e
theorem fh {i:Nat} {x:Str} {p apos:Pos} (he:DE X e fe) (hN:X.N[i]? = some x:=by rfl) (hv:Vis X.env.scope x:=by first | exact Or.inl rfl | exact Or.inr (Or.inl rfl) | exact Or.inr (Or.inr rfl)) (hd:(x == ("__debug__" : Str))=false:=by decide)
  (hcd:(x == ("__classdict__" : Str))=false:=by decide) {cpos:Pos}
  (hbase:attributeBase (.Name x p) "append" X.env (eval (.Name x p) X.env)=eval (.Name x p) X.env:=by rfl)
  (hfew:((backTo cpos (starEach [e] X.env)).all (fun x=>!x.1) && (backToKw cpos (keywordEach [] X.env)).all (fun x=>x.1.isSome)
   && decide (([e]:List Expr).length + ([]:List Keyword).length + (if ([]:List Keyword).isEmpty then 0 else 1) < 30))=true:=by exact lK rfl)
  (hline:(apos.endLine == cpos.line)=true:=by rfl) (hse:starEach [e] X.env=(false,eval e X.env)::starEach [] X.env:=by exact bQ rfl) (hplain:(backTo cpos (starEach [] X.env)).any (·.1)=false:=by exact dM rfl)
  (hs:swapsWith (.Call (.Attribute (.Name x p) "append" apos) [e] [] cpos) none pos.line X.env=pure false:=by rfl) :
  DS X (.Expr (.Call (.Attribute (.Name x p) "append" apos) [e] [] cpos) pos) (cj i fe):=by
 refine ⟨?_⟩
 refine cU (mJ (jG PySem.F.plainAttrs_list PySem.F.slot_list_append PySem.F.type_list_append wY (pv i hN hv hd hcd) (cq he.pe dO hse) hbase hfew hline hse hplain) hs) fun D σ H=>?_
 rintro ⟨O₀,H₀,F,ts,O,ρ,T,fl,ρ',T',rs,e,q⟩
 obtain ⟨w,T1,e1,e⟩:=aM e
 split at e
 ·rename_i x0
  split at e
  ·rename_i xs h1
   split at e
   ·rename_i h2
    cases e
    obtain ⟨v,k1,a,rfl,k2,k3,vs,k4,k5⟩:=rs.re i _ h1
    refine ⟨_,k1,.inl ⟨rfl,vs,SqL.of k4⟩,O,ts,ρ,T,_,_,rs.hc,rs.re,e1,fun u H1 s1 hc1 r1=>?_⟩
    have rs1:=rs.step s1 hc1
    exact ⟨a,vs,u,rfl,rfl,s1 _ _ k3 k4,by rw [k5.length]; exact h2,q O _ _ (rs1.put (us:=[]) h1 k1 ((k5.mono (rs.hc.le s1)).append (.cons r1 .nil)))⟩
   ·cases e
  ·cases e
 ·cases e
end
section
variable {K:Frag} {O₀:Addr→Prop} {H₀:Hp} {F:List ((Addr→Prop)×Hp)} {ts:List Addr} {O:Addr→Prop} {H H1:Hp} {σ:L2.St} {ρ:Rho} {T T1:Tp}
theorem RS.less {f:(Addr→Prop)×Hp} (r:RS K O₀ H₀ (f::F) ts O H σ ρ T):RS K O₀ H₀ F ts O H σ ρ T:=⟨r.hc,r.re,r.sub,r.ots,r.same,r.fresh,r.dist,fun f hf=>r.frs f (List.mem_cons_of_mem _ hf),r.len⟩
theorem RS.more (r:RS K O₀ H₀ F ts O H σ ρ T):RS K O₀ H₀ ((O,H)::F) ts O H σ ρ T:=⟨r.hc,r.re,r.sub,r.ots,r.same,r.fresh,r.dist,fun f hf=>by
 rcases List.mem_cons.mp hf with z | z
 ·subst z; exact fun a o n e=>⟨n,e⟩
 ·exact r.frs f z,r.len⟩
def frzAt (i:Nat) (ρ:Rho):Rho:=match ρ[i]? with
 | some (some (.loc x))=>ρ.set i (some (.d x))
 | _=>ρ
theorem RS.frzAt (i:Nat) (r:RS K O₀ H₀ F ts O H σ ρ T):Gh (fun H'=>∃ O',RS K O₀ H₀ F ts O' H' σ (frzAt i ρ) T) H:=by
 unfold D.frzAt
 split
 ·rename_i xs h1
  by_cases hd:∃ ds,xs=.dict ds
  ·obtain ⟨ds,rfl⟩:=hd
   obtain ⟨a,kvs,e1,f⟩:=r.frzD h1
   exact .frz e1 fun o=>.done ⟨_,f o⟩
  refine .done ?_
  obtain ⟨v,k1,a,rfl,k2,k3,k4⟩:=r.re i _ h1
  have hl:i < ρ.length:=(List.getElem?_eq_some_iff.mp h1).1
  have le:Le O H (fun b=>O b∧b≠a) H:=fun b o n e=>⟨fun z=>n z.1,e⟩
  have fr:=r.fresh i xs a h1 k1
  have hw:∀ ys,W.d xs≠.loc ys:=fun _ z=>nomatch z
  refine ⟨fun b=>O b∧b≠a,⟨fun b hb=>⟨r.hc.own b hb,fun z=>k3 (z ▸ hb)⟩,fun b hb=>r.hc.trk b hb.1,r.hc.nd,r.hc.len,fun j b ys e1 e2=>?_⟩,fun j w e=>?_,fun b hb=>⟨r.sub b hb,fun z=>fr.2 (z ▸ hb)⟩,r.ots,r.same,fun j ys b e1 e2=>?_,fun j k ys zs v e1 e2 e3 e4=>?_,fun f hf=>(r.frs f hf).trans le,by simp [r.len]⟩
  ·exact (r.hc.tape j b ys e1 e2).mono (fun _ h=>h) le
  ·by_cases z:i=j
   ·subst z
    rw [List.getElem?_set_self hl] at e
    cases e
    refine ⟨.ref a,k1,?_⟩
    cases xs with
    | list xs=>obtain ⟨vs,k4,k5⟩:=k4; exact .lst (.inl ⟨fun z=>z.2 rfl,.inl k4⟩) (k5.mono le)
    | dict xs=>exact absurd ⟨xs,rfl⟩ hd
    | _=>cases k4
   ·rw [List.getElem?_set_ne z] at e
    obtain ⟨x,q1,q2⟩:=r.re j w e
    refine ⟨x,q1,?_⟩
    cases w with
    | d y=>exact Rep.mono le q2
    | tp k=>exact q2
    | loc ys=>
     obtain ⟨b,eb,m1,m2,m3⟩:=q2
     refine ⟨b,eb,⟨m1,fun q=>z (r.dist i j xs ys (.ref a) h1 e k1 (by rw [q1,eb,q]))⟩,m2,m3.mono (fun _ q=>q) le⟩
  ·obtain ⟨n,e⟩:=gf hw e1
   exact r.fresh j ys b e e2
  ·obtain ⟨n1,e1⟩:=gf hw e1
   obtain ⟨n2,e2⟩:=gf hw e2
   exact r.dist j k ys zs v e1 e2 e3 e4
 ·exact .done ⟨O,r⟩
end
def gE (i:Nat) (f:FS):FS:=fun ρ T=>f (frzAt i ρ) T
section
variable {X:Cx} {pos:Pos} {st:Stmt} {rest:List Stmt} {f g:FS} {e:Expr} {fe:FE} {c:FT}
theorem mU (i:Nat) (h:DSs X rest f):DSs X rest (gE i f):=by
 refine ⟨?_⟩
 refine mI (AX h.pe) fun D σ H=>?_
 rintro ⟨O₀,H₀,F,ts,O,ρ,T,fl,ρ',T',rs,e,q⟩
 exact (rs.frzAt i).imp fun H' ⟨O',rs'⟩=>⟨O₀,H₀,F,ts,O',_,T,fl,ρ',T',rs',e,q⟩
theorem gn {i:Nat} {x:Str} {iter:Expr} {body:List Stmt} {tpos:Pos} {it:FI} (hN:X.N.Nodup) (hi:DI X (.Name x tpos) iter it) (hb:DSs X body f) (hix:X.N[i]? = some x:=by rfl) (hx:Loc X.env.scope x:=by first | exact Or.inl rfl | exact Or.inr rfl)
  (hf:X.fn x=true∨X.env.scope.names.lookup x=some .local:=by first | exact .inl rfl | exact .inr rfl | assumption) (hp:PassesOwn (model X.prog X.w) X.A X.env X.xe:=by exact PassesOwn.never) (hc:X.calm=true:=by rfl)
  (hs:∀ x,foldedSetIterable iter X.env x=pure x:=by intro _; rfl):DS X (.For (.Name x tpos) iter body [] pos) (cI i it f):=by
 refine ⟨?_⟩
 refine cU (sj hp hc hi.pe (hJ hN hix hx hf) hb.pe hs) fun D σ H=>?_
 rintro ⟨O₀,H₀,F,ts,O,ρ,T,fl,ρ',T',rs,e,q⟩
 obtain ⟨ds,T1,e1,e⟩:=aM e
 refine ⟨O,ts,ρ,T,ds,T1,rs.hc,rs.re,e1,fun J H1 s1 hc1 ok hz=>?_⟩
 refine ⟨fun k m σ H=>m=ds.length - k∧k≤ds.length∧∃ O' ρk Tk,RS X.K O₀ H₀ ((O,H1)::F) ts O' H σ ρk Tk∧forL i f (ds.drop k) ρk Tk=some ((fl,ρ'),T'),⟨_,rfl,Nat.zero_le _,O,ρ,T1,(rs.step s1 hc1).more,e⟩,?_⟩
 rintro k m σ2 H2 ⟨rfl,hk,O',ρk,Tk,rs2,ek⟩
 obtain ⟨k1,k2,k3⟩:=ok O' H2 (rs2.frs _ List.mem_cons_self)
 by_cases hlt:k < ds.length
 ·refine .inr ⟨k1 k hlt,fun σ3 H3=>∃ O' ρk Tk,RS X.K O₀ H₀ ((O,H1)::F) ts O' H3 σ3 ρk Tk∧forL i f (ds.drop (k + 1)) ρk Tk=some ((fl,ρ'),T'),fun σ3 H3 n=>⟨ds.length - (k + 1),by omega,rfl,hlt,n⟩,fun v H3 y=>?_⟩
  obtain ⟨e2,d,hd,rd⟩:=k3 k v H3 y hlt
  subst e2
  have hdr:ds.drop k=d::ds.drop (k + 1):=by
   rw [List.drop_eq_getElem_cons hlt]
   have:=(List.getElem?_eq_some_iff.mp hd).2
   rw [this]
  rw [hdr] at ek
  obtain ⟨⟨fl1,ρ1⟩,T3,e3,ek⟩:=aM ek
  refine ⟨O₀,H₀,(O,H1)::F,ts,O',_,Tk,fl1,ρ1,T3,rs2.set (i:=i) (w:=.d d) rd (fun _ z=>nomatch z),e3,?_⟩
  cases fl1 with
  | nx=>exact fun O3 σ3 H3 rs3=>⟨O3,ρ1,T3,rs3,ek⟩
  | ct=>exact fun O3 σ3 H3 rs3=>⟨O3,ρ1,T3,rs3,ek⟩
  | bk=>
   cases ek
   exact fun O3 σ3 H3 rs3=>q O3 σ3 H3 rs3.less
  | rt x=>
   cases ek
   exact q
  | ro x=>
   cases ek
   exact q
 ·have e:k=ds.length:=by omega
  subst e
  rw [List.drop_eq_nil_of_le (Nat.le_refl _)] at ek
  cases ek
  exact .inl ⟨k2,q O' σ2 H2 rs2.less⟩
theorem jn {ce:Expr} {body:List Stmt} (n:Nat) (hc:DT X ce c) (hb:DSs X body f) (hp:PassesOwn (model X.prog X.w) X.A X.env X.xe:=by exact PassesOwn.never):DS X (.While ce body [] pos) (bc c f n):=by
 refine ⟨?_⟩
 refine cU (xI hp hc.pe hb.pe) fun D σ H=>?_
 rintro ⟨O₀,H₀,F,ts,O,ρ,T,fl,ρ',T',rs,e,q⟩
 refine ⟨fun m σ H=>∃ O' ρm Tm,RS X.K O₀ H₀ F ts O' H σ ρm Tm∧bc c f m ρm Tm=some ((fl,ρ'),T'),⟨n,O,ρ,T,rs,e⟩,?_⟩
 rintro m σ2 H2 ⟨O',ρm,Tm,rs2,em⟩
 cases m with
 | zero=>cases em
 | succ m=>
  obtain ⟨b,T3,e3,em⟩:=aM em
  refine ⟨O',ts,ρm,Tm,b,T3,rs2.hc,rs2.re,e3,fun H3 s3 hc3=>?_⟩
  have rs3:=rs2.step s3 hc3
  cases b with
  | false=>
   rw [if_neg Bool.false_ne_true] at em
   cases em
   exact fY (q O' σ2 H3 rs3)
  | true=>
   rw [if_pos rfl] at em
   obtain ⟨⟨fl1,ρ1⟩,T4,e4,em⟩:=aM em
   refine fX ⟨fun σ3 H3=>∃ O' ρm Tm,RS X.K O₀ H₀ F ts O' H3 σ3 ρm Tm∧bc c f m ρm Tm=some ((fl,ρ'),T'),fun σ3 H3 n=>⟨m,Nat.lt_succ_self m,n⟩,O₀,H₀,F,ts,O',ρm,T3,fl1,ρ1,T4,rs3,e4,?_⟩
   cases fl1 with
   | nx=>exact fun O3 σ3 H3 rs3=>⟨O3,ρ1,T4,rs3,em⟩
   | ct=>exact fun O3 σ3 H3 rs3=>⟨O3,ρ1,T4,rs3,em⟩
   | bk=>
    cases em
    exact fun O3 σ3 H3 rs3=>q O3 σ3 H3 rs3
   | rt x=>
    cases em
    exact q
   | ro x=>
    cases em
    exact q
end
abbrev FnM:=List W→Tp→Option (PyData×Tp)
def fN:List W→Bool
 | []=>true
 | .loc _::_=>false
 | _::r=>fN r
def dS (o:Option ((Fl×Rho)×Tp)):Option (PyData×Tp):=bnd o fun p T=>match p with
 | (.rt x,_)=>some (x,T)
 | (.nx,_)=>some (.none,T)
 | _=>none
def aX (N:Nat) (f:FS):FnM:=fun ws T=>if fN ws=true then dS (f (ws.map some++List.replicate (N - ws.length) none) T) else none
inductive SpMP (K:Frag) (n:Nat) (m:FnM) (vs:List V) (H:Hp) (Q:VK):Prop where
 | mk (O:Addr→Prop) (ts:List Addr) (T:Tp) (ws:List W) (x:PyData) (T':Tp) (hc:HC K O ts H T) (r:gR K O ts H vs ws) (hl:ws.length=n) (e:m ws T=some (x,T')) (q:∀ v H',SameX ts H H'→HC K O ts H' T'→Rep K O H' v x→Q v H'):SpMP K n m vs H Q
def spM (K:Frag) (n:Nat) (m:FnM):Sp:=fun vs H Q _=>SpMP K n m vs H Q
theorem lZ {K:Frag} {O:Addr→Prop} {ts:List Addr} {H:Hp}:∀ {vs:List V} {ws:List W} {i:Nat} {w:W},gR K O ts H vs ws→ws[i]? = some w→∃ v,vs[i]? = some v∧RepW K O ts H v w
 | _,_,_,_,.nil,e=>by simp at e
 | _,_,0,_,.cons r _,e=>by simp at e; subst e; exact ⟨_,rfl,r⟩
 | _,_,i + 1,w,.cons _ t,e=>by
  obtain ⟨d,h1,h2⟩:=lZ (i:=i) (w:=w) t (by simpa using e)
  exact ⟨d,by simpa using h1,h2⟩
theorem j0:∀ {ws:List W} {xs:PyData},fN ws=true→W.loc xs∉ws
 | [],_,_,h=>by cases h
 | .loc _::_,_,e,_=>by cases e
 | .d _::r,_,e,h=>by
  rcases List.mem_cons.mp h with z | z
  ·cases z
  ·exact j0 (ws:=r) e z
 | .tp _::r,_,e,h=>by
  rcases List.mem_cons.mp h with z | z
  ·cases z
  ·exact j0 (ws:=r) e z
theorem jY {ws:List W} {n i:Nat} {w:W} (e:(ws.map some++List.replicate n none)[i]? = some (some w)):ws[i]? = some w:=by
 by_cases h:i < ws.length
 ·rw [List.getElem?_append_left (by simpa using h),List.getElem?_map] at e
  cases q:ws[i]? with
  | none=>rw [q] at e; cases e
  | some u=>rw [q] at e; cases e; rfl
 ·rw [List.getElem?_append_right (by simpa using h)] at e
  have:=List.mem_of_getElem? e
  rw [List.mem_replicate] at this
  cases this.2
theorem dfn {P:Program} {w:World} {K:Frag} {mg:Str→Option Value} {base:Heap} {x qual:Str} {st:Stmt} {f:Addr} {fd:FuncData} {N ps:List Str} {k:Nat} {m:FS} (F:Fun K x qual st f fd) (S:FnScope N ps (aN st))
  (hbody:∀ (cdv:Value) (A:Around) (outer:List Env) (s:Shared) (H:Hp) (E:XK),Room k (A.deeper (envOfC qual (aN st) s.heap.objs.size f cdv))→DSs (gU CX0 P w K mg base N qual (aN st) f cdv A outer s H E).nox (d3 st) m) :
  FnOk P w K mg base CX0 (k + 1) f fd ps (spM K ps.length (aX N.length m)):=by
 refine F.ok S (fun vs H Q E h=>?_) (fun cdv A outer s H vs Q E hr h=>⟨_,(hbody cdv A outer s H E hr).pe,?_⟩)
 ·obtain ⟨O,ts,T,ws,x,T',hc,rw',hl,_⟩:=h
  rw [← hl]
  exact Paired.length rw'
 obtain ⟨O,ts,T,ws,x,T',hc,rw',hl,e,q⟩:=h
 unfold aX at e
 split at e
 ·rename_i hn
  obtain ⟨⟨fl,ρ'⟩,T1,e1,e⟩:=aM e
  have hlen:vs.length=ws.length:=Paired.length rw'
  have noL:∀ {i:Nat} {xs:PyData},(ws.map some++List.replicate (N.length - ws.length) none)[i]? = some (some (W.loc xs))→False:=fun {i xs} e=>j0 hn (List.mem_of_getElem? (jY e))
  refine ⟨O,H,[],ts,O,_,T,fl,ρ',T1,⟨hc,fun i u e=>?_,fun _ h=>h,hc.own,.refl _ _,fun i xs a e1 _=>(noL e1).elim,fun i j xs ys v e1 _ _ _=>(noL e1).elim,fun f hf=>absurd hf (by simp),by simp [L2.start,hlen]⟩,e1,?_⟩
  ·obtain ⟨v,h1,h2⟩:=lZ rw' (jY e)
   refine ⟨v,?_,h2⟩
   unfold L2.start
   have hi:i < vs.length:=(List.getElem?_eq_some_iff.mp h1).1
   rw [List.getElem?_append_left (by simpa using hi),List.getElem?_map,h1]
   rfl
  ·cases fl with
   | rt y=>cases e; exact fun v H' s1 c1 r1=>q v H' s1 c1 r1
   | nx=>
    cases e
    exact fun O' σ' H' rs=>q _ _ rs.same rs.frzH .non
   | bk=>cases e
   | ct=>cases e
   | ro y=>cases e
 ·cases e
def ar (m:FnM) (g:FA):FE:=fun ρ T=>bnd (g ρ T) fun ws T1=>bnd (m ws T1) fun x T2=>some (.d x,T2)
def ji (g:FA) (n:Nat):Prop:=∀ ρ T ws T',g ρ T=some (ws,T')→ws.length=n
theorem aI:ji ag 0:=fun ρ T ws T' e=>by cases e; rfl
theorem ap {f:FE} {g:FA} {n:Nat} (h:ji g n):ji (ab f g) (n + 1):=fun ρ T ws T' e=>by
 obtain ⟨w1,T1,e1,e⟩:=aM e
 obtain ⟨ws,T2,e2,e⟩:=aM e
 cases e
 rw [List.length_cons,h _ _ _ _ e2]
theorem aJ {X:Cx} {name:Str} {ps:List Str} {k:Nat} {m:FnM} {e:Expr} {es:List Expr} {g:FA} {p pos:Pos} (F:Fn X.prog X.w X.K X.mg X.base name ps k (spM X.K ps.length m)) (hr:Room k X.A) (hg:Gl X name) (ha:DA X (e::es) g) (hl:ji g ps.length) (hdb:(name == ("__debug__" : Str))=false:=by decide)
  (he:starEach (e::es) X.env=(false,eval e X.env)::starEach es X.env:=by exact bQ rfl) (hpl:(backTo pos (starEach es X.env)).any (·.1)=false:=by exact dM rfl):DE X (.Call (.Name name p) (e::es) [] pos) (ar m g):=by
 refine ⟨?_⟩
 refine bD (nR F hr hg ha.pe hdb he hpl) fun σ H Q=>?_
 rintro ⟨O,ts,ρ,T,w,T',hc,re,e,q⟩
 obtain ⟨ws,T1,e1,e⟩:=aM e
 obtain ⟨x,T2,e2,e⟩:=aM e
 cases e
 refine ⟨O,ts,ρ,T,ws,T1,hc,re,e1,fun vs H1 s1 hc1 r1=>?_⟩
 refine ⟨O,ts,T1,ws,x,_,hc1,by rw [List.append_nil]; exact r1,hl _ _ _ _ e1,e2,fun v H2 s2 hc2 r2=>q v H2 (s1.trans s2) hc2 r2⟩
noncomputable def iop (g:Int→Int→Option PyData):PyData→PyData→Option PyData
 | .int i,.int j=>g i j
 | _,_=>none
def jP:PyData→PyData→Option PyData:=iop fun i j=>some (.int (i - j))
def dq:PyData→PyData→Option PyData:=iop fun i j=>if 0 < j then some (.int (i % j)) else none
def ir:PyData→PyData→Option PyData:=iop fun i j=>if 0 < j∧j < 1073741824 then some (.int (i / j)) else none
def gC:PyData→PyData→Option PyData:=iop fun i j=>if 0≤j∧j≤1000000∧i.natAbs < 2 ^ 64 then some (.int (i ^ j.toNat)) else none
def ltD:PyData→PyData→Option PyData:=iop fun i j=>some (.bool (decide (i < j)))
def leD:PyData→PyData→Option PyData:=iop fun i j=>some (.bool (decide (i≤j)))
def gtD:PyData→PyData→Option PyData:=iop fun i j=>some (.bool (decide (j < i)))
def geD:PyData→PyData→Option PyData:=iop fun i j=>some (.bool (decide (j≤i)))
theorem sF {g:Int→Int→Option PyData} {x y d:PyData} (e:iop g x y=some d):∃ i j,x=.int i∧y=.int j∧g i j=some d:=by
 unfold iop at e
 split at e
 ·exact ⟨_,_,rfl,rfl,e⟩
 ·cases e
theorem kz {K:Frag} {C:Int→Int→Prop} {g:Int→Int→V} {gd:Int→Int→Option PyData} (h:∀ i j d,gd i j=some d→C i j∧∀ O H,Rep K O H (g i j) d):gW K (rI C g) (iop gd):=fun O ts H T v1 v2 x y d Q hc h1 h2 e q=>by
 obtain ⟨i,j,rfl,rfl,e⟩:=sF e
 obtain ⟨c,r⟩:=h i j d e
 exact ⟨i,j,h1.int,h2.int,c,q _ H (.refl _ _) hc (r O H)⟩
theorem jo {K:Frag} {g:Int→Int→V} {gd:Int→Int→Option PyData} (h:∀ i j d,gd i j=some d→∀ O H,Rep K O H (g i j) d):gW K (rI0 g) (iop gd):=fun O ts H T v1 v2 x y d Q hc h1 h2 e q=>by
 obtain ⟨i,j,rfl,rfl,e⟩:=sF e
 exact ⟨i,j,h1.int,h2.int,q _ H (.refl _ _) hc (h i j d e O H)⟩
section
variable {X:Cx}
theorem tE:OpD X (binaryOp .Sub) jP:=⟨_,A9,jo fun i j d e O H=>by cases e; exact .int _⟩
theorem gL:OpD X (binaryOp .Mod) dq:=⟨_,Bd,kz fun i j d e=>by
 split at e
 ·rename_i h; cases e; exact ⟨h,fun _ _=>.int _⟩
 ·cases e⟩
theorem nr:OpD X (binaryOp .FloorDiv) ir:=⟨_,zw,kz fun i j d e=>by
 split at e
 ·rename_i h; cases e; exact ⟨h,fun _ _=>.int _⟩
 ·cases e⟩
theorem jH:OpD X (binaryOp .Pow) gC:=⟨_,Bb,kz fun i j d e=>by
 split at e
 ·rename_i h; cases e; exact ⟨h,fun _ _=>.int _⟩
 ·cases e⟩
theorem eK:OpD X (compareOp .Lt) ltD:=⟨_,CH,jo fun i j d e O H=>by cases e; exact .bl _⟩
theorem eL:OpD X (compareOp .LtE) leD:=⟨_,CI,jo fun i j d e O H=>by cases e; exact .bl _⟩
theorem fT:OpD X (compareOp .Gt) gtD:=⟨_,CJ,jo fun i j d e O H=>by cases e; exact .bl _⟩
theorem DB:OpD X (compareOp .GtE) geD:=⟨_,CK,jo fun i j d e O H=>by cases e; exact .bl _⟩
def az:PyData→PyData→Option PyData
 | .int i,.int j=>some (.int (i + j))
 | .str x,.str y=>if x.length + y.length≤sizeLine then some (.str (x++y)) else none
 | .tuple xs,.tuple ys=>if xs.length + ys.length≤sizeLine then some (.tuple (xs++ys)) else none
 | .list xs,.list ys=>if xs.length + ys.length≤sizeLine then some (.list (xs++ys)) else none
 | _,_=>none
def Cr (K:Frag):R2:=fun x y H Q=>∃ l b xs zs,x=.ref l∧y=.ref b∧SqL K H l xs∧SqL K H b zs∧xs.length + zs.length≤sizeLine∧∀ p,H p=none→Q (.ref p) (upd H p (.lst (xs++zs)))
theorem zD:OpR X (binaryOp .Add) (Cr X.K):=by
 intro pins s σ H x y v u Q I rx ry h
 obtain ⟨l,b,xs,zs,rfl,rfl,hH,hB,hz,q⟩:=h
 cases rx
 cases ry
 obtain ⟨its,r,p1,_⟩:=I.list hH
 obtain ⟨its2,r2,p2,_⟩:=I.list hB
 have hl:=r.length
 have hl2:=r2.length
 obtain ⟨⟨cls,dd,data,sl⟩,ho,hc,n,hd⟩:=id p1.isList
 obtain ⟨⟨cls2,dd2,data2,sl2⟩,ho2,hc2,n2,hd2⟩:=id p2.isList
 simp only at hc hd hc2 hd2
 subst hc hd hc2 hd2
 have ea:its.toArray++its2.toArray=(its++its2).toArray:=by simp
 refine concat_meets ⟨_,ho,rfl⟩ ⟨_,ho2,rfl⟩ noFill_list_add seq_list_add PySem.F.slot_list_add PySem.F.entry_list_add (PySem.F.args_list_add_2 _ _) (list_addW l b its.toArray its2.toArray n n2 dd dd2 sl sl2 (by rw [List.size_toArray,List.size_toArray]; omega)) ⟨ho,ho2,?_⟩
 rw [ea]
 exact ⟨.ref _,_,I.lnew (t':=s.toks) (r.append r2) (by rw [List.length_append]; omega),rfl,q _ I.fresh⟩
theorem aQ:OpD X (binaryOp .Add) az:=by
 refine ⟨_,op_add.or (op_add_str.or (op_catG.or zD)),fun O ts H T v1 v2 x y d Q hc h1 h2 e q=>?_⟩
 unfold az at e
 split at e
 ·cases e
  exact .inl ⟨_,_,h1.int,h2.int,q _ H (.refl _ _) hc (.int _)⟩
 ·split at e
  ·rename_i hz
   cases e
   exact .inr (.inl ⟨_,_,h1.str,h2.str,hz,q _ H (.refl _ _) hc (.str _)⟩)
  ·cases e
 ·split at e
  ·rename_i xs ys hz
   cases e
   obtain ⟨a,vs,rfl,t1,r1⟩:=h1.tup
   obtain ⟨b,us,rfl,t2,r2⟩:=h2.tup
   refine .inr (.inr (.inl ⟨a,b,vs,us,rfl,rfl,t1.sq,t2.sq,by rw [r1.length,r2.length]; exact hz,fun z=>?_,fun _ z=>?_,fun _ _ p hp=>?_⟩))
   ·subst z
    cases r1
    exact q _ H (.refl _ _) hc (.tup t2 r2)
   ·subst z
    cases r2
    rw [List.append_nil] at q
    exact q _ H (.refl _ _) hc (.tup t1 r1)
   ·exact q _ _ (.new hp _) (hc.new hp _) (hc.newT hp (r1.append r2))
  ·cases e
 ·split at e
  ·rename_i xs ys hz
   cases e
   obtain ⟨a,vs,rfl,t1,r1⟩:=h1.lst
   obtain ⟨b,us,rfl,t2,r2⟩:=h2.lst
   exact .inr (.inr (.inr ⟨a,b,vs,us,rfl,rfl,t1,t2,by rw [r1.length,r2.length]; exact hz,fun p hp=>q _ _ (.new hp _) (hc.new hp _) (hc.newL hp (r1.append r2))⟩))
  ·cases e
 ·cases e
theorem uD:fillsNumberSlot (.type "tuple") "mul" = pure false:=PySem.fillsNumberSlot_seq (id:="tuple.__mul__") (r:=some (.builtin "tuple.__rmul__")) PySem.F.slot_tuple_mul.lookup (by decide +kernel) PySem.F.slot_tuple_rmul.lookup (by decide +kernel)
theorem vc:seqRepeat? (.type "tuple")=pure (some (.builtin "tuple.__mul__")):=by
 unfold seqRepeat?
 rw [PySem.seqSlot_of (T:="tuple") (name:="__mul__") (id:="tuple.__mul__") PySem.F.slot_tuple_mul.lookup (by decide +kernel),PySem.seqSlot_of (T:="tuple") (name:="__rmul__") (id:="tuple.__rmul__") PySem.F.slot_tuple_rmul.lookup (by decide +kernel)]
 rfl
theorem uM (a:Int) (t:Tok) (l:Addr) (items:Array Value) (n:Nat) (dd:Option Addr) (sl:Array (Option Value)) :
  Meets (Builtin.«int.__rmul__» ⟨[.int a t,.ref l],[]⟩) (fun _ R s=>s.heap.get? l=some { cls:=.type "tuple",dict:=dd,data:=.seq items n,slots:=sl }∧R (.ok (.ret Value.notImplemented)) s):=.of_wp fun prog w A R s h=>by obtain ⟨hp,g,d,tk,os⟩:=s; obtain ⟨hl,h⟩:=h; wp_walk; exact ⟨_,rfl,h⟩
theorem vZ (l:Addr) (items:Array Value) (n:Nat) (dd:Option Addr) (sl:Array (Option Value)) (k:Int) (t:Tok) (h1:2≤k) (h2:k≤1000) (h3:items.isEmpty=false) (h4:items.size≤1000) :
  Meets (Builtin.«tuple.__mul__» ⟨[.ref l,.int k t],[]⟩) (fun _ R s=>s.heap.get? l=some { cls:=.type "tuple",dict:=dd,data:=.seq items n,slots:=sl }∧R (.ok (.ret (Value.ref s.heap.objs.size))) { s with heap:=s.heap.push { cls:=Value.type "tuple",data:=Data.seq (List.foldl (fun x1 x2=>x1++x2) #[] (List.replicate k.toNat items)) },toks:=s.toks }):=
 .of_wp fun prog w A R s h=>by
  obtain ⟨hp,g,d,tk,os⟩:=s
  obtain ⟨hl,h⟩:=h
  have hc0:¬ (decide (k < -(2 ^ 63)) || decide (k≥2 ^ 63))=true:=by simp; omega
  have hc1:¬ (items.isEmpty || k == 1)=true:=by rw [h3]; simp; omega
  have hc2:¬ (decide (k≤0) || items.isEmpty)=true:=by rw [h3]; simp; omega
  have hm:items.size * k.toNat≤1000 * 1000:=Nat.mul_le_mul h4 (by omega)
  have hm':(items.size:Int) * k≤1000000:=by
   have e:((items.size * k.toNat:Nat):Int)=(items.size:Int) * k:=by rw [Int.natCast_mul,Int.toNat_of_nonneg (by omega)]
   omega
  have hc3:¬ (items.size:Int) * k > (2 ^ 63 - 1) / 8:=by
   have:(1000000:Int)≤(2 ^ 63 - 1) / 8:=by decide
   omega
  have hc4:¬ Builtin.Tuple.tupleTooMany ((items.size:Int) * k)=true:=by
   unfold Builtin.Tuple.tupleTooMany
   have:sizeLine=16777216:=by decide
   simp
   omega
  have ht:IsTup hp l items:=⟨_,hl,rfl,n,rfl⟩
  wp_walk
  rw [if_neg hc0]
  dsimp only
  refine wpAny_bind (tupleItemsOf_ ht ?_)
  rw [if_neg hc1,if_neg hc2,if_neg hc3,if_neg hc4]
  have fit:sizeOk (.seq (List.foldl (fun x1 x2=>x1++x2) #[] (List.replicate k.toNat items))):=by
   show (List.foldl (fun x1 x2=>x1++x2) #[] (List.replicate k.toNat items)).size≤sizeLine
   have q:=foldl_rep items.toList k.toNat []
   rw [List.nil_append] at q
   have q':List.foldl (fun x1 x2=>x1++x2) #[] (List.replicate k.toNat items)=(List.replicate k.toNat items.toList).flatten.toArray:=by simpa using q
   rw [q',List.size_toArray,len_rep]
   have:sizeLine=16777216:=by decide
   rw [Array.length_toList,Nat.mul_comm]
   omega
  first
  | exact wpAny_bind (m:=Builtin.Tuple.tupleExact _) (wpAny_newObj_type (wpAny_pure ⟨_,rfl,h⟩) fit)
  | exact wpAny_bind (m:=Builtin.Tuple.tupleExact _) (wpAny_newObj_type (wpAny_bind (wpAny_pure (wpAny_pure ⟨_,rfl,h⟩))) fit)
theorem zu:OpR X (binaryOp .Mult) (fun x y H Q=>∃ a k xs,x=.ref a∧y=.int k∧SqT X.K H a xs∧2≤k∧k≤1000∧xs≠[]∧xs.length≤1000∧∀ p,H p=none→Q (.ref p) (upd H p (.tup (List.replicate k.toNat xs).flatten))):=by
 intro pins s σ H x y v u Q I rx ry h
 obtain ⟨a,k,xs,rfl,rfl,hq,h1,h2,h3,h4,q⟩:=h
 cases rx
 obtain ⟨t,rfl⟩:=ry
 obtain ⟨its,r,p1,_⟩:=I.tuple hq
 have hl:=r.length
 have hv:its≠[]:=fun z=>h3 (r.nil_iff.mp z)
 obtain ⟨⟨cls,dd,data,sl⟩,ho,hc,n,hd⟩:=id p1
 simp only at hc hd
 subst hc hd
 have hnew:List.foldl (fun x1 x2=>x1++x2) #[] (List.replicate k.toNat its.toArray)=(List.replicate k.toNat its).flatten.toArray:=by
  have q:=foldl_rep its k.toNat []
  rw [List.nil_append] at q
  exact q
 have he:its.toArray.isEmpty=false:=by
  cases its with
  | nil=>exact absurd rfl hv
  | cons _ _=>simp
 refine wpAny_binaryOp_repeat_ref (T:="tuple") (U:="int") (by decide) ⟨_,ho,rfl⟩ (fun s'=>typeIs_int s' k t) uD F.fills_int_mul F.slot_int_rmul vc F.slot_int_index.lookup
  (call_meets F.slot_int_rmul (typeIs_int s k t) F.entry_int_rmul (F.args_int_rmul_2 _ _) (uM k t a its.toArray n dd sl)
   ⟨ho,rfl,⟨_,ho,rfl⟩,call_meets PySem.F.slot_tuple_mul ⟨_,ho,rfl⟩ PySem.F.entry_tuple_mul (PySem.F.args_tuple_mul_2 _ _) (vZ a its.toArray n dd sl k t h1 h2 he (by rw [List.size_toArray]; omega)) ⟨ho,?_⟩⟩)
 rw [hnew]
 refine ⟨.ref s.heap.objs.size,_,I.laid (t':=s.toks) (o:=.tup (List.replicate k.toNat xs).flatten) (fun b ob q=>Heap.get?_push_of_some _ q) (Nat.le_refl _) ?_,rfl,q _ (I.hok.fresh (Nat.le_refl _))⟩
 refine ⟨?_,_,r.rep k.toNat,IsTup.new _ _⟩
 rw [len_rep]
 have:k.toNat * xs.length≤1000 * 1000:=Nat.mul_le_mul (by omega) h4
 have:sizeLine=16777216:=by decide
 omega
def bo:PyData→PyData→Option PyData
 | .int i,.int j=>if (-(2 ^ 64) < i∧i < 2 ^ 64)∨(-(2 ^ 64) < j∧j < 2 ^ 64) then some (.int (i * j)) else none
 | .str z,.int k=>if 0≤k∧k≤2000∧z.length≤1000 then some (.str (Txt.mul z k)) else none
 | .tuple xs,.int k=>if 2≤k∧k≤1000∧xs.isEmpty=false∧xs.length≤1000 then some (.tuple (List.replicate k.toNat xs).flatten) else none
 | _,_=>none
theorem cQ:OpD X (binaryOp .Mult) bo:=by
 refine ⟨_,op_mul.or (op_mulS.or zu),fun O ts H T v1 v2 x y d Q hc h1 h2 e q=>?_⟩
 unfold bo at e
 split at e
 ·split at e
  ·rename_i hz
   cases e
   exact .inl ⟨_,_,h1.int,h2.int,hz,q _ H (.refl _ _) hc (.int _)⟩
  ·cases e
 ·split at e
  ·rename_i hz
   cases e
   exact .inr (.inl ⟨_,_,h1.str,h2.int,hz.1,hz.2.1,hz.2.2,q _ H (.refl _ _) hc (.str _)⟩)
  ·cases e
 ·split at e
  ·rename_i xs k hz
   cases e
   obtain ⟨a,vs,rfl,t1,r1⟩:=h1.tup
   exact .inr (.inr ⟨a,_,vs,rfl,h2.int,t1.sq,hz.1,hz.2.1,fun z=>by subst z; cases r1; exact absurd hz.2.2.1 (by simp),by rw [r1.length]; exact hz.2.2.2,fun p hp=>q _ _ (.new hp _) (hc.new hp _) (hc.newT hp (r1.rep _))⟩)
  ·cases e
 ·cases e
def eqS:PyData→PyData→Option Bool
 | .int i,.int j=>some (decide (i=j))
 | .str x,.str y=>some (decide (x=y))
 | .bool a,.bool b=>some (decide (a=b))
 | .none,.none=>some true
 | .none,.int _=>some false | .int _,.none=>some false | .none,.bool _=>some false | .bool _,.none=>some false | .none,.str _=>some false | .str _,.none=>some false
 | .int _,.str _=>some false | .str _,.int _=>some false | .bool _,.str _=>some false | .str _,.bool _=>some false
 | _,_=>none
theorem sQ {K:Frag} {O:Addr→Prop} {H:Hp} {v1 v2:V} {x y:PyData} {b:Bool} (h1:Vw K O H v1 x) (h2:Vw K O H v2 y) (e:eqS x y=some b):ol v1 v2=true∧decide (v1=v2)=b:=by
 unfold eqS at e
 split at e
 all_goals first | (cases e; done) | skip
 ·cases h1.int; cases h2.int; cases e; exact ⟨rfl,by simp⟩
 ·cases h1.str; cases h2.str; cases e; exact ⟨rfl,by simp⟩
 ·cases h1.bl; cases h2.bl; cases e; exact ⟨rfl,by simp⟩
 ·cases h1.non; cases h2.non; cases e; exact ⟨rfl,by simp⟩
 ·cases h1.non; cases h2.int; cases e; exact ⟨rfl,by simp⟩
 ·cases h1.int; cases h2.non; cases e; exact ⟨rfl,by simp⟩
 ·cases h1.non; cases h2.bl; cases e; exact ⟨rfl,by simp⟩
 ·cases h1.bl; cases h2.non; cases e; exact ⟨rfl,by simp⟩
 ·cases h1.non; cases h2.str; cases e; exact ⟨rfl,by simp⟩
 ·cases h1.str; cases h2.non; cases e; exact ⟨rfl,by simp⟩
 ·cases h1.int; cases h2.str; cases e; exact ⟨rfl,by simp⟩
 ·cases h1.str; cases h2.int; cases e; exact ⟨rfl,by simp⟩
 ·cases h1.bl; cases h2.str; cases e; exact ⟨rfl,by simp⟩
 ·cases h1.str; cases h2.bl; cases e; exact ⟨rfl,by simp⟩
def eqD (x y:PyData):Option PyData:=(eqS x y).map .bool
def neD (x y:PyData):Option PyData:=(eqS x y).map fun b=>.bool (!b)
theorem bb:OpD X (compareOp .Eq) eqD:=⟨_,CL,fun O ts H T v1 v2 x y d Q hc h1 h2 e q=>by
 unfold eqD at e
 obtain ⟨b,e1,rfl⟩:=Option.map_eq_some_iff.mp e
 obtain ⟨k1,k2⟩:=sQ h1 h2 e1
 exact ⟨k1,by rw [k2]; exact q _ H (.refl _ _) hc (.bl _)⟩⟩
theorem fS:OpD X (compareOp .NotEq) neD:=⟨_,CG,fun O ts H T v1 v2 x y d Q hc h1 h2 e q=>by
 unfold neD at e
 obtain ⟨b,e1,rfl⟩:=Option.map_eq_some_iff.mp e
 obtain ⟨k1,k2⟩:=sQ h1 h2 e1
 exact ⟨k1,by rw [k2]; exact q _ H (.refl _ _) hc (.bl _)⟩⟩
def isNone:PyData→Bool
 | .none=>true
 | _=>false
theorem pB {K:Frag} {O:Addr→Prop} {H:Hp} {v:V} {x:PyData} (h:Vw K O H v x):decide (v=.non)=isNone x:=by
 cases h with
 | rep h=>cases h <;> rfl
 | raw _ _=>rfl
 | rawD _ _=>rfl
def isD:PyData→PyData→Option PyData
 | x,.none=>some (.bool (isNone x))
 | _,_=>none
theorem lH:OpD X (compareOp .Is) isD:=⟨_,Be,fun O ts H T v1 v2 x y d Q hc h1 h2 e q=>by
 unfold isD at e
 split at e
 ·cases e
  exact ⟨h2.non,by rw [pB h1]; exact q _ H (.refl _ _) hc (.bl _)⟩
 ·cases e⟩
def iU:PyData→PyData→Option PyData
 | x,.none=>some (.bool (!isNone x))
 | .bool a,.bool b=>some (.bool (a != b))
 | _,_=>none
theorem zF:OpD X (compareOp .IsNot) iU:=⟨_,op_notN.or wL,fun O ts H T v1 v2 x y d Q hc h1 h2 e q=>by
 unfold iU at e
 split at e
 ·cases e
  exact .inl ⟨h2.non,by rw [pB h1]; exact q _ H (.refl _ _) hc (.bl _)⟩
 ·cases e
  exact .inr ⟨_,_,h1.bl,h2.bl,q _ H (.refl _ _) hc (.bl _)⟩
 ·cases e⟩
def eG:PyData→Bool
 | .none=>true | .bool _=>true | .int _=>true | .str _=>true
 | _=>false
def eqF:PyData→PyData→Bool
 | .none,.none=>true
 | .bool a,.bool b=>a == b
 | .bool a,.int b=>(if a then 1 else 0) == b
 | .int a,.bool b=>a == (if b then 1 else 0)
 | .int a,.int b=>a == b
 | .str a,.str b=>a == b
 | _,_=>false
def iA (y x:Str):Bool:=!(Builtin.Str.occurrences y x 0 y.length 1).isEmpty
def inS:PyData→PyData→Option Bool
 | .str x,.str y=>some (iA y x)
 | x,.list ys=>if eG x && ys.all eG then some (ys.any fun y=>eqF y x) else none
 | x,.tuple ys=>if eG x && ys.all eG then some (ys.any fun y=>eqF y x) else none
 | _,_=>none
theorem mR {K:Frag} {O:Addr→Prop} {H:Hp} {v:V} {x:PyData} (h:Rep K O H v x) (e:eG x=true):fQ v=true:=by cases h <;> first | rfl | cases e
theorem BL {K:Frag} {O:Addr→Prop} {H:Hp} {v u:V} {x y:PyData} (h:Rep K O H v x) (g:Rep K O H u y) (ex:eG x=true) (ey:eG y=true):eqV v u=eqF x y:=by cases h <;> cases g <;> first | rfl | cases ex | cases ey
theorem mz {K:Frag} {O:Addr→Prop} {H:Hp}:∀ {vs:List V} {xs:List PyData},Reps K O H vs xs→xs.all eG=true→vs.all fQ=true
 | _,_,.nil,_=>rfl
 | _,_,.cons r t,e=>by
  rw [List.all_cons,Bool.and_eq_true] at e
  rw [List.all_cons,mR r e.1,mz t e.2]
  rfl
theorem mY {K:Frag} {O:Addr→Prop} {H:Hp} {v:V} {x:PyData} (h:Rep K O H v x) (ex:eG x=true):∀ {vs:List V} {xs:List PyData},Reps K O H vs xs→xs.all eG=true→(vs.any fun y=>eqV y v)=xs.any fun y=>eqF y x
 | _,_,.nil,_=>rfl
 | _,_,.cons r t,e=>by
  rw [List.all_cons,Bool.and_eq_true] at e
  rw [List.any_cons,List.any_cons,BL r h e.1 ex,mY h ex t e.2]
theorem Vw.flat {K:Frag} {O:Addr→Prop} {H:Hp} {v:V} {x:PyData} (h:Vw K O H v x) (e:eG x=true):Rep K O H v x:=by
 cases h with
 | rep h=>exact h
 | raw _ _=>cases e
 | rawD _ _=>cases e
def inD (x y:PyData):Option PyData:=(inS x y).map .bool
def gm (x y:PyData):Option PyData:=(inS x y).map fun b=>.bool (!b)
theorem m9 {K:Frag} (neg:Bool):gW K (fun x y H Q=>(∃ i j,x=.str i∧y=.str j∧Q (.bl (if neg then !(iA j i) else iA j i)) H)∨rIn K neg x y H Q) (fun x y=>(inS x y).map fun b=>.bool (if neg then !b else b)):=fun O ts H T v1 v2 x y d Q hc h1 h2 e q=>by
 obtain ⟨b,e1,rfl⟩:=Option.map_eq_some_iff.mp e
 unfold inS at e1
 split at e1
 ·cases e1
  exact .inl ⟨_,_,h1.str,h2.str,q _ H (.refl _ _) hc (.bl _)⟩
 ·split at e1
  ·rename_i hf
   cases e1
   rw [Bool.and_eq_true] at hf
   obtain ⟨a,vs,rfl,t,r⟩:=h2.lst
   have r1:=h1.flat hf.1
   refine .inr ⟨a,vs,rfl,.inl t,mR r1 hf.1,mz r hf.2,?_⟩
   have z:inV v1 vs=_:=mY r1 hf.1 r hf.2
   rw [z]
   exact q _ H (.refl _ _) hc (.bl _)
  ·cases e1
 ·split at e1
  ·rename_i hf
   cases e1
   rw [Bool.and_eq_true] at hf
   obtain ⟨a,vs,rfl,t,r⟩:=h2.tup
   have r1:=h1.flat hf.1
   refine .inr ⟨a,vs,rfl,.inr t.sq,mR r1 hf.1,mz r hf.2,?_⟩
   have z:inV v1 vs=_:=mY r1 hf.1 r hf.2
   rw [z]
   exact q _ H (.refl _ _) hc (.bl _)
  ·cases e1
 ·cases e1
theorem uh:OpD X (compareOp .In) inD:=⟨_,op_in_str.or wM,m9 false⟩
theorem mN:OpD X (compareOp .NotIn) gm:=⟨_,op_notin_str.or oB,m9 true⟩
def gT:PyData→Option PyData
 | .int i=>some (.int (-i))
 | _=>none
theorem nI {a:Expr} {fa:FE} {pos:Pos} (ha:DE X a fa):DE X (.UnaryOp .USub a pos) (fUn gT fa):=C5 Au (fun O ts H T v x d Q hc h e q=>by
 unfold gT at e
 split at e
 ·cases e
  exact ⟨_,h.int,q _ H (.refl _ _) hc (.int _)⟩
 ·cases e) ha
def ixD:PyData→PyData→Option PyData
 | .list xs,.int i=>atI xs i
 | .tuple xs,.int i=>atI xs i
 | .str z,.int i=>if z.length≤sizeLine then (atI z.cps.toList i).map fun c=>.str ⟨#[c]⟩ else none
 | _,_=>none
theorem qG {K:Frag} {O:Addr→Prop} {H:Hp} {vs:List V} {xs:List PyData} {i:Int} {d:PyData} (r:Reps K O H vs xs) (e:atI xs i=some d):∃ v,atI vs i=some v∧Rep K O H v d:=by
 unfold atI at e ⊢
 rw [r.length]
 cases h:ixN xs.length i with
 | none=>rw [h] at e; cases e
 | some j=>
  rw [h] at e
  exact r.getD e
theorem ax:IxD X ixD:=⟨_,By,fun O ts H T v1 v2 x y d Q hc h1 h2 e q=>by
 unfold ixD at e
 split at e
 ·obtain ⟨a,vs,rfl,t,r⟩:=h1.lst
  obtain ⟨v,k1,k2⟩:=qG r e
  exact .inl ⟨a,vs,_,v,rfl,h2.int,t,k1,q _ H (.refl _ _) hc k2⟩
 ·obtain ⟨a,vs,rfl,t,r⟩:=h1.tup
  obtain ⟨v,k1,k2⟩:=qG r e
  exact .inr (.inl ⟨a,vs,_,v,rfl,h2.int,t.sq,k1,q _ H (.refl _ _) hc k2⟩)
 ·split at e
  ·rename_i hz
   obtain ⟨c,k1,rfl⟩:=Option.map_eq_some_iff.mp e
   exact .inr (.inr ⟨_,_,c,h1.str,h2.int,hz,k1,q _ H (.refl _ _) hc (.str _)⟩)
  ·cases e
 ·cases e⟩
end
theorem uA {prog:Program} {w:World} {A:Around} {E:Value→Shared→Prop} {s:Shared} {t sl:Addr} {items:Array Value} {vl vu:Value} {lo hi:Option Int} {Q:Value→Shared→Prop} (ht:IsTup s.heap t items) (hs:s.heap.IsSliceOf sl vl vu .none) (pl:IsPart vl lo) (pu:IsPart vu hi)
  (hw:HT.sIx items.size 0 lo=0∧HT.sIx items.size items.size hi=items.size) (h:Q (.ref t) s):wpAny (model prog w) A (getItem (.ref t) (.ref sl)) Q E s:=by
 obtain ⟨os,hos,hcs,hds⟩:=id hs
 have hTs:s.TypeIs (.ref sl) "slice":=⟨os,hos,hcs⟩
 unfold getItem
 try with_reducible refine wpAny_holding ?_
 first | refine wpAny_bind (wpAny_pure ?_) | skip
 refine wpAny_bind (wpAny_sequenceKey ht.typeIs (by decide) ?_)
 refine wpAny_bind (wpAny_callSpecial?_slot (name:=Str.ofString "__getitem__") ht.typeIs PyProof.Rows.slot_tuple_getitem
  (wpAny_call_entry PyProof.Rows.slot_tuple_getitem ht.typeIs entry_tuple_getitem ?_ (args_tuple_getitem _ _)))
 show wpAny _ _ (Builtin.Tuple.tupleItemsOf (.ref t) >>= _) _ _ s
 refine wpAny_bind (tupleItemsOf_ ht ?_)
 refine wpAny_bind (wpAny_typeOf hTs ?_)
 rw [if_pos (by decide)]
 refine wpAny_bind (HT.oA hs pl pu ?_)
 have hyes:((((HT.sIx items.size 0 lo:Nat):Int) == 0 && (1:Int) == 1 && (HT.sIx items.size items.size hi - HT.sIx items.size 0 lo) == items.size)=true):=by
  rw [hw.1,hw.2]
  simp
 show wpAny _ _ (if (((HT.sIx items.size 0 lo:Nat):Int) == 0 && (1:Int) == 1 && (HT.sIx items.size items.size hi - HT.sIx items.size 0 lo) == items.size)=true then _ else _) _ _ s
 rw [if_pos hyes]
 refine wpAny_bind (m:=Builtin.Tuple.tupleIsExact (.ref t)) (wpAny_bind (wpAny_typeOf ht.typeIs (wpAny_pure ?_)))
 first
 | exact wpAny_bind (wpAny_rule (wpAny_bind (wpAny_pure ⟨_,rfl,wpAny_pure h⟩)))
 | (simp only [beq_self_eq_true,if_true]; exact wpAny_bind (wpAny_rule (wpAny_pure ⟨_,rfl,wpAny_pure h⟩)))
def bv {α:Type} (xs:List α) (lo hi:Option Int):List α:=(xs.drop (HT.sIx xs.length 0 lo)).take (HT.sIx xs.length xs.length hi - HT.sIx xs.length 0 lo)
theorem Reps.cut {K:Frag} {O:Addr→Prop} {H:Hp} {vs:List V} {ds:List PyData} (r:Reps K O H vs ds) (lo hi:Option Int):Reps K O H (gF vs lo hi) (bv ds lo hi):=by
 unfold gF bv
 rw [r.length]
 exact (r.drop _).take _
theorem xj {α:Type} {xs:List α} {lo hi:Option Int} (h:HT.sIx xs.length 0 lo=0∧HT.sIx xs.length xs.length hi=xs.length):bv xs lo hi=xs:=by
 unfold bv
 rw [h.1,h.2]
 simp
section
variable {X:Cx}
theorem sl_tupA:SlR X (fun x lo hi H Q=>∃ a xs,x=.ref a∧SqT X.K H a xs∧((HT.sIx xs.length 0 lo=0∧HT.sIx xs.length xs.length hi=xs.length)→Q (.ref a) H) ∧
  (¬ (HT.sIx xs.length 0 lo=0∧HT.sIx xs.length xs.length hi=xs.length)→∀ p,H p=none→Q (.ref p) (upd H p (.tup (gF xs lo hi))))):=by
 intro pins s σ H x v vl vu lo hi sl Q I rx hs pl pu h
 obtain ⟨a,xs,rfl,hx,q1,q2⟩:=h
 by_cases hw:HT.sIx xs.length 0 lo=0∧HT.sIx xs.length xs.length hi=xs.length
 ·cases rx
  obtain ⟨its,r,ht,hz⟩:=I.tuple hx
  have hlen:its.toArray.size=xs.length:=by rw [List.size_toArray]; exact r.length.symm
  refine ⟨"tuple",_,PyProof.Rows.slot_tuple_getitem.lookup,ht.typeIs,?_⟩
  exact uA ht hs pl pu (by rw [hlen]; exact hw) ⟨.ref a,H,I,rfl,q1 hw⟩
 ·exact AJ pins s σ H _ v vl vu lo hi sl Q I rx hs pl pu ⟨a,xs,rfl,hx,hw,q2 hw⟩
def hU (x:PyData) (lo hi:Option Int):Option PyData:=match x with
 | .list xs=>some (.list (bv xs lo hi))
 | .tuple xs=>some (.tuple (bv xs lo hi))
 | .str z=>if z.length≤sizeLine then some (.str (Txt.slice z lo hi)) else none
 | _=>none
abbrev FO:=Rho→Tp→Option (Option Int×Tp)
def bL:FO:=fun _ T=>some (none,T)
def fP (f:FE):FO:=fun ρ T=>bnd (f ρ T) fun w T1=>match w with
 | .d (.int i)=>some (some i,T1)
 | _=>none
inductive LiftOP (K:Frag) (f:FO) (σ:L2.St) (H:Hp) (Q:Option Int→Hp→Prop):Prop where
 | mk (O:Addr→Prop) (ts:List Addr) (ρ:Rho) (T:Tp) (o:Option Int) (T':Tp) (hc:HC K O ts H T) (re:RelE K O ts H σ ρ) (e:f ρ T=some (o,T')) (q:∀ H',SameX ts H H'→HC K O ts H' T'→Q o H'):LiftOP K f σ H Q
def CU (K:Frag) (f:FO):TO:=fun σ H Q=>LiftOP K f σ H Q
structure DO (X:Cx) (e:Option Expr) (f:FO):Prop where
 pe:PO X e (CU X.K f)
theorem sk {e:Option Expr} {t t':TO} (h:PO X e t) (i:∀ σ H Q,t' σ H Q→t σ H Q):PO X e t':=fun pins s σ H Q I q=>h pins s σ H Q I (i σ H Q q)
theorem eW:DO X none bL:=by
 refine ⟨?_⟩
 refine sk zj fun σ H Q=>?_
 rintro ⟨O,ts,ρ,T,o,T',hc,re,e,q⟩
 cases e
 exact q H (.refl _ _) hc
theorem cJ {e:Expr} {f:FE} (h:DE X e f):DO X (some e) (fP f):=by
 refine ⟨?_⟩
 refine sk (zi h.pe) fun σ H Q=>?_
 rintro ⟨O,ts,ρ,T,o,T',hc,re,e,q⟩
 obtain ⟨w1,T1,e1,e⟩:=aM e
 refine ⟨O,ts,ρ,T,w1,T1,hc,re,e1,fun v1 H1 s1 hc1 r1=>?_⟩
 split at e
 ·cases e
  cases (show Rep X.K O H1 v1 _ from r1)
  exact ⟨_,rfl,q H1 s1 hc1⟩
 ·cases e
def fSl (f:FE) (l u:FO):FE:=fun ρ T=>bnd (f ρ T) fun w T1=>bnd (l ρ T1) fun lo T2=>bnd (u ρ T2) fun hi T3=>op1 (fun x=>hU x lo hi) T3 w
theorem dD {e:Expr} {lo hi:Option Expr} {f:FE} {l u:FO} {pos p2:Pos} (he:DE X e f) (hl:DO X lo l) (hu:DO X hi u):DE X (.Subscript e (.Slice lo hi none p2) pos) (fSl f l u):=by
 refine ⟨?_⟩
 refine bD (xQ (sl_list.or (sl_tupA.or AK)) he.pe hl.pe hu.pe) fun σ H Q=>?_
 rintro ⟨O,ts,ρ,T,w,T',hc,re,e,q⟩
 obtain ⟨w1,T1,e1,e⟩:=aM e
 obtain ⟨o1,T2,e2,e⟩:=aM e
 obtain ⟨o2,T3,e3,e⟩:=aM e
 obtain ⟨x,d,h1,h3,rfl,rfl⟩:=kE e
 refine ⟨O,ts,ρ,T,w1,T1,hc,re,e1,fun v1 H1 s1 hc1 r1=>?_⟩
 refine ⟨O,ts,ρ,T1,o1,T2,hc1,re.mono hc s1,e2,fun H2 s2 hc2=>?_⟩
 refine ⟨O,ts,ρ,T2,o2,T',hc2,re.mono hc (s1.trans s2),e3,fun H3 s3 hc3=>?_⟩
 have vw:=hc3.view (r1.mono hc1 (s2.trans s3)) h1
 have q':∀ v H',SameX ts H3 H'→HC X.K O ts H' T'→Rep X.K O H' v d→Q v H':=fun v H' s c r=>q v H' (s1.trans (s2.trans (s3.trans s))) c r
 clear q
 cases x with
 | list xs=>
  cases h3
  obtain ⟨a,vs,rfl,t,r⟩:=vw.lst
  exact .inl ⟨a,vs,rfl,t,fun p hp=>q' _ _ (.new hp _) (hc3.new hp _) (hc3.newL hp (r.cut _ _))⟩
 | tuple xs=>
  cases h3
  obtain ⟨a,vs,rfl,t,r⟩:=vw.tup
  refine .inr (.inl ⟨a,vs,rfl,t.sq,fun hw=>?_,fun hw p hp=>?_⟩)
  ·rw [r.length] at hw
   rw [xj hw] at q'
   exact q' _ H3 (.refl _ _) hc3 vw.tupR
  ·exact q' _ _ (.new hp _) (hc3.new hp _) (hc3.newT hp (r.cut _ _))
 | str z=>
  have h3':(if z.length≤sizeLine then some (PyData.str (Txt.slice z o1 o2)) else none)=some d:=h3
  split at h3'
  ·rename_i hz
   cases h3'
   exact .inr (.inr ⟨z,vw.str,hz,q' _ H3 (.refl _ _) hc3 (.str _)⟩)
  ·cases h3'
 | _=>cases h3
end
inductive Kd where
 | non | bl | int | str | tup | lst | dct
 deriving DecidableEq
def Kd.name:Kd→String
 | .non=>"NoneType" | .bl=>"bool" | .int=>"int" | .str=>"str" | .tup=>"tuple" | .lst=>"list" | .dct=>"dict"
def kd:PyData→Kd
 | .none=>.non | .bool _=>.bl | .int _=>.int | .str _=>.str | .list _=>.lst | .tuple _=>.tup | .dict _=>.dct
def bO (a b:Kd):Bool:=decide (a=b) || (decide (a=.bl) && decide (b=.int))
def DL (t c:String):Option Bool:=if (Value.type t == Value.type c)=true then some true else if PySem.W.kitMeta c=true then (fastBuiltinMro t).map (·.contains (.type c)) else none
theorem fE (a b:Kd):b≠.non→DL a.name b.name=some (bO a b):=by cases a <;> cases b <;> first | (intro h; exact absurd rfl h) | (intro _; decide +kernel)
section
variable {X:Cx}
theorem yu:CallR X (.builtin "isinstance") (fun xs H Q=>∃ (x:V) (c:Kd) (O:Addr→Prop) (d:PyData),xs=[x,.ty c.name]∧Vw X.K O H x d∧c≠.non∧Q (.bl (bO (kd d) c)) H):=by
 intro pins s σ H xs us Q I r h
 obtain ⟨x,c,O,d,rfl,vw,hc,q⟩:=h
 obtain ⟨u,w',rfl,ru,rw'⟩:=vals2 r
 cases (show w'=Value.type c.name from rw')
 have fin:∀ tk,EP X pins σ Q (.bool (bO (kd d) c)) { s with toks:=tk }:=fun tk=>⟨.bl _,H,I.tok _,rfl,q⟩
 cases d with
 | none=>cases vw.non; exact j3 I ru .non (show PySem.W.kitOne X.K (.type (Kd.name .non)) (.type c.name)=some _ from fE .non c hc) fin
 | bool b=>cases vw.bl; exact j3 I ru (.bl b) (show PySem.W.kitOne X.K (.type (Kd.name .bl)) (.type c.name)=some _ from fE .bl c hc) fin
 | int i=>cases vw.int; exact j3 I ru (.int i) (show PySem.W.kitOne X.K (.type (Kd.name .int)) (.type c.name)=some _ from fE .int c hc) fin
 | str z=>cases vw.str; exact j3 I ru (.str z) (show PySem.W.kitOne X.K (.type (Kd.name .str)) (.type c.name)=some _ from fE .str c hc) fin
 | list ds=>
  obtain ⟨a,vs,rfl,t,r⟩:=vw.lst
  cases (show u=Value.ref a from ru)
  obtain ⟨its,_,pl,_⟩:=I.list t
  obtain ⟨o,n,e,c1,_⟩:=pl
  exact PySem.W.kia_one PySem.W.kitx_list I.kIn ⟨o,e,c1⟩ (show PySem.W.kitOne X.K (.type (Kd.name .lst)) (.type c.name)=some _ from fE .lst c hc) (fun z=>nomatch z) fin
 | tuple ds=>
  obtain ⟨a,vs,rfl,t,r⟩:=vw.tup
  cases (show u=Value.ref a from ru)
  obtain ⟨its,_,pl,_⟩:=I.tuple t.sq
  obtain ⟨o,e,c1,_⟩:=pl
  exact PySem.W.kia_one PySem.W.kitx_tuple I.kIn ⟨o,e,c1⟩ (show PySem.W.kitOne X.K (.type (Kd.name .tup)) (.type c.name)=some _ from fE .tup c hc) (fun z=>nomatch z) fin
 | dict ds=>
  obtain ⟨a,vs,rfl,t,r⟩:=vw.dct
  cases (show u=Value.ref a from ru)
  obtain ⟨_,_,_,_,o,_,_,e,c1,_⟩:=fR I.hok t
  exact PySem.W.kia_one PySem.W.kitx_dict I.kIn ⟨o,e,c1.1⟩ (show PySem.W.kitOne X.K (.type (Kd.name .dct)) (.type c.name)=some _ from fE .dct c hc) (fun z=>nomatch z) fin
def bi (c:Kd) (x:PyData):Option PyData:=some (.bool (bO (kd x) c))
theorem bS {e:Expr} {f:FE} {p p' pos:Pos} {T:Str} (c:Kd) (hi:X.mg "isinstance" = none) (he:DE X e f) (hm:X.mg T=none) (hb:bootBuiltins T=some (.type c.name)) (hcn:c≠.non:=by decide) (hg:Gl X "isinstance":=by rfl) (hT:Gl X T:=by rfl) (hn:T≠"__name__":=by decide) (hdb:(T == ("__debug__" : Str))=false:=by decide)
  (hs:starEach [e,.Name T p] X.env=(false,eval e X.env)::starEach [.Name T p] X.env:=by exact bQ rfl) (hs2:starEach [.Name T p] X.env=(false,eval (.Name T p) X.env)::starEach [] X.env:=by exact bQ rfl)
  (hpl:(backTo pos (starEach [.Name T p] X.env)).any (·.1)=false:=by exact dM rfl):DE X (.Call (.Name "isinstance" p') [e,.Name T p] [] pos) (fUn (bi c) f):=by
 refine ⟨?_⟩
 refine bD (ms yu hg hi PyProof.Rows.boot_isinstance (cq he.pe (cq (ki (v:=.ty c.name) hT hm hb rfl hn hdb) dO hs2) hs) (by decide) (by decide) hs hpl) fun σ H Q=>?_
 rintro ⟨O,ts,ρ,T,w,T',hc,re,e,q⟩
 obtain ⟨w1,T1,e1,e⟩:=aM e
 obtain ⟨x,d,h1,h3,rfl,rfl⟩:=kE e
 cases h3
 refine ⟨O,ts,ρ,T,w1,T',hc,re,e1,fun v1 H1 s1 hc1 r1=>?_⟩
 exact ⟨v1,c,O,x,rfl,hc1.view r1 h1,hcn,q _ H1 s1 hc1 (.bl _)⟩
def aF:List PyData→Option PyData
 | [.list xs]=>some (.int xs.length)
 | [.tuple xs]=>some (.int xs.length)
 | [.str z]=>if z.length≤sizeLine then some (.int z.length) else none
 | [.dict kvs]=>some (.int kvs.length)
 | _=>none
theorem dk {K:Frag} {O:Addr→Prop} {H:Hp} {vs:List V} {x:PyData} (h:Vws K O H vs [x]):∃ v,vs=[v]∧Vw K O H v x:=by cases h with | cons h t=>cases t; exact ⟨_,rfl,h⟩
theorem Di {K:Frag} {O:Addr→Prop} {H:Hp} {vs:List V} {x y:PyData} (h:Vws K O H vs [x,y]):∃ v u,vs=[v,u]∧Vw K O H v x∧Vw K O H u y:=by cases h with | cons h t=>cases t with | cons h' t=>cases t; exact ⟨_,_,rfl,h,h'⟩
theorem pW {K:Frag} {O:Addr→Prop} {H:Hp}:∀ {kvs:List (Key×V)} {ds:List (PyData×PyData)},RepK K O H kvs ds→kvs.length=ds.length
 | _,_,.nil=>rfl
 | _,_,.cons _ t=>congrArg (· + 1) (pW t)
theorem xn:CallR X (.builtin "len") (fun xs H Q=>∃ a kvs,xs=[V.ref a]∧Rd H a (.dK kvs)∧Q (.int kvs.length) H):=by
 intro pins s σ H xs us Q I r h
 obtain ⟨a,kvs,rfl,ha,q⟩:=h
 obtain ⟨u,rfl,ru⟩:=vals1 r
 cases ru
 exact C7 I ha fun t s' I'=>⟨.int kvs.length,H,I',⟨t,rfl⟩,q⟩
theorem ba:eI X (.builtin "len") aF:=⟨_,call_len_seq.or (call_len_str.or xn),fun O ts H T vs xs d Q hc h e q=>by
 unfold aF at e
 split at e
 ·cases e
  obtain ⟨v,rfl,g⟩:=dk h
  obtain ⟨a,vs,rfl,t,r⟩:=g.lst
  exact .inl ⟨a,vs,rfl,.inl t,by rw [r.length]; exact q _ H (.refl _ _) hc (.int _)⟩
 ·cases e
  obtain ⟨v,rfl,g⟩:=dk h
  obtain ⟨a,vs,rfl,t,r⟩:=g.tup
  exact .inl ⟨a,vs,rfl,.inr t.sq,by rw [r.length]; exact q _ H (.refl _ _) hc (.int _)⟩
 ·split at e
  ·rename_i hz
   cases e
   obtain ⟨v,rfl,g⟩:=dk h
   cases g.str
   exact .inr (.inl ⟨_,rfl,hz,q _ H (.refl _ _) hc (.int _)⟩)
  ·cases e
 ·cases e
  obtain ⟨v,rfl,g⟩:=dk h
  obtain ⟨a,kvs,rfl,t,r⟩:=g.dct
  exact .inr (.inr ⟨a,kvs,rfl,t,by rw [pW r]; exact q _ H (.refl _ _) hc (.int _)⟩)
 ·cases e⟩
def lN:List PyData→Option PyData
 | [.int i]=>some (.int (if i < 0 then -i else i))
 | _=>none
theorem Da:eI X (.builtin "abs") lN:=⟨_,yw,fun O ts H T vs xs d Q hc h e q=>by
 unfold lN at e
 split at e
 ·cases e
  obtain ⟨v,rfl,g⟩:=dk h
  cases g.int
  exact ⟨_,rfl,q _ H (.refl _ _) hc (.int _)⟩
 ·cases e⟩
def CT:List PyData→Option PyData
 | [.int i,.int j]=>some (.int (if j > i then j else i))
 | _=>none
def iX:List PyData→Option PyData
 | [.int i,.int j]=>some (.int (if j < i then j else i))
 | _=>none
theorem tS (hc:X.calm=true:=by rfl):eI X (.builtin "min") iX:=⟨_,xk hc,fun O ts H T vs xs d Q hc h e q=>by
 unfold iX at e
 split at e
 ·cases e
  obtain ⟨v,u,rfl,g,g'⟩:=Di h
  cases g.int
  cases g'.int
  exact ⟨_,_,rfl,q _ H (.refl _ _) hc (.int _)⟩
 ·cases e⟩
def ie:List PyData→Option (List Bool)
 | []=>some []
 | .bool b::r=>(ie r).map (b::·)
 | _=>none
def fj:List PyData→Option (List Int)
 | []=>some []
 | .int b::r=>(fj r).map (b::·)
 | _=>none
def gp:List PyData→Option (List Str)
 | []=>some []
 | .str b::r=>(gp r).map (b::·)
 | _=>none
theorem qq {K:Frag} {O:Addr→Prop} {H:Hp}:∀ {vs:List V} {xs:List PyData} {bs:List Bool},Reps K O H vs xs→ie xs=some bs→vs=bs.map V.bl
 | _,_,_,.nil,e=>by cases e; rfl
 | _,x::r,bs,.cons h t,e=>by
  cases x with
  | bool b=>
   obtain ⟨cs,e1,rfl⟩:=Option.map_eq_some_iff.mp (show (ie r).map (b::·)=some bs from e)
   cases h
   rw [qq t e1]
   rfl
  | _=>cases e
theorem j9 {K:Frag} {O:Addr→Prop} {H:Hp}:∀ {vs:List V} {xs:List PyData} {bs:List Int},Reps K O H vs xs→fj xs=some bs→vs=bs.map V.int
 | _,_,_,.nil,e=>by cases e; rfl
 | _,x::r,bs,.cons h t,e=>by
  cases x with
  | int b=>
   obtain ⟨cs,e1,rfl⟩:=Option.map_eq_some_iff.mp (show (fj r).map (b::·)=some bs from e)
   cases h
   rw [j9 t e1]
   rfl
  | _=>cases e
theorem qz {K:Frag} {O:Addr→Prop} {H:Hp}:∀ {vs:List V} {xs:List PyData} {bs:List Str},Reps K O H vs xs→gp xs=some bs→vs=bs.map V.str
 | _,_,_,.nil,e=>by cases e; rfl
 | _,x::r,bs,.cons h t,e=>by
  cases x with
  | str b=>
   obtain ⟨cs,e1,rfl⟩:=Option.map_eq_some_iff.mp (show (gp r).map (b::·)=some bs from e)
   cases h
   rw [qz t e1]
   rfl
  | _=>cases e
def dv:List PyData→Option PyData
 | [.list xs]=>(ie xs).map fun bs=>.bool (bs.all id)
 | _=>none
theorem ja (hc:X.calm=true:=by rfl):eI X (.builtin "all") dv:=⟨_,yv hc,fun O ts H T vs xs d Q hc h e q=>by
 unfold dv at e
 split at e
 ·obtain ⟨bs,e1,rfl⟩:=Option.map_eq_some_iff.mp e
  obtain ⟨v,rfl,g⟩:=dk h
  obtain ⟨a,vs,rfl,t,r⟩:=g.lst
  rw [qq r e1] at t
  exact ⟨a,bs,rfl,t,q _ H (.refl _ _) hc (.bl _)⟩
 ·cases e⟩
def eJ:List PyData→Option PyData
 | [.list xs]=>(fj xs).map fun bs=>.int bs.sum
 | _=>none
theorem n8 (hc:X.calm=true:=by rfl):eI X (.builtin "sum") eJ:=⟨_,yt hc,fun O ts H T vs xs d Q hc h e q=>by
 unfold eJ at e
 split at e
 ·obtain ⟨bs,e1,rfl⟩:=Option.map_eq_some_iff.mp e
  obtain ⟨v,rfl,g⟩:=dk h
  obtain ⟨a,vs,rfl,t,r⟩:=g.lst
  rw [j9 r e1] at t
  exact ⟨a,bs,rfl,t,q _ H (.refl _ _) hc (.int _)⟩
 ·cases e⟩
def iY:PyData→PyData→Option PyData
 | .list xs,.int d=>(fj xs).map fun bs=>.int (K1.fq d bs)
 | _,_=>none
theorem Ac {e ed:Expr} {f fd:FE} {p pos kpos:Pos} (hm:X.mg "max" = none) (ha:DE X e f) (hd:DE X ed fd) (hc:X.calm=true:=by rfl) (hg:Gl X "max":=by rfl) (hs:starEach [e] X.env=(false,eval e X.env)::starEach [] X.env:=by exact bQ rfl)
  (h1:backTo pos (starEach [e] X.env)=(false,eval e X.env)::backTo pos (starEach [] X.env):=by exact o7 rfl)
  (h2:(backTo pos (starEach [e] X.env)).any (·.1)=false:=by exact dM rfl) (h3:(backToKw pos (keywordEach [⟨some "default",ed,kpos⟩] X.env)).all (·.1.isSome)=true:=by rfl)
  (h4:(backToKw pos (keywordEach [⟨some "default",ed,kpos⟩] X.env)).any (·.1.isNone)=false:=by rfl) (h5:(backToKw pos (keywordEach [⟨some "default",ed,kpos⟩] X.env)).filterMap (·.1)=[Str.ofString "default"]:=by rfl) :
  DE X (.Call (.Name "max" p) [e] [⟨some "default",ed,kpos⟩] pos) (ae iY f fd):=by
 refine ⟨?_⟩
 refine bD (zk hc hg hm ha.pe hd.pe hs h1 h2 h3 h4 h5) fun σ H Q=>?_
 rintro ⟨O,ts,ρ,T,w,T',hc,re,e,q⟩
 obtain ⟨w1,T1,e1,e⟩:=aM e
 obtain ⟨w2,T2,e2,e⟩:=aM e
 obtain ⟨x,y,d,h1,h2,h3,rfl,rfl⟩:=iS e
 refine ⟨O,ts,ρ,T,w1,T1,hc,re,e1,fun v1 H1 s1 hc1 r1=>⟨v1,rfl,?_⟩⟩
 refine ⟨O,ts,ρ,T1,w2,T',hc1,re.mono hc s1,e2,fun v2 H2 s2 hc2 r2=>?_⟩
 have k1:=hc2.view (r1.mono hc1 s2) h1
 have k2:=hc2.view r2 h2
 unfold iY at h3
 split at h3
 ·obtain ⟨bs,e4,rfl⟩:=Option.map_eq_some_iff.mp h3
  obtain ⟨a,vs,rfl,t,r⟩:=k1.lst
  rw [j9 r e4] at t
  exact ⟨a,bs,_,rfl,k2.int,t,q _ H2 (s1.trans s2) hc2 (.int _)⟩
 ·cases h3
def jQ:List PyData→Option PyData
 | [.int i]=>if i.natAbs.log2 < 1920 then some (.str (toString i)) else none
 | _=>none
theorem C9:eI X (.type "str") jQ:=⟨_,vv,fun O ts H T vs xs d Q hc h e q=>by
 unfold jQ at e
 split at e
 ·split at e
  ·rename_i hz
   cases e
   obtain ⟨v,rfl,g⟩:=dk h
   cases g.int
   exact ⟨_,rfl,hz,q _ H (.refl _ _) hc (.str _)⟩
  ·cases e
 ·cases e⟩
def ck:List PyData→Option PyData
 | [.list xs]=>some (.tuple xs)
 | [.tuple xs]=>some (.tuple xs)
 | _=>none
theorem fH:eI X (.type "tuple") ck:=⟨_,uZ,fun O ts H T vs xs d Q hc h e q=>by
 unfold ck at e
 split at e
 ·cases e
  obtain ⟨v,rfl,g⟩:=dk h
  obtain ⟨a,vs,rfl,t,r⟩:=g.lst
  exact ⟨a,vs,rfl,.inl ⟨t,fun p hp=>q _ _ (.new hp _) (hc.new hp _) (hc.newT hp r)⟩⟩
 ·cases e
  obtain ⟨v,rfl,g⟩:=dk h
  obtain ⟨a,vs,e1,t,r⟩:=g.tup
  subst e1
  exact ⟨a,vs,rfl,.inr ⟨t.sq,q _ H (.refl _ _) hc (.tup t r)⟩⟩
 ·cases e⟩
def gM:List PyData→Option PyData
 | [.list xs]=>some (.list xs)
 | [.tuple xs]=>some (.list xs)
 | _=>none
theorem BW:eI X (.type "list") gM:=⟨_,vz,fun O ts H T vs xs d Q hc h e q=>by
 unfold gM at e
 split at e
 ·cases e
  obtain ⟨v,rfl,g⟩:=dk h
  obtain ⟨a,vs,rfl,t,r⟩:=g.lst
  exact ⟨a,vs,rfl,.inl t,fun p hp=>q _ _ (.new hp _) (hc.new hp _) (hc.newL hp r)⟩
 ·cases e
  obtain ⟨v,rfl,g⟩:=dk h
  obtain ⟨a,vs,rfl,t,r⟩:=g.tup
  exact ⟨a,vs,rfl,.inr t.sq,fun p hp=>q _ _ (.new hp _) (hc.new hp _) (hc.newL hp r)⟩
 ·cases e⟩
theorem x4:MtR X "str.join" (fun x vs H Q=>∃ (z:Str) (l:Addr) (ys:List Str),x=.str z∧vs=[.ref l]∧SqL X.K H l (ys.map V.str)∧(ys.map (·.length)).sum + ys.length * z.length≤16777216∧Q (.str (Str.join z ys)) H):=by
 intro pins s σ H x vs v us Q I rx rv h
 obtain ⟨z,l,ys,rfl,rfl,hq,hz,q⟩:=h
 obtain ⟨t,rfl⟩:=rx
 obtain ⟨u,rfl,ru⟩:=vals1 rv
 cases ru
 obtain ⟨its,rw',pl,_⟩:=I.list hq
 refine join_list (ys:=ys) pl.isList (by simpa using v4 rw') hz fun t' k=>⟨.str _,H,I.tok _,⟨t',?_⟩,q⟩
 show Value.str (Builtin.Str.glued z ys) t'=_
 rw [StrLaws.glued_eq_join]
def i5:PyData→PyData→Option PyData
 | .str z,.list xs=>match gp xs with
  | some ys=>if (ys.map (·.length)).sum + ys.length * z.length≤16777216 then some (.str (Str.join z ys)) else none
  | none=>none
 | _,_=>none
theorem Ae {o e:Expr} {fo fe:FE} {apos cpos:Pos} (ho:DE X o fo) (he:DE X e fe)
  (hbase:attributeBase o "join" X.env (eval o X.env)=eval o X.env:=by rfl)
  (hfew:((backTo cpos (starEach [e] X.env)).all (fun x=>!x.1) && (backToKw cpos (keywordEach [] X.env)).all (fun x=>x.1.isSome)
   && decide (([e]:List Expr).length + ([]:List Keyword).length + (if ([]:List Keyword).isEmpty then 0 else 1) < 30))=true:=by exact lK rfl)
  (hline:(apos.endLine == cpos.line)=true:=by rfl) (hse:starEach [e] X.env=(false,eval e X.env)::starEach [] X.env:=by exact bQ rfl) (hplain:(backTo cpos (starEach [] X.env)).any (·.1)=false:=by exact dM rfl) :
  DE X (.Call (.Attribute o "join" apos) [e] [] cpos) (ae i5 fo fe):=by
 refine ⟨?_⟩
 refine bD (jG PySem.F.plainAttrs_str PySem.F.slot_str_join PySem.F.type_str_join x4 ho.pe (cq he.pe dO hse) hbase hfew hline hse hplain) fun σ H Q=>?_
 rintro ⟨O,ts,ρ,T,w,T',hc,re,e,q⟩
 obtain ⟨w1,T1,e1,e⟩:=aM e
 obtain ⟨w2,T2,e2,e⟩:=aM e
 obtain ⟨x,y,d,h1,h2,h3,rfl,rfl⟩:=iS e
 unfold i5 at h3
 split at h3
 ·rename_i z xs
  split at h3
  ·rename_i ys hy
   split at h3
   ·rename_i hz
    cases h3
    refine ⟨O,ts,ρ,T,w1,T1,hc,re,e1,fun v1 H1 s1 hc1 r1=>?_⟩
    have ev:v1=.str z:=by
     cases w1 with
     | d x=>cases h1; cases (show Rep X.K O H1 v1 _ from r1); rfl
     | tp k=>exact (by
       have h1':(T'[k]?).bind jc=some (PyData.str z):=h1
       cases hk:T'[k]? with
       | none=>rw [hk] at h1'; cases h1'
       | some xs=>
        rw [hk] at h1'
        have e2:(if isO xs=true then none else some (PyData.list xs))=some (PyData.str z):=h1'
        split at e2 <;> cases e2)
     | loc zs=>cases zs <;> cases h1
    subst ev
    refine ⟨rfl,O,ts,ρ,T1,w2,T',hc1,re.mono hc s1,e2,fun v2 H2 s2 hc2 r2=>?_⟩
    obtain ⟨a,vs,rfl,t,r⟩:=(hc2.view r2 h2).lst
    rw [qz r hy] at t
    exact ⟨z,a,ys,rfl,rfl,t,hz,q _ H2 (s1.trans s2) hc2 (.str _)⟩
   ·cases h3
  ·cases h3
 ·cases h3
end
mutual
def jJ:PyData→Bool
 | .list _=>false
 | .tuple ds=>kG ds
 | .dict kvs=>kH kvs
 | .none | .bool _ | .int _ | .str _=>true
def kG:List PyData→Bool
 | []=>true
 | d::r=>jJ d && kG r
def kH:List (PyData×PyData)→Bool
 | []=>true
 | (_,v)::r=>jJ v && kH r
end
section
variable {X:Cx} {pins:List (Addr×Obj)} {σ:L2.St} {H:Hp} {s:Shared} {O:Addr→Prop}
theorem w8 {h:Heap} {k:Key} {v:Value} (e:gv k v=true):Reads h v (jV k) []:=by
 rcases eQ e with ⟨i,t,rfl,rfl⟩ | ⟨x,t,rfl,rfl⟩
 ·exact .int i t
 ·exact .str x t
mutual
theorem Rep.reads (I:Inv X pins σ H s):∀ {v:V} {d:PyData} {u:Value},Rep X.K O H v d→RelV v u→∃ as,Reads s.heap u d as∧(jJ d=true→sysModules∉as)
 | _,_,_,.non,r=>by cases r; exact ⟨_,.none,fun _=>by simp⟩
 | _,_,_,.bl b,r=>by cases r; exact ⟨_,.bool b,fun _=>by simp⟩
 | _,_,_,.int i,r=>by obtain ⟨t,rfl⟩:=r; exact ⟨_,.int i t,fun _=>by simp⟩
 | _,_,_,.str x,r=>by obtain ⟨t,rfl⟩:=r; exact ⟨_,.str x t,fun _=>by simp⟩
 | _,_,_,.tup (a:=a) (vs:=vs) h rs,r=>by
  cases r
  obtain ⟨its,rv,⟨o,e,c,n,dd⟩,_⟩:=I.tuple h.sq
  obtain ⟨as,q,f⟩:=Reps.reads I rs rv
  exact ⟨as,.tuple e c dd (by simpa using q),f⟩
 | _,_,_,.lst (a:=a) (vs:=vs) h rs,r=>by
  cases r
  obtain ⟨its,rv,pl,_⟩:=I.list h.sq
  obtain ⟨o,n,e,c,_,dd⟩:=pl
  obtain ⟨as,q,f⟩:=Reps.reads I rs rv
  exact ⟨_,.list e c dd (by simpa using q),fun z=>by cases z⟩
 | _,_,_,.dct (a:=a) (kvs:=kvs) (ds:=ds) _ h rk,r=>by
  cases r
  obtain ⟨z,y,vs,kv,o,es,ep,e,ed,dd,_,ek,_⟩:=(show ObjOk X.prog X.w H s.heap a (.dK kvs) from (I.hok a _ h).2)
  obtain ⟨bs,q1,q2,f⟩:=RepK.reads I rk kv ek
  refine ⟨_,.dict (kvs:=ds) (as:=[]) (bs:=bs) e ed.1 dd q1 q2,fun zz hm=>?_⟩
  rcases List.mem_cons.mp (by simpa using hm:sysModules∈a::bs) with q | q
  ·rw [q] at y
   simp at y
  ·exact f zz q
theorem Reps.reads (I:Inv X pins σ H s):∀ {vs:List V} {ds:List PyData} {us:List Value},Reps X.K O H vs ds→Vals vs us→∃ as,ReadsAll s.heap us ds as∧(kG ds=true→sysModules∉as)
 | _,_,_,.nil,r=>by cases r; exact ⟨_,.nil,fun _=>by simp⟩
 | _,_,_,.cons (d:=d) (ds:=ds) q t,r=>by
  cases r with
  | cons r1 r2=>
   obtain ⟨as,h1,f1⟩:=Rep.reads I q r1
   obtain ⟨bs,h2,f2⟩:=Reps.reads I t r2
   refine ⟨as++bs,.cons h1 h2,fun z=>?_⟩
   have z':(jJ d && kG ds)=true:=z
   rw [Bool.and_eq_true] at z'
   intro hm
   rcases List.mem_append.mp hm with hm | hm
   ·exact f1 z'.1 hm
   ·exact f2 z'.2 hm
theorem RepK.reads (I:Inv X pins σ H s):∀ {kvs:List (Key×V)} {ds:List (PyData×PyData)} {vs:List (Key×Value)} {es:List DictEntry},RepK X.K O H kvs ds→KV kvs vs→Pairs (bW X.prog X.w) es vs →
  ∃ bs,ReadsAll s.heap (es.map (·.key)) (ds.map (·.1)) []∧ReadsAll s.heap (es.map (·.val)) (ds.map (·.2)) bs∧(kH ds=true→sysModules∉bs)
 | _,_,_,_,.nil,r,ek=>by
  cases r
  cases ek
  exact ⟨[],.nil,.nil,fun _=>by simp⟩
 | _,_,_,_,.cons (k:=k) (d:=d) (ds:=ds) q t,r,ek=>by
  cases r with
  | cons r1 r2=>
   cases ek with
   | cons e1 e1' e2=>
    obtain ⟨as,h1,f1⟩:=Rep.reads I q r1.2
    obtain ⟨bs,h2,h3,f2⟩:=RepK.reads I t r2 e2
    rw [← e1'] at h1
    have k1:=w8 (h:=s.heap) (show gv _ _=true from e1)
    rw [← r1.1] at k1
    refine ⟨as++bs,.cons (as:=[]) (bs:=[]) k1 h2,.cons h1 h3,fun z=>?_⟩
    have z':(jJ d && kH ds)=true:=z
    rw [Bool.and_eq_true] at z'
    intro hm
    rcases List.mem_append.mp hm with hm | hm
    ·exact f1 z'.1 hm
    ·exact f2 z'.2 hm
end
end
section
variable {X:Cx}
end
structure Df (K:Frag) (name:Str) (st:Stmt):Prop where
 ex:∃ (f:Addr) (oc:Value) (od an:Option Addr) (sl:Array (Option Value)) (kV dc pm cd ct:Value),PySem.W.nsIn K mainGlobals name=some (some (.ref f)) ∧
  K.lookup f=some ⟨oc,od,.func (PySem.W.fnOf name name (fG st) (d3 st) (aN st) .none kV dc pm an cd ct),sl⟩∧PySem.W.codeIn K cd name=true∧PySem.W.keepIn K (.ref f)=true
theorem C4 {K:Frag} {name:Str} {st:Stmt} {f:Addr} {oc:Value} {od an:Option Addr} {sl:Array (Option Value)} {kV dc pm cd ct:Value} (a:PySem.W.nsIn K mainGlobals name=some (some (.ref f)))
  (l:K.lookup f=some ⟨oc,od,.func (PySem.W.fnOf name name (fG st) (d3 st) (aN st) .none kV dc pm an cd ct),sl⟩) (c:PySem.W.codeIn K cd name=true) (k:PySem.W.keepIn K (.ref f)=true):Df K name st:=⟨f,oc,od,an,sl,kV,dc,pm,cd,ct,a,l,c,k⟩
theorem Df.fn {P:Program} {w:World} {K:Frag} {mg:Str→Option Value} {base h:Heap} {name:Str} {st:Stmt} {ps:List Str} {k:Nat} {sp:Sp} (d:Df K name st) (X:K.In h) (G:h.Ns mainGlobals mg)
  (hb:∀ (kV doc pm:Value) (an:Option Addr) (cdv ct:Value) (us:List Value),us.length=ps.length→bindArgs (PySem.W.fnOf name name (fG st) (d3 st) (aN st) .none kV doc pm an cdv ct) ⟨us,[]⟩=pure (ps.zip us))
  (ok:∀ f fd,Fun K name name st f fd→FnOk P w K mg base CX0 k f fd ps sp):Fn P w K mg base name ps k sp:=by
 obtain ⟨f,oc,od,an,sl,kV,dc,pm,cd,ct,a,l,c,kp⟩:=d.ex
 have F:=sH (st:=st) l c kp
 exact ⟨f,_,ok f _ F,F.binds hb,kp,PySem.W.mg_of X G a⟩
theorem eV {P:Program} {w:World} {K:Frag} {mg:Str→Option Value} {base:Heap} {k n:Nat} {f:Addr} {fd:FuncData} {ps:List Str}:FnOk P w K mg base CX0 k f fd ps (spM K n fun _ _=>none):=by
 have no:∀ vs H Q E,¬ spM K n (fun _ _=>none) vs H Q E:=fun vs H Q E h=>by
  obtain ⟨O,ts,T,ws,x,T',_,_,_,e,_⟩:=h
  cases e
 exact ⟨fun vs H Q E h=>absurd h (no vs H Q E),fun A outer s H args us vs Q E _ _ _ _ h=>absurd h (no vs H Q E)⟩
def kU (K:Frag):Sp:=fun vs H Q _=>∃ (a:Addr) (ns:List Int),vs=[.ref a]∧SqL K H a (ns.map V.int)∧ns.length≤63∧∀ H',Q (.bl true) H'
def aS (ns:List Int):PyData:=.list (ns.map .int)
theorem pf {K:Frag} {O:Addr→Prop} {H:Hp}:∀ ns:List Int,Reps K O H (ns.map V.int) (ns.map PyData.int)
 | []=>.nil
 | _::r=>.cons (.int _) (pf r)
section
variable {α β:Type} {ρ:Rho} {T:Tp} {f g:FE} {c c':FT} {s s':FS} {a:FA} {w w':W} {x y:PyData}
@[simp] theorem jB {b:α} {k:α→Tp→Option β}:bnd (some (b,T)) k=k b T:=rfl
@[simp] theorem FQ {k:α→Tp→Option β}:bnd none k=none:=rfl
@[simp] theorem FR {p:Prop} [Decidable p] {u v:Option (α×Tp)} {k:α→Tp→Option β}:bnd (if p then u else v) k=if p then bnd u k else bnd v k:=by split <;> rfl
@[simp] theorem lm {N:Nat} {ws:List W}:aX N s ws T=if fN ws=true then dS (s (ws.map some++List.replicate (N - ws.length) none) T) else none:=rfl
@[simp] theorem j5:fN []=true:=rfl
@[simp] theorem j4 {r:List W}:fN (.d x::r)=fN r:=rfl
@[simp] theorem Ee {i:Nat} {r:List W}:fN (.tp i::r)=fN r:=rfl
@[simp] theorem FK {r:Rho}:dS (some ((.rt x,r),T))=some (x,T):=rfl
@[simp] theorem FM {r:Rho}:dS (some ((.nx,r),T))=some (.none,T):=rfl
@[simp] theorem FN {p:Prop} [Decidable p] {u v:Option ((Fl×Rho)×Tp)}:dS (if p then u else v)=if p then dS u else dS v:=by split <;> rfl
def cZ (s':FS) (p:Fl×Rho) (T:Tp):Option ((Fl×Rho)×Tp):=match p with
 | (.nx,ρ1)=>s' ρ1 T
 | (fl,ρ1)=>some ((fl,ρ1),T)
@[simp] theorem sN:ak s s' ρ T=bnd (s ρ T) (cZ s'):=rfl
@[simp] theorem E1 {ρ1:Rho}:cZ s' (.nx,ρ1) T=s' ρ1 T:=rfl
@[simp] theorem EZ {ρ1:Rho}:cZ s' (.rt x,ρ1) T=some ((.rt x,ρ1),T):=rfl
@[simp] theorem E4 {ρ1:Rho}:cZ s' (.bk,ρ1) T=some ((.bk,ρ1),T):=rfl
@[simp] theorem E3 {ρ1:Rho}:cZ s' (.ct,ρ1) T=some ((.ct,ρ1),T):=rfl
@[simp] theorem Fg:aC ρ T=some ((.nx,ρ),T):=rfl
def ifK (s s':FS) (ρ:Rho) (b:Bool) (T1:Tp):Option ((Fl×Rho)×Tp):=if b=true then s ρ T1 else s' ρ T1
@[simp] theorem nW:fIf c s s' ρ T=bnd (c ρ T) (ifK s s' ρ):=rfl
@[simp] theorem nE {b:Bool}:ifK s s' ρ b T=if b=true then s ρ T else s' ρ T:=rfl
def t7 (ρ:Rho):W→Tp→Option ((Fl×Rho)×Tp):=fun w T1=>match w with
 | .d x=>some ((.rt x,ρ),T1)
 | _=>none
@[simp] theorem Gb:av f ρ T=bnd (f (cg ρ) T) (t7 ρ):=rfl
@[simp] theorem E8:t7 ρ (.d x) T=some ((.rt x,ρ),T):=rfl
@[simp] theorem FH:cg []=[]:=rfl
@[simp] theorem FD {r:Rho}:cg (none::r)=none::cg r:=rfl
@[simp] theorem FG {r:Rho}:cg (some (.d x)::r)=some (.d x)::cg r:=rfl
@[simp] theorem FC {i:Nat} {r:Rho}:cg (some (.tp i)::r)=some (.tp i)::cg r:=rfl
@[simp] theorem FF {x:PyData} {r:Rho}:cg (some (.loc x)::r)=some (.d x)::cg r:=rfl
def lF (i:Nat) (ρ:Rho):W→Tp→Option ((Fl×Rho)×Tp):=fun w T1=>match w with
 | .d x=>some ((.nx,ρ.set i (some (.d x))),T1)
 | .tp k=>some ((.nx,ρ.set i (some (.tp k))),T1)
 | .loc _=>none
@[simp] theorem sM {i:Nat}:aE i f ρ T=bnd (f ρ T) (lF i ρ):=rfl
@[simp] theorem EY {i:Nat}:lF i ρ (.d x) T=some ((.nx,ρ.set i (some (.d x))),T):=rfl
@[simp] theorem EW {i k:Nat}:lF i ρ (.tp k) T=some ((.nx,ρ.set i (some (.tp k))),T):=rfl
def tw (i:Nat) (ρ:Rho) (T:Tp):Option (List PyData)→Option ((Fl×Rho)×Tp)
 | some xs=>if xs.length≤1000 then some ((.nx,ρ.set i (some (.loc (.list xs)))),T) else none
 | none=>none
@[simp] theorem EX {i:Nat}:cF i a ρ T=bnd (a ρ T) fun ws T1=>tw i ρ T1 (fm ws):=rfl
@[simp] theorem Et {i:Nat} {xs:List PyData}:tw i ρ T (some xs)=if xs.length≤1000 then some ((.nx,ρ.set i (some (.loc (.list xs)))),T) else none:=rfl
def ut (i:Nat) (ρ:Rho) (x:PyData) (T:Tp) (o:Option (Option W)):Option ((Fl×Rho)×Tp):=match o with
 | some (some (.loc (.list xs)))=>if xs.length < sizeLine then some ((.nx,ρ.set i (some (.loc (.list (xs++[x]))))),T) else none
 | _=>none
def ur (i:Nat) (ρ:Rho):W→Tp→Option ((Fl×Rho)×Tp):=fun w T1=>match w with
 | .d x=>(match ρ[i]? with
  | some (some (.loc (.list xs)))=>if xs.length < sizeLine then some ((.nx,ρ.set i (some (.loc (.list (xs++[x]))))),T1) else none
  | _=>none)
 | _=>none
@[simp] theorem GZ {i:Nat}:cj i f ρ T=bnd (f ρ T) (ur i ρ):=rfl
@[simp] theorem FV {i:Nat}:ur i ρ (.d x) T=ut i ρ x T ρ[i]?:=rfl
@[simp] theorem FW {i:Nat} {xs:List PyData}:ut i ρ x T (some (some (.loc (.list xs))))=if xs.length < sizeLine then some ((.nx,ρ.set i (some (.loc (.list (xs++[x]))))),T) else none:=rfl
@[simp] theorem G2 {l u:FO}:fSl f l u ρ T=bnd (f ρ T) fun w T1=>bnd (l ρ T1) fun lo T2=>bnd (u ρ T2) fun hi T3=>op1 (fun x=>hU x lo hi) T3 w:=rfl
@[simp] theorem Gj:bL ρ T=some (none,T):=rfl
def pK:W→Tp→Option (Option Int×Tp):=fun w T1=>match w with
 | .d (.int i)=>some (some i,T1)
 | _=>none
@[simp] theorem Ha:fP f ρ T=bnd (f ρ T) pK:=rfl
@[simp] theorem G3 {i:Int}:pK (.d (.int i)) T=some (some i,T):=rfl
@[simp] theorem F9 {z:Str} {lo hi:Option Int}:hU (.str z) lo hi=if z.length≤sizeLine then some (.str (Txt.slice z lo hi)) else none:=rfl
@[simp] theorem F8 {xs:List PyData} {lo hi:Option Int}:hU (.tuple xs) lo hi=some (.tuple (bv xs lo hi)):=rfl
@[simp] theorem Ga {xs:List PyData} {lo hi:Option Int}:hU (.list xs) lo hi=some (.list (bv xs lo hi)):=rfl
@[simp] theorem zU {o:W} {r:Rho}:aa 0 (some o::r) T=some (o,T):=rfl
@[simp] theorem gh {i:Nat} {o:Option W} {r:Rho}:aa (i + 1) (o::r) T=aa i r T:=rfl
@[simp] theorem zT {o:Option W} {r:Rho}:aa 1 (o::r) T=aa 0 r T:=gh
@[simp] theorem EQ {o:Option W} {r:Rho}:aa 2 (o::r) T=aa 1 r T:=gh
@[simp] theorem EO {o:Option W} {r:Rho}:aa 3 (o::r) T=aa 2 r T:=gh
@[simp] theorem EN {o:Option W} {r:Rho}:aa 4 (o::r) T=aa 3 r T:=gh
@[simp] theorem EM {o:Option W} {r:Rho}:aa 5 (o::r) T=aa 4 r T:=gh
@[simp] theorem EL {o:Option W} {r:Rho}:aa 6 (o::r) T=aa 5 r T:=gh
@[simp] theorem EK {o:Option W} {r:Rho}:aa 7 (o::r) T=aa 6 r T:=gh
@[simp] theorem EJ {o:Option W} {r:Rho}:aa 8 (o::r) T=aa 7 r T:=gh
@[simp] theorem EI {o:Option W} {r:Rho}:aa 9 (o::r) T=aa 8 r T:=gh
@[simp] theorem Hb:fC x ρ T=some (.d x,T):=rfl
@[simp] theorem EH:view T (.d x)=some x:=rfl
@[simp] theorem Ep {i:Nat}:view T (.tp i)=(T[i]?).bind jc:=rfl
@[simp] theorem E5 {xs:List PyData}:jc xs=if isO xs=true then none else some (.list xs):=rfl
@[simp] theorem EG {xs r:List PyData}:isO (.list xs::r)=false:=rfl
@[simp] theorem Er {xs:List PyData}:view T (.loc (.list xs))=some (.list xs):=rfl
@[simp] theorem D9 {xs:List (PyData×PyData)}:view T (.loc (.dict xs))=some (.dict xs):=rfl
noncomputable def mkD (T:Tp) (o:Option PyData):Option (W×Tp):=match o with
 | some d=>some (.d d,T)
 | none=>none
@[simp] theorem Gr:mkD T (some x)=some (.d x,T):=rfl
@[simp] theorem Fj:mkD T none=none:=rfl
@[simp] theorem Fk {p:Prop} [Decidable p] {u v:Option PyData}:mkD T (if p then u else v)=if p then mkD T u else mkD T v:=by split <;> rfl
def uq (o:PyData→PyData→Option PyData) (g:FE) (ρ:Rho) (w1:W) (T1:Tp):Option (W×Tp):=bnd (g ρ T1) fun w2 T2=>op2 o T2 w1 w2
@[simp] theorem BI {o:PyData→PyData→Option PyData}:ae o f g ρ T=bnd (f ρ T) (uq o g ρ):=rfl
@[simp] theorem FU {o:PyData→PyData→Option PyData}:uq o g ρ w T=bnd (g ρ T) fun w2 T2=>op2 o T2 w w2:=rfl
@[simp] theorem Gg {o:PyData→PyData→Option PyData}:op2 o T (.d x) (.d y)=mkD T (o x y):=rfl
@[simp] theorem Fc {o:PyData→PyData→Option PyData} {zs xs:List PyData} {r:Tp}:op2 o ((.list zs::xs)::r) (.tp 0) (.d y)=mkD ((.list zs::xs)::r) (o (.list (.list zs::xs)) y):=rfl
@[simp] theorem G1 {o:PyData→Option PyData}:fUn o f ρ T=bnd (f ρ T) fun w1 T1=>op1 o T1 w1:=rfl
@[simp] theorem Gi {o:PyData→Option PyData}:op1 o T (.d x)=mkD T (o x):=rfl
@[simp] theorem GY {b:Bool}:asB (.d (.bool b))=some b:=rfl
def tY:W→Tp→Option (Bool×Tp):=fun w T1=>match asB w with
 | some b=>some (b,T1)
 | none=>none
@[simp] theorem F4:au f ρ T=bnd (f ρ T) tY:=rfl
@[simp] theorem ER {b:Bool}:tY (.d (.bool b)) T=some (b,T):=rfl
@[simp] theorem F5:aR f ρ T=bnd (f ρ T) fun w T1=>lD T1 w:=rfl
def tZ (T:Tp) (o:Option Bool):Option (Bool×Tp):=match o with
 | some b=>some (b,T)
 | none=>none
@[simp] theorem EU:lD T (.d x)=tZ T (lC x):=rfl
@[simp] theorem ES {b:Bool}:tZ T (some b)=some (b,T):=rfl
@[simp] theorem ET {b:Bool}:lC (.bool b)=some b:=rfl
def tT (c':FT) (ρ:Rho) (b:Bool) (T1:Tp):Option (Bool×Tp):=if b=true then c' ρ T1 else some (false,T1)
@[simp] theorem FY:cz c c' ρ T=bnd (c ρ T) (tT c' ρ):=rfl
@[simp] theorem EF {b:Bool}:tT c' ρ b T=if b=true then c' ρ T else some (false,T):=rfl
def uf (c':FT) (ρ:Rho) (b:Bool) (T1:Tp):Option (Bool×Tp):=if b=true then some (true,T1) else c' ρ T1
@[simp] theorem Ge:bE c c' ρ T=bnd (c ρ T) (uf c' ρ):=rfl
@[simp] theorem Fb {b:Bool}:uf c' ρ b T=if b=true then some (true,T) else c' ρ T:=rfl
@[simp] theorem Fe:bF c ρ T=bnd (c ρ T) fun b T1=>some (!b,T1):=rfl
@[simp] theorem Es:a6 ρ T=some (true,T):=rfl
def uu (g:FE) (ρ:Rho) (w:W) (T:Tp):Option (W×Tp):=match asB w with
 | some b=>if b=true then g ρ T else some (.d (.bool false),T)
 | none=>none
@[simp] theorem FX:bI f g ρ T=bnd (f ρ T) (uu g ρ):=rfl
@[simp] theorem FZ {b:Bool}:uu g ρ (.d (.bool b)) T=if b=true then g ρ T else some (.d (.bool false),T):=rfl
def orK (g:FE) (ρ:Rho) (w:W) (T:Tp):Option (W×Tp):=match asB w with
 | some b=>if b=true then some (.d (.bool true),T) else g ρ T
 | none=>none
@[simp] theorem Gd:oq f g ρ T=bnd (f ρ T) (orK g ρ):=rfl
@[simp] theorem Gf {b:Bool}:orK g ρ (.d (.bool b)) T=if b=true then some (.d (.bool true),T) else g ρ T:=rfl
def ui (w:W) (T:Tp):Option (W×Tp):=match asB w with
 | some b=>some (.d (.bool (!b)),T)
 | none=>none
@[simp] theorem Fd:gy f ρ T=bnd (f ρ T) ui:=rfl
@[simp] theorem Ff {b:Bool}:ui (.d (.bool b)) T=some (.d (.bool (!b)),T):=rfl
def uj (f g:FE) (ρ:Rho) (b:Bool) (T1:Tp):Option (W×Tp):=if b=true then f ρ T1 else g ρ T1
@[simp] theorem GM:bH c f g ρ T=bnd (c ρ T) (uj f g ρ):=rfl
@[simp] theorem Fy {b:Bool}:uj f g ρ b T=if b=true then f ρ T else g ρ T:=rfl
def chK (o':PyData→PyData→Option PyData) (h:FE) (ρ:Rho) (w2 w:W) (T:Tp):Option (W×Tp):=match asB w with
 | some b=>if b=true then bnd (h ρ T) fun w3 T4=>op2 o' T4 w2 w3 else some (.d (.bool false),T)
 | none=>none
@[simp] theorem ED {o o':PyData→PyData→Option PyData} {h:FE}:d7 o o' f g h ρ T=bnd (f ρ T) fun w1 T1=>bnd (g ρ T1) fun w2 T2=>bnd (op2 o T2 w1 w2) (chK o' h ρ w2):=rfl
@[simp] theorem GW {o':PyData→PyData→Option PyData} {h:FE} {b:Bool}:chK o' h ρ w (.d (.bool b)) T=if b=true then bnd (h ρ T) fun w3 T4=>op2 o' T4 w w3 else some (.d (.bool false),T):=rfl
@[simp] theorem BH:ag ρ T=some ([],T):=rfl
def tQ (a:FA) (ρ:Rho) (w:W) (T1:Tp):Option (List W×Tp):=bnd (a ρ T1) fun ws T2=>some (w::ws,T2)
@[simp] theorem zX:ab f a ρ T=bnd (f ρ T) (tQ a ρ):=rfl
@[simp] theorem yl:tQ a ρ w T=bnd (a ρ T) fun ws T2=>some (w::ws,T2):=rfl
@[simp] theorem D8:views T []=some []:=rfl
def lq (x:PyData) (o:Option (List PyData)):Option (List PyData):=match o with
 | some xs=>some (x::xs)
 | none=>none
@[simp] theorem EC {xs:List PyData}:lq x (some xs)=some (x::xs):=rfl
@[simp] theorem Eo {r:List W}:views T (.d x::r)=lq x (views T r):=rfl
@[simp] theorem D7 {xs:List PyData} {r:List W}:views T (.loc (.list xs)::r)=lq (.list xs) (views T r):=rfl
@[simp] theorem En:fm []=some []:=rfl
@[simp] theorem EB {r:List W}:fm (.d x::r)=lq x (fm r):=rfl
def sqK (mk:List PyData→PyData) (T:Tp):Option (List PyData)→Option (W×Tp)
 | some xs=>if xs.length≤1000 then some (.d (mk xs),T) else none
 | none=>none
@[simp] theorem E2 {mk:List PyData→PyData}:ao mk a ρ T=bnd (a ρ T) fun ws T1=>sqK mk T1 (fm ws):=rfl
@[simp] theorem F7 {mk:List PyData→PyData} {xs:List PyData}:sqK mk T (some xs)=if xs.length≤1000 then some (.d (mk xs),T) else none:=rfl
def cbK (o:List PyData→Option PyData) (T:Tp) (v:Option (List PyData)):Option (W×Tp):=match v with
 | some xs=>(match o xs with
  | some d=>some (.d d,T)
  | none=>none)
 | none=>none
@[simp] theorem G9 {o:List PyData→Option PyData}:fCB o a ρ T=bnd (a ρ T) fun ws T1=>cbK o T1 (views T1 ws):=rfl
@[simp] theorem GX {o:List PyData→Option PyData} {xs:List PyData}:cbK o T (some xs)=mkD T (o xs):=rfl
@[simp] theorem zZ {m:FnM}:ar m a ρ T=bnd (a ρ T) fun ws T1=>bnd (m ws T1) fun x T2=>some (.d x,T2):=rfl
@[simp] theorem zY {it:FI}:bf it c f ρ T=bnd (it ρ T) fun ds T1=>bnd (bh c f ρ ds T1) fun ys T2=>some (.d (.list ys),T2):=rfl
def itK (T:Tp) (o:Option (List PyData)):Option (List PyData×Tp):=match o with
 | some xs=>some (xs,T)
 | none=>none
def itW:W→Tp→Option (List PyData×Tp):=fun w T1=>match w with
 | .d x=>(match ic x with
  | some xs=>some (xs,T1)
  | none=>none)
 | _=>none
@[simp] theorem Fu:br f ρ T=bnd (f ρ T) itW:=rfl
@[simp] theorem GH:itW (.d x) T=itK T (ic x):=rfl
@[simp] theorem GI {xs:List PyData}:itK T (some xs)=some (xs,T):=rfl
@[simp] theorem El {xs:List PyData}:ic (.list xs)=some xs:=rfl
@[simp] theorem Em {ds:List (PyData×PyData)}:ic (.dict ds)=some (ds.map (·.1)):=rfl
@[simp] theorem Ej {xs:List PyData}:ic (.tuple xs)=some xs:=rfl
@[simp] theorem Ek {z:Str}:ic (.str z)=if z.length≤sizeLine then some (signs z) else none:=rfl
def t6:W→Tp→Option (List PyData×Tp):=fun w T1=>match w with
 | .d (.int j)=>if cD j=true then some (cb 0 j.toNat,T1) else none
 | _=>none
@[simp] theorem E7:cG f ρ T=bnd (f ρ T) t6:=rfl
@[simp] theorem E6 {j:Int}:t6 (.d (.int j)) T=if cD j=true then some (cb 0 j.toNat,T) else none:=rfl
@[simp] theorem GQ {i:Nat} {it:FI}:cI i it s ρ T=bnd (it ρ T) fun ds T1=>forL i s ds ρ T1:=rfl
@[simp] theorem F6 {i j:Int}:jP (.int i) (.int j)=some (.int (i - j)):=rfl
@[simp] theorem Gq {i j:Int}:dq (.int i) (.int j)=if 0 < j then some (.int (i % j)) else none:=rfl
@[simp] theorem FJ {i j:Int}:ir (.int i) (.int j)=if 0 < j∧j < 1073741824 then some (.int (i / j)) else none:=rfl
@[simp] theorem Gc {i j:Int}:gC (.int i) (.int j)=if 0≤j∧j≤1000000∧i.natAbs < 2 ^ 64 then some (.int (i ^ j.toNat)) else none:=rfl
@[simp] theorem G4 {i j:Int}:ltD (.int i) (.int j)=some (.bool (decide (i < j))):=rfl
@[simp] theorem G5 {i j:Int}:leD (.int i) (.int j)=some (.bool (decide (i≤j))):=rfl
@[simp] theorem G7 {i j:Int}:gtD (.int i) (.int j)=some (.bool (decide (j < i))):=rfl
@[simp] theorem G8 {i j:Int}:geD (.int i) (.int j)=some (.bool (decide (j≤i))):=rfl
@[simp] theorem F3 {i j:Int}:az (.int i) (.int j)=some (.int (i + j)):=rfl
@[simp] theorem F1 {u v:Str}:az (.str u) (.str v)=if u.length + v.length≤sizeLine then some (.str (u++v)) else none:=rfl
@[simp] theorem F0 {u v:List PyData}:az (.tuple u) (.tuple v)=if u.length + v.length≤sizeLine then some (.tuple (u++v)) else none:=rfl
@[simp] theorem F2 {u v:List PyData}:az (.list u) (.list v)=if u.length + v.length≤sizeLine then some (.list (u++v)) else none:=rfl
@[simp] theorem Fi {i j:Int}:bo (.int i) (.int j)=if (-(2 ^ 64) < i∧i < 2 ^ 64)∨(-(2 ^ 64) < j∧j < 2 ^ 64) then some (.int (i * j)) else none:=rfl
@[simp] theorem Fh {z:Str} {k:Int}:bo (.str z) (.int k)=if 0≤k∧k≤2000∧z.length≤1000 then some (.str (Txt.mul z k)) else none:=rfl
@[simp] theorem GT {i j:Int}:eqD (.int i) (.int j)=some (.bool (decide (i=j))):=rfl
@[simp] theorem GS {i j:Str}:eqD (.str i) (.str j)=some (.bool (decide (i=j))):=rfl
@[simp] theorem GU {i j:Bool}:eqD (.bool i) (.bool j)=some (.bool (decide (i=j))):=rfl
@[simp] theorem Gn {i j:Int}:neD (.int i) (.int j)=some (.bool (!decide (i=j))):=rfl
@[simp] theorem Gm {i j:Str}:neD (.str i) (.str j)=some (.bool (!decide (i=j))):=rfl
@[simp] theorem Gp {i j:Bool}:neD (.bool i) (.bool j)=some (.bool (!decide (i=j))):=rfl
@[simp] theorem G6:isD x .none=some (.bool (isNone x)):=by cases x <;> rfl
@[simp] theorem Ez {i j:Bool}:iU (.bool i) (.bool j)=some (.bool (i != j)):=rfl
@[simp] theorem Gk {i:Int}:gT (.int i)=some (.int (-i)):=rfl
@[simp] theorem GJ {k:Kd}:bi k x=some (.bool (bO (kd x) k)):=rfl
@[simp] theorem GF {xs:List PyData} {i:Int}:ixD (.list xs) (.int i)=atI xs i:=rfl
@[simp] theorem GC {xs:List PyData} {i:Int}:ixD (.tuple xs) (.int i)=atI xs i:=rfl
@[simp] theorem GD {z:Str} {i:Int}:ixD (.str z) (.int i)=if z.length≤sizeLine then (atI z.cps.toList i).map (fun c=>.str ⟨#[c]⟩) else none:=rfl
@[simp] theorem Fs {xs:List PyData}:aF [.list xs]=some (.int xs.length):=rfl
@[simp] theorem Fp {xs:List PyData}:aF [.tuple xs]=some (.int xs.length):=rfl
@[simp] theorem Fq {z:Str}:aF [.str z]=if z.length≤sizeLine then some (.int z.length) else none:=rfl
@[simp] theorem G0 {i:Int}:lN [.int i]=some (.int (if i < 0 then -i else i)):=rfl
@[simp] theorem Gu {i j:Int}:CT [.int i,.int j]=some (.int (if j > i then j else i)):=rfl
@[simp] theorem Gs {i j:Int}:iX [.int i,.int j]=some (.int (if j < i then j else i)):=rfl
@[simp] theorem Eb {xs:List PyData}:ck [.list xs]=some (.tuple xs):=rfl
@[simp] theorem Ea {xs:List PyData}:ck [.tuple xs]=some (.tuple xs):=rfl
@[simp] theorem Ey {xs:List PyData}:gM [.list xs]=some (.list xs):=rfl
@[simp] theorem Ex {xs:List PyData}:gM [.tuple xs]=some (.list xs):=rfl
@[simp] theorem Gz {i:Int}:kd (.int i)=.int:=rfl
@[simp] theorem GB {i:Bool}:kd (.bool i)=.bl:=rfl
@[simp] theorem Gw {i:Str}:kd (.str i)=.str:=rfl
@[simp] theorem Gv {i:List PyData}:kd (.tuple i)=.tup:=rfl
@[simp] theorem Gy {i:List PyData}:kd (.list i)=.lst:=rfl
@[simp] theorem GA {i:List (PyData×PyData)}:kd (.dict i)=.dct:=rfl
@[simp] theorem Gx:kd .none=.non:=rfl
end
theorem gc {e:FE} {ρ:Rho} {T:Tp} {g:PyData→PyData}:∀ {ds:List PyData},(∀ d∈ds,e (some (.d d)::ρ) T=some (.d (g d),T))→bh a6 e ρ ds T=some (ds.map g,T)
 | [],_=>rfl
 | d::r,h=>by
  have ih:=gc (ds:=r) fun x hx=>h x (List.mem_cons_of_mem _ hx)
  have h0:=h d List.mem_cons_self
  unfold bh
  simp [h0,ih]
theorem oW {α:Type} (p:α→Bool):∀ l:List α,ie (l.map fun d=>.bool (p d))=some (l.map p)
 | []=>rfl
 | d::r=>by
  show (ie (r.map fun d=>.bool (p d))).map (p d::·)=_
  rw [oW p r]
  rfl
theorem mf {α:Type} (p:α→Int):∀ l:List α,fj (l.map fun d=>.int (p d))=some (l.map p)
 | []=>rfl
 | d::r=>by
  show (fj (r.map fun d=>.int (p d))).map (p d::·)=_
  rw [mf p r]
  rfl
theorem o3 {α:Type} (p:α→Str):∀ l:List α,gp (l.map fun d=>.str (p d))=some (l.map p)
 | []=>rfl
 | d::r=>by
  show (gp (r.map fun d=>.str (p d))).map (p d::·)=_
  rw [o3 p r]
  rfl
@[simp] theorem BJ {α:Type} (p:α→Bool) (l:List α):dv [.list (l.map fun d=>.bool (p d))]=some (.bool (l.all p)):=by
 show (ie _).map (fun bs=>PyData.bool (bs.all id))=_
 rw [oW,Option.map_some,List.all_map]
 rfl
@[simp] theorem nB {α:Type} (p:α→Int) (l:List α):eJ [.list (l.map fun d=>.int (p d))]=some (.int (l.map p).sum):=by
 show (fj _).map (fun bs=>PyData.int bs.sum)=_
 rw [mf,Option.map_some]
@[simp] theorem Fm {α:Type} (p:α→Int) (l:List α) (k:Int):iY (.list (l.map fun d=>.int (p d))) (.int k)=some (.int (K1.fq k (l.map p))):=by
 show (fj _).map (fun bs=>PyData.int (K1.fq k bs))=_
 rw [mf,Option.map_some]
def iQ (y:Str):PyData→Bool
 | .str z=>iA y z
 | _=>false
theorem qd (y:Str) (c:Nat):iA y ⟨#[c]⟩=decide (c∈y.cps.toList):=StrLaws.found_one ..
@[simp] theorem GK {x y:Str}:inD (.str x) (.str y)=some (.bool (iA y x)):=rfl
theorem o9 {x:Str} {d:PyData} (h:d∈D.signs x):∃ c,c∈x.cps.toList∧d=.str ⟨#[c]⟩:=by
 obtain ⟨c,hc,rfl⟩:=List.mem_map.mp h
 exact ⟨c,hc,rfl⟩
section
variable {X:Cx}
theorem wW:MtR X "str.startswith" (fun x vs H Q=>∃ z y:Str,x=.str z∧vs=[.str y]∧Q (.bl (Txt.startswith z y)) H):=by
 intro pins s σ H x vs v us Q I rx rv h
 obtain ⟨z,y,rfl,rfl,q⟩:=h
 obtain ⟨t,rfl⟩:=rx
 obtain ⟨u,rfl,ru⟩:=vals1 rv
 obtain ⟨t',rfl⟩:=ru
 exact call_gives PySem.F.slot_str_startswith (typeIs_str _ _ _) PySem.F.entry_str_startswith (PySem.F.args_str_startswith_2 _ _) (gives_str_startswith z y t t') ⟨.bl _,H,I,rfl,q⟩
def gJ:PyData→PyData→Option PyData
 | .str z,.str y=>some (.bool (Txt.startswith z y))
 | _,_=>none
theorem xq {T:Tp} {w:W} {z:Str} (h:view T w=some (.str z)):w=.d (.str z):=by
 cases w with
 | d x=>cases h; rfl
 | tp k=>
  have h':(T[k]?).bind jc=some (PyData.str z):=h
  cases hk:T[k]? with
  | none=>rw [hk] at h'; cases h'
  | some xs=>
   rw [hk] at h'
   have e2:(if isO xs=true then none else some (PyData.list xs))=some (PyData.str z):=h'
   split at e2 <;> cases e2
 | loc zs=>cases zs <;> cases h
theorem mi {o e:Expr} {fo fe:FE} {apos cpos:Pos} (ho:DE X o fo) (he:DE X e fe)
  (hbase:attributeBase o "startswith" X.env (eval o X.env)=eval o X.env:=by rfl)
  (hfew:((backTo cpos (starEach [e] X.env)).all (fun x=>!x.1) && (backToKw cpos (keywordEach [] X.env)).all (fun x=>x.1.isSome)
   && decide (([e]:List Expr).length + ([]:List Keyword).length + (if ([]:List Keyword).isEmpty then 0 else 1) < 30))=true:=by exact lK rfl)
  (hline:(apos.endLine == cpos.line)=true:=by rfl) (hse:starEach [e] X.env=(false,eval e X.env)::starEach [] X.env:=by exact bQ rfl) (hplain:(backTo cpos (starEach [] X.env)).any (·.1)=false:=by exact dM rfl) :
  DE X (.Call (.Attribute o "startswith" apos) [e] [] cpos) (ae gJ fo fe):=by
 refine ⟨?_⟩
 refine bD (jG PySem.F.plainAttrs_str PySem.F.slot_str_startswith PySem.F.type_str_startswith wW ho.pe (cq he.pe dO hse) hbase hfew hline hse hplain) fun σ H Q=>?_
 rintro ⟨O,ts,ρ,T,w,T',hc,re,e,q⟩
 obtain ⟨w1,T1,e1,e⟩:=aM e
 obtain ⟨w2,T2,e2,e⟩:=aM e
 obtain ⟨x,y,d,h1,h2,h3,rfl,rfl⟩:=iS e
 unfold gJ at h3
 split at h3
 ·rename_i z y
  cases h3
  have ew:=xq h1
  subst ew
  refine ⟨O,ts,ρ,T,_,T1,hc,re,e1,fun v1 H1 s1 hc1 r1=>?_⟩
  cases (show Rep X.K O H1 v1 _ from r1)
  refine ⟨rfl,O,ts,ρ,T1,w2,T',hc1,re.mono hc s1,e2,fun v2 H2 s2 hc2 r2=>?_⟩
  cases (hc2.view r2 h2).str
  exact ⟨z,_,rfl,rfl,q _ H2 (s1.trans s2) hc2 (.bl _)⟩
 ·cases h3
theorem xo:CallR X (.type "int") (fun xs H Q=>∃ x n,xs=[.str x]∧PySem.intText? x=some n∧x.length≤640∧Q (.int n) H):=by
 intro pins s σ H xs us Q I r h
 obtain ⟨x,n,rfl,hn,hl,q⟩:=h
 obtain ⟨u,rfl,ru⟩:=vals1 r
 obtain ⟨t,rfl⟩:=ru
 exact PySem.W.KIN.call_text hn hl ⟨.int n,H,I.tok _,⟨_,rfl⟩,q⟩
def intD:List PyData→Option PyData
 | [.int i]=>some (.int i)
 | [.bool b]=>some (.int (if b then 1 else 0))
 | [.str x]=>if x.length≤640 then (PySem.intText? x).map .int else none
 | _=>none
theorem lr:eI X (.type "int") intD:=⟨_,call_int1.or xo,fun O ts H T vs xs d Q hc h e q=>by
 unfold intD at e
 split at e
 ·cases e
  obtain ⟨v,rfl,g⟩:=dk h
  cases g.int
  exact .inl (.inl ⟨_,rfl,q _ H (.refl _ _) hc (.int _)⟩)
 ·cases e
  obtain ⟨v,rfl,g⟩:=dk h
  cases g.bl
  exact .inl (.inr ⟨_,rfl,q _ H (.refl _ _) hc (.int _)⟩)
 ·split at e
  ·rename_i hz
   obtain ⟨n,e1,rfl⟩:=Option.map_eq_some_iff.mp e
   obtain ⟨v,rfl,g⟩:=dk h
   cases g.str
   exact .inr ⟨_,n,rfl,e1,hz,q _ H (.refl _ _) hc (.int _)⟩
  ·cases e
 ·cases e⟩
end
@[simp] theorem Ec {z y:Str}:gJ (.str z) (.str y)=some (.bool (Txt.startswith z y)):=rfl
@[simp] theorem Fv {x:Str}:intD [.str x]=if x.length≤640 then (PySem.intText? x).map .int else none:=rfl
@[simp] theorem Fw {i:Int}:intD [.int i]=some (.int i):=rfl
@[simp] theorem Fx {b:Bool}:intD [.bool b]=some (.int (if b then 1 else 0)):=rfl
def eqG (x y:PyData):Option PyData:=if SeqAt.shaped x=true∧SeqAt.shaped y=true then some (.bool (PyData.eqv x y)) else none
def neG (x y:PyData):Option PyData:=if SeqAt.shaped x=true∧SeqAt.shaped y=true then some (.bool (!PyData.eqv x y)) else none
section
variable {X:Cx}
theorem Vw.reads {pins:List (Addr×Obj)} {σ:L2.St} {H:Hp} {s:Shared} {O:Addr→Prop} {v:V} {d:PyData} {u:Value} (I:Inv X pins σ H s) (h:Vw X.K O H v d) (r:RelV v u):∃ as,Reads s.heap u d as:=by
 cases h with
 | rep h=>obtain ⟨as,rd,_⟩:=h.reads I r; exact ⟨as,rd⟩
 | raw h hs=>
  cases r
  obtain ⟨its,rv,pl,_⟩:=I.list (SqL.of h)
  obtain ⟨o,n,e,c,_,dd⟩:=pl
  obtain ⟨as,rd,_⟩:=hs.reads I rv
  exact ⟨_,.list e c dd (by simpa using rd)⟩
 | rawD h rk=>
  cases r
  obtain ⟨z,y,vs,kv,o,es,ep,e,ed,dd,_,ek,_⟩:=(show ObjOk X.prog X.w H s.heap _ (.dK _) from I.hok _ _ h)
  obtain ⟨bs,q1,q2,f⟩:=RepK.reads I rk kv ek
  exact ⟨_,.dict (as:=[]) (bs:=bs) e ed.1 dd q1 q2⟩
theorem Bg {k:Nat} (hr:Room k X.A):OpR X (compareOp .Eq) (fun x y H Q=>∃ O d1 d2,Vw X.K O H x d1∧Vw X.K O H y d2∧SeqAt.shaped d1=true∧SeqAt.shaped d2=true∧Q (.bl (PyData.eqv d1 d2)) H):=by
 intro pins s σ H x y v u Q I rx ry h
 obtain ⟨O,d1,d2,h1,h2,s1,s2,q⟩:=h
 obtain ⟨as,r1⟩:=h1.reads I rx
 obtain ⟨bs,r2⟩:=h2.reads I ry
 exact SeqAt.compareEq_shaped r1 r2 s1 s2 (by have:=hr.un; omega) ⟨.bl _,H,I,rfl,q⟩
theorem Bc {k:Nat} (hr:Room k X.A):OpR X (compareOp .NotEq) (fun x y H Q=>∃ O d1 d2,Vw X.K O H x d1∧Vw X.K O H y d2∧SeqAt.shaped d1=true∧SeqAt.shaped d2=true∧Q (.bl (!PyData.eqv d1 d2)) H):=by
 intro pins s σ H x y v u Q I rx ry h
 obtain ⟨O,d1,d2,h1,h2,s1,s2,q⟩:=h
 obtain ⟨as,r1⟩:=h1.reads I rx
 obtain ⟨bs,r2⟩:=h2.reads I ry
 exact SeqAt.compareNe_shaped r1 r2 s1 s2 (by have:=hr.un; omega) ⟨.bl _,H,I,rfl,q⟩
theorem iW {k:Nat} (hr:Room k X.A):OpD X (compareOp .Eq) eqG:=⟨_,Bg hr,fun O ts H T v1 v2 x y d Q hc h1 h2 e q=>by
 unfold eqG at e
 split at e
 ·rename_i h
  cases e
  exact ⟨O,x,y,h1,h2,h.1,h.2,q _ H (.refl _ _) hc (.bl _)⟩
 ·cases e⟩
theorem jI {k:Nat} (hr:Room k X.A):OpD X (compareOp .NotEq) neG:=⟨_,Bc hr,fun O ts H T v1 v2 x y d Q hc h1 h2 e q=>by
 unfold neG at e
 split at e
 ·rename_i h
  cases e
  exact ⟨O,x,y,h1,h2,h.1,h.2,q _ H (.refl _ _) hc (.bl _)⟩
 ·cases e⟩
open Classical in
def iD (h:Heap) (x:PyData) (v:Value):Bool:=if e:∃ p:PyData×List Addr,Reads h v p.1 p.2 then PyData.eqv e.choose.1 x else false
theorem mT {h:Heap} {x d:PyData} {v:Value} {as:List Addr} (r:Reads h v d as):iD h x v=PyData.eqv d x:=by
 have e:∃ p:PyData×List Addr,Reads h v p.1 p.2:=⟨(d,as),r⟩
 unfold iD
 rw [dif_pos e]
 have:=(PySem.Reads.unique e.choose_spec d as r).1
 rw [this]
theorem mB {h:Heap} {x:PyData}:∀ {vs:List Value} {ds:List PyData} {as:List Addr},ReadsAll h vs ds as→vs.any (iD h x)=ds.any fun d=>PyData.eqv d x
 | _,_,_,.nil=>rfl
 | _,_,_,.cons r rs=>by rw [List.any_cons,List.any_cons,mT r,mB rs]
theorem readsAll_mem {h:Heap}:∀ {vs:List Value} {ds:List PyData} {as:List Addr} {v:Value},ReadsAll h vs ds as→v∈vs→∃ d bs,d∈ds∧Reads h v d bs
 | _,_,_,_,.cons r rs,hm=>by
  rcases List.mem_cons.mp hm with z | z
  ·subst z; exact ⟨_,_,List.mem_cons_self,r⟩
  ·obtain ⟨d,bs,h1,h2⟩:=readsAll_mem rs z
   exact ⟨d,bs,List.mem_cons_of_mem _ h1,h2⟩
def inG:PyData→PyData→Option PyData
 | x,.tuple ys=>if SeqAt.shaped x=true∧ys.all SeqAt.shaped=true then some (.bool (ys.any fun y=>PyData.eqv y x)) else none
 | _,_=>none
theorem Bf {k:Nat} (hr:Room k X.A):OpR X (compareOp .In) (fun x y H Q=>∃ O d1 a vs ds,Vw X.K O H x d1∧y=.ref a∧SqT X.K H a vs∧Reps X.K O H vs ds∧SeqAt.shaped d1=true∧ds.all SeqAt.shaped=true∧Q (.bl (ds.any fun y=>PyData.eqv y d1)) H):=by
 intro pins s σ H x y v u Q I rx ry h
 obtain ⟨O,d1,a,vs,ds,h1,rfl,h2,h3,s1,s2,q⟩:=h
 cases ry
 obtain ⟨as,r1⟩:=h1.reads I rx
 obtain ⟨its,rv,p1,_⟩:=I.tuple h2
 obtain ⟨bs,r2,_⟩:=h3.reads I rv
 refine SeqAt.in_tupleAt (iD s.heap d1) p1 (fun y hy=>?_) ?_
 ·obtain ⟨d,cs,hd,rd⟩:=readsAll_mem r2 (by simpa using hy)
  rw [mT rd]
  have sd:=List.all_eq_true.mp s2 d hd
  refine SeqAt.eqAt_reads d d1 _ s y v _ _ rd r1 (SeqAt.canLay_of_shaped sd) (SeqAt.canLay_of_shaped s1) (SeqAt.room_of_shaped sd ?_)
  have:=hr.un
  show X.A.in1.units + 64 < cLine
  have e:X.A.in1.units≤X.A.units + 1:=by simp [Around.in1]
  omega
 ·have e:its.toArray.any (iD s.heap d1)=ds.any fun y=>PyData.eqv y d1:=by
   rw [← mB r2]
   simp
  rw [e]
  exact ⟨.bl _,H,I,rfl,q⟩
theorem tF {k:Nat} (hr:Room k X.A):OpD X (compareOp .In) inG:=⟨_,Bf hr,fun O ts H T v1 v2 x y d Q hc h1 h2 e q=>by
 unfold inG at e
 split at e
 ·split at e
  ·rename_i h
   cases e
   obtain ⟨a,vs,rfl,t,r⟩:=h2.tup
   exact ⟨O,x,a,vs,_,h1,rfl,t.sq,r,h.1,h.2,q _ H (.refl _ _) hc (.bl _)⟩
  ·cases e
 ·cases e⟩
end
section
variable {X:Cx}
variable {pos:Pos} {e:Expr} {fe:FE}
end
section
variable {X:Cx} {pos:Pos} {e:Expr} {f:FE} {x:Str} {p:Pos} {B:List (Str×Int)}
end
end D
namespace L2
open PySem PySem.Spec PyProof.Rows
open K1 (eU fq)
section
variable {prog:Program} {w:World} {A:Around} {R:Result→Shared→Prop} {it S:Addr} {fp wr:List Addr} {P:Nat→Value→Prop} {St:Nat→Heap→Prop} {ns:List Int} {kw:List (Str×Value)}
theorem wZ (W:Walks prog w A.in1 it fp wr ns.length P St) (hval:∀ i v,P i v→∃ t,v=.int (ns.getD i 0) t) (hSf:S∉fp) {s:Shared} {c:Nat} {n0:Int} {r0:List Int} (hn:ns=n0::r0) (st:St 0 s.heap)
  (hS:s.heap.get? S=some { cls:=.type "list",dict:=none,data:=.seq #[] c,slots:=#[] })
  (hR:∀ h' tk t',(∀ b o,b∉wr→b≠S→s.heap.get? b=some o→h'.get? b=some o)→R (.ok (.ret (.int (eU n0 r0) t'))) { s with heap:=h',toks:=tk }) :
  codeAny (model prog w) A (.builtin "max.loop" ⟨[.ref it,.none,.ref S],kw⟩) R s:=by
 have sw:S∉wr:=fun h=>hSf (W.sub _ h)
 have nm:(toString "max"++toString ".loop" : String) = "max.loop":=by decide
 refine codeAny_builtin F.entry_max_loop ?_
 rw [Around.under_plainId F.plain_max_loop _]
 show wpAny (model prog w) A.in1 (seqItems? (.ref S) >>= _) _ _ s
 refine wpAny_bind (wpAny_seqItems hS rfl ?_)
 show wpAny (model prog w) A.in1 (tryCatch (pyNext (.ref it)) _ >>= _) _ _ s
 have e0:0 < ns.length:=by rw [hn]; exact Nat.succ_pos _
 refine wpAny_bind (wpAny_tryCatch (W.item 0 s _ _ e0 st fun v h' tk hP st2 kk=>?_))
 obtain ⟨t,rfl⟩:=hval 0 v hP
 have hS2:=kk S _ sw hS
 show wpAny (model prog w) A.in1 (updateSeq S (fun _=>#[Value.int (ns.getD 0 0) t,Value.int (ns.getD 0 0) t]) >>= _) _ _ _
 refine wpAny_bind ?_
 refine wpAny_updateSeq hS2 rfl ?_
 rw [nm]
 refine wpAny_pure ⟨plainId_quiet F.plain_max_loop _,pj W hval hSf _ 1 _ (ns.getD 0 0) t _ rfl e0 (W.frame _ _ _ st2 fun b hbf o e=>?_) (Heap.get?_update_self _ hS2 rfl) fun h2 tk2 t2 k2=>?_⟩
 ·exact (Heap.get?_update_other _ _ (fun z:S=b=>hSf (by rw [z]; exact hbf))).trans e
 ·have q:=hR h2 tk2 t2 fun b o h1 h3 e=>k2 b o h1 h3 ((Heap.get?_update_other _ _ (Ne.symm h3)).trans (kk b o h1 e))
  rw [hn]
  exact q
end
theorem vA (a:Value):argsOk "max" ⟨[a],[]⟩:=by unfold argsOk; kernel_rfl
section
variable {X:Cx}
theorem xm (hc:X.calm=true):CallR X (.builtin "max") (fun xs H Q=>∃ p n0 r0,xs=[.ref p]∧SqL X.K H p ((n0::r0).map V.int)∧Q (.int (eU n0 r0)) H):=by
 intro pins s σ H xs us Q I r h
 obtain ⟨p,n0,r0,rfl,hq,q⟩:=h
 obtain ⟨u,rfl,ru⟩:=vals1 r
 cases ru
 obtain ⟨its,rv,pl,hz⟩:=I.list hq
 generalize hns:n0::r0=ns at rv
 have hlen:its.length=ns.length:=by have:=rv.length; simpa using this.symm
 have hlt:p < s.heap.objs.size:=by
  obtain ⟨o,n,e,_⟩:=pl
  exact Heap.lt_size e
 have nm:(toString "max"++toString ".loop" : String) = "max.loop":=by decide
 refine kmk_tree PySem.F.kind_max PySem.F.plain_max PySem.F.entry_max (vA _) ?_
 show wpAny (model X.prog X.w) X.A.in1 (Builtin.Builtins.bindParams "max" ["key","default"] 0 ⟨[],[]⟩ >>= _) _ _ s
 refine wpAny_bind (wpAny_of_eq (show Builtin.Builtins.bindParams "max" ["key","default"] 0 ⟨[],[]⟩=pure [none,none] from rfl) ?_)
 refine wpAny_bind (wpAny_pure ?_)
 refine wpAny_bind (wpAny_pyIter_list pl.isList ?_)
 refine wpAny_bind (wpAny_newObj_type ?_)
 rw [nm]
 have W:=Walks.list (prog:=X.prog) (w:=X.w) (A:=X.A.in1) (I.ok.hd hc) s.heap.objs.size p (Nat.ne_of_lt hlt) its.toArray
 have en:its.toArray.size=ns.length:=by simpa using hlen
 rw [en] at W
 have hS:(s.heap.push { cls:=.type "list_iterator",data:=.fields #[.ref p,.int 0 0] }).objs.size=s.heap.objs.size + 1:=Heap.size_push ..
 have nS:(s.heap.push { cls:=.type "list_iterator",data:=.fields #[.ref p,.int 0 0] }).objs.size∉[s.heap.objs.size,p]:=fun hm=>by
  rw [hS] at hm
  rcases List.mem_cons.mp hm with e | e
  ·exact Nat.succ_ne_self _ e
  ·rw [← List.mem_singleton.mp e] at hlt
   exact absurd hlt (Nat.not_lt_of_le (Nat.le_succ _))
 refine wpAny_pure ⟨plainId_quiet PySem.F.plain_max_loop _,wZ W (fun i v hv=>mQ rv hv) nS hns.symm ⟨⟨_,Heap.get?_push_of_some _ (Heap.get?_push_size _ rfl),rfl,rfl⟩,?_⟩ (Heap.get?_push_size _ rfl) fun h' tk t' hk=>?_⟩
 ·obtain ⟨o,n,e,r⟩:=pl.isList
  exact ⟨o,Heap.get?_push_of_some _ (Heap.get?_push_of_some _ n),e,r⟩
 ·exact ⟨.int _,H,I.kept (t':=tk) fun b o z=>hk b o (by simp; exact Nat.ne_of_lt (Heap.lt_size z)) (by rw [hS]; exact Nat.ne_of_lt (Nat.lt_succ_of_lt (Heap.lt_size z))) (Heap.get?_push_of_some _ (Heap.get?_push_of_some _ z)),⟨t',rfl⟩,q⟩
end
end L2
namespace D
open PySem PySem.Spec PyProof.Rows L2
section
variable {X:Cx} {pos:Pos} {e:Expr} {f:FE} {x:Str} {p:Pos}
def DF:Option (List Int)→Option PyData
 | some (b::bs)=>some (.int (K1.eU b bs))
 | _=>none
def gu:List PyData→Option PyData
 | [.list xs]=>DF (fj xs)
 | _=>none
theorem BV (hc:X.calm=true:=by rfl):eI X (.builtin "max") gu:=⟨_,xm hc,fun O ts H T vs xs d Q hc h e q=>by
 unfold gu at e
 split at e
 ·rename_i xs
  cases hi:fj xs with
  | none=>rw [hi] at e; cases e
  | some bs=>
   rw [hi] at e
   cases bs with
   | nil=>cases e
   | cons b bs=>
    cases e
    obtain ⟨v,rfl,g⟩:=dk h
    obtain ⟨a,vs,rfl,t,r⟩:=g.lst
    rw [j9 r hi] at t
    exact ⟨a,b,bs,rfl,t,q _ H (.refl _ _) hc (.int _)⟩
 ·cases e⟩
variable {B:List (Str×Int)}
def kh:List Value→List Str→Bool
 | [],[]=>true
 | .str x _::r,y::s=>decide (x=y) && kh r s
 | _,_=>false
def iO (look:Addr→Option Obj) (a:Addr) (ss:List Str):Bool:=match look a with
 | some ⟨.type n,_,.seq its _,_⟩=>decide (n = "tuple") && kh its.toList ss
 | _=>false
def uv (K:Frag) (mg:Str→Option Value) (x:Str) (ss:List Str):Prop:=∃ a,mg x=some (.ref a)∧iO (fun b=>K.lookup b) a ss=true
theorem oZ:∀ {vs:List Value} {ss:List Str},kh vs ss=true→Vals (ss.map V.str) vs
 | [],[],_=>.nil
 | .str x t::r,y::s,h=>by
  have h':(decide (x=y) && kh r s)=true:=h
  rw [Bool.and_eq_true] at h'
  exact .cons ⟨t,by rw [of_decide_eq_true h'.1]⟩ (oZ h'.2)
theorem pd {K:Frag} {O:Addr→Prop} {H:Hp}:∀ ss:List Str,Reps K O H (ss.map V.str) (ss.map PyData.str)
 | []=>.nil
 | x::r=>.cons (.str x) (pd r)
theorem qg {ss:List Str} (hg:Gl X x) (ht:uv X.K X.mg x ss) (hz:ss.length≤sizeLine:=by decide) (hd:(x == ("__debug__" : Str))=false:=by decide):DE X (.Name x p) (fC (.tuple (ss.map PyData.str))):=by
 obtain ⟨a,hx,hl⟩:=ht
 refine ⟨?_⟩
 refine bD (mM (v:=.ref a) hg hx rfl hd) (hZ fun O H=>?_)
 unfold iO at hl
 split at hl
 ·rename_i n dd its c sl hk
  rw [Bool.and_eq_true] at hl
  have rv:=oZ hl.2
  have hn:=of_decide_eq_true hl.1
  subst hn
  refine .tup (vs:=ss.map V.str) (.inr (.inr ⟨_,its,c,hk,rfl,rfl,?_,rv⟩)) (pd ss)
  have:=rv.length
  rw [List.length_map] at this
  have e2:its.toList.length=its.size:=Array.length_toList
  omega
 ·cases hl
def oh (o:Obj) (ss:List Str):Bool:=iO (fun _=>some o) 0 ss
theorem wu {K:Frag} {a:Addr} {o:Obj} {ss:List Str} (h:K.lookup a=some o) (g:oh o ss=true):iO (fun b=>K.lookup b) a ss=true:=by
 unfold oh iO at g
 unfold iO
 dsimp only
 rw [h]
 exact g
end
mutual
def bM:PyData→Bool
 | .tuple ds=>cX ds
 | .list _=>false
 | .dict _=>false
 | _=>true
def cX:List PyData→Bool
 | []=>true
 | d::r=>bM d && cX r
end
section
variable {K:Frag} {O:Addr→Prop} {H:Hp}
theorem TupAt.own (hm:∀ b,O b→Mut (H b)) {a:Addr} {vs:List V} (t:TupAt K (fun _=>False) H a vs):TupAt K O H a vs:=by
 rcases t with ⟨_,t⟩ | t
 ·refine .inl ⟨fun z=>?_,t⟩
  rcases hm a z with ⟨us,e⟩ | ⟨us,e⟩ | ⟨C,dx,us,e⟩ <;> rcases t with t | ⟨o,t⟩ <;> (rw [e] at t; cases t)
 ·exact .inr t
mutual
theorem Rep.own (hm:∀ b,O b→Mut (H b)):∀ {v:V} {d:PyData},Rep K (fun _=>False) H v d→bM d=true→Rep K O H v d
 | _,_,.non,_=>.non
 | _,_,.bl b,_=>.bl b
 | _,_,.int i,_=>.int i
 | _,_,.str x,_=>.str x
 | _,_,.tup t r,h=>.tup (t.own hm) (Reps.own hm r (by simpa [bM] using h))
 | _,_,.lst t r,h=>by simp [bM] at h
 | _,_,.dct n t r,h=>by simp [bM] at h
theorem Reps.own (hm:∀ b,O b→Mut (H b)):∀ {vs:List V} {ds:List PyData},Reps K (fun _=>False) H vs ds→cX ds=true→Reps K O H vs ds
 | _,_,.nil,_=>.nil
 | _,_,.cons (d:=d) (ds:=ds) r t,h=>by
  have h':(bM d && cX ds)=true:=by simpa [cX] using h
  rw [Bool.and_eq_true] at h'
  exact .cons (Rep.own hm r h'.1) (Reps.own hm t h'.2)
end
end
def jT:List W→Bool
 | []=>true
 | .tp _::_=>false
 | .loc (.dict _)::_=>false
 | _::r=>jT r
theorem oo {K:Frag} {O:Addr→Prop} {ts:List Addr} {H:Hp}:∀ {vs:List V} {ws:List W},gR K O ts H vs ws→jT ws=true→gR K (fun _=>False) [] H vs (ws.map jf)
 | _,[],.nil,_=>.nil
 | _,.d x::r,.cons h t,e=>.cons (show Rep K (fun _=>False) H _ x from Rep.mono (fun a o n e=>⟨fun z=>z,e⟩) h) (oo t e)
 | _,.tp _::_,.cons _ _,e=>by cases e
 | _,.loc x::r,.cons h t,e=>by
  have le:Le O H (fun _=>False) H:=fun a o n e=>⟨fun z=>z,e⟩
  obtain ⟨a,rfl,_,_,h3⟩:=h
  cases x with
  | list xs=>obtain ⟨vs,h1,h2⟩:=h3; exact .cons (.lst (.inl ⟨fun z=>z,.inl h1⟩) (h2.mono le)) (oo t e)
  | dict xs=>cases e
  | _=>cases h3
def fJ (m:FnM) (g:FA):FE:=fun ρ T=>bnd (g ρ T) fun ws T1=>if jT ws=true then (match m (ws.map jf) [] with
 | some (x,_)=>if bM x=true then some (.d x,T1) else none
 | none=>none) else none
theorem kb {X:Cx} {name:Str} {ps:List Str} {k:Nat} {m:FnM} {e:Expr} {es:List Expr} {g:FA} {p pos:Pos} (F:Fn X.prog X.w X.K X.mg X.base name ps k (spM X.K ps.length m)) (hr:Room k X.A) (hg:Gl X name) (ha:DA X (e::es) g) (hl:ji g ps.length) (hdb:(name == ("__debug__" : Str))=false:=by decide)
  (he:starEach (e::es) X.env=(false,eval e X.env)::starEach es X.env:=by exact bQ rfl) (hpl:(backTo pos (starEach es X.env)).any (·.1)=false:=by exact dM rfl):DE X (.Call (.Name name p) (e::es) [] pos) (fJ m g):=by
 refine ⟨?_⟩
 refine bD (nR F hr hg ha.pe hdb he hpl) fun σ H Q=>?_
 rintro ⟨O,ts,ρ,T,w,T',hc,re,e,q⟩
 obtain ⟨ws,T1,e1,e⟩:=aM e
 split at e
 ·rename_i hn
  split at e
  ·rename_i x T2 e2
   split at e
   ·rename_i hx
    cases e
    refine ⟨O,ts,ρ,T,ws,_,hc,re,e1,fun vs H1 s1 hc1 r1=>?_⟩
    refine ⟨fun _=>False,[],[],ws.map jf,x,T2,⟨fun b hb=>(by cases hb),fun b hb=>hb.elim,List.nodup_nil,rfl,fun i a xs e1 _=>by simp at e1⟩,by rw [List.append_nil]; exact oo r1 hn,by rw [List.length_map]; exact hl _ _ _ _ e1,e2,fun v H2 s2 hc2 r2=>?_⟩
    have s2':SameX ts H1 H2:=fun b o _ q=>s2 b o (by simp) q
    have hm:∀ b,O b→Mut (H2 b):=fun b hb=>by
     exact (hc1.trk b hb).to fun u z=>s2 b _ (by simp) z
    have hc2':=hc1.step s2' fun b hb=>by
     obtain ⟨u,z⟩:=(hc1.trk b (hc1.own b hb)).ex
     rw [z]; exact s2 b _ (by simp) z
    exact q v H2 (s1.trans s2') hc2' (Rep.own hm r2 hx)
   ·cases e
  ·cases e
 ·cases e
def aL (ds:List (PyData×PyData)) (s:Str):Option PyData:=match ds with
 | []=>none
 | (.str k,d)::r=>if k=s then some d else aL r s
 | _::r=>aL r s
theorem iM {K:Frag} {O:Addr→Prop} {H:Hp} {s:Str}:∀ {kvs:List (Key×V)} {ds:List (PyData×PyData)},RepK K O H kvs ds→(aL ds s=none∧bT kvs (Sum.inr s:Key)=none)∨∃ v d,aL ds s=some d∧bT kvs (Sum.inr s:Key)=some v∧Rep K O H v d
 | _,_,.nil=>.inl ⟨rfl,rfl⟩
 | _,_,.cons (k:=.inl i) (v:=v) (d:=d) (kvs:=kvs) (ds:=ds) r t=>by
  have e:bT (((Sum.inl i:Key),v)::kvs) (Sum.inr s:Key)=bT kvs (Sum.inr s:Key):=by simp [bT,List.find?_cons]
  rw [e]
  show (aL ds s=none∧_)∨∃ v d,aL ds s=some d∧_
  exact iM (s:=s) t
 | _,_,.cons (k:=.inr k) (v:=v) (d:=d) (kvs:=kvs) (ds:=ds) r t=>by
  by_cases hk:k=s
  ·subst hk
   exact .inr ⟨v,d,by show (if k=k then some d else aL ds k)=some d; rw [if_pos rfl],by simp [bT,List.find?_cons],r⟩
  ·have e:bT (((Sum.inr k:Key),v)::kvs) (Sum.inr s:Key)=bT kvs (Sum.inr s:Key):=by simp [bT,List.find?_cons,hk]
   have e2:aL ((jV (Sum.inr k:Key),d)::ds) s=aL ds s:=by show (if k=s then some d else aL ds s)=_; rw [if_neg hk]
   rw [e,e2]
   exact iM (s:=s) t
theorem DGet.rd {H:Hp} {a:Addr} {kvs:List (Key×V)} {k:Key} (e:Rd H a (.dK kvs)):DGet H a (kV k) (bT kvs k):=.inl ⟨kvs,k,e,rfl,rfl⟩
section
variable {X:Cx} {pos:Pos} {k:Nat}
theorem lh {k:Nat} {A:Around} (hr:Room k A):A.units + 1 < cLine:=by have:=hr.un; omega
end
section
variable {K:Frag} {O₀:Addr→Prop} {H₀:Hp} {F:List ((Addr→Prop)×Hp)} {ts:List Addr} {O:Addr→Prop} {H H1:Hp} {σ:L2.St} {ρ:Rho} {T T1:Tp}
theorem RS.lay {p:Addr} {o:HO} (r:RS K O₀ H₀ F ts O H σ ρ T) (hp:H p=none) (hm:Mut (some o)):RS K O₀ H₀ F ts (fun b=>O b∨b=p) (upd H p o) σ ρ T:=by
 have le:Le O H (fun b=>O b∨b=p) (upd H p o):=fun a o n e=>by
  have z:a≠p:=c9 e hp
  exact ⟨fun q=>q.elim n z,by rw [aO z]; exact e⟩
 refine ⟨⟨fun b hb=>.inl (r.hc.own b hb),fun b hb=>?_,r.hc.nd,r.hc.len,fun j a ys e1 e2=>?_⟩,fun j w e=>?_,fun b hb=>.inl (r.sub b hb),r.ots,r.same.trans (.new hp _),r.fresh,r.dist,fun f hf=>(r.frs f hf).trans le,r.len⟩
 ·by_cases z:b=p
  ·subst z; rw [bG]; exact hm
  ·rw [aO z]
   exact r.hc.trk b (hb.resolve_right z)
 ·exact (r.hc.tape j a ys e1 e2).mono (fun o' h1=>by rw [aO (c9 h1 hp)]; exact h1) le
 ·obtain ⟨x,h1,h2⟩:=r.re j w e
  refine ⟨x,h1,?_⟩
  cases w with
  | d x=>exact Rep.mono le h2
  | tp k=>exact h2
  | loc ys=>
   obtain ⟨a,e1,h1,h2,h3⟩:=h2
   exact ⟨a,e1,.inl h1,h2,h3.mono (fun o' q=>by rw [aO (c9 q hp)]; exact q) le⟩
theorem RS.take {i:Nat} {p:Addr} {o:HO} {y:PyData} (r:RS K O₀ H₀ F ts O H σ ρ T) (oa:O p) (nt:p∉ts) (h0:H₀ p=none∧¬ O₀ p) (nh:∀ (j:Nat) (ys:PyData),ρ[j]? = some (some (W.loc ys))→σ[j]? = some (some (V.ref p))→False) (hm:Mut (some o)) (rv:Le O H O (upd H p o)→OwnAt K O (upd H p o) p y) :
  RS K O₀ H₀ F ts O (upd H p o) (σ.set i (some (.ref p))) (ρ.set i (some (.loc y))) T:=by
 have le:Le O H O (upd H p o):=fun b o n e=>⟨n,by rw [aO (show b≠p from fun z=>n (by rw [z]; exact oa))]; exact e⟩
 have at_i:∀ {w:W},(ρ.set i (some w))[i]? = some (some w)∨(ρ.set i (some w))[i]? = none:=fun {w}=>by
  by_cases hl:i < ρ.length
  ·exact .inl (List.getElem?_set_self hl)
  ·exact .inr (List.getElem?_eq_none (by simp; omega))
 refine ⟨⟨r.hc.own,fun b hb=>?_,r.hc.nd,r.hc.len,fun j a ys e1 e2=>?_⟩,fun j w e=>?_,r.sub,r.ots,fun b o n e=>?_,fun j ys a e1 e2=>?_,fun j k ys zs v e1 e2 e3 e4=>?_,fun f hf=>(r.frs f hf).trans le,by simp [r.len]⟩
 ·by_cases z:b=p
  ·subst z; rw [bG]; exact hm
  ·rw [aO z]; exact r.hc.trk b hb
 ·exact (r.hc.tape j a ys e1 e2).mono (fun o' h1=>by rw [aO (show a≠p from fun z=>nt (by rw [← z]; exact List.mem_of_getElem? e1))]; exact h1) le
 ·by_cases z:i=j
  ·subst z
   have hl:i < ρ.length:=by
    have:=(List.getElem?_eq_some_iff.mp e).1
    simpa using this
   rw [List.getElem?_set_self hl] at e
   cases e
   exact ⟨.ref p,by rw [List.getElem?_set_self (by rw [r.len]; exact hl)],p,rfl,oa,nt,rv le⟩
  ·rw [List.getElem?_set_ne z] at e
   obtain ⟨x,h1,h2⟩:=r.re j w e
   refine ⟨x,by rw [List.getElem?_set_ne z]; exact h1,?_⟩
   cases w with
   | d x=>exact Rep.mono le h2
   | tp k=>exact h2
   | loc zs=>
    obtain ⟨b,eb,k1,k2,k3⟩:=h2
    have n:b≠p:=fun q=>nh j zs e (by rw [h1,eb,q])
    exact ⟨b,eb,k1,k2,k3.mono (fun o' q=>by rw [aO n]; exact q) le⟩
 ·have:=r.same b o n e
  rw [aO (show b≠p from fun z=>by rw [z,h0.1] at e; cases e)]
  exact this
 ·by_cases z:i=j
  ·subst z
   have hl:i < ρ.length:=by
    have:=(List.getElem?_eq_some_iff.mp e1).1
    simpa using this
   rw [List.getElem?_set_self (by rw [r.len]; exact hl)] at e2
   cases e2
   exact h0
  ·rw [List.getElem?_set_ne z] at e1 e2
   exact r.fresh j ys a e1 e2
 ·by_cases z:i=j
  ·by_cases z':i=k
   ·rw [← z,← z']
   ·exfalso
    subst z
    have hl:i < ρ.length:=by
     have:=(List.getElem?_eq_some_iff.mp e1).1
     simpa using this
    rw [List.getElem?_set_self (by rw [r.len]; exact hl)] at e3
    cases e3
    rw [List.getElem?_set_ne z'] at e2 e4
    exact nh k zs e2 e4
  ·by_cases z':i=k
   ·exfalso
    subst z'
    have hl:i < ρ.length:=by
     have:=(List.getElem?_eq_some_iff.mp e2).1
     simpa using this
    rw [List.getElem?_set_self (by rw [r.len]; exact hl)] at e4
    cases e4
    rw [List.getElem?_set_ne z] at e1 e3
    exact nh j ys e1 e3
   ·rw [List.getElem?_set_ne z] at e1 e3
    rw [List.getElem?_set_ne z'] at e2 e4
    exact r.dist j k ys zs v e1 e2 e3 e4
end
section
variable {X:Cx} {pos:Pos}
def bX (ds:List (PyData×PyData)) (s:Str) (x:PyData):List (PyData×PyData):=match ds with
 | []=>[]
 | (.str k,d)::r=>if k=s then (.str k,x)::bX r s x else (.str k,d)::bX r s x
 | p::r=>p::bX r s x
theorem l7 {K:Frag} {O:Addr→Prop} {H:Hp} {s:Str} {v:V} {x:PyData} (rx:Rep K O H v x):∀ {kvs:List (Key×V)} {ds:List (PyData×PyData)},RepK K O H kvs ds→RepK K O H (kvs.map fun kv=>if kv.1=(Sum.inr s:Key) then (kv.1,v) else kv) (bX ds s x)
 | _,_,.nil=>.nil
 | _,_,.cons (k:=.inl i) r t=>by
  rw [List.map_cons]
  rw [if_neg (by intro z; cases z)]
  exact .cons (k:=.inl i) r (l7 rx t)
 | _,_,.cons (k:=.inr k) (v:=u) (d:=d) (kvs:=kvs) (ds:=ds) r t=>by
  rw [List.map_cons]
  have ih:=l7 (s:=s) rx t
  show RepK K O H _ (if k=s then (.str k,x)::bX ds s x else (.str k,d)::bX ds s x)
  by_cases hk:k=s
  ·rw [if_pos hk,if_pos (by rw [hk])]
   exact .cons (k:=.inr k) rx ih
  ·rw [if_neg hk,if_neg (fun z=>hk (Sum.inr.inj z))]
   exact .cons (k:=.inr k) r ih
theorem j7 {K:Frag} {O:Addr→Prop} {H:Hp}:∀ {kvs:List (Key×V)} {ds:List (PyData×PyData)},RepK K O H kvs ds→kvs.length=ds.length
 | _,_,.nil=>rfl
 | _,_,.cons _ t=>congrArg (· + 1) (j7 t)
theorem wj {kvs:List (Key×V)} {k:Key} (h:(bT kvs k).isSome=true):(kvs.any fun kv=>decide (kv.1=k))=true:=by
 unfold bT at h
 rw [Option.isSome_map] at h
 rw [List.any_eq_true]
 obtain ⟨p,hp⟩:=Option.isSome_iff_exists.mp h
 exact ⟨p,List.mem_of_find?_eq_some hp,by have:=List.find?_some hp; simpa using this⟩
end
section
variable {X:Cx} {pos:Pos} {e:Expr} {f:FE} {x:Str} {p:Pos} {B:List (Str×Str)}
end
section
variable {K:Frag} {O:Addr→Prop} {ts:List Addr} {H H':Hp} {T:Tp} {n:Nat} {a C:Addr} {ps:List PyData}
end
section
variable {X:Cx} {C:Addr} {o e:Expr} {f m:Str} {pos pos' apos:Pos} {fo fe:FE}
structure Mth (P:Program) (w:World) (K:Frag) (mg:Str→Option Value) (base:Heap) (C:Addr) (m:Str) (ps:List Str) (k:Nat) (sp:Sp):Prop where
 ex:∃ f fd,FnOk P w K mg base CX0 k f fd ps sp∧Binds K fd ps []∧Meth K C m f
variable {ps:List Str} {k:Nat} {mm:FnM} {g:FA} {es:List Expr} {pl:Sem Bool}
end
section
variable {X:Cx} {C f:Addr} {e:Expr} {fe:FE} {fr:FS} {rest:List Stmt} {cn x:Str} {p pos pos' cpos:Pos} {ps:List Str} {k i:Nat} {m:FnM} {fd:FuncData}
end
end D
namespace L2
open PySem PySem.Spec PyProof.Rows
section
variable {X:Cx}
end
end L2
namespace D
open PySem PySem.Spec PyProof.Rows L2
section
variable {X:Cx} {pos:Pos}
structure Ini (P:Program) (w:World) (K:Frag) (mg:Str→Option Value) (base:Heap) (C:Addr) (ps:List Str) (k:Nat) (sp:Sp):Prop where
 ex:∃ f fd,FnOk P w K mg base CX0 k f fd ps sp∧L2.Binds K fd ps []∧Mk K C f
structure DfM (K:Frag) (C:Addr) (name qual:Str) (st:Stmt):Prop where
 ex:∃ (f:Addr) (oc:Value) (od an:Option Addr) (sl:Array (Option Value)) (kV dc pm cd ct:Value),PySem.W.findIn K (.ref C) name=some (some (.ref f)) ∧
  K.lookup f=some ⟨oc,od,.func (PySem.W.fnOf name qual (fG st) (d3 st) (aN st) .none kV dc pm an cd ct),sl⟩∧PySem.W.codeIn K cd qual=true∧PySem.W.keepIn K (.ref f)=true∧PySem.W.isFn K (.ref f)=true
theorem BR {K:Frag} {C:Addr} {name qual:Str} {st:Stmt} {f:Addr} {oc:Value} {od an:Option Addr} {sl:Array (Option Value)} {kV dc pm cd ct:Value} (a:PySem.W.findIn K (.ref C) name=some (some (.ref f)))
  (l:K.lookup f=some ⟨oc,od,.func (PySem.W.fnOf name qual (fG st) (d3 st) (aN st) .none kV dc pm an cd ct),sl⟩) (c:PySem.W.codeIn K cd qual=true) (k:PySem.W.keepIn K (.ref f)=true) (n:PySem.W.isFn K (.ref f)=true):DfM K C name qual st:=⟨f,oc,od,an,sl,kV,dc,pm,cd,ct,a,l,c,k,n⟩
theorem BA {H:Hp} {a:Addr} {kvs:List (Key×V)} (r:Rd H a (.dK kvs)):IsD H a:=.inl ⟨kvs,r⟩
end
section
variable {X:Cx}
theorem wN {k:Nat} (hr:Room k X.A):OpR X (compareOp .NotIn) (fun x y H Q=>∃ a kvs s,x=.str s∧y=.ref a∧Rd H a (.dK kvs)∧Q (.bl (!(bT kvs (Sum.inr s:Key)).isSome)) H):=by
 intro pins s σ H x y v u Q I rx ry h
 obtain ⟨a,kvs,z,rfl,rfl,e,q⟩:=h
 cases (show u=Value.ref a from ry)
 exact Af (lh hr) I (DGet.rd (k:=Sum.inr z) e) (show RelV (kV (Sum.inr z)) v from rx) fun s' I'=>⟨.bl _,H,I',rfl,q⟩
theorem Bz {k:Nat} (hr:Room k X.A):IxR X (fun x y H Q=>∃ a kvs s v,x=.ref a∧y=.str s∧Rd H a (.dK kvs)∧bT kvs (Sum.inr s:Key)=some v∧Q v H):=by
 intro value slice pins s σ H x y v u Q I rx ry h hs
 obtain ⟨a,kvs,z,v0,rfl,rfl,e,l,q⟩:=h
 cases (show v=Value.ref a from rx)
 have g:DGet H a (kV (Sum.inr z)) (some v0):=by rw [← l]; exact DGet.rd e
 unfold subscriptTail
 refine wpAny_bind ?_
 rw [getitemInPython_of_ne (oE I g).not_modules]
 refine wpAny_bind (wpAny_specialOf (oE I g) PySem.F.slot_dict_getitem.lookup ?_)
 have fin:wpAny (model X.prog X.w) X.A (subscripted slice false (Value.ref a) u) (fun r s₃=>wpAny (model X.prog X.w) X.A (letTemporaryGo value (Value.ref a) r >>= fun _=>pure r) (EP X pins σ Q) X.xe s₃) X.xe s:=by
  rw [hs]
  exact wpAny_operating (xi (lh hr) I g (show RelV (kV (Sum.inr z)) u from ry) fun w' s' I' rw'=>wpAny_bind (wpAny_letTemporaryGo (wpAny_pure ⟨v0,H,I',rw',q⟩)))
 first
  | exact wpAny_pure (wpAny_bind fin)
  | exact wpAny_bind (wpAny_pure (wpAny_bind fin))
  | exact wpAny_bind fin
def kF (x y:PyData):Option PyData:=match x,y with
 | .str s,.dict ds=>some (.bool (!(aL ds s).isSome))
 | _,.dict _=>none
 | x,y=>(inS x y).map fun b=>.bool (!b)
theorem xY {k:Nat} (hr:Room k X.A):OpD X (compareOp .NotIn) kF:=⟨_,(op_notin_str.or oB).or (wN hr),fun O ts H T v1 v2 x y d Q hc h1 h2 e q=>by
 by_cases hd:∃ ds,y=.dict ds
 ·obtain ⟨ds,rfl⟩:=hd
  obtain ⟨a,kvs,rfl,t,r⟩:=h2.dct
  cases x with
  | str s=>
   cases e
   cases h1.str
   refine .inr ⟨a,kvs,s,rfl,rfl,t,?_⟩
   have e:(bT kvs (Sum.inr s:Key)).isSome=(aL ds s).isSome:=by
    rcases iM (s:=s) r with ⟨z1,z2⟩ | ⟨v,d,z1,z2,_⟩ <;> rw [z1,z2] <;> rfl
   rw [e]
   exact q _ H (.refl _ _) hc (.bl _)
  | _=>cases e
 ·have e':((inS x y).map fun b=>.bool (!b))=some d:=by
   cases y with
   | dict ds=>exact absurd ⟨ds,rfl⟩ hd
   | _=>cases x <;> exact e
  exact .inl (m9 true O ts H T v1 v2 x y d Q hc h1 h2 e' q)⟩
def ixA (x y:PyData):Option PyData:=match x,y with
 | .dict ds,.str s=>aL ds s
 | .dict _,_=>none
 | x,y=>ixD x y
theorem kT {k:Nat} (hr:Room k X.A):IxD X ixA:=by
 obtain ⟨r0,h0,s0⟩:=ax (X:=X)
 refine ⟨_,h0.or (Bz hr),fun O ts H T v1 v2 x y d Q hc h1 h2 e q=>?_⟩
 by_cases hd:∃ ds,x=.dict ds
 ·obtain ⟨ds,rfl⟩:=hd
  obtain ⟨a,kvs,rfl,t,r⟩:=h1.dct
  cases y with
  | str s=>
   have e':aL ds s=some d:=e
   cases h2.str
   rcases iM (s:=s) r with ⟨z1,z2⟩ | ⟨v,d',z1,z2,rv⟩
   ·rw [z1] at e'; cases e'
   ·rw [z1] at e'
    cases e'
    exact .inr ⟨a,kvs,s,v,rfl,rfl,t,z2,q _ H (.refl _ _) hc rv⟩
  | _=>cases e
 ·refine .inl (s0 O ts H T v1 v2 x y d Q hc h1 h2 ?_ q)
  cases x with
  | dict ds=>exact absurd ⟨ds,rfl⟩ hd
  | _=>exact e
end
section
variable {X:Cx} {pins:List (Addr×Obj)} {σ:L2.St} {H H2:Hp} {s s2:Shared}
theorem yc (I:Inv X pins σ H s) {a:Addr} {kvs:List (Key×V)} {o:Obj} (e:H a=some (.dK kvs)) (I2:Inv X pins σ H2 s2) (e2:H2 a=some (.frz o (.dK kvs))):Inv X pins σ (upd H2 a (.dK kvs)) s2:=by
 have U:∀ {b:Addr} {u:HO},H2 b=some u→(∀ o ks,u≠.frz o ks)→upd H2 a (.dK kvs) b=some u:=fun {b u} q n=>by
  rw [aO (fun z=>by subst z; rw [e2] at q; cases q; exact n _ _ rfl)]
  exact q
 have N:∀ {b:Addr},H2 b=none→upd H2 a (.dK kvs) b=none:=fun {b} q=>by
  rw [aO (fun z=>by subst z; rw [e2] at q; cases q)]
  exact q
 have hok:HOk X.prog X.w (upd H2 a (.dK kvs)) s2.heap:=fun b u q=>by
  by_cases hb:b=a
  ·subst hb
   rw [bG] at q
   cases q
   exact ObjOk.stay (I2.hok b _ e2).2 (fun _ _ _ q=>q) (fun c q=>U q (fun _ _ z=>nomatch z)) fun c xs q=>U q (fun _ _ z=>nomatch z)
  ·rw [aO hb] at q
   exact (I2.hok b u q).stay (fun _ _ _ q=>q) (fun c q=>U q (fun _ _ z=>nomatch z)) fun c xs q=>U q (fun _ _ z=>nomatch z)
 refine ⟨I2.ok,I2.os,I2.bare,⟨I2.base.keep,I2.base.slot,fun b ob q n hx=>N (I2.base.free b ob q n hx),I2.base.there,fun b xs q=>U (I2.base.tups b xs q) (fun _ _ z=>nomatch z),fun b ob u q=>?_,fun b ps q=>?_⟩,I2.loc,I2.cell,N I2.free,fun x c q=>N (I2.freeC x c q),fun p hp=>?_,hok,I2.len⟩
 ·have h1:=I.base.frzs b ob u q
  rw [aO (fun z=>by subst z; rw [e] at h1; cases h1)]
  exact I2.base.frzs b ob u q
 ·obtain ⟨more,h1⟩:=I2.base.tbls b ps q
  exact ⟨more,U h1 (fun _ _ z=>nomatch z)⟩
 ·obtain ⟨k1,k2,k3⟩:=I2.pin p hp
  exact ⟨k1,N k2,k3⟩
end
inductive Ln (P:Hp→VK→Prop):Hp→VK→Prop where
 | done {H:Hp} {Q:VK}:P H Q→Ln P H Q
 | frz {H:Hp} {Q:VK} {a:Addr} {kvs:List (Key×V)}:H a=some (.dK kvs)→(∀ o,Ln P (upd H a (.frz o (.dK kvs))) (fun v H2=>H2 a=some (.frz o (.dK kvs))∧Q v (upd H2 a (.dK kvs))))→Ln P H Q
theorem CA {X:Cx} {e:Expr} {t:TE} (h:PE X e t):PE X e (fun σ H Q=>Ln (t σ) H Q):=fun pins s σ H Q I q=>by
 have key:∀ {H:Hp} {Q:VK},Ln (t σ) H Q→Inv X pins σ H s→wpAny (model X.prog X.w) X.A (eval e X.env) (EP X pins σ Q) X.xe s:=by
  intro H Q q
  induction q with
  | done q=>exact fun I=>h pins s σ _ _ I q
  | frz ea _ ih=>
   intro I
   obtain ⟨o,I'⟩:=qW I ea
   refine thn (ih o I') fun u s' ⟨v,H2,I2,r,e2,q2⟩=>?_
   exact ⟨v,_,yc I ea I2 e2,r,q2⟩
 exact key q I
section
variable {K:Frag}
theorem TupAt.keep {H H':Hp} (h:∀ b o,H b=some o→(∀ ks,o≠.dK ks)→(∀ ob ks,o≠.frz ob (.dK ks))→H' b=some o) {a:Addr} {vs:List V} (t:TupAt K (fun _=>False) H a vs):TupAt K (fun _=>False) H' a vs:=by
 rcases t with ⟨n,t | ⟨o,t⟩⟩ | t
 ·exact .inl ⟨n,.inl (h _ _ t (fun _ z=>nomatch z) (fun _ _ z=>nomatch z))⟩
 ·exact .inl ⟨n,.inr ⟨o,h _ _ t (fun _ z=>nomatch z) (fun _ _ z=>nomatch z)⟩⟩
 ·exact .inr t
mutual
theorem Rep.keep {H H':Hp} (h:∀ b o,H b=some o→(∀ ks,o≠.dK ks)→(∀ ob ks,o≠.frz ob (.dK ks))→H' b=some o):∀ {v:V} {d:PyData},Rep K (fun _=>False) H v d→bM d=true→Rep K (fun _=>False) H' v d
 | _,_,.non,_=>.non
 | _,_,.bl b,_=>.bl b
 | _,_,.int i,_=>.int i
 | _,_,.str x,_=>.str x
 | _,_,.tup t r,e=>.tup (t.keep h) (Reps.keep h r (by simpa [bM] using e))
 | _,_,.lst t r,e=>by simp [bM] at e
 | _,_,.dct n t r,e=>by simp [bM] at e
theorem Reps.keep {H H':Hp} (h:∀ b o,H b=some o→(∀ ks,o≠.dK ks)→(∀ ob ks,o≠.frz ob (.dK ks))→H' b=some o):∀ {vs:List V} {ds:List PyData},Reps K (fun _=>False) H vs ds→cX ds=true→Reps K (fun _=>False) H' vs ds
 | _,_,.nil,_=>.nil
 | _,_,.cons (d:=d) (ds:=ds) r t,e=>by
  have e':(bM d && cX ds)=true:=by simpa [cX] using e
  rw [Bool.and_eq_true] at e'
  exact .cons (Rep.keep h r e'.1) (Reps.keep h t e'.2)
end
end
def tJ:W→Option W
 | .d x=>some (.d x)
 | .loc x=>some (.d x)
 | .tp _=>none
def eh (ρ:Rho):Rho:=ρ.map fun o=>o.bind tJ
def Fz (O:Addr→Prop) (H0 H:Hp):Prop:=∀ b,H b=H0 b∨∃ kvs o,O b∧H0 b=some (.dK kvs)∧H b=some (.frz o (.dK kvs))
section
variable {K:Frag} {O:Addr→Prop} {ts:List Addr} {H0 H:Hp} {T:Tp} {σ:L2.St} {ρ:Rho}
theorem x6 (re:RelE K O ts H0 σ ρ) (fz:Fz O H0 H) (all:∀ (j:Nat) (a:Addr) (ds:List (PyData×PyData)),ρ[j]? = some (some (.loc (.dict ds)))→σ[j]? = some (some (.ref a))→∃ o kvs,H a=some (.frz o (.dK kvs))):RelE K (fun _=>False) [] H σ (eh ρ):=by
 have le:Le O H0 (fun _=>False) H:=fun b o n e=>⟨fun z=>z,by
  rcases fz b with q | ⟨_,_,q,_,_⟩
  ·rw [q]; exact e
  ·exact absurd q n⟩
 intro i w e
 unfold eh at e
 rw [List.getElem?_map] at e
 cases hu:ρ[i]? with
 | none=>rw [hu] at e; cases e
 | some u=>
  cases u with
  | none=>rw [hu] at e; cases e
  | some u=>
   rw [hu] at e
   have e':tJ u=some w:=Option.some.inj e
   obtain ⟨v,h1,h2⟩:=re i u hu
   cases u with
   | d x=>cases e'; exact ⟨v,h1,Rep.mono le h2⟩
   | tp k=>cases e'
   | loc x=>
    cases e'
    obtain ⟨a,rfl,k1,k2,k3⟩:=h2
    refine ⟨_,h1,?_⟩
    cases x with
    | list xs=>
     obtain ⟨vs,k3,k4⟩:=k3
     refine .lst (.inl ⟨fun z=>z,.inl ?_⟩) (k4.mono le)
     rcases fz a with q | ⟨_,_,_,q,_⟩
     ·rw [q]; exact k3
     ·rw [k3] at q; cases q
    | dict ds=>
     obtain ⟨kvs,k3,k4⟩:=k3
     obtain ⟨o,kvs',h3⟩:=all i a ds hu h1
     rcases fz a with q | ⟨kvs2,o2,_,q,q2⟩
     ·rw [q,k3] at h3; cases h3
     ·rw [k3] at q
      cases q
      exact .dct (fun z=>z) q2 (k4.mono le)
    | _=>cases k3
theorem kl {P:Hp→VK→Prop} {x:PyData} (hx:bM x=true) (re:RelE K O ts H0 σ ρ) (fin:∀ H Q,RelE K (fun _=>False) [] H σ (eh ρ)→(∀ v H2,SameX [] H H2→Rep K (fun _=>False) H2 v x→Q v H2)→P H Q):∀ (k:Nat) {H:Hp} {Q:VK},Fz O H0 H →
  (∀ (j:Nat) (a:Addr) (ds:List (PyData×PyData)),k≤j→ρ[j]? = some (some (.loc (.dict ds)))→σ[j]? = some (some (.ref a))→∃ o kvs,H a=some (.frz o (.dK kvs)))→(∀ v H2,SameX [] H H2→Rep K (fun _=>False) H2 v x→Q v H2)→Ln P H Q
 | 0,H,Q,fz,all,q=>.done (fin H Q (x6 re fz fun j a ds=>all j a ds (Nat.zero_le _)) q)
 | k + 1,H,Q,fz,all,q=>by
  by_cases h:∃ ds,ρ[k]? = some (some (.loc (.dict ds)))
  ·obtain ⟨ds,h⟩:=h
   obtain ⟨v,h1,a,rfl,k1,k2,kvs,k3,k4⟩:=re k _ h
   rcases fz a with z | ⟨kvs2,o2,_,z,z2⟩
   ·rw [k3] at z
    refine .frz z fun o=>kl hx re fin k (fun b=>?_) (fun j b es hj e1 e2=>?_) (fun v H2 s2 r=>?_)
    ·by_cases hb:b=a
     ·subst hb; exact .inr ⟨kvs,o,k1,k3,bG⟩
     ·rw [aO hb]; exact fz b
    ·by_cases hb:b=a
     ·subst hb; exact ⟨o,kvs,bG⟩
     ·rw [aO hb]
      by_cases hk:k=j
      ·subst hk; rw [h1] at e2; cases e2; exact absurd rfl hb
      ·exact all j b es (by omega) e1 e2
    ·have ha:H2 a=some (.frz o (.dK kvs)):=s2 a _ (by simp) bG
     refine ⟨ha,q v _ (fun b ob _ e=>?_) (Rep.keep (fun b ob e n1 n2=>?_) r hx)⟩
     ·by_cases hb:b=a
      ·subst hb; rw [z] at e; cases e; exact bG
      ·rw [aO hb]
       exact s2 b ob (by simp) (by rw [aO hb]; exact e)
     ·have hb:b≠a:=fun z=>by subst z; rw [ha] at e; cases e; exact n2 _ _ rfl
      rw [aO hb]
      exact e
   ·refine kl hx re fin k fz (fun j b es hj e1 e2=>?_) q
    by_cases hk:k=j
    ·subst hk; rw [h1] at e2; cases e2; exact ⟨o2,kvs2,z2⟩
    ·exact all j b es (by omega) e1 e2
  ·refine kl hx re fin k fz (fun j b es hj e1 e2=>?_) q
   by_cases hk:k=j
   ·subst hk; exact absurd ⟨es,e1⟩ h
   ·exact all j b es (by omega) e1 e2
end
def k7 (T:Tp) (o:Option (W×Tp)):Option (W×Tp):=match o with
 | some (.d x,_)=>if bM x=true then some (.d x,T) else none
 | _=>none
def i6 (f:FE):FE:=fun ρ T=>k7 T (f (eh ρ) [])
theorem Ad {X:Cx} {e:Expr} {f:FE} (he:DE X e f):DE X e (i6 f):=by
 refine ⟨bD (CA he.pe) fun σ H Q=>?_⟩
 rintro ⟨O,ts,ρ,T,w,T',hc,re,e,q⟩
 unfold i6 k7 at e
 split at e
 ·rename_i x T1 h1
  split at e
  ·rename_i hx
   cases e
   refine kl hx re (fun H1 Q1 re1 q1=>⟨fun _=>False,[],eh ρ,[],.d x,T1,⟨fun b hb=>(by cases hb),fun b hb=>hb.elim,List.nodup_nil,rfl,fun i a xs e1 _=>by simp at e1⟩,re1,h1,fun v H2 s2 _ r2=>q1 v H2 s2 r2⟩) ρ.length (fun b=>.inl rfl) (fun j a ds hj e1 _=>?_) (fun v H2 s2 r2=>?_)
   ·rw [List.getElem?_eq_none hj] at e1; cases e1
   ·have s2':SameX ts H H2:=fun b o _ q=>s2 b o (by simp) q
    have hm:∀ b,O b→Mut (H2 b):=fun b hb=>(hc.trk b hb).to fun u z=>s2 b _ (by simp) z
    have hc2:=hc.step s2' fun b hb=>by
     obtain ⟨u,z⟩:=(hc.trk b (hc.own b hb)).ex
     rw [z]; exact s2 b _ (by simp) z
    exact q v H2 s2' hc2 (Rep.own hm r2 hx)
  ·cases e
 ·cases e
section
variable {X:Cx} {pos:Pos} {e:Expr} {fe:FE}
def gP (i:Nat):FS:=fun ρ T=>some ((.nx,ρ.set i (some (.loc (.dict [])))),T)
theorem qY {i:Nat} {x:Str} {pos' dpos:Pos} (hN:X.N.Nodup) (hi:X.N[i]? = some x:=by rfl) (hx:Loc X.env.scope x:=by first | exact Or.inl rfl | exact Or.inr rfl)
  (hs:swapsWith (.Dict [] [] dpos) (some (.Name x pos')) pos.line X.env=pure false:=by rfl) (hf:X.fn x=true∨X.env.scope.names.lookup x=some .local:=by first | exact .inl rfl | exact .inr rfl | assumption):DS X (.Assign [.Name x pos'] (.Dict [] [] dpos) pos) (gP i):=by
 refine ⟨?_⟩
 refine cU (kD hN hi hx xS hs hf) fun D σ H=>?_
 rintro ⟨O₀,H₀,F,ts,O,ρ,T,fl,ρ',T',rs,e,q⟩
 cases e
 intro p hp
 exact q _ _ _ (rs.ownO hp (.inr (.inl ⟨_,rfl⟩)) fun le=>⟨[],bG,.nil⟩)
def putN (ds:List (PyData×PyData)) (s:Str) (x:PyData):List (PyData×PyData):=if (aL ds s).isSome=true then bX ds s x else ds++[(.str s,x)]
theorem RepK.app {K:Frag} {O:Addr→Prop} {H:Hp} {s:Str} {v:V} {x:PyData} (rx:Rep K O H v x):∀ {kvs:List (Key×V)} {ds:List (PyData×PyData)},RepK K O H kvs ds→RepK K O H (kvs++[(Sum.inr s,v)]) (ds++[(.str s,x)])
 | _,_,.nil=>.cons (k:=Sum.inr s) rx .nil
 | _,_,.cons r t=>.cons r (RepK.app rx t)
theorem qI {K:Frag} {O:Addr→Prop} {H:Hp} {s:Str} {v:V} {x:PyData} (rx:Rep K O H v x) {kvs:List (Key×V)} {ds:List (PyData×PyData)} (r:RepK K O H kvs ds):RepK K O H (putK kvs (Sum.inr s) v) (putN ds s x):=by
 unfold putN
 rcases iM (s:=s) r with ⟨z1,z2⟩ | ⟨v',d',z1,z2,_⟩
 ·rw [z1,if_neg (by simp),xD v z2]
  exact r.app rx
 ·rw [z1,if_pos (show (some d').isSome=true by rfl)]
  have hany:(kvs.any fun kv=>decide (kv.1=(Sum.inr s:Key)))=true:=wj (by rw [z2]; rfl)
  unfold putK
  rw [if_pos hany]
  exact l7 rx r
def kY (i:Nat) (ρ:Rho) (ds:List (PyData×PyData)) (w k:W) (T:Tp):Option ((Fl×Rho)×Tp):=match w,k with
 | .d x,.d (.str s)=>if ds.length≤1000 then some ((.nx,ρ.set i (some (.loc (.dict (putN ds s x))))),T) else none
 | _,_=>none
def kX (i:Nat) (fk:FE) (ρ:Rho) (w:W) (T:Tp) (o:Option (Option W)):Option ((Fl×Rho)×Tp):=match o with
 | some (some (.loc (.dict ds)))=>bnd (fk ρ T) (kY i ρ ds w)
 | _=>none
def gQ (i:Nat) (fk fv:FE):FS:=fun ρ T=>bnd (fv ρ T) fun w T1=>kX i fk ρ w T1 ρ[i]?
theorem qZ {i:Nat} {x:Str} {kx:Expr} {fk fv:FE} {p pos':Pos} {k:Nat} (hr:Room k X.A) (hk:DE X kx fk) (he:DE X e fv) (hN:X.N[i]? = some x:=by rfl) (hv:Vis X.env.scope x:=by first | exact Or.inl rfl | exact Or.inr (Or.inl rfl) | exact Or.inr (Or.inr rfl)) (hd:(x == ("__debug__" : Str))=false:=by decide)
  (hcd:(x == ("__classdict__" : Str))=false:=by decide) (hs:swapsWith e (some (.Subscript (.Name x p) kx pos')) pos.line X.env=pure false:=by rfl):DS X (.Assign [.Subscript (.Name x p) kx pos'] e pos) (gQ i fk fv):=by
 refine ⟨?_⟩
 refine cU (zg (lh hr) (pv i hN hv hd hcd) hk.pe he.pe hs) fun D σ H=>?_
 rintro ⟨O₀,H₀,F,ts,O,ρ,T,fl,ρ',T',rs,e,q⟩
 obtain ⟨w,T1,e1,e⟩:=aM e
 refine ⟨O,ts,ρ,T,w,T1,rs.hc,rs.re,e1,fun v H1 s1 hc1 r1=>?_⟩
 have rs1:=rs.step s1 hc1
 unfold kX at e
 split at e
 ·rename_i ds c3
  obtain ⟨wk,T3,e3,e⟩:=aM e
  unfold kY at e
  split at e
  ·rename_i xv s _
   split at e
   ·rename_i c2
    cases e
    obtain ⟨u,k1,a,rfl,k2,k3,kvs,k4,k5⟩:=rs1.re i _ c3
    refine ⟨_,k1,O,ts,ρ,T1,_,_,rs1.hc,rs1.re,e3,fun y H3 s3 hc3 r3=>?_⟩
    have rs3:=rs1.step s3 hc3
    cases (show Rep X.K O H3 y (.str s) from r3)
    have k4':H3 a=some (.dK kvs):=s3 _ _ k3 k4
    have k5':RepK X.K O H3 kvs ds:=k5.mono (hc1.le s3)
    have hlen:kvs.length < sizeLine:=by
     rw [j7 k5']
     exact Nat.lt_of_le_of_lt c2 (by decide)
    have rx:Rep X.K O H3 v xv:=RepW.mono (w:=.d xv) r1 hc1 s3
    refine ⟨a,_,rfl,DPut.k (k:=(Sum.inr s:Key)) k4' hlen,?_⟩
    exact q O σ _ (rs3.putO c3 k1 (.inr (.inl ⟨_,rfl⟩)) fun le=>⟨_,bG,qI (Rep.mono le rx) (k5'.mono le)⟩)
   ·cases e
  ·cases e
 ·cases e
end
section
variable {K:Frag} {O₀:Addr→Prop} {H₀:Hp} {F:List ((Addr→Prop)×Hp)} {ts:List Addr} {O:Addr→Prop} {H:Hp} {σ:L2.St} {ρ:Rho} {T:Tp}
end
section
variable {X:Cx} {pos:Pos} {rest:List Stmt} {fr:FS}
end
section
variable {X:Cx} {pos:Pos}
end
section
variable {X:Cx}
end
theorem yi {P:Program} {w:World} {K:Frag} {mg:Str→Option Value} {base:Heap} {CX:CXT} {k:Nat} {f:Addr} {fd:FuncData} {ps:List Str} {sp sp':Sp} (F:FnOk P w K mg base CX k f fd ps sp) (i:∀ vs H Q E,sp' vs H Q E→sp vs H Q E):FnOk P w K mg base CX k f fd ps sp':=⟨fun vs H Q E h=>F.1 vs H Q E (i _ _ _ _ h),fun A outer s H args us vs Q E a b c d h=>F.2 A outer s H args us vs Q E a b c d (i _ _ _ _ h)⟩
theorem w6 {K:Frag} {m:FnM} (hm:∀ ns:List Int,ns.length≤63→∃ T',m [.d (aS ns)] []=some (.bool true,T')):∀ vs H Q E,kU K vs H Q E→spM K 1 m vs H Q E:=by
 intro vs H Q E h
 obtain ⟨a,ns,rfl,hS,hl,q⟩:=h
 obtain ⟨T',e⟩:=hm ns hl
 have ra:LstAt K (fun _=>False) H a (ns.map V.int):=by
  rcases hS with h | h
  ·exact .inl ⟨fun z=>z,h⟩
  ·exact .inr (.inr h)
 refine ⟨fun _=>False,[],[],[.d (aS ns)],.bool true,T',⟨fun b hb=>(by cases hb),fun b hb=>hb.elim,List.nodup_nil,rfl,fun i a xs e1 _=>by simp at e1⟩,.cons (show Rep K (fun _=>False) H (.ref a) (aS ns) from .lst ra (pf ns)) .nil,rfl,e,fun v H' _ _ r=>?_⟩
 cases r
 exact q H'
def oj:PyData→PyData→Option PyData:=iop fun i j=>if 0≤j then some (.int (i / 2 ^ j.toNat)) else none
theorem CM {X:Cx}:OpD X (binaryOp .RShift) oj:=⟨_,Ba,kz fun i j d e=>by
 have e':(if 0≤j then some (PyData.int (i / 2 ^ j.toNat)) else none)=some d:=e
 split at e'
 ·rename_i h
  cases e'
  exact ⟨h,fun O H=>.int _⟩
 ·cases e'⟩
@[simp] theorem EV {i j:Int}:oj (.int i) (.int j)=if 0≤j then some (.int (i / 2 ^ j.toNat)) else none:=rfl
section
variable {X:Cx}
end
end D
namespace L2
open PySem PySem.Spec PyProof.Rows
structure CSn (osc:Scope) (N:List Str) (xs:List Str) (scope:Scope) (N':List Str):Prop where
 kind:scope.kind=.function
 nocell:∀ y∈scope.names,y.2≠.cell
 names:∀ y∈scope.names,y.2=.local→scope.names.lookup y.1=some .local
 hx:∀ x∈xs,scope.names.lookup x=some .local
 only:∀ y∈scope.names,y.2=.local→y.1∈xs∨y.1 = ".0"
 free:∀ y∈scope.names,y.2=.free→osc.names.lookup y.1=some .cell∨osc.names.lookup y.1=some .free
 nd:(xs++N').Nodup
 n0:(".0" : Str)∉N'
 len:N'.length=N.length
 rel:∀ p∈N'.zip N,p.1=p.2∨∀ q∈scope.names,q.1≠p.1
theorem CSn.at {osc:Scope} {N N':List Str} {xs:List Str} {scope:Scope} (S:CSn osc N xs scope N') {j:Nat} {y:Str} (h:N'[j]? = some y):N[j]? = some y∨∀ q∈scope.names,q.1≠y:=by
 have hl:j < N'.length:=(List.getElem?_eq_some_iff.mp h).1
 have hl2:j < N.length:=by rw [← S.len]; exact hl
 have m:(N'.zip N)[j]? = some (y,N[j]):=by
  rw [List.getElem?_zip_eq_some]
  exact ⟨h,List.getElem?_eq_getElem hl2⟩
 rcases S.rel _ (List.mem_of_getElem? m) with z | z
 ·left
  rw [List.getElem?_eq_getElem hl2]
  exact congrArg some z.symm
 ·exact .inr z
abbrev dz (X:Cx) (xs:List Str) (scope:Scope) (C:Addr) (s0:Shared) (H0:Hp) (ex:List Addr) (N':List Str):Cx where
 prog:=X.prog
 w:=X.w
 K:=X.K
 mg:=X.mg
 base:=X.base
 A:=X.A
 N:=xs++N'
 s₀:=s0
 H₀:=H0
 env:=compEnvC scope (bJ X.env scope.names []) C X.env
 outer:=X.stack
 stack:=X.stack
 ex:=ex
 fn:=fun _=>false
 calm:=X.calm
 pn:=[]
 xe:=fun _ _=>False
section
variable {X:Cx} {pins:List (Addr×Obj)} {σ:St} {H:Hp} {s:Shared} {xs:List Str} {scope:Scope} {N':List Str}
theorem pC (I:Inv X pins σ H s) (S:CSn X.env.scope X.N xs scope N'):∀ y∈scope.names,y.2=.free→∃ c,X.env.cells.lookup y.1=some c:=fun y hy e=>
 I.ok.has y.1 (S.free y hy e)
theorem oT (I:Inv X pins σ H s) (S:CSn X.env.scope X.N xs scope N') {y:Str} {c:Addr} (e:(bJ X.env scope.names []).lookup y=some c):X.env.cells.lookup y=some c:=lR scope.names [] y c (fun _ _ z=>by simp at z) (pC I S) e
theorem pH (I:Inv X pins σ H s) (S:CSn X.env.scope X.N xs scope N') {y:Str} (e:(y,NameKind.free)∈scope.names):∃ c,(bJ X.env scope.names []).lookup y=some c∧X.env.cells.lookup y=some c:=by
 obtain ⟨c,hc⟩:=Option.isSome_iff_exists.mp (lV (env:=X.env) scope.names [] y e)
 exact ⟨c,hc,oT I S hc⟩
theorem vR {fp:List Addr} {h':Heap} {m:Str→Option Value} {tk:Nat} {oD oC:Obj} (I:Inv X pins σ H s) (S:CSn X.env.scope X.N xs scope N') (hf:∀ b∈fp,cM X pins H b) (ho:∀ b∈fp,∃ o,s.heap.get? b=some o)
  (hns:h'.Ns (s.heap.push oD).objs.size m) (hsb:Heap.SameBut (s.heap.push oD).objs.size ((s.heap.push oD).push oC) h') :
  Inv (dz X xs scope (s.heap.push oD).objs.size { s with heap:=s.heap.push oD } H (s.heap.objs.size::fp) N') [] (List.replicate xs.length none++σ) H { s with heap:=h',toks:=tk }:=by
 have I3:Inv X pins σ H { s with heap:=s.heap.push oD,toks:=s.toks }:=I.kept fun b o e=>Heap.get?_push_of_some _ e
 have hC:(s.heap.push oD).objs.size=s.heap.objs.size + 1:=Heap.size_push ..
 have up3:∀ b o,(s.heap.push oD).get? b=some o→h'.get? b=some o:=fun b o e=>
  (hsb.2 b (Nat.ne_of_lt (Heap.lt_size e))).trans (Heap.get?_push_of_some _ e)
 have up:∀ b o,s.heap.get? b=some o→h'.get? b=some o:=fun b o e=>up3 b o (Heap.get?_push_of_some _ e)
 have cl:=fun {y c} e=>oT (y:=y) (c:=c) I S e
 have clt:∀ y c,X.env.cells.lookup y=some c→c < s.heap.objs.size:=fun y c e=>let ⟨v,q⟩:=I.cell y c e; q.lt
 have inner:∀ {y:Str} {k':NameKind},(relabel scope X.env).names.lookup y=some k'→(k'=.cell∨k'=.free)→(y,NameKind.free)∈scope.names:=fun {y k'} e hk=>by
  obtain ⟨k,mem,r⟩:=iF e
  rcases r with r | ⟨r,_⟩
  ·rcases hk with z | z
   ·exact absurd (r.symm.trans z) (S.nocell _ mem)
   ·rw [← r.symm.trans z]; exact mem
  ·rw [← r]; exact mem
 have ok:(dz X xs scope (s.heap.push oD).objs.size { s with heap:=s.heap.push oD } H (s.heap.objs.size::fp) N').Ok:=by
  refine ⟨I.ok.mod,S.kind,I.ok.glob,I.ok.blt,Nat.le_refl _,fun y z c e1 e2=>I.ok.inj y z c (cl e1) (cl e2),fun y hk=>?_,fun y c e=>(nomatch e),I.ok.hd,I.ok.frames,.inl rfl,fun b hb=>?_,fun b o e=>?_,
   Nat.le_trans (Nat.le_trans I.ok.bsz I.sz) (by show s.heap.objs.size≤(s.heap.push oD).objs.size; omega),fun b o e hb=>?_,fun b hb z=>?_,I3.stack,I.stkFree⟩
  ·have mem:(y,NameKind.free)∈scope.names:=by
    rcases hk with z | z
    ·exact inner z (.inl rfl)
    ·exact inner z (.inr rfl)
   obtain ⟨c,hc,_⟩:=pH I S mem
   exact ⟨c,hc⟩
  ·rcases List.mem_cons.mp hb with e | e
   ·subst e
    exact ⟨by show s.heap.objs.size≠(s.heap.push oD).objs.size; omega,fun y c e=>Nat.ne_of_lt (clt y c (cl e))⟩
   ·obtain ⟨o,q⟩:=ho b e
    have q2:=Heap.lt_size q
    exact ⟨by show b≠(s.heap.push oD).objs.size; rw [hC]; exact Nat.ne_of_lt (Nat.lt_succ_of_lt q2),fun y c e'=>(hf b e).2.2.2.2.1 y c (cl e')⟩
  ·exact ⟨Heap.get?_push_of_some _ (I.bs b o e).1,(I.bs b o e).2⟩
  ·rcases List.mem_cons.mp hb with z | z
   ·have q2:=Heap.lt_size (I.bs b o e).1
    rw [z] at q2
    exact Nat.lt_irrefl _ q2
   ·rcases (hf b z).2.2.2.1 with q | q
    ·exact I.ok.noex b o e q
    ·have q2:=Heap.lt_size (I.ok.bs b o e).1
     exact Nat.lt_irrefl _ (Nat.lt_of_lt_of_le q2 q)
  ·have z':=I.stkSub b z
   rcases List.mem_cons.mp hb with e | e
   ·subst e
    rcases List.mem_cons.mp z' with q | q
    ·have q2:=I.lt
     rw [← q] at q2
     exact Nat.lt_irrefl _ q2
    ·exact I.nofs (Nat.le_refl _) q
   ·rcases List.mem_cons.mp z' with q | q
    ·exact (hf b e).2.1 q
    ·exact (hf b e).2.2.1 q
 obtain ⟨mo,hno,hlo⟩:=I.loc
 refine ⟨ok,rfl,I.bare,Un.kept up3,⟨m,hns,fun i y v e1 e2 e3=>?_⟩,fun y c e=>?_,I.hok.fresh (by show s.heap.objs.size≤(s.heap.push oD).objs.size; omega),fun y c e=>I.freeC y c (cl e),fun p hp=>absurd hp (by simp),I.hok.kept up,?_⟩
 ·by_cases hi:i < xs.length
  ·rw [List.getElem?_append_left (by simpa using hi)] at e2
   have:=List.mem_of_getElem? e2
   rw [List.mem_replicate] at this
   cases this.2
  ·obtain ⟨j,rfl⟩:∃ j,i=xs.length + j:=⟨i - xs.length,by omega⟩
   have e1n:N'[j]? = some y:=by
    have e1':(xs++N')[xs.length + j]? = some y:=e1
    rw [List.getElem?_append_right (by omega)] at e1'
    simpa using e1'
   have vis:∃ k,(y,k)∈scope.names:=by
    rcases (show Vis (relabel scope X.env) y from e3) with z | z | z <;> exact let ⟨k,mem,_⟩:=iF z; ⟨k,mem⟩
   have e1':X.N[j]? = some y:=by
    rcases S.at e1n with z | z
    ·exact z
    ·obtain ⟨k,mem⟩:=vis
     exact absurd rfl (z _ mem)
   have e2':σ[j]? = some (some v):=by
    rw [List.getElem?_append_right (by simp)] at e2
    simpa using e2
   have yx:y∉xs:=fun z=>(List.nodup_append.mp S.nd).2.2 y z y (List.mem_of_getElem? e1n) rfl
   have kin:((relabel scope X.env).names.lookup y=some .cell∨(relabel scope X.env).names.lookup y=some .free):=by
    rcases (show Vis (relabel scope X.env) y from e3) with z | z | z
    ·obtain ⟨k,mem,r⟩:=iF z
     rcases r with r | ⟨_,r⟩
     ·rcases S.only _ mem r.symm with z2 | z2
      ·exact absurd z2 yx
      ·exact absurd (List.mem_of_getElem? e1n) (by rw [show y=(".0" : Str) from z2]; exact S.n0)
     ·cases r
    ·exact .inl z
    ·exact .inr z
   have mem:(y,NameKind.free)∈scope.names:=by
    rcases kin with z | z
    ·exact inner z (.inl rfl)
    ·exact inner z (.inr rfl)
   have vo:Vis X.env.scope y:=by
    rcases S.free _ mem rfl with z | z
    ·exact .inr (.inl z)
    ·exact .inr (.inr z)
   obtain ⟨u,ru,lk⟩:=hlo j y v e1' e2' vo
   refine ⟨u,ru,.inr ⟨kin,?_⟩⟩
   obtain ⟨c,hc,hc'⟩:=pH I S mem
   refine ⟨c,hc,?_⟩
   rcases lk with ⟨z,_⟩ | ⟨_,c2,z2,q⟩
   ·exfalso
    have z':X.env.scope.names.lookup y=some .local:=z
    rcases S.free _ mem rfl with r | r <;> (rw [z'] at r; cases r)
   ·rw [hc'] at z2
    cases z2
    obtain ⟨o,q1,q2⟩:=q
    exact ⟨o,up _ _ q1,q2⟩
 ·obtain ⟨v,o,q1,q2⟩:=I.cell y c (cl e)
  exact ⟨v,o,up _ _ q1,q2⟩
 ·have:=I.len
  show (List.replicate xs.length none++σ).length=(xs++N').length
  simp [this,S.len]
theorem vQ {fp:List Addr} {σ':St} {pins':List (Addr×Obj)} {H1:Hp} {s1:Shared} {h':Heap} {C:Addr} {oD:Obj} {ys:List V} (I:Inv X pins σ H s) (hf:∀ b∈fp,cM X pins H b)
  (hCd:C=(s.heap.push oD).objs.size) (J:Inv (dz X xs scope C { s with heap:=s.heap.push oD } H (s.heap.objs.size::fp) N') pins' σ' H1 s1) (hsb:Heap.SameBut C s1.heap h') (hD0:H1 s.heap.objs.size=none)
  (new:∃ its n,Vals ys its∧s1.heap.get? s.heap.objs.size=some { cls:=.type "list",data:=.seq its.toArray n }) (hz:ys.length≤sizeLine) :
  Inv X pins σ (upd H1 s.heap.objs.size (.lst ys)) { s1 with heap:=h' }:=by
 have hC:C=s.heap.objs.size + 1:=by rw [hCd]; exact Heap.size_push ..
 have nD:∀ b o,s.heap.get? b=some o→b≠s.heap.objs.size:=fun b o e=>Nat.ne_of_lt (Heap.lt_size e)
 have nC:∀ b o,s.heap.get? b=some o→b≠C:=fun b o e=>by rw [hC]; exact Nat.ne_of_lt (Nat.lt_succ_of_lt (Heap.lt_size e))
 have up:∀ b o,s.heap.get? b=some o→(s.heap.push oD).get? b=some o:=fun b o e=>Heap.get?_push_of_some _ e
 have nx:∀ b,b∉fp→b≠s.heap.objs.size→b∉s.heap.objs.size::fp:=fun b h1 h2 z=>(List.mem_cons.mp z).elim h2 h1
 have hDC:s.heap.objs.size≠C:=by rw [hC]; exact Nat.ne_of_lt (Nat.lt_succ_self _)
 have tr:∀ b u,H1 b=some u→b≠s.heap.objs.size:=fun b u e z=>by rw [z,hD0] at e; cases e
 have trC:∀ b u,H1 b=some u→b≠C:=fun b u e z=>by
  have:=J.free
  rw [z] at e
  have q:H1 C=none:=J.free
  rw [q] at e; cases e
 obtain ⟨its,n,rv,eD⟩:=new
 have B:Un (frs X.stack) (s.heap.objs.size::fp) H H1 (s.heap.push oD) s1.heap:=J.base
 refine I.call' (s':={ s1 with heap:=h' }) (ch:=fp) J.os ⟨fun b o e q h1 h2=>?_,fun b o e q h1 h2=>?_,fun b o e q h2=>?_,fun b o e h2=>?_,fun b xs e=>?_,fun b o u e=>?_,fun b ps e=>?_⟩ (fun b u e=>?_) J.bare fun b hb=>?_
 ·exact (hsb.2 b (nC b o e)).trans (B.keep b o (up b o e) q h1 (nx b h2 (nD b o e)))
 ·obtain ⟨sl,z⟩:=B.slot b o (up b o e) q h1 (nx b h2 (nD b o e))
  exact ⟨sl,(hsb.2 b (nC b o e)).trans z⟩
 ·rw [aO (nD b o e)]
  exact B.free b o (up b o e) q (nx b h2 (nD b o e))
 ·obtain ⟨o',z⟩:=B.there b o (up b o e) (nx b h2 (nD b o e))
  exact ⟨o',(hsb.2 b (nC b o e)).trans z⟩
 ·have z:=B.tups b xs e
  rw [aO (tr b _ z)]; exact z
 ·have z:=B.frzs b o u e
  rw [aO (tr b _ z)]; exact z
 ·obtain ⟨more,z⟩:=B.tbls b ps e
  exact ⟨more,by rw [aO (tr b _ z)]; exact z⟩
 ·by_cases hb:b=s.heap.objs.size
  ·subst hb
   rw [bG] at e
   cases e
   exact ⟨hz,its,n,rv,(hsb.2 _ hDC).trans eD⟩
  ·rw [aO hb] at e
   refine (J.hok b u e).stay (fun c v hc q=>(hsb.2 c ?_).trans q) (fun c q=>by rw [aO (tr c _ q)]; exact q) fun c xs q=>by rw [aO (tr c _ q)]; exact q
   rcases hc with z | z
   ·rw [z]; exact trC b u e
   ·exact trC c _ z
 ·obtain ⟨_,f1,_,f3,f4,f5⟩:=hf b hb
  exact ⟨f3,f1,f4,f5⟩
end
theorem vS {prog:Program} {w:World} {A:Around} {R:Result→Shared→Prop} {s:Shared} {elt tg iter:Expr} {ifs:List Expr} {scope:Scope} {pos:Pos} {it acc:Value} {env:Env} (I:Nat→Shared→Prop)
  (turn:∀ n s,I n s→wpAny (model prog w) A (pyNext it) (fun r s1=>match r with
   | none=>R (.ok .next) s1
   | some v=>wpAny (model prog w) A (letOwnedTupleGo tg it v) (fun _ s2=>wpAny (model prog w) A (assign tg env v) (fun _ s2=>
     wpAny (model prog w) A (forIn ifs true fun c r=>if r=true then do
      let ok ← isTrue c env (eval c env)
      pure (ForInStep.yield ok) else pure (ForInStep.yield r)) (fun ok s3=>
      if ok=true then wpAny (model prog w) A (eval elt env) (fun x s4=>wpAny (model prog w) A (call (.builtin "list.append") [acc,x]) (fun _ s5=>∃ m,m < n∧I m s5)
       (notedBy (model prog w) A env fun e s'=>R (.error e) s') s4) (notedBy (model prog w) A env fun e s'=>R (.error e) s') s3
      else ∃ m,m < n∧I m s3) (notedBy (model prog w) A env fun e s'=>R (.error e) s') s2) (notedBy (model prog w) A env fun e s'=>R (.error e) s') s2) (notedBy (model prog w) A env fun e s'=>R (.error e) s') s1) (notedBy (model prog w) A env fun e s'=>R (.error e) s') s)
  (n:Nat) (h:I n s):codeAny (model prog w) A (.compLoop (.ListComp elt [⟨tg,iter,ifs,0⟩] scope pos) 0 it acc env) R s:=by
 refine codeAny_loop rfl I (fun n s hI=>wpAny_noted ?_) n h
 rw [compTurn_list]
 refine wpAny_bind (wpAny_standAt (wpAny_bind (thn (turn n s hI) fun r s1 h1=>?_)))
 cases r with
 | none=>exact wpAny_pure h1
 | some v=>
  refine wpAny_bind (thn h1 fun _ s2 h2=>wpAny_bind (thn h2 fun _ s3 h3=>wpAny_bind (thn h3 fun ok s4 h4=>?_)))
  cases ok with
  | false=>exact wpAny_pure ⟨rfl,h4⟩
  | true=>exact wpAny_bind (wpAny_bind (thn h4 fun x s5 h5=>wpAny_bind (thn h5 fun _ s6 h6=>wpAny_pure (wpAny_pure ⟨rfl,h6⟩))))
def nK (n:Nat) (g:TG) (σ:St) (J:It) (tt:TT) (te:TE) (W:Nat→Nat→List V→Hp→Prop) (D:List V→Hp→Prop):Prop:=∀ i m ys H,W i m ys H →
 (J.stop i H∧ys.length≤sizeLine∧D ys H)∨(J.go i H∧ys.length < sizeLine∧∃ N:List V→Hp→Prop,(∀ ys' H',N ys' H'→∃ m',m' < m∧W (i + 1) m' ys' H')∧∀ v H',J.yld i H v H'→∀ σx:St,σx.length=n→g v (σx++σ) H' fun σ1 H1=>(∃ σy:St,σy.length=n∧σ1=σy++σ)∧tt σ1 H1 fun b H2=>
  if b=true then te σ1 H2 fun y H3=>N (ys++[y]) H3 else N ys H2)
section
variable {X:Cx} {pins:List (Addr×Obj)} {σ:St} {H:Hp} {s:Shared} {xs:List Str} {scope:Scope} {N':List Str}
theorem wg {fp:List Addr} {it C:Addr} {tn:Nat→Heap→Prop} {J:It} {oD:Obj} {elt iter:Expr} {ifs:List Expr} {pos:Pos} {tg:Expr} {g:TG} {te:TE} {tt:TT} {W:Nat→Nat→List V→Hp→Prop} {Dn:List V→Hp→Prop}
  {R:Result→Shared→Prop} {σ':St} {s4:Shared} {m0:Nat} (hcalm:X.calm=true) (S:CSn X.env.scope X.N xs scope N') (hf:∀ b∈fp,cM X pins H b) (ho:∀ b∈fp,∃ o,s.heap.get? b=some o) (hCd:C=(s.heap.push oD).objs.size)
  (T:Turn X.prog X.w X.K tg J fp it tn) (I4:Inv (dz X xs scope C { s with heap:=s.heap.push oD } H (s.heap.objs.size::fp) N') [] (List.replicate xs.length none++σ) H s4) (st4:tn 0 s4.heap) (hD4:s4.heap.get? s.heap.objs.size=some { cls:=.type "list",data:=.seq #[] 0 })
  (hDn:H s.heap.objs.size=none) (hgg:PG (dz X xs scope C { s with heap:=s.heap.push oD } H (s.heap.objs.size::fp) N') tg g) (hte:PE (dz X xs scope C { s with heap:=s.heap.push oD } H (s.heap.objs.size::fp) N') elt te) (htt:PTs (dz X xs scope C { s with heap:=s.heap.push oD } H (s.heap.objs.size::fp) N') ifs tt)
  (w0:W 0 m0 [] H) (turn:nK xs.length g σ J tt te W Dn)
  (hR:∀ s1 H1 σ1 ys its n,Inv (dz X xs scope C { s with heap:=s.heap.push oD } H (s.heap.objs.size::fp) N') [] σ1 H1 s1→H1 s.heap.objs.size=none→Vals ys its→s1.heap.get? s.heap.objs.size=some { cls:=.type "list",data:=.seq its.toArray n }→ys.length≤sizeLine→Dn ys H1→R (.ok .next) s1) :
  codeAny (model X.prog X.w) X.A (.compLoop (.ListComp elt [⟨tg,iter,ifs,0⟩] scope pos) 0 (.ref it) (.ref s.heap.objs.size) (compEnvC scope (bJ X.env scope.names []) C X.env)) R s4:=by
 have hC:C=s.heap.objs.size + 1:=by rw [hCd]; exact Heap.size_push ..
 generalize hX:dz X xs scope C { s with heap:=s.heap.push oD } H (s.heap.objs.size::fp) N'=X' at *
 have xP:X'.prog=X.prog:=by rw [← hX]
 have xW:X'.w=X.w:=by rw [← hX]
 have xK:X'.K=X.K:=by rw [← hX]
 have xA:X'.A=X.A:=by rw [← hX]
 have xE:X'.env=compEnvC scope (bJ X.env scope.names []) C X.env:=by rw [← hX]
 have xC:X'.calm=true:=by rw [← hX]; exact hcalm
 have xex:X'.ex=s.heap.objs.size::fp:=by rw [← hX]
 have xpn:X'.pn=[]:=by rw [← hX]
 have xxe:X'.xe=fun _ _=>False:=by rw [← hX]
 have xL:X'.env.locals=C:=by rw [xE]; rfl
 have lt:∀ b∈fp,b < s.heap.objs.size:=fun b hb=>let ⟨_,e⟩:=ho b hb; Heap.lt_size e
 have fpk:∀ {pl:List (Addr×Obj)} {H':Hp},(∀ p∈pl,p.1=s.heap.objs.size)→(∀ b∈fp,H' b=none)→∀ b∈fp,cM X' pl H' b:=fun {pl H'} hp hn b hb=>by
  have okk:=I4.ok
  have hm:b∈X'.ex:=by rw [xex]; exact List.mem_cons_of_mem _ hb
  refine ⟨hn b hb,(okk.exf b hm).1,okk.exfs b hm,.inl hm,(okk.exf b hm).2,fun p hpl z=>?_⟩
  rw [xpn] at hpl
  have q1:=hp p (by simpa using hpl)
  have q2:=lt b hb
  rw [← z,q1] at q2
  exact Nat.lt_irrefl _ q2
 have dok:∀ {pl:List (Addr×Obj)} {H':Hp},(∀ p∈pl,p.1∈fp)→H' s.heap.objs.size=none→cM X' pl H' s.heap.objs.size:=fun {pl H'} hp hn=>by
  have okk:=I4.ok
  have hm:s.heap.objs.size∈X'.ex:=by rw [xex]; exact List.mem_cons_self
  refine ⟨hn,(okk.exf _ hm).1,okk.exfs _ hm,.inl hm,(okk.exf _ hm).2,fun p hpl z=>?_⟩
  rw [xpn] at hpl
  have q2:=lt p.1 (hp p (by simpa using hpl))
  rw [z] at q2
  exact Nat.lt_irrefl _ q2
 refine vS (I:=fun m s'=>∃ i σx H' ys its n,σx.length=xs.length∧Inv X' [] (σx++σ) H' s'∧tn i s'.heap∧(∀ b∈fp,H' b=none)∧H' s.heap.objs.size=none∧Vals ys its∧s'.heap.get? s.heap.objs.size=some { cls:=.type "list",data:=.seq its.toArray n }∧W i m ys H') ?_ m0
  ⟨0,List.replicate xs.length none,H,[],[],0,by simp,I4,st4,fun b hb=>(hf b hb).1,hDn,.nil,hD4,w0⟩
 rintro m s5 ⟨i,σx,H5,ys,its,n,hσx,I5,st5,fr5,d5,rv,e5,w5⟩
 have I5d:Inv X' ([]++eF [s.heap.objs.size] s5.heap) (σx++σ) H5 s5:=I5.pinned (fun b hb=>by
   have e:b=s.heap.objs.size:=by simpa using hb
   rw [e]; exact dok (fun p hp=>absurd hp (by simp)) d5) fun b hb=>by
   have e:b=s.heap.objs.size:=by simpa using hb
   rw [e]; exact ⟨_,e5,fun v z=>by cases z⟩
 have pD:([]++eF [s.heap.objs.size] s5.heap:List (Addr×Obj))=[(s.heap.objs.size,{ cls:=.type "list",data:=.seq its.toArray n })]:=by
  simp [eF,e5]
 rw [pD] at I5d
 have p1:∀ p∈[(s.heap.objs.size,({ cls:=.type "list",data:=.seq its.toArray n }:Obj))],p.1=s.heap.objs.size:=fun p hp=>by
  have e:p=(s.heap.objs.size,{ cls:=.type "list",data:=.seq its.toArray n }):=by simpa using hp
  rw [e]
 have hsz:its.length=ys.length:=rv.length.symm
 rcases turn i m ys H5 w5 with ⟨stop,hz,dn⟩ | ⟨go,hz,N,hN,step⟩
 ·have q:=T.done X' xP xW xK xC i _ s5 (σx++σ) H5 (notedBy (model X.prog X.w) X.A (compEnvC scope (bJ X.env scope.names []) C X.env) fun e s'=>R (.error e) s') I5d (fpk p1 fr5) st5 stop
  rw [xA] at q
  refine wpAny_mono q (fun r s6 z=>?_) fun _ _ z=>z
  obtain ⟨rfl,I6⟩:=z
  refine hR s6 H5 (σx++σ) ys its n ?_ d5 rv (I6.pin _ (List.mem_append_right _ (List.mem_singleton.mpr rfl))).1 hz dn
  exact I6.pins_of fun p hp=>absurd hp (by simp)
 ·have q:=T.item X' xP xW xK xC i _ s5 (σx++σ) H5 (notedBy (model X.prog X.w) X.A (compEnvC scope (bJ X.env scope.names []) C X.env) fun e s'=>R (.error e) s') I5d (fpk p1 fr5) st5 go
  rw [xA] at q
  refine wpAny_mono q (fun r s6 z=>?_) fun _ _ z=>z
  obtain ⟨u,rfl,z⟩:=z
  dsimp only
  refine wpAny_mono z (fun _ s7 z=>?_) fun _ _ z=>z
  obtain ⟨v,H7,I7,rv7,y7,st7,fr7⟩:=z
  have I7p:=I7.pinned (fpk p1 fr7) (T.obj _ _ st7)
  rw [← xE]
  have a7:=hgg _ s7 _ H7 v u _ I7p rv7 (step v H7 y7 σx hσx)
  rw [xP,xW,xA] at a7
  refine wpAny_mono a7 (fun _ s8 z=>?_) fun _ _ z=>by rw [xxe] at z; exact z.elim
  obtain ⟨σ1,H8,I8,⟨σy,hσy,rfl⟩,q8⟩:=z
  have t8:=htt _ s8 (σy++σ) H8 _ (notedBy (model X.prog X.w) X.A X'.env fun e s'=>R (.error e) s') I8 q8
  rw [xP,xW,xA] at t8
  refine wpAny_mono t8 (fun ok s9 z=>?_) fun _ _ z=>z
  obtain ⟨H9,I9,q9⟩:=z
  have back:∀ {s':Shared} {H':Hp} {σ2:St},Inv X' ([(s.heap.objs.size,({ cls:=.type "list",data:=.seq its.toArray n }:Obj))]++eF fp s7.heap) σ2 H' s' →
    tn (i + 1) s'.heap∧(∀ b∈fp,H' b=none)∧H' s.heap.objs.size=none∧s'.heap.get? s.heap.objs.size=some { cls:=.type "list",data:=.seq its.toArray n }∧Inv X' [] σ2 H' s':=fun {s' H' σ2} I'=>by
   refine ⟨T.keep _ _ _ st7 fun b hb o e=>(I'.pin (b,o) (List.mem_append_right _ (List.mem_append_right _ (iI hb e)))).1,fun b hb=>?_,?_,?_,I'.pins_of fun p hp=>absurd hp (by simp)⟩
   ·obtain ⟨o,e,_⟩:=T.obj _ _ st7 b hb
    exact (I'.pin (b,o) (List.mem_append_right _ (List.mem_append_right _ (iI hb e)))).2.1
   ·exact (I'.pin (s.heap.objs.size,_) (List.mem_append_right _ (List.mem_append_left _ (List.mem_singleton.mpr rfl)))).2.1
   ·exact (I'.pin (s.heap.objs.size,_) (List.mem_append_right _ (List.mem_append_left _ (List.mem_singleton.mpr rfl)))).1
  cases ok with
  | false=>
   simp only [Bool.false_eq_true,if_false] at q9 ⊢
   obtain ⟨m',hm,w9⟩:=hN _ _ q9
   obtain ⟨a1,a2,a3,a4,a5⟩:=back I9
   exact ⟨m',hm,i + 1,σy,H9,ys,its,n,hσy,a5,a1,a2,a3,rv,a4,w9⟩
  | true=>
   simp only [if_true] at q9 ⊢
   have t9:=hte _ s9 (σy++σ) H9 _ I9 q9
   rw [xP,xW,xA,xxe] at t9
   refine wpAny_mono t9 (fun u2 s10 z=>?_) fun _ _ z=>z.elim
   obtain ⟨y,H10,I10,r10,q10⟩:=z
   obtain ⟨m',hm,w10⟩:=hN _ _ q10
   obtain ⟨a1,a2,a3,a4,a5⟩:=back I10
   refine wpAny_list_append_plain ⟨n,a4⟩ (fun h' pl sb=>?_) (by rw [List.size_toArray]; omega)
   obtain ⟨n',e'⟩:=pl
   have D0:=dok (pl:=[]) (fun p hp=>absurd hp (by simp)) a3
   refine ⟨m',hm,i + 1,σy,H10,ys++[y],its++[u2],n',hσy,a5.turned (t':=s10.toks) (fun b o hb e=>(sb.2 b hb).trans e) D0.1 D0.2.1 D0.2.2.2.1 D0.2.2.2.2.1 D0.2.2.2.2.2,?_,a2,a3,rv.append (.cons r10 .nil),by simpa using e',w10⟩
   exact T.keep _ _ _ a1 fun b hb o e=>(sb.2 b (Nat.ne_of_lt (lt b hb))).trans e
end
section
variable {X:Cx} {xs:List Str} {scope:Scope} {N':List Str} {tg elt iter:Expr} {ifs:List Expr} {pos:Pos} {wi:TI} {g:TG} {te:TE} {tt:TT}
def AM (n:Nat) (g:TG) (i:Nat) (wi:TI) (tt:TT) (te:TE):TS:=fun D σ H=>wi σ H fun J H1=>∃ W:Nat→Nat→List V→Hp→Prop,(∃ m,W 0 m [] H1)∧nK n g σ J tt te W fun ys H=>∀ p,H p=none→D.nx (σ.set i (some (.ref p))) (upd H p (.lst ys))
theorem xJ {i:Nat} {y:Str} {py spos:Pos} (hc:X.calm=true) (S:CSn X.env.scope X.N xs scope N') (hN:X.N.Nodup) (hi':X.N[i]? = some y) (hy:Loc X.env.scope y) (hf':X.fn y=true∨X.env.scope.names.lookup y=some .local)
  (hi:PI X tg iter wi) (hg:∀ C s0 H0 ex,PG (dz X xs scope C s0 H0 ex N') tg g) (he:∀ C s0 H0 ex,PE (dz X xs scope C s0 H0 ex N') elt te)
  (ht:∀ C s0 H0 ex,PTs (dz X xs scope C s0 H0 ex N') ifs tt) (hsw:swapsWith (.ListComp elt [⟨tg,iter,ifs,0⟩] scope pos) (some (.Name y py)) spos.line X.env=pure true) (hs:∀ v,foldedSetIterable iter X.env v=pure v:=by intro _; rfl) :
  PS X (.Assign [.Name y py] (.ListComp elt [⟨tg,iter,ifs,0⟩] scope pos) spos) (AM xs.length g i wi tt te):=by
 intro pins s σ H D I h
 rw [exec_Assign_Name_used _ _ _ _ hsw]
 refine wpAny_bind (wpAny_standAt (wpAny_bind ?_))
 show wpAny _ _ (do let _ ← comprehension (.ListComp elt [⟨tg,iter,ifs,0⟩] scope pos) scope X.env _ (newList []) false (eval iter X.env) (some (assign (.Name y py) X.env))) _ _ s
 refine wpAny_bind (wpAny_mono (wpAny_comprehension_free (use:=some (assign (.Name y py) X.env)) (Q:=fun _ s'=>SP X pins D .next s') rfl hs (lU (pC I S)) S.kind S.names (thn (hi pins s σ H _ I h) fun v s1 h1=>thn h1 fun itv s2 h2=>?_)) (fun _ _ q=>wpAny_pure (wpAny_pure q)) fun _ _ q=>q)
 obtain ⟨it,fp,tn,J,H2,rfl,I2,T,st2,f2,W,⟨m0,w0⟩,turn⟩:=h2
 have ho:∀ b∈fp,∃ o,s2.heap.get? b=some o:=fun b hb=>let ⟨o,e,_⟩:=T.obj _ _ st2 b hb; ⟨o,e⟩
 refine wpAny_newObj_type (wpAny_newFunctionEnv S.nocell (by intro y hy; simp at hy) (fun h' hns hsb=>?_) S.kind)
 have I4:=vR (xs:=xs) (scope:=scope) (tk:=s2.toks + ([]:List (Str×Value)).length) I2 S f2 ho hns hsb
 have up3:∀ b o,(s2.heap.push { cls:=.type "list",dict:=none,data:=.seq ([]:List Value).toArray }).get? b=some o→h'.get? b=some o:=fun b o e=>
  (hsb.2 b (Nat.ne_of_lt (Heap.lt_size e))).trans (Heap.get?_push_of_some _ e)
 have st4:tn 0 h':=T.keep _ _ _ st2 fun b _ o e=>up3 b o (Heap.get?_push_of_some _ e)
 have hCs:s2.heap.objs.size≤(s2.heap.push { cls:=.type "list",dict:=none,data:=.seq ([]:List Value).toArray }).objs.size:=by rw [Heap.size_push]; omega
 have hDC:(s2.heap.push { cls:=.type "list",dict:=none,data:=.seq ([]:List Value).toArray }).objs.size≠s2.heap.objs.size:=by rw [Heap.size_push]; omega
 have loop:=wg (elt:=elt) (iter:=iter) (ifs:=ifs) (pos:=pos) (R:=compPost (model X.prog X.w) X.A X.xe (some (assign (.Name y py) X.env)) (fun _ s'=>SP X pins D .next s') (.ref s2.heap.objs.size) (s2.heap.push { cls:=.type "list",dict:=none,data:=.seq ([]:List Value).toArray }).objs.size) (σ':=σ)
  hc S f2 ho rfl T I4 st4 (up3 _ _ (Heap.get?_push_size _ rfl)) (I2.hok.fresh (Nat.le_refl _)) (hg _ _ _ _) (he _ _ _ _) (ht _ _ _ _) w0 turn fun s5 H5 σ5 ys its n J5 d5 rv e5 hz dn=>by
   have J6:=vQ I2 f2 rfl J5 (Heap.SameBut.refl _ _) d5 ⟨its,n,rv,e5⟩ hz
   obtain ⟨m,hn,_⟩:=J5.loc
   refine wpAny_assign_Name (lX (u:=.ref s2.heap.objs.size) J6 hN hi' hy (show RelV (.ref s2.heap.objs.size) _ from rfl) (fun s7 I7 ⟨a,sb,ha⟩=>?_) hf')
   have hCa:(s2.heap.push { cls:=.type "list",dict:=none,data:=.seq ([]:List Value).toArray }).objs.size≠a:=by
    rcases ha with z | z
    ·rw [z]
     exact Nat.ne_of_gt (Nat.lt_of_lt_of_le I2.lt hCs)
    ·obtain ⟨v,q⟩:=I2.cell _ _ z
     exact Nat.ne_of_gt (Nat.lt_of_lt_of_le q.lt hCs)
   have hn5:H5 (s2.heap.push { cls:=.type "list",dict:=none,data:=.seq ([]:List Value).toArray }).objs.size=none:=J5.free
   have fk:=I2.fpOk (b:=(s2.heap.push { cls:=.type "list",dict:=none,data:=.seq ([]:List Value).toArray }).objs.size) (H':=upd H5 s2.heap.objs.size (.lst ys)) hCs (by rw [aO hDC]; exact hn5)
   refine ⟨m,hn.sameBut sb hCa,fun h'' sb2=>⟨_,_,I7.turned (t':=s7.toks) (fun b o hb e=>(sb2.2 b hb).trans e) fk.1 fk.2.1 fk.2.2.2.1 fk.2.2.2.2.1 fk.2.2.2.2.2,dn _ d5⟩⟩
 exact codeAny_compStart_list loop (T.self X.A 0 _ _ _ st4 loop)
end
end L2
namespace D
open PySem PySem.Spec PyProof.Rows L2
def fL (c:FT) (e:FE) (ρ:Rho):List PyData→Tp→Option (List PyData×Tp)
 | [],T=>some ([],T)
 | .tuple [a,b]::r,T=>bnd (c (some (.d a)::some (.d b)::ρ) T) fun k T1=>if k=true then bnd (e (some (.d a)::some (.d b)::ρ) T1) fun w T2=>match w with
   | .d y=>bnd (fL c e ρ r T2) fun ys T3=>some (y::ys,T3)
   | _=>none
  else fL c e ρ r T1
 | _,_=>none
def nA (it:FI) (c:FT) (e:FE):FE:=fun ρ T=>bnd (it ρ T) fun ds T1=>bnd (fL c e ρ ds T1) fun ys T2=>some (.d (.list ys),T2)
theorem yr {K:Frag} {O:Addr→Prop} {ts:List Addr} {H1:Hp} {σ:L2.St} {ρ:Rho} {J:It} {c:FT} {e:FE} {g:TG} {ds ys:List PyData} {T1 T2:Tp} {Dn:List V→Hp→Prop} (hc:HC K O ts H1 T1) (re:RelE K O ts H1 σ ρ) (ok:ItOk K O H1 J ds) (hz:ds.length≤sizeLine)
  (hg:∀ (a:Addr) (v u o1 o2:V) (p q:Option V) (H:Hp) (Q:L2.St→Hp→Prop),SqT K H a [v,u]→Q (some v::some u::σ) H→g (.ref a) (p::q::σ) H Q)
  (ee:fL c e ρ ds T1=some (ys,T2)) (q:∀ vs H',SameX ts H1 H'→HC K O ts H' T2→Reps K O H' vs ys→Dn vs H') :
  ∃ W:Nat→Nat→List V→Hp→Prop,(∃ m,W 0 m [] H1)∧nK 2 g σ J (liftT K c) (lift K e) W Dn:=by
 refine ⟨fun i m vs H'=>m=ds.length - i∧i≤ds.length∧vs.length≤i∧∃ T dn rs,SameX ts H1 H'∧HC K O ts H' T∧Reps K O H' vs dn∧fL c e ρ (ds.drop i) T=some (rs,T2)∧ys=dn++rs,⟨_,rfl,Nat.zero_le _,Nat.le_refl _,T1,[],ys,.refl _ _,hc,.nil,ee,rfl⟩,?_⟩
 rintro i m vs H' ⟨rfl,hi,hv,T,dn,rs,s1,hc1,rv,ec,ey⟩
 obtain ⟨k1,k2,k3⟩:=ok O H' (hc.le s1)
 by_cases hlt:i < ds.length
 ·refine .inr ⟨k1 i hlt,by omega,fun vs' H2=>i + 1≤ds.length∧vs'.length≤i + 1∧∃ T dn rs,SameX ts H1 H2∧HC K O ts H2 T∧Reps K O H2 vs' dn∧fL c e ρ (ds.drop (i + 1)) T=some (rs,T2)∧ys=dn++rs,fun vs' H2 n=>⟨ds.length - (i + 1),by omega,rfl,n⟩,fun v H2 y σx hσ=>?_⟩
  obtain ⟨e2,d,hd,rd⟩:=k3 i v H2 y hlt
  subst e2
  have hdr:ds.drop i=d::ds.drop (i + 1):=by
   rw [List.drop_eq_getElem_cons hlt,(List.getElem?_eq_some_iff.mp hd).2]
  rw [hdr] at ec
  generalize ds.drop (i + 1)=rest at ec
  have hab:∃ a b,d=.tuple [a,b]:=by
   unfold fL at ec
   split at ec
   ·rename_i h; cases h
   ·rename_i h; injection h with h1 h2; exact ⟨_,_,h1⟩
   ·cases ec
  obtain ⟨a,b,rfl⟩:=hab
  ·cases rd with
   | @tup ad us _ tu ru=>
   cases ru with
   | cons ra ru=>
   cases ru with
   | cons rb ru=>
   cases ru
   obtain ⟨p1,p2,rfl⟩:∃ p1 p2,σx=[p1,p2]:=by
    match σx,hσ with
    | [p1,p2],_=>exact ⟨p1,p2,rfl⟩
   refine hg ad _ _ .non .non p1 p2 H2 _ tu.sq ⟨⟨[_,_],rfl,rfl⟩,?_⟩
   obtain ⟨k,T3,e3,ec⟩:=aM ec
   have re2:RelE K O ts H2 (_::_::σ) (some (.d a)::some (.d b)::ρ):=((re.mono hc s1).cons rb).cons ra
   refine ⟨O,ts,some (.d a)::some (.d b)::ρ,T,k,T3,hc1,re2,e3,fun H3 s3 hc3=>?_⟩
   cases k with
   | false=>
    rw [if_neg Bool.false_ne_true] at ec
    exact fY ⟨hlt,by omega,T3,dn,rs,s1.trans s3,hc3,rv.mono (hc1.le s3),ec,ey⟩
   | true=>
    rw [if_pos rfl] at ec
    obtain ⟨w,T4,e4,ec⟩:=aM ec
    refine fX ⟨O,ts,some (.d a)::some (.d b)::ρ,T3,w,T4,hc3,re2.mono hc1 s3,e4,fun u H4 s4 hc4 r4=>?_⟩
    split at ec
    ·rename_i y
     obtain ⟨zs,T5,e5,ec⟩:=aM ec
     cases ec
     exact ⟨hlt,by simp; omega,T4,dn++[y],zs,s1.trans (s3.trans s4),hc4,(rv.mono (hc1.le (s3.trans s4))).append (.cons r4 .nil),e5,by rw [ey]; simp⟩
    ·cases ec
 ·have e:i=ds.length:=by omega
  subst e
  rw [List.drop_eq_nil_of_le (Nat.le_refl _)] at ec
  cases ec
  rw [List.append_nil] at ey
  subst ey
  exact .inl ⟨k2,by omega,q vs H' s1 hc1 rv⟩
theorem yo {X:Cx} {i:Nat} {x y z:Str} {scope osc:Scope} {N N':List Str} {elt iter:Expr} {ifs:List Expr} {k:Nat} {px py pz tp pos spos:Pos} {it:FI} {c:FT} {f:FE} (hN:X.N.Nodup) (S:CSn osc N [x,y] scope N') (hi:DI X (.Tuple [.Name x px,.Name y py] k tp) iter it)
  (he:∀ C s0 H0 ex,DE (dz X [x,y] scope C s0 H0 ex N') elt f) (ht:∀ C s0 H0 ex,DTs (dz X [x,y] scope C s0 H0 ex N') ifs c) (hi':X.N[i]? = some z:=by rfl) (hy:Loc X.env.scope z:=by first | exact Or.inl rfl | exact Or.inr rfl)
  (hf':X.fn z=true∨X.env.scope.names.lookup z=some .local:=by first | exact .inl rfl | exact .inr rfl | assumption) (hc:X.calm=true:=by rfl) (hs:X.env.scope=osc:=by rfl) (hN':X.N=N:=by rfl)
  (hsw:swapsWith (.ListComp elt [⟨.Tuple [.Name x px,.Name y py] k tp,iter,ifs,0⟩] scope pos) (some (.Name z pz)) spos.line X.env=pure true:=by rfl) (hf:∀ v,foldedSetIterable iter X.env v=pure v:=by intro _; rfl) :
  DS X (.Assign [.Name z pz] (.ListComp elt [⟨.Tuple [.Name x px,.Name y py] k tp,iter,ifs,0⟩] scope pos) spos) (aE i (nA it c f)):=by
 refine ⟨?_⟩
 subst hs hN'
 have lx:∀ C,(compEnvC scope (bJ X.env scope.names []) C X.env).scope.names.lookup x=some .local:=fun C=>lookup_relabel_local (S.hx x (by simp))
 have ly:∀ C,(compEnvC scope (bJ X.env scope.names []) C X.env).scope.names.lookup y=some .local:=fun C=>lookup_relabel_local (S.hx y (by simp))
 refine cU (xJ (xs:=[x,y]) (g:=ul X.K 2 (nV (li 0) (nV (li 1) um))) (wi:=k6 X.K it) (tt:=liftT X.K c) (te:=lift X.K f) hc S hN hi' hy hf' hi.pe (fun C s0 H0 ex=>nk (X:=dz X [x,y] scope C s0 H0 ex N') (n:=2) hc (iK (hJ S.nd (i:=0) rfl (.inl (lx C)) (.inr (lx C))) (iK (hJ S.nd (i:=1) rfl (.inl (ly C)) (.inr (ly C))) mL))) (fun C s0 H0 ex=>(he C s0 H0 ex).pe) (fun C s0 H0 ex=>(ht C s0 H0 ex).pe) hsw hf) fun D σ H=>?_
 rintro ⟨O₀,H₀,F,ts,O,ρ,T,fl,ρ',T',rs,e,q⟩
 obtain ⟨w,T1,e1,e⟩:=aM e
 obtain ⟨ds,T2,e2,e1⟩:=aM e1
 obtain ⟨ys,T3,e3,e1⟩:=aM e1
 cases e1
 cases e
 refine ⟨O,ts,ρ,T,ds,T2,rs.hc,rs.re,e2,fun J H1 s1 hc1 ok hz=>?_⟩
 exact yr hc1 (rs.re.mono rs.hc s1) ok hz (fun a v u _ _ p q H Q t z=>⟨a,_,rfl,t,rfl,_,_,rfl,_,_,rfl,rfl,z⟩) e3 fun vs H' s2 hc2 r2 p hp=>q O _ _ ((rs.step (s1.trans (s2.trans (.new hp _))) (hc2.new hp _)).set (hc2.newL hp r2) fun _ z=>nomatch z)
theorem qv {X:Cx} {pins:List (Addr×Obj)} {σ:L2.St} {H:Hp} {s:Shared} {h':Heap} {t':Nat} {fp:List Addr} (I:Inv X pins σ H s) (k:∀ b o,b∉fp→s.heap.get? b=some o→h'.get? b=some o) (hf:∀ b∈fp,cM X pins H b):Inv X pins σ H { s with heap:=h',toks:=t' }:=by
 have nit:∀ b u,H b=some u→b∉fp:=fun b u e z=>by rw [(hf b z).1] at e; cases e
 have hL:X.env.locals∉fp:=fun z=>(hf _ z).2.1 rfl
 refine I.step (g':=s.gens) (d':=s.drawn) (ch:=fp) (fun b hb=>?_) (fun b o _ _ hc e _=>k b o hc e) (fun b o _ _ hc e _=>⟨o.slots,k b o hc e⟩) (fun _ _ _ _ n=>n)
  (fun b o hc e=>⟨o,k b o hc e⟩) (fun _ _ e=>e) (fun _ _ _ e=>e) (fun b ps e=>⟨#[],by rw [e]; simp⟩) (fun m hm=>?_) (fun b u e=>?_) I.bare
 ·obtain ⟨_,f1,_,f3,f4,f5⟩:=hf b hb
  exact ⟨f3,f1,f4,f5⟩
 ·obtain ⟨o,es,ep,ho,r⟩:=hm
  exact ⟨o,es,ep,k _ o hL ho,r⟩
 ·refine (I.hok b u e).stay (fun c v hc q=>k c v ?_ q) (fun _ q=>q) fun _ _ q=>q
  rcases hc with z | z
  ·rw [z]; exact nit b u e
  ·exact nit c _ z
def Itz (K:Frag) (a b:Addr):It:=
 ⟨fun i H=>∃ xs ys,SqL K H a xs∧SqL K H b ys∧i < xs.length∧i < ys.length,fun i H x H'=>∃ p v u,H p=none∧(∀ xs,SqL K H a xs→xs[i]? = some v)∧(∀ ys,SqL K H b ys→ys[i]? = some u)∧x=.ref p∧H'=upd H p (.tup [v,u]),
  fun i H=>∃ xs ys,SqL K H a xs∧SqL K H b ys∧(xs.length≤i∨ys.length≤i)⟩
abbrev ZSt (l1 l2 z TI TO i1 i2:Addr) (i:Nat) (h:Heap):Prop:=IsZip h z TI TO .none∧IsPair h TI (.ref i1) (.ref i2)∧(∃ a b,IsPair h TO a b)∧h.IsListIter i1 l1 i∧h.IsListIter i2 l2 i
theorem xu {P:Program} {w:World} {K:Frag} {elts:List Expr} {x1:Nat} {tpos:Pos} {l1 l2 z TI TO i1 i2:Addr} (D:ZipApart z TI TO i1 i2 l1 l2):Turn P w K (.Tuple elts x1 tpos) (Itz K l1 l2) [z,TI,TO,i1,i2] z (ZSt l1 l2 z TI TO i1 i2) where
 mem:=by simp
 obj:=fun i h st b hb=>by
  obtain ⟨a1,a2,⟨u,v,a3⟩,⟨o4,a4,_,d4⟩,⟨o5,a5,_,d5⟩⟩:=st
  simp only [List.mem_cons,List.not_mem_nil,or_false] at hb
  rcases hb with e | e | e | e | e <;> subst e
  ·exact ⟨_,a1,fun v z=>nomatch (show Data.fields _=Data.cell v from z)⟩
  ·exact ⟨_,a2,fun v z=>nomatch (show Data.seq _ _=Data.cell v from z)⟩
  ·exact ⟨_,a3,fun v z=>nomatch (show Data.seq _ _=Data.cell v from z)⟩
  ·exact ⟨_,a4,fun v z=>by rw [d4] at z; cases z⟩
  ·exact ⟨_,a5,fun v z=>by rw [d5] at z; cases z⟩
 keep:=fun i h h' st k=>by
  obtain ⟨a1,a2,⟨u,v,a3⟩,a4,a5⟩:=st
  exact ⟨k z (by simp) _ a1,k TI (by simp) _ a2,⟨u,v,k TO (by simp) _ a3⟩,a4.at fun o e=>k i1 (by simp) o e,a5.at fun o e=>k i2 (by simp) o e⟩
 item:=by
  intro X hP hw hK hc i pins s σ H E I hf st hg
  subst hP hw hK
  obtain ⟨xs,ys,hx,hy,k1,k2⟩:=hg
  obtain ⟨a1,a2,⟨ua,ub,a3⟩,a4,a5⟩:=st
  obtain ⟨its,rx,px,_⟩:=I.list hx
  obtain ⟨jts,ry,py,_⟩:=I.list hy
  obtain ⟨u,hu,ru⟩:=rx.get (List.getElem?_eq_getElem k1)
  obtain ⟨v,hv,rv⟩:=ry.get (List.getElem?_eq_getElem k2)
  refine wpAny_pyNext_zip_item D a1 a2 a3 a4 a5 px.isList py.isList (x:=u) (y:=v) (by simpa using hu) (by simpa using hv) fun h' b1 b2 b3 b4 b5 b6 b7=>?_
  refine ⟨.ref s.heap.objs.size,rfl,wpAny_letOwnedTupleGo_zip b1 fun h'' c1 c2=>?_⟩
  have hn:H s.heap.objs.size=none:=I.hok.fresh (Nat.le_refl _)
  have lz:z < s.heap.objs.size:=Heap.lt_size a1
  have lTO:TO < s.heap.objs.size:=Heap.lt_size a3
  have l1:i1 < s.heap.objs.size:=by obtain ⟨_,e,_⟩:=a4; exact Heap.lt_size e
  have l2:i2 < s.heap.objs.size:=by obtain ⟨_,e,_⟩:=a5; exact Heap.lt_size e
  have T1:IsTup (s.heap.push { cls:=.type "tuple",data:=.seq #[u,v] }) s.heap.objs.size #[u,v]:=IsTup.new ..
  have I1:Inv X pins σ (upd H s.heap.objs.size (.tup [xs[i],ys[i]])) { s with heap:=s.heap.push { cls:=.type "tuple",data:=.seq #[u,v] } }:=
   I.laid (t':=s.toks) (o:=.tup [xs[i],ys[i]]) (fun b ob e=>Heap.get?_push_of_some _ e) (Nat.le_refl _) ⟨by show 2≤sizeLine; decide,[u,v],.cons ru (.cons rv .nil),T1⟩
  have nn:∀ b∈[z,TI,TO,i1,i2],b≠s.heap.objs.size:=fun b hb e=>by
   have lTI:TI < s.heap.objs.size:=Heap.lt_size a2
   simp only [List.mem_cons,List.not_mem_nil,or_false] at hb
   rcases hb with q | q | q | q | q <;> rw [e] at q
   ·exact Nat.ne_of_gt lz q
   ·exact Nat.ne_of_gt lTI q
   ·exact Nat.ne_of_gt lTO q
   ·exact Nat.ne_of_gt l1 q
   ·exact Nat.ne_of_gt l2 q
  have f':∀ b∈[z,TI,TO,i1,i2],cM X pins (upd H s.heap.objs.size (.tup [xs[i],ys[i]])) b:=fun b hb=>by
   obtain ⟨f0,fr⟩:=hf b hb
   exact ⟨by rw [aO (nn b hb)]; exact f0,fr⟩
  have I2:Inv X pins σ (upd H s.heap.objs.size (.tup [xs[i],ys[i]])) { s with heap:=h'' }:=qv (s:={ s with heap:=s.heap.push { cls:=.type "tuple",data:=.seq #[u,v] } }) (t':=s.toks) (h':=h'') (fp:=[z,TI,TO,i1,i2]) I1 (fun b ob hb e=>by
   simp only [List.mem_cons,List.not_mem_nil,or_false,not_or] at hb
   by_cases q:b=s.heap.objs.size
   ·subst q
    have e':some _=some ob:=(Heap.get?_push_size _ rfl).symm.trans e
    cases e'
    exact (c2.2 _ hb.1).trans b5
   ·rw [Heap.get?_push_ne _ _ _ q] at e
    exact (c2.2 b hb.1).trans (b7 b ob hb.1 hb.2.2.1 hb.2.2.2.1 hb.2.2.2.2 e)) f'
  refine ⟨.ref s.heap.objs.size,_,I2,rfl,⟨s.heap.objs.size,xs[i],ys[i],hn,fun xs' h=>by rw [I.list_inj h hx]; exact List.getElem?_eq_getElem k1,fun ys' h=>by rw [I.list_inj h hy]; exact List.getElem?_eq_getElem k2,rfl,rfl⟩,?_,fun b hb=>(f' b hb).1⟩
  have cc:∀ b o,b≠z→h'.get? b=some o→h''.get? b=some o:=fun b o q e=>(c2.2 b q).trans e
  exact ⟨c1,cc _ _ D.TIz (b7 _ _ D.TIz D.TITO D.TIi1 D.TIi2 a2),⟨_,_,cc _ _ D.TOz b2⟩,b3.at fun o e=>cc _ o D.i1z e,b4.at fun o e=>cc _ o D.i2z e⟩
 done:=by
  intro X hP hw hK hc i pins s σ H E I hf st hg
  subst hP hw hK
  obtain ⟨xs,ys,hx,hy,k⟩:=hg
  obtain ⟨a1,a2,⟨ua,ub,a3⟩,a4,a5⟩:=st
  obtain ⟨its,rx,px,_⟩:=I.list hx
  obtain ⟨jts,ry,py,_⟩:=I.list hy
  have h1:=rx.length
  have h2:=ry.length
  refine wpAny_pyNext_zip_end (I.ok.hd hc) D a1 a2 a3 a4 a5 px.isList py.isList (k.imp (fun k=>by simp; omega) fun k=>by simp; omega) fun h' b7=>⟨rfl,qv (t':=s.toks) (fp:=[z,TI,TO,i1,i2]) I (fun b ob hb e=>?_) hf⟩
  simp only [List.mem_cons,List.not_mem_nil,or_false,not_or] at hb
  exact b7 b ob hb.1 hb.2.2.1 hb.2.2.2.1 hb.2.2.2.2 e
 self:=fun _ _ _ _ _ st h=>wpAny_pyIter_zip st.1 h
section
variable {X:Cx} {pos:Pos}
def DN (K:Frag) (ta:TA):TI:=fun σ H R=>ta σ H fun vs H1=>∃ a b xs ys,vs=[.ref a,.ref b]∧SqL K H1 a xs∧SqL K H1 b ys∧(xs.length≤sizeLine→ys.length≤sizeLine→R (Itz K a b) H1)
theorem AZ {a b:Expr} {ta:TA} {elts:List Expr} {x1:Nat} {tpos p:Pos} (hg:Gl X "zip") (hm:X.mg "zip" = none) (ha:PA X [a,b] ta) (hs:starEach [a,b] X.env=[(false,eval a X.env),(false,eval b X.env)]) (hs2:starEach [b] X.env=[(false,eval b X.env)]) :
  PI X (.Tuple elts x1 tpos) (.Call (.Name "zip" p) [a,b] [] pos) (DN X.K ta):=by
 intro pins s σ H R I h
 refine Call_ (h7 I hg hm boot_zip (PyProof.Rows.callWith_type1 (thn (ha pos pins s σ H _ I h) fun us s1 ⟨vs,H1,I1,r1,q1⟩=>?_) (by rw [hs,hs2]) (by rw [hs2]; rfl)))
 obtain ⟨l1,l2,xs,ys,e,hx,hy,q⟩:=q1
 subst e
 cases r1 with
 | cons r rr=>
  cases rr with
  | cons r' rr=>
   cases rr
   cases r
   cases r'
   obtain ⟨its,rx,px,zx⟩:=I1.list hx
   obtain ⟨jts,ry,py,zy⟩:=I1.list hy
   have L1:l1 < s1.heap.objs.size:=by obtain ⟨_,e,_⟩:=px.isList; exact Heap.lt_size e
   have L2:l2 < s1.heap.objs.size:=by obtain ⟨_,e,_⟩:=py.isList; exact Heap.lt_size e
   refine call_zip_2 px.isList py.isList fun h' c1 c2 c3 c4 c5 c6 c7=>?_
   have I2:Inv X pins σ H1 { s1 with heap:=h' }:=I1.kept (t':=s1.toks) c7
   refine wpAny_pyIter_zip c1 ⟨s1.heap.objs.size + 4,[s1.heap.objs.size + 4,s1.heap.objs.size + 2,s1.heap.objs.size + 3,s1.heap.objs.size,s1.heap.objs.size + 1],_,_,H1,rfl,I2,xu (zipApart_new L1 L2),⟨c1,c2,⟨_,_,c3⟩,c4,c5⟩,fun b hb=>?_,q zx zy⟩
   have hb':s1.heap.objs.size≤b:=by
    simp only [List.mem_cons,List.not_mem_nil,or_false] at hb
    rcases hb with q | q | q | q | q <;> rw [q] <;> first | exact Nat.le_add_right _ _ | exact Nat.le_refl _
   exact I1.fpOk hb' (I1.hok.fresh hb')
end
def dt (i j:Nat) (body:FS):List PyData→List PyData→FS
 | x::xs,y::ys=>fun ρ T=>bnd (body ((ρ.set i (some (.d x))).set j (some (.d y))) T) fun p T1=>match p with
  | (.nx,ρ1)=>dt i j body xs ys ρ1 T1
  | (.ct,ρ1)=>dt i j body xs ys ρ1 T1
  | (.bk,ρ1)=>some ((.nx,ρ1),T1)
  | (.rt x,ρ1)=>some ((.rt x,ρ1),T1)
  | (.ro x,ρ1)=>some ((.ro x,ρ1),T1)
 | _,_=>aC
def lj (i j:Nat) (body:FS) (ρ:Rho) (w u:W) (T:Tp):Option ((Fl×Rho)×Tp):=match w,u with
 | .d (.list xs),.d (.list ys)=>dt i j body xs ys ρ T
 | _,_=>none
def ll (i j:Nat) (f g:FE) (body:FS):FS:=fun ρ T=>bnd (f ρ T) fun w T1=>bnd (g ρ T1) fun u T2=>lj i j body ρ w u T2
theorem z8 {X:Cx} {pos:Pos} {i j:Nat} {x y:Str} {a b:Expr} {f f2:FE} {g:FS} {body:List Stmt} {k:Nat} {px py tpos zp cpos:Pos} (hm:X.mg "zip" = none) (hN:X.N.Nodup) (ha:DE X a f) (hb2:DE X b f2) (hb:DSs X body g) (hg:Gl X "zip":=by rfl) (hi:X.N[i]? = some x:=by rfl) (hj:X.N[j]? = some y:=by rfl) (hx:Loc X.env.scope x:=by first | exact Or.inl rfl | exact Or.inr rfl) (hy:Loc X.env.scope y:=by first | exact Or.inl rfl | exact Or.inr rfl)
  (hf:X.fn x=true∨X.env.scope.names.lookup x=some .local:=by first | exact .inl rfl | exact .inr rfl | assumption) (hf':X.fn y=true∨X.env.scope.names.lookup y=some .local:=by first | exact .inl rfl | exact .inr rfl | assumption) (hp:PassesOwn (model X.prog X.w) X.A X.env X.xe:=by exact PassesOwn.never) (hc:X.calm=true:=by rfl)
  (hs1:starEach [a,b] X.env=[(false,eval a X.env),(false,eval b X.env)]:=by exact pT rfl rfl) (hs2:starEach [b] X.env=[(false,eval b X.env)]:=by exact iJ rfl) (hs:∀ v,foldedSetIterable (.Call (.Name "zip" zp) [a,b] [] cpos) X.env v=pure v:=by intro _; rfl) :
  DS X (.For (.Tuple [.Name x px,.Name y py] k tpos) (.Call (.Name "zip" zp) [a,b] [] cpos) body [] pos) (ll i j f f2 g):=by
 refine ⟨?_⟩
 refine cU (sj hp hc (AZ (ta:=iV (lift X.K f) (iV (lift X.K f2) lE)) hg hm (cq ha.pe (cq hb2.pe dO (by rw [hs2]; rfl)) (by rw [hs1,hs2])) hs1 hs2) (nk hc (iK (hJ hN hi hx hf) (iK (hJ hN hj hy hf') mL))) hb.pe hs) fun D σ H=>?_
 rintro ⟨O₀,H₀,F,ts,O,ρ,T,fl,ρ',T',rs,e,q⟩
 obtain ⟨w1,T1,e1,e⟩:=aM e
 obtain ⟨w2,T2,e2,e⟩:=aM e
 refine ⟨O,ts,ρ,T,w1,T1,rs.hc,rs.re,e1,fun v1 H1 s1 hc1 r1=>?_⟩
 have rs1:=rs.step s1 hc1
 refine ⟨O,ts,ρ,T1,w2,T2,hc1,rs1.re,e2,fun v2 H2 s2 hc2 r2=>?_⟩
 have rs2:=rs1.step s2 hc2
 have hw:∃ dx dy,w1=.d (.list dx)∧w2=.d (.list dy):=by
  unfold lj at e
  split at e
  ·exact ⟨_,_,rfl,rfl⟩
  ·cases e
 ·obtain ⟨dx,dy,rfl,rfl⟩:=hw
  have r1':Rep X.K O H2 v1 (.list dx):=Rep.mono (hc1.le s2) r1
  have r2':Rep X.K O H2 v2 (.list dy):=r2
  cases r1' with
  | @lst la vx _ tx rx=>
  cases r2' with
  | @lst lb vy _ ty ry=>
  refine ⟨la,lb,vx,vy,rfl,tx.sq,ty.sq,fun zx zy=>?_⟩
  have lx:=rx.length
  have ly:=ry.length
  refine ⟨fun n m σ H=>m=dx.length - n∧n≤dx.length∧n≤dy.length∧∃ O' ρk Tk,RS X.K O₀ H₀ ((O,H2)::F) ts O' H σ ρk Tk∧dt i j g (dx.drop n) (dy.drop n) ρk Tk=some ((fl,ρ'),T'),⟨_,rfl,Nat.zero_le _,Nat.zero_le _,O,ρ,T2,rs2.more,e⟩,?_⟩
  rintro n m σ3 H3 ⟨rfl,hk,hk2,O',ρk,Tk,rs3,ek⟩
  have le:=rs3.frs _ List.mem_cons_self
  have tx3:=(tx.mono le).sq
  have ty3:=(ty.mono le).sq
  by_cases hlt:n < dx.length∧n < dy.length
  ·refine .inr ⟨⟨vx,vy,tx3,ty3,by omega,by omega⟩,fun σ3 H3=>n + 1≤dy.length∧∃ O' ρk Tk,RS X.K O₀ H₀ ((O,H2)::F) ts O' H3 σ3 ρk Tk∧dt i j g (dx.drop (n + 1)) (dy.drop (n + 1)) ρk Tk=some ((fl,ρ'),T'),fun σ3 H3 nn=>⟨dx.length - (n + 1),by omega,rfl,hlt.1,nn.1,nn.2⟩,fun v H4 yy=>?_⟩
   obtain ⟨p,v',u',hpn,kx,ky,rfl,rfl⟩:=yy
   obtain ⟨d1,hd1,rd1⟩:=rx.get (kx vx tx3)
   obtain ⟨d2,hd2,rd2⟩:=ry.get (ky vy ty3)
   have hdx:dx.drop n=d1::dx.drop (n + 1):=by rw [List.drop_eq_getElem_cons hlt.1,(List.getElem?_eq_some_iff.mp hd1).2]
   have hdy:dy.drop n=d2::dy.drop (n + 1):=by rw [List.drop_eq_getElem_cons hlt.2,(List.getElem?_eq_some_iff.mp hd2).2]
   rw [hdx,hdy] at ek
   obtain ⟨⟨fl1,ρ1⟩,T3,e3,ek⟩:=aM ek
   have rs4:=rs3.step (.new hpn (.tup [v',u'])) (rs3.hc.new hpn _)
   have le2:=le.trans (rs3.hc.leNew hpn (.tup [v',u']))
   refine ⟨p,_,rfl,SqT.of bG,rfl,_,_,rfl,_,_,rfl,rfl,O₀,H₀,(O,H2)::F,ts,O',_,Tk,fl1,ρ1,T3,(rs4.set (i:=i) (w:=.d d1) (Rep.mono le2 rd1) (fun _ z=>nomatch z)).set (i:=j) (w:=.d d2) (Rep.mono le2 rd2) (fun _ z=>nomatch z),e3,?_⟩
   cases fl1 with
   | nx=>exact fun O3 σ3 H3 rs3=>⟨hlt.2,O3,ρ1,T3,rs3,ek⟩
   | ct=>exact fun O3 σ3 H3 rs3=>⟨hlt.2,O3,ρ1,T3,rs3,ek⟩
   | bk=>
    cases ek
    exact fun O3 σ3 H3 rs3=>q O3 σ3 H3 rs3.less
   | rt x=>
    cases ek
    exact q
   | ro x=>
    cases ek
    exact q
  ·have e:dt i j g (dx.drop n) (dy.drop n)=aC:=by
    by_cases h1:n < dx.length
    ·rw [List.drop_eq_nil_of_le (show dy.length≤n by omega)]
     cases dx.drop n <;> rfl
    ·rw [List.drop_eq_nil_of_le (show dx.length≤n by omega)]
     cases dy.drop n <;> rfl
   rw [e] at ek
   cases ek
   exact .inl ⟨⟨vx,vy,tx3,ty3,by omega⟩,q O' σ3 H3 rs3.less⟩
section
variable {X:Cx} {pos:Pos}
end
section
variable {X:Cx}
theorem wX:MtM X "list.insert" (fun x vs H Q=>∃ (l:Addr) (xs:List V) (i:Int) (k:Nat) (y:V),x=.ref l∧vs=[.int i,y]∧H l=some (.lst xs)∧i.toNat=k∧0≤i∧k≤xs.length∧xs.length≤1000∧Q .non (upd H l (.lst (xs.take k++y::xs.drop k)))):=by
 intro pins s σ H x vs v us Q I rx rv h
 obtain ⟨l,xs,i,k,y,rfl,rfl,hH,hki,hi0,hk,hz,q⟩:=h
 cases rx
 obtain ⟨u,w,rfl,ru,rw'⟩:=vals2 rv
 obtain ⟨t,rfl⟩:=ru
 obtain ⟨z,its,n,r,hl,e⟩:=I.lstM hH
 have hsl:(1001:Nat)≤sizeLine:=by decide
 have hfit:Builtin.List.listFitsIndex i=true:=fitsIndex_both (by omega) (by omega)
 have hfit':¬ (!Builtin.List.listFitsIndex i)=true:=by rw [hfit]; exact Bool.false_ne_true
 have hsz:its.toArray.size≤sizeLine:=by
  rw [List.size_toArray]
  exact Nat.le_trans (by omega) hsl
 clear hfit
 refine call_meets F.slot_list_insert ⟨_,e,rfl⟩ F.entry_list_insert (F.args_list_insert_3 _ _ _) (AutoSeq1.list_insert_list_int_val_1 l its.toArray n i t w hfit' hsz) ⟨e,?_⟩
 refine ⟨.non,_,I.lset (its':=its.take k++w::its.drop k) hH e ?_ ((r.take k).append (.cons rw' (r.drop k))) ?_,rfl,q⟩
 ·have hk':min k its.length=k:=by omega
  have h0:¬ (i < 0):=by omega
  simp only [h0,if_false,hki,List.size_toArray,hk']
  apply Array.ext'
  simp
  exact List.take_of_length_le (by simp)
 ·refine Nat.le_trans ?_ hsl
  simp only [List.length_append,List.length_take,List.length_cons,List.length_drop]
  omega
variable {pos:Pos} {e e':Expr} {fe fk:FE}
def lJ (i:Nat) (ρ:Rho) (w1 w2:W) (T:Tp) (o:Option (Option W)):Option ((Fl×Rho)×Tp):=match w1,w2,o with
 | .d (.int k),.d x,some (some (.loc (.list xs)))=>if 0≤k∧k≤xs.length∧xs.length≤1000 then some ((.nx,ρ.set i (some (.loc (.list (xs.take k.toNat++x::xs.drop k.toNat))))),T) else none
 | _,_,_=>none
theorem zS {i:Nat} {ρ ρ':Rho} {w1 w2:W} {T T':Tp} {fl:Fl} {o:Option (Option W)} (h:lJ i ρ w1 w2 T o=some ((fl,ρ'),T')):∃ k x xs,w1=.d (.int k)∧w2=.d x∧o=some (some (.loc (.list xs)))∧(0≤k∧k≤xs.length∧xs.length≤1000)∧((fl,ρ'),T')=((Fl.nx,ρ.set i (some (W.loc (.list (xs.take k.toNat++x::xs.drop k.toNat))))),T):=by
 unfold lJ at h
 split at h
 ·split at h
  ·rename_i h2
   exact ⟨_,_,_,rfl,rfl,rfl,h2,(Option.some.inj h).symm⟩
  ·cases h
 ·cases h
def iC (i:Nat) (f g:FE):FS:=fun ρ T=>bnd (f ρ T) fun w1 T1=>bnd (g ρ T1) fun w2 T2=>lJ i ρ w1 w2 T2 ρ[i]?
theorem uo {e f:Expr} {env:Env} {cpos:Pos} (h:noStar e=true) (h2:noStar f=true):((backTo cpos (starEach [e,f] env)).all (fun x=>!x.1) && (backToKw cpos (keywordEach [] env)).all (fun x=>x.1.isSome)
   && decide (([e,f]:List Expr).length + ([]:List Keyword).length + (if ([]:List Keyword).isEmpty then 0 else 1) < 30))=true:=by
 rw [o7 h,iJ h2]
 rfl
theorem BO {i:Nat} {x:Str} {p apos:Pos} (hk:DE X e fk) (he:DE X e' fe) (hN:X.N[i]? = some x:=by rfl) (hv:Vis X.env.scope x:=by first | exact Or.inl rfl | exact Or.inr (Or.inl rfl) | exact Or.inr (Or.inr rfl)) (hd:(x == ("__debug__" : Str))=false:=by decide)
  (hcd:(x == ("__classdict__" : Str))=false:=by decide) {cpos:Pos}
  (hbase:attributeBase (.Name x p) "insert" X.env (eval (.Name x p) X.env)=eval (.Name x p) X.env:=by rfl)
  (hfew:((backTo cpos (starEach [e,e'] X.env)).all (fun x=>!x.1) && (backToKw cpos (keywordEach [] X.env)).all (fun x=>x.1.isSome)
   && decide (([e,e']:List Expr).length + ([]:List Keyword).length + (if ([]:List Keyword).isEmpty then 0 else 1) < 30))=true:=by exact uo rfl rfl)
  (hline:(apos.endLine == cpos.line)=true:=by rfl) (hse:starEach [e,e'] X.env=(false,eval e X.env)::starEach [e'] X.env:=by exact bQ rfl) (hse2:starEach [e'] X.env=(false,eval e' X.env)::starEach [] X.env:=by exact bQ rfl) (hplain:(backTo cpos (starEach [e'] X.env)).any (·.1)=false:=by exact dM rfl)
  (hs:swapsWith (.Call (.Attribute (.Name x p) "insert" apos) [e,e'] [] cpos) none pos.line X.env=pure false:=by rfl) :
  DS X (.Expr (.Call (.Attribute (.Name x p) "insert" apos) [e,e'] [] cpos) pos) (iC i fk fe):=by
 refine ⟨?_⟩
 refine cU (mJ (jG PySem.F.plainAttrs_list PySem.F.slot_list_insert PySem.F.type_list_insert wX (pv i hN hv hd hcd) (cq hk.pe (cq he.pe dO hse2) hse) hbase hfew hline hse hplain) hs) fun D σ H=>?_
 rintro ⟨O₀,H₀,F,ts,O,ρ,T,fl,ρ',T',rs,e,q⟩
 obtain ⟨w1,T1,e1,e⟩:=aM e
 obtain ⟨w2,T2,e2,e⟩:=aM e
 obtain ⟨k,x0,xs,rfl,rfl,h1,h2,e3⟩:=zS e
 cases e3
 obtain ⟨v,k1,a,rfl,k2,k3,vs,k4,k5⟩:=rs.re i _ h1
 refine ⟨_,k1,.inl ⟨rfl,vs,SqL.of k4⟩,O,ts,ρ,T,_,_,rs.hc,rs.re,e1,fun u H1 s1 hc1 r1=>?_⟩
 have rs1:=rs.step s1 hc1
 refine ⟨O,ts,ρ,T1,_,_,hc1,rs1.re,e2,fun u2 H2 s2 hc2 r2=>?_⟩
 have rs2:=rs1.step s2 hc2
 cases (show Rep X.K O H1 u (.int k) from r1)
 have l5:=k5.length
 have k5':Reps X.K O H2 vs xs:=(k5.mono (rs.hc.le s1)).mono (hc1.le s2)
 exact ⟨a,vs,k,k.toNat,u2,rfl,rfl,s2 _ _ k3 (s1 _ _ k3 k4),rfl,h2.1,by omega,by omega,q O _ _ (rs2.put (us:=[]) h1 k1 ((k5'.take _).append (.cons r2 (k5'.drop _))))⟩
theorem wV:MtM X "dict.update" (fun x vs H Q=>∃ (a b:Addr) (kvs more:List (Key×V)),x=.ref a∧vs=[.ref b]∧a≠b∧H a=some (.dK kvs)∧Rd H b (.dK more)∧kvs.length + more.length≤sizeLine∧Q .non (upd H a (.dK (d6 kvs more)))):=by
 intro pins s σ H x vs v us Q I rx rv h
 obtain ⟨a,b,kvs,more,rfl,rfl,hab,hA,hB,hz,q⟩:=h
 cases rx
 obtain ⟨u,rfl,ru⟩:=rv.one
 cases ru
 obtain ⟨za,hda,va,ra,da⟩:=nX I.hok hA
 obtain ⟨zb,hdb,vb,rb,db⟩:=fR I.hok hB
 refine call_meetsIn PySem.F.slot_dict_update da.typeIs PySem.F.entry_dict_update (PySem.F.args_dict_update_2 _ _) (meets_dict_update (bW X.prog X.w) a b hab hdb) ⟨_,_,da,db,by rw [← ra.length,← rb.length]; exact hz,fun h' d1 d2 hs=>?_⟩
 have he:∃ q,h'.get? a=some q:=let ⟨q,_,_,hq,_⟩:=d1; ⟨q,hq⟩
 have hl:=lP more kvs
 exact ⟨.non,_,kn I (by rw [hA]; exact True.intro) hs he (nH (by omega) hda (rb.merge ra) d1),rfl,q⟩
def jO:List (PyData×PyData)→List (PyData×PyData)→Option (List (PyData×PyData))
 | ds,[]=>some ds
 | ds,(.str s,x)::r=>jO (putN ds s x) r
 | _,_=>none
theorem qu {K:Frag} {O:Addr→Prop} {H:Hp}:∀ {more:List (Key×V)} {es:List (PyData×PyData)} {kvs:List (Key×V)} {ds ds':List (PyData×PyData)},RepK K O H more es→RepK K O H kvs ds→jO ds es=some ds'→RepK K O H (d6 kvs more) ds'
 | _,_,_,_,_,.nil,r,e=>by cases e; exact r
 | _,_,kvs,ds,ds',.cons (k:=k) (v:=v) (d:=d) (kvs:=more) (ds:=es) rv t,r,e=>by
  rcases k with i | s
  ·cases e
  ·exact qu (kvs:=putK kvs (Sum.inr s) v) t (qI rv r) e
def og (i:Nat) (ρ:Rho) (T:Tp) (o:Option (List (PyData×PyData))):Option ((Fl×Rho)×Tp):=match o with
 | some ds=>some ((.nx,ρ.set i (some (.loc (.dict ds)))),T)
 | none=>none
def tX (i:Nat) (ρ:Rho) (w:W) (T:Tp) (o:Option (Option W)):Option ((Fl×Rho)×Tp):=match w,o with
 | .d (.dict es),some (some (.loc (.dict ds)))=>if ds.length + es.length≤1000 then og i ρ T (jO ds es) else none
 | _,_=>none
def iB (i:Nat) (f:FE):FS:=fun ρ T=>bnd (f ρ T) fun w T1=>tX i ρ w T1 ρ[i]?
theorem BN {i:Nat} {x:Str} {p apos:Pos} (he:DE X e fe) (hN:X.N[i]? = some x:=by rfl) (hv:Vis X.env.scope x:=by first | exact Or.inl rfl | exact Or.inr (Or.inl rfl) | exact Or.inr (Or.inr rfl)) (hd:(x == ("__debug__" : Str))=false:=by decide)
  (hcd:(x == ("__classdict__" : Str))=false:=by decide) {cpos:Pos}
  (hbase:attributeBase (.Name x p) "update" X.env (eval (.Name x p) X.env)=eval (.Name x p) X.env:=by rfl)
  (hfew:((backTo cpos (starEach [e] X.env)).all (fun x=>!x.1) && (backToKw cpos (keywordEach [] X.env)).all (fun x=>x.1.isSome)
   && decide (([e]:List Expr).length + ([]:List Keyword).length + (if ([]:List Keyword).isEmpty then 0 else 1) < 30))=true:=by exact lK rfl)
  (hline:(apos.endLine == cpos.line)=true:=by rfl) (hse:starEach [e] X.env=(false,eval e X.env)::starEach [] X.env:=by exact bQ rfl) (hplain:(backTo cpos (starEach [] X.env)).any (·.1)=false:=by exact dM rfl)
  (hs:swapsWith (.Call (.Attribute (.Name x p) "update" apos) [e] [] cpos) none pos.line X.env=pure false:=by rfl) :
  DS X (.Expr (.Call (.Attribute (.Name x p) "update" apos) [e] [] cpos) pos) (iB i fe):=by
 refine ⟨?_⟩
 refine cU (mJ (jG PySem.F.plainAttrs_dict PySem.F.slot_dict_update PySem.F.type_dict_update wV (pv i hN hv hd hcd) (cq he.pe dO hse) hbase hfew hline hse hplain) hs) fun D σ H=>?_
 rintro ⟨O₀,H₀,F,ts,O,ρ,T,fl,ρ',T',rs,e,q⟩
 obtain ⟨w,T1,e1,e⟩:=aM e
 unfold tX at e
 split at e
 ·rename_i es ds h1
  split at e
  ·rename_i h2
   unfold og at e
   split at e
   ·rename_i ds' h3
    cases e
    obtain ⟨v,k1,a,rfl,k2,k3,kvs,k4,k5⟩:=rs.re i _ h1
    refine ⟨_,k1,.inr (.inr (.inl ⟨rfl,.inl ⟨kvs,k4⟩⟩)),O,ts,ρ,T,_,_,rs.hc,rs.re,e1,fun u H1 s1 hc1 r1=>?_⟩
    have rs1:=rs.step s1 hc1
    cases (show Rep X.K O H1 u (.dict es) from r1) with
    | @dct b o more _ n t r=>
     have k5':=k5.mono (rs.hc.le s1)
     refine ⟨a,b,kvs,more,rfl,rfl,fun z=>n (by rw [← z]; exact k2),s1 _ _ k3 k4,.inr ⟨_,t⟩,?_,q O _ _ (rs1.putO h1 k1 (.inr (.inl ⟨_,rfl⟩)) fun le=>⟨_,bG,qu (r.mono le) (k5'.mono le) h3⟩)⟩
     have l1:=j7 k5'
     have l2:=j7 r
     have:(1000:Nat)≤sizeLine:=by decide
     omega
   ·cases e
  ·cases e
 ·cases e
end
section
variable {K:Frag} {O₀:Addr→Prop} {H₀:Hp} {F:List ((Addr→Prop)×Hp)} {ts:List Addr} {O A:Addr→Prop} {H H1:Hp} {σ:L2.St} {ρ:Rho} {T T1:Tp}
theorem RS.widen (r:RS K O₀ H₀ F ts O H σ ρ T) (s:SameX ts H H1) (hA:∀ b,A b→H b=none∧¬ O b) (c:HC K (fun b=>O b∨A b) ts H1 T1):RS K O₀ H₀ F ts (fun b=>O b∨A b) H1 σ ρ T1:=by
 have le:Le O H (fun b=>O b∨A b) H1:=fun a o n e=>⟨fun z=>z.elim n fun z=>(by rw [(hA a z).1] at e; cases e),s a o (fun z=>n (r.hc.own a z)) e⟩
 refine ⟨c,fun i w e=>?_,fun b hb=>.inl (r.sub b hb),r.ots,r.same.trans s,r.fresh,r.dist,fun f hf=>(r.frs f hf).trans le,r.len⟩
 obtain ⟨v,h1,h2⟩:=r.re i w e
 refine ⟨v,h1,?_⟩
 cases w with
 | d x=>exact Rep.mono le h2
 | tp k=>exact h2
 | loc ys=>
  obtain ⟨a,ea,m1,m2,m3⟩:=h2
  exact ⟨a,ea,.inl m1,m2,m3.mono (fun o q=>s _ _ m2 q) le⟩
theorem RS.hold {i:Nat} {a:Addr} {xs:PyData} (r:RS K O₀ H₀ F ts O H σ ρ T) (ha:O a) (nt:a∉ts) (hf:H₀ a=none∧¬ O₀ a) (nh:∀ (j:Nat) (ys:PyData),ρ[j]? = some (some (W.loc ys))→σ[j]? = some (some (V.ref a))→False) (rv:OwnAt K O H a xs) :
  RS K O₀ H₀ F ts O H (σ.set i (some (.ref a))) (ρ.set i (some (.loc xs))) T:=by
 refine ⟨r.hc,fun j w e=>?_,r.sub,r.ots,r.same,fun j ys b e1 e2=>?_,fun j k ys zs v e1 e2 e3 e4=>?_,r.frs,by simp [r.len]⟩
 ·by_cases z:i=j
  ·subst z
   have hl:i < ρ.length:=by
    have:=(List.getElem?_eq_some_iff.mp e).1
    simpa using this
   rw [List.getElem?_set_self hl] at e
   cases e
   exact ⟨.ref a,by rw [List.getElem?_set_self (by rw [r.len]; exact hl)],a,rfl,ha,nt,rv⟩
  ·rw [List.getElem?_set_ne z] at e
   obtain ⟨x,h1,h2⟩:=r.re j w e
   exact ⟨x,by rw [List.getElem?_set_ne z]; exact h1,h2⟩
 ·by_cases z:i=j
  ·subst z
   have hl:i < ρ.length:=by
    have:=(List.getElem?_eq_some_iff.mp e1).1
    simpa using this
   rw [List.getElem?_set_self (by rw [r.len]; exact hl)] at e2
   cases e2
   exact hf
  ·rw [List.getElem?_set_ne z] at e1 e2
   exact r.fresh j ys b e1 e2
 ·by_cases z:i=j
  ·by_cases z':i=k
   ·rw [← z,← z']
   ·exfalso
    subst z
    have hl:i < ρ.length:=by
     have:=(List.getElem?_eq_some_iff.mp e1).1
     simpa using this
    rw [List.getElem?_set_self (by rw [r.len]; exact hl)] at e3
    cases e3
    rw [List.getElem?_set_ne z'] at e2 e4
    exact nh k zs e2 e4
  ·by_cases z':i=k
   ·exfalso
    subst z'
    have hl:i < ρ.length:=by
     have:=(List.getElem?_eq_some_iff.mp e2).1
     simpa using this
    rw [List.getElem?_set_self (by rw [r.len]; exact hl)] at e4
    cases e4
    rw [List.getElem?_set_ne z] at e1 e3
    exact nh j ys e1 e3
   ·rw [List.getElem?_set_ne z] at e1 e3
    rw [List.getElem?_set_ne z'] at e2 e4
    exact r.dist j k ys zs v e1 e2 e3 e4
theorem RS.keep (r:RS K O₀ H₀ F ts O H σ ρ T) (hA:∀ b,A b→O b):HC K (fun b=>O₀ b∨A b) ts H T∧Le O H (fun b=>O₀ b∨A b) H:=by
 have le:Le O H (fun b=>O₀ b∨A b) H:=fun a o n e=>⟨fun z=>n (z.elim (r.sub a) (hA a)),e⟩
 exact ⟨⟨fun b hb=>.inl (r.ots b hb),fun b hb=>r.hc.trk b (hb.elim (r.sub b) (hA b)),r.hc.nd,r.hc.len,fun i a xs e1 e2=>(r.hc.tape i a xs e1 e2).mono (fun _ h=>h) le⟩,le⟩
end
def rZ (i j:Nat) (ρ:Rho) (T:Tp) (o1 o2:Option (Option W)):Option ((Fl×Rho)×Tp):=match o1,o2 with
 | some (some (.loc x)),some (some (.loc y))=>if i=j then none else some ((.ro (.tuple [x,y]),ρ),T)
 | _,_=>none
def jA (i j:Nat):FS:=fun ρ T=>rZ i j ρ T ρ[i]? ρ[j]?
section
variable {X:Cx} {pos:Pos}
theorem yp {i j:Nat} {x y:Str} {k:Nat} {px py tp:Pos} (hN:X.N[i]? = some x:=by rfl) (hv:Vis X.env.scope x:=by first | exact Or.inl rfl | exact Or.inr (Or.inl rfl) | exact Or.inr (Or.inr rfl)) (hd:(x == ("__debug__" : Str))=false:=by decide) (hcd:(x == ("__classdict__" : Str))=false:=by decide)
  (hN2:X.N[j]? = some y:=by rfl) (hv2:Vis X.env.scope y:=by first | exact Or.inl rfl | exact Or.inr (Or.inl rfl) | exact Or.inr (Or.inr rfl)) (hd2:(y == ("__debug__" : Str))=false:=by decide) (hcd2:(y == ("__classdict__" : Str))=false:=by decide)
  (hs1:starEach [.Name x px,.Name y py] X.env=(false,eval (.Name x px) X.env)::starEach [.Name y py] X.env:=by exact bQ rfl) (hs2:starEach [.Name y py] X.env=(false,eval (.Name y py) X.env)::starEach [] X.env:=by exact bQ rfl) :
  DS X (.Return (some (.Tuple [.Name x px,.Name y py] k tp)) pos) (jA i j):=by
 refine ⟨?_⟩
 refine cU (si (nq (cq (pv i hN hv hd hcd) (cq (pv j hN2 hv2 hd2 hcd2) dO hs2) hs1))) fun D σ H=>?_
 rintro ⟨O₀,H₀,F,ts,O,ρ,T,fl,ρ',T',rs,e,q⟩
 unfold jA rZ at e
 split at e
 ·rename_i x1 y1 h1 h2
  split at e
  ·cases e
  ·rename_i hij
   cases e
   obtain ⟨v1,k1,a,rfl,a2,a3,a4⟩:=rs.re i _ h1
   obtain ⟨v2,k2,b,rfl,b2,b3,b4⟩:=rs.re j _ h2
   have hab:a≠b:=fun z=>hij (rs.dist i j x1 y1 (.ref a) h1 h2 k1 (by rw [z]; exact k2))
   refine ⟨_,k1,_,k2,by show (2:Nat)≤sizeLine; decide,fun p hp=>?_⟩
   have nO:=rs.hc.fresh hp
   have np:∀ {c:Addr},O c→c≠p:=fun hc z=>nO (z ▸ hc)
   obtain ⟨c1,le1⟩:=rs.keep (A:=fun c=>c=a∨c=b) (fun c hc=>by rcases hc with rfl | rfl <;> assumption)
   have s2:SameX ts H (upd H p (.tup [.ref a,.ref b])):=.new hp _
   have le2:=c1.leNew hp (.tup [.ref a,.ref b])
   refine q (fun c=>c=a∨c=b) (.ref p) _ (rs.same.trans s2) (fun c hc=>?_) (c1.new hp _) ⟨p,a,b,rfl,hab,fun c=>Iff.rfl,c1.fresh hp,bG,?_,?_⟩
   ·rcases hc with rfl | rfl
    ·exact rs.fresh i x1 _ h1 k1
    ·exact rs.fresh j y1 _ h2 k2
   ·exact a4.mono (fun o h=>by rw [aO (np a2)]; exact h) (le1.trans le2)
   ·exact b4.mono (fun o h=>by rw [aO (np b2)]; exact h) (le1.trans le2)
 ·cases e
end
def sJ (o:Option ((Fl×Rho)×Tp)):Option (PyData×Tp):=bnd o fun p T=>match p with
 | (.ro x,_)=>some (x,T)
 | _=>none
def jK (N:Nat) (f:FS):FnM:=fun ws T=>if fN ws=true then sJ (f (ws.map some++List.replicate (N - ws.length) none) T) else none
inductive SpOP (K:Frag) (n:Nat) (m:FnM) (vs:List V) (H:Hp) (Q:VK):Prop where
 | mk (O:Addr→Prop) (ts:List Addr) (T:Tp) (ws:List W) (x:PyData) (T':Tp) (hc:HC K O ts H T) (r:gR K O ts H vs ws) (hl:ws.length=n) (e:m ws T=some (x,T'))
  (q:∀ (A:Addr→Prop) v H',SameX ts H H'→(∀ b,A b→H b=none∧¬ O b)→HC K (fun b=>O b∨A b) ts H' T'→uw K (fun b=>O b∨A b) A H' v x→Q v H'):SpOP K n m vs H Q
def spO (K:Frag) (n:Nat) (m:FnM):Sp:=fun vs H Q _=>SpOP K n m vs H Q
theorem DV {P:Program} {w:World} {K:Frag} {mg:Str→Option Value} {base:Heap} {x qual:Str} {st:Stmt} {f:Addr} {fd:FuncData} {N ps:List Str} {k:Nat} {m:FS} (F:Fun K x qual st f fd) (S:FnScope N ps (aN st))
  (hbody:∀ (cdv:Value) (A:Around) (outer:List Env) (s:Shared) (H:Hp) (E:XK),Room k (A.deeper (envOfC qual (aN st) s.heap.objs.size f cdv))→DSs (gU CX0 P w K mg base N qual (aN st) f cdv A outer s H E).nox (d3 st) m) :
  FnOk P w K mg base CX0 (k + 1) f fd ps (spO K ps.length (jK N.length m)):=by
 refine F.ok S (fun vs H Q E h=>?_) (fun cdv A outer s H vs Q E hr h=>⟨_,(hbody cdv A outer s H E hr).pe,?_⟩)
 ·obtain ⟨O,ts,T,ws,x,T',hc,rw',hl,_⟩:=h
  rw [← hl]
  exact Paired.length rw'
 obtain ⟨O,ts,T,ws,x,T',hc,rw',hl,e,q⟩:=h
 unfold jK at e
 split at e
 ·rename_i hn
  obtain ⟨⟨fl,ρ'⟩,T1,e1,e⟩:=aM e
  have hlen:vs.length=ws.length:=Paired.length rw'
  have noL:∀ {i:Nat} {xs:PyData},(ws.map some++List.replicate (N.length - ws.length) none)[i]? = some (some (W.loc xs))→False:=fun {i xs} e=>j0 hn (List.mem_of_getElem? (jY e))
  refine ⟨O,H,[],ts,O,_,T,fl,ρ',T1,⟨hc,fun i u e=>?_,fun _ h=>h,hc.own,.refl _ _,fun i xs a e1 _=>(noL e1).elim,fun i j xs ys v e1 _ _ _=>(noL e1).elim,fun f hf=>absurd hf (by simp),by simp [L2.start,hlen]⟩,e1,?_⟩
  ·obtain ⟨v,h1,h2⟩:=lZ rw' (jY e)
   refine ⟨v,?_,h2⟩
   unfold L2.start
   have hi:i < vs.length:=(List.getElem?_eq_some_iff.mp h1).1
   rw [List.getElem?_append_left (by simpa using hi),List.getElem?_map,h1]
   rfl
  ·cases fl with
   | ro y=>cases e; exact q
   | _=>cases e
 ·cases e
def nP (i j:Nat) (ρ:Rho) (x:PyData) (T:Tp):Option ((Fl×Rho)×Tp):=match x with
 | .tuple [y,z]=>some ((.nx,(ρ.set i (some (.loc y))).set j (some (.loc z))),T)
 | _=>none
def gO (i j:Nat) (m:FnM) (g:FA):FS:=fun ρ T=>bnd (g ρ T) fun ws T1=>bnd (m ws T1) (nP i j ρ)
section
variable {X:Cx} {pos:Pos}
theorem z7 {i j:Nat} {name x y:Str} {ps:List Str} {kk k:Nat} {m:FnM} {e:Expr} {es:List Expr} {g:FA} {p cpos px py tp:Pos} (F:Fn X.prog X.w X.K X.mg X.base name ps kk (spO X.K ps.length m)) (hr:Room kk X.A) (hg:Gl X name) (hN:X.N.Nodup) (ha:DA X (e::es) g) (hl:ji g ps.length) (hdb:(name == ("__debug__" : Str))=false:=by decide)
  (he:starEach (e::es) X.env=(false,eval e X.env)::starEach es X.env:=by exact bQ rfl) (hpl:(backTo cpos (starEach es X.env)).any (·.1)=false:=by exact dM rfl) (hi:X.N[i]? = some x:=by rfl) (hj:X.N[j]? = some y:=by rfl) (hx:Loc X.env.scope x:=by first | exact Or.inl rfl | exact Or.inr rfl) (hy:Loc X.env.scope y:=by first | exact Or.inl rfl | exact Or.inr rfl)
  (hf:X.fn x=true∨X.env.scope.names.lookup x=some .local:=by first | exact .inl rfl | exact .inr rfl | assumption) (hf':X.fn y=true∨X.env.scope.names.lookup y=some .local:=by first | exact .inl rfl | exact .inr rfl | assumption) (hc:X.calm=true:=by rfl)
  (hs:swapsWithSole [.Tuple [.Name x px,.Name y py] k tp] (.Call (.Name name p) (e::es) [] cpos) pos.line X.env=pure false:=by rfl) (hw:swappedStores [.Tuple [.Name x px,.Name y py] k tp] (.Call (.Name name p) (e::es) [] cpos) X.env=pure none:=by rfl)
  (h1:(assignEach [.Tuple [.Name x px,.Name y py] k tp] X.env).map (·.2)=[assign (.Tuple [.Name x px,.Name y py] k tp) X.env]:=by rfl) (hij:i≠j:=by decide):DS X (.Assign [.Tuple [.Name x px,.Name y py] k tp] (.Call (.Name name p) (e::es) [] cpos) pos) (gO i j m g):=by
 refine ⟨?_⟩
 refine cU (AY (nR F hr hg ha.pe hdb he hpl) (nk hc (iK (hJ hN hi hx hf) (iK (hJ hN hj hy hf') mL))) hs hw h1) fun D σ H=>?_
 rintro ⟨O₀,H₀,F,ts,O,ρ,T,fl,ρ',T',rs,e,q⟩
 obtain ⟨ws,T1,e1,e⟩:=aM e
 obtain ⟨x0,T2,e2,e⟩:=aM e
 unfold nP at e
 split at e
 ·rename_i y0 z0
  cases e
  refine ⟨O,ts,ρ,T,ws,T1,rs.hc,rs.re,e1,fun vs H1 s1 hc1 r1=>?_⟩
  have rs1:=rs.step s1 hc1
  refine ⟨O,ts,T1,ws,_,_,hc1,by rw [List.append_nil]; exact r1,hl _ _ _ _ e1,e2,fun A v H2 s2 hA hc2 ov=>?_⟩
  obtain ⟨p,a,b,rfl,hab,hAA,np,hp,oa,ob⟩:=ov
  have rs2:=rs1.widen s2 hA hc2
  have hAa:=hA a ((hAA a).mpr (.inl rfl))
  have hAb:=hA b ((hAA b).mpr (.inr rfl))
  have nta:a∉ts:=fun z=>hAa.2 (hc1.own a z)
  have ntb:b∉ts:=fun z=>hAb.2 (hc1.own b z)
  have h0:∀ {c:Addr},H1 c=none→c∉ts→H₀ c=none:=fun {c} hn nt=>by
   cases z:H₀ c with
   | none=>rfl
   | some o=>rw [rs1.same c o nt z] at hn; cases hn
  have nh:∀ {c:Addr},H1 c=none→∀ (j:Nat) (ys:PyData),ρ[j]? = some (some (W.loc ys))→σ[j]? = some (some (V.ref c))→False:=fun {c} hn j ys q1 q2=>by
   obtain ⟨v,h1,a,ea,h2,h3,h4⟩:=rs1.re j _ q1
   rw [q2] at h1
   cases h1
   cases ea
   obtain ⟨o',h5⟩:=h4.some
   rw [hn] at h5
   cases h5
  have rs3:=rs2.hold (i:=i) (xs:=y0) (.inr ((hAA a).mpr (.inl rfl))) nta ⟨h0 hAa.1 nta,fun z=>hAa.2 (rs1.sub a z)⟩ (nh hAa.1) oa
  have rs4:=rs3.hold (i:=j) (xs:=z0) (.inr ((hAA b).mpr (.inr rfl))) ntb ⟨h0 hAb.1 ntb,fun z=>hAb.2 (rs1.sub b z)⟩ (fun n ys q1 q2=>by
   by_cases z:i=n
   ·subst z
    have hl:i < σ.length:=by
     have:=(List.getElem?_eq_some_iff.mp q2).1
     simpa using this
    rw [List.getElem?_set_self hl] at q2
    injection q2 with q2
    injection q2 with q2
    injection q2 with q2
    exact hab q2
   ·rw [List.getElem?_set_ne z] at q1 q2
    exact nh hAb.1 n ys q1 q2) ob
  exact ⟨_,_,rfl,.inl (.inl hp),rfl,_,_,rfl,_,_,rfl,rfl,q _ _ _ rs4⟩
 ·cases e
end
section
variable {X:Cx}
def je:PyData→PyData→Option PyData
 | x,.list ys=>if SeqAt.shaped x=true∧ys.all SeqAt.shaped=true then some (.bool (ys.any fun y=>PyData.eqv y x)) else none
 | _,_=>none
theorem zv {k:Nat} (hr:Room k X.A):OpR X (compareOp .In) (fun x y H Q=>∃ O d1 a vs ds,Vw X.K O H x d1∧y=.ref a∧SqL X.K H a vs∧Reps X.K O H vs ds∧SeqAt.shaped d1=true∧ds.all SeqAt.shaped=true∧Q (.bl (ds.any fun y=>PyData.eqv y d1)) H):=by
 intro pins s σ H x y v u Q I rx ry h
 obtain ⟨O,d1,a,vs,ds,h1,rfl,h2,h3,s1,s2,q⟩:=h
 cases ry
 obtain ⟨as,r1⟩:=h1.reads I rx
 obtain ⟨its,rv,p1,_⟩:=I.list h2
 obtain ⟨bs,r2,_⟩:=h3.reads I rv
 refine SeqAt.in_listAt (iD s.heap d1) p1.isList (fun y hy=>?_) ?_
 ·obtain ⟨d,cs,hd,rd⟩:=readsAll_mem r2 (by simpa using hy)
  rw [mT rd]
  have sd:=List.all_eq_true.mp s2 d hd
  refine SeqAt.eqAt_reads d d1 _ s y v _ _ rd r1 (SeqAt.canLay_of_shaped sd) (SeqAt.canLay_of_shaped s1) (SeqAt.room_of_shaped sd ?_)
  have:=hr.un
  show X.A.in1.units + 64 < cLine
  have e:X.A.in1.units≤X.A.units + 1:=by simp [Around.in1]
  omega
 ·have e:its.toArray.any (iD s.heap d1)=ds.any fun y=>PyData.eqv y d1:=by
   rw [← mB r2]
   simp
  rw [e]
  exact ⟨.bl _,H,I,rfl,q⟩
theorem Bk {k:Nat} (hr:Room k X.A):OpD X (compareOp .In) je:=⟨_,zv hr,fun O ts H T v1 v2 x y d Q hc h1 h2 e q=>by
 unfold je at e
 split at e
 ·split at e
  ·rename_i h
   cases e
   obtain ⟨a,vs,rfl,t,r⟩:=h2.lst
   exact ⟨O,x,a,vs,_,h1,rfl,t,r,h.1,h.2,q _ H (.refl _ _) hc (.bl _)⟩
  ·cases e
 ·cases e⟩
def lc (k:Kd):Bool:=bO k .int || bO k .str || bO k .tup
theorem h9 (K:Frag) (a:Kd):PySem.W.kitAny K (.type a.name) [.type "int",.type "str",.type "tuple"]=some (lc a):=by
 have e1:PySem.W.kitOne K (.type a.name) (.type "int")=some (bO a .int):=fE a .int (by decide)
 have e2:PySem.W.kitOne K (.type a.name) (.type "str")=some (bO a .str):=fE a .str (by decide)
 have e3:PySem.W.kitOne K (.type a.name) (.type "tuple")=some (bO a .tup):=fE a .tup (by decide)
 cases a <;> (simp only [PySem.W.kitAny,e1,e2,e3]; rfl)
theorem vU:CallR X (.builtin "isinstance") (fun xs H Q=>∃ (x:V) (tp:Addr) (O:Addr→Prop) (d:PyData),xs=[x,.ref tp]∧Vw X.K O H x d∧H tp=some (.tup [.ty "int",.ty "str",.ty "tuple"])∧Q (.bl (lc (kd d))) H):=by
 intro pins s σ H xs us Q I r h
 obtain ⟨x,tp,O,d,rfl,vw,ht,q⟩:=h
 obtain ⟨u,w',rfl,ru,rw'⟩:=vals2 r
 cases (show w'=Value.ref tp from rw')
 have fin:∀ tk,EP X pins σ Q (.bool (lc (kd d))) { s with toks:=tk }:=fun tk=>⟨.bl _,H,I.tok _,rfl,q⟩
 obtain ⟨_,its,rv,⟨dd,c,n,sl⟩,e0,e1,m,e2⟩:=(show ObjOk X.prog X.w H s.heap tp (.tup [.ty "int",.ty "str",.ty "tuple"]) from I.hok tp _ ht)
 cases rv with
 | cons r1 rv=>
 cases rv with
 | cons r2 rv=>
 cases rv with
 | cons r3 rv=>
 cases rv
 rename_i u1 u2 u3
 cases (show u1=Value.type "int" from r1)
 cases (show u2=Value.type "str" from r2)
 cases (show u3=Value.type "tuple" from r3)
 dsimp only at e1 e2
 subst e1 e2
 cases d with
 | none=>cases vw.non; cases (show u=Value.none from ru); exact PySem.W.kia_tup PySem.W.kitx_none I.kIn True.intro e0 (h9 X.K .non) (fun z=>nomatch z) fin
 | bool b=>cases vw.bl; cases (show u=Value.bool b from ru); exact PySem.W.kia_tup PySem.W.kitx_bool I.kIn True.intro e0 (h9 X.K .bl) (fun z=>nomatch z) fin
 | int i=>cases vw.int; obtain ⟨t,e⟩:=(show ∃ t,u=Value.int i t from ru); cases e; exact PySem.W.kia_tup PySem.W.kitx_int I.kIn True.intro e0 (h9 X.K .int) (fun z=>nomatch z) fin
 | str z=>cases vw.str; obtain ⟨t,e⟩:=(show ∃ t,u=Value.str z t from ru); cases e; exact PySem.W.kia_tup PySem.W.kitx_str I.kIn True.intro e0 (h9 X.K .str) (fun z=>nomatch z) fin
 | list ds=>
  obtain ⟨a,vs,rfl,t,r⟩:=vw.lst
  cases (show u=Value.ref a from ru)
  obtain ⟨its,_,pl,_⟩:=I.list t
  obtain ⟨o,n,e,c1,_⟩:=pl
  exact PySem.W.kia_tup PySem.W.kitx_list I.kIn ⟨o,e,c1⟩ e0 (h9 X.K .lst) (fun z=>nomatch z) fin
 | tuple ds=>
  obtain ⟨a,vs,rfl,t,r⟩:=vw.tup
  cases (show u=Value.ref a from ru)
  obtain ⟨its,_,pl,_⟩:=I.tuple t.sq
  obtain ⟨o,e,c1,_⟩:=pl
  exact PySem.W.kia_tup PySem.W.kitx_tuple I.kIn ⟨o,e,c1⟩ e0 (h9 X.K .tup) (fun z=>nomatch z) fin
 | dict ds=>
  obtain ⟨a,vs,rfl,t,r⟩:=vw.dct
  cases (show u=Value.ref a from ru)
  obtain ⟨_,_,_,_,o,_,_,e,c1,_⟩:=fR I.hok t
  exact PySem.W.kia_tup PySem.W.kitx_dict I.kIn ⟨o,e,c1.1⟩ e0 (h9 X.K .dct) (fun z=>nomatch z) fin
def jy (x:PyData):Option PyData:=some (.bool (lc (kd x)))
theorem xg {e:Expr} {f:FE} {p1 p2 p3 p' pos tpos:Pos} {k:Nat} (hi:X.mg "isinstance" = none) (he:DE X e f) (hm1:X.mg "int" = none) (hm2:X.mg "str" = none) (hm3:X.mg "tuple" = none) (hg:Gl X "isinstance":=by rfl) (hT1:Gl X "int":=by rfl) (hT2:Gl X "str":=by rfl) (hT3:Gl X "tuple":=by rfl)
  (hs:starEach [e,.Tuple [.Name "int" p1,.Name "str" p2,.Name "tuple" p3] k tpos] X.env=(false,eval e X.env)::starEach [.Tuple [.Name "int" p1,.Name "str" p2,.Name "tuple" p3] k tpos] X.env:=by exact bQ rfl)
  (hs2:starEach [.Tuple [.Name "int" p1,.Name "str" p2,.Name "tuple" p3] k tpos] X.env=(false,eval (.Tuple [.Name "int" p1,.Name "str" p2,.Name "tuple" p3] k tpos) X.env)::starEach [] X.env:=by exact bQ rfl)
  (hs3:starEach [.Name "int" p1,.Name "str" p2,.Name "tuple" p3] X.env=(false,eval (.Name "int" p1) X.env)::starEach [.Name "str" p2,.Name "tuple" p3] X.env:=by exact bQ rfl) (hs4:starEach [.Name "str" p2,.Name "tuple" p3] X.env=(false,eval (.Name "str" p2) X.env)::starEach [.Name "tuple" p3] X.env:=by exact bQ rfl)
  (hs5:starEach [.Name "tuple" p3] X.env=(false,eval (.Name "tuple" p3) X.env)::starEach [] X.env:=by exact bQ rfl)
  (hpl:(backTo pos (starEach [.Tuple [.Name "int" p1,.Name "str" p2,.Name "tuple" p3] k tpos] X.env)).any (·.1)=false:=by exact dM rfl) :
  DE X (.Call (.Name "isinstance" p') [e,.Tuple [.Name "int" p1,.Name "str" p2,.Name "tuple" p3] k tpos] [] pos) (fUn jy f):=by
 refine ⟨?_⟩
 refine bD (ms vU hg hi PyProof.Rows.boot_isinstance (cq he.pe (cq (nq (cq (ki (v:=.ty "int") hT1 hm1 boot_int rfl) (cq (ki (v:=.ty "str") hT2 hm2 boot_str rfl) (cq (ki (v:=.ty "tuple") hT3 hm3 boot_tuple rfl) dO hs5) hs4) hs3)) dO hs2) hs) (by decide) (by decide) hs hpl) fun σ H Q=>?_
 rintro ⟨O,ts,ρ,T,w,T',hc,re,e,q⟩
 obtain ⟨w1,T1,e1,e⟩:=aM e
 obtain ⟨x,d,h1,h3,rfl,rfl⟩:=kE e
 cases h3
 refine ⟨O,ts,ρ,T,w1,T',hc,re,e1,fun v1 H1 s1 hc1 r1=>?_⟩
 refine ⟨by decide,fun tp htp=>?_⟩
 have hc2:=hc1.new htp (.tup [.ty "int",.ty "str",.ty "tuple"])
 have s2:SameX ts H1 (upd H1 tp (.tup [.ty "int",.ty "str",.ty "tuple"])):=.new htp _
 exact ⟨v1,tp,O,x,rfl,hc2.view (r1.mono hc1 s2) h1,bG,q _ _ (s1.trans s2) hc2 (.bl _)⟩
abbrev FP:=Rho→Tp→Option (List (Str×PyData)×Tp)
def gx:FP:=fun _ T=>some ([],T)
def sr (k:Str) (g:FP) (ρ:Rho) (w:W) (T:Tp):Option (List (Str×PyData)×Tp):=match w with
 | .d x=>bnd (g ρ T) fun r T2=>some ((k,x)::r,T2)
 | _=>none
def bt (k:Str) (f:FE) (g:FP):FP:=fun ρ T=>bnd (f ρ T) (sr k g ρ)
def dj (l:List (Str×PyData)):List (PyData×PyData):=l.map fun p=>(.str p.1,p.2)
def cR (p:Str×V):Key×V:=(Sum.inr p.1,p.2)
structure DP (X:Cx) (pos:Pos) (keys:List (Option Expr)) (values:List Expr) (g:FP):Prop where
 ex:∃ trs,PPs X pos keys values trs∧∀ (σ:L2.St) (H:Hp) (Q:List (V×V)→Hp→Prop) (O:Addr→Prop) (ts:List Addr) (ρ:Rho) (T:Tp) (l:List (Str×PyData)) (T':Tp),HC X.K O ts H T→RelE X.K O ts H σ ρ→g ρ T=some (l,T') →
  (∀ (kvs:List (Str×V)) (H':Hp),SameX ts H H'→HC X.K O ts H' T'→kvs.map (·.1)=l.map (·.1)→RepK X.K O H' (kvs.map cR) (dj l)→Q (kvs.map fun p=>(V.str p.1,p.2)) H')→ku trs σ H Q
theorem nG {pos:Pos}:DP X pos [] [] gx:=⟨[],zh,fun σ H Q O ts ρ T l T' hc re e q=>by
 cases e
 exact q [] H (.refl _ _) hc rfl .nil⟩
theorem dN {pos kpos:Pos} {k:Str} {j} {e:Expr} {f:FE} {g:FP} {ks:List (Option Expr)} {vs:List Expr} (he:DE X e f) (hr:DP X pos ks vs g):DP X pos (some (.Constant (.str k) j kpos)::ks) (e::vs) (bt k f g):=by
 obtain ⟨trs,hp,hq⟩:=hr.ex
 refine ⟨_,xM sm he.pe hp,fun σ H Q O ts ρ T l T' hc re e q=>?_⟩
 obtain ⟨w,T1,e1,e⟩:=aM e
 unfold sr at e
 split at e
 ·rename_i x
  obtain ⟨r,T2,e2,e⟩:=aM e
  cases e
  refine ⟨O,ts,ρ,T,_,_,hc,re,e1,fun v H1 s1 hc1 r1=>?_⟩
  refine hq σ H1 _ O ts ρ T1 r T' hc1 (re.mono hc s1) e2 fun kvs H2 s2 hc2 hk rk=>?_
  exact q ((k,v)::kvs) H2 (s1.trans s2) hc2 (by simp [hk]) (.cons (k:=Sum.inr k) (RepW.mono (w:=.d x) r1 hc1 s2) rk)
 ·cases e
theorem me:∀ (l acc:List (Str×V)),(acc.map (·.1)++l.map (·.1)).Nodup→d6 (acc.map cR) (l.map cR)=(acc++l).map cR
 | [],acc,_=>by simp [d6]
 | p::l,acc,h=>by
  have h1:putK (acc.map cR) (Sum.inr p.1:Key) p.2=(acc++[p]).map cR:=by
   unfold putK
   rw [if_neg]
   ·rw [List.map_append]
    rfl
   ·intro hc
    obtain ⟨kv,m,e⟩:=List.any_eq_true.mp hc
    obtain ⟨q,m2,rfl⟩:=List.mem_map.mp m
    have e':q.1=p.1:=Sum.inr.inj (of_decide_eq_true e)
    have:=(List.nodup_append.mp h).2.2 q.1 (List.mem_map.mpr ⟨q,m2,rfl⟩) p.1 (by simp)
    exact this e'
  have:=me l (acc++[p]) (by simpa using h)
  have e:d6 (acc.map cR) ((p::l).map cR)=d6 (putK (acc.map cR) (Sum.inr p.1:Key) p.2) (l.map cR):=rfl
  rw [e,h1,this]
  simp
def okP (l:List (Str×PyData)):Bool:=decide ((l.map (·.1)).Nodup) && decide (l.length≤15)
def i9 (l:List (Str×PyData)) (T:Tp):Option (W×Tp):=if okP l=true then some (.d (.dict (dj l)),T) else none
def iu (g:FP):FE:=fun ρ T=>bnd (g ρ T) i9
theorem p6 (kvs:List (Str×V)):kvs.map (fun p=>(V.str p.1,p.2))=(kvs.map cR).map (fun kv=>(kV kv.1,kv.2)):=by
 rw [List.map_map]
 rfl
theorem rp {keys:List (Option Expr)} {values:List Expr} {g:FP} {pos:Pos} (h:DP X pos keys values g) (hall:keys.all (·.isSome)=true:=by rfl) (hl:keys.length=values.length:=by rfl) (h0:keys≠[]:=by simp) (h15:keys.length≤15:=by decide):DE X (.Dict keys values pos) (iu g):=by
 obtain ⟨trs,hp,hq⟩:=h.ex
 refine ⟨?_⟩
 refine bD (CC (qJ hp hall hl h0 h15)) fun σ H Q=>?_
 rintro ⟨O,ts,ρ,T,w,T',hc,re,e,q⟩
 obtain ⟨l,T1,e1,e⟩:=aM e
 unfold i9 at e
 split at e
 ·rename_i hok
  cases e
  have hok1:=of_decide_eq_true ((Bool.and_eq_true _ _ ▸ hok).1)
  have hok2:=of_decide_eq_true ((Bool.and_eq_true _ _ ▸ hok).2)
  intro p hp
  have nO:=hc.fresh hp
  have nt:p∉ts:=fun z=>nO (hc.own p z)
  have le:Le O H (fun b=>O b∨b=p) (upd H p (.dK [])):=fun a o n e=>by
   have z:a≠p:=c9 e hp
   exact ⟨fun q=>q.elim n z,by rw [aO z]; exact e⟩
  have c':HC X.K (fun b=>O b∨b=p) ts (upd H p (.dK [])) T:=⟨fun b hb=>.inl (hc.own b hb),fun b hb=>by
    by_cases z:b=p
    ·subst z; rw [bG]; exact .inr (.inl ⟨_,rfl⟩)
    ·rw [aO z]; exact hc.trk b (hb.resolve_right z),hc.nd,hc.len,fun j a ys q1 q2=>by
    exact (hc.tape j a ys q1 q2).mono (fun o' k1=>by rw [aO (c9 k1 hp)]; exact k1) le⟩
  have re':RelE X.K (fun b=>O b∨b=p) ts (upd H p (.dK [])) σ ρ:=fun i w e=>by
   obtain ⟨v,k1,k2⟩:=re i w e
   refine ⟨v,k1,?_⟩
   cases w with
   | d x=>exact Rep.mono le k2
   | tp k=>exact k2
   | loc ys=>
    obtain ⟨a,ea,m1,m2,m3⟩:=k2
    exact ⟨a,ea,.inl m1,m2,m3.mono (fun o' q=>by rw [aO (c9 q hp)]; exact q) le⟩
  refine hq σ _ _ _ ts ρ T l T' c' re' e1 fun kvs H1 s1 hc1 hk rk=>?_
  have hp1:H1 p=some (.dK []):=s1 p _ nt bG
  have hlen:kvs.length=l.length:=by have:=congrArg List.length hk; simpa using this
  refine ⟨hp1,kvs.map cR,p6 kvs,by rw [List.length_map,hlen]; exact hok2,.frz bG fun o=>.done ?_⟩
  have hm:d6 [] (kvs.map cR)=kvs.map cR:=by
   have:=me kvs [] (by rw [List.map_nil,List.nil_append,hk]; exact hok1)
   simpa using this
  rw [yL,hm]
  have le2:Le (fun b=>O b∨b=p) H1 O (upd H1 p (.frz o (.dK (kvs.map cR)))):=fun a o n e=>⟨fun z=>n (.inl z),by rw [aO (show a≠p from fun z=>n (.inr z))]; exact e⟩
  refine q _ _ (fun b o n e=>?_) ⟨hc.own,fun b hb=>?_,hc1.nd,hc1.len,fun j a ys q1 q2=>?_⟩ (.dct nO bG (rk.mono le2))
  ·have z:b≠p:=c9 e hp
   rw [aO z]
   exact s1 b o n (by rw [aO z]; exact e)
  ·have z:b≠p:=fun z=>nO (z ▸ hb)
   rw [aO z]
   exact hc1.trk b (.inl hb)
  ·exact (hc1.tape j a ys q1 q2).mono (fun o' k1=>by rw [aO (show a≠p from fun z=>nt (by rw [← z]; exact List.mem_of_getElem? q1))]; exact k1) le2
 ·cases e
def kB (i:Nat) (ρ:Rho) (l:List (Str×PyData)) (T:Tp):Option ((Fl×Rho)×Tp):=if okP l=true then some ((.nx,ρ.set i (some (.loc (.dict (dj l))))),T) else none
def nz (i:Nat) (g:FP):FS:=fun ρ T=>bnd (g ρ T) (kB i ρ)
theorem yn {i:Nat} {x:Str} {keys:List (Option Expr)} {values:List Expr} {g:FP} {pos pos' dpos:Pos} (hN:X.N.Nodup) (h:DP X dpos keys values g) (hall:keys.all (·.isSome)=true:=by rfl) (hl:keys.length=values.length:=by rfl) (h0:keys≠[]:=by simp) (h15:keys.length≤15:=by decide) (hi:X.N[i]? = some x:=by rfl) (hx:Loc X.env.scope x:=by first | exact Or.inl rfl | exact Or.inr rfl)
  (hs:swapsWith (.Dict keys values dpos) (some (.Name x pos')) pos.line X.env=pure false:=by rfl) (hf:X.fn x=true∨X.env.scope.names.lookup x=some .local:=by first | exact .inl rfl | exact .inr rfl | assumption) :
  DS X (.Assign [.Name x pos'] (.Dict keys values dpos) pos) (nz i g):=by
 obtain ⟨trs,hp,hq⟩:=h.ex
 refine ⟨?_⟩
 refine cU (kD hN hi hx (qJ hp hall hl h0 h15) hs hf) fun D σ H=>?_
 rintro ⟨O₀,H₀,F,ts,O,ρ,T,fl,ρ',T',rs,e,q⟩
 obtain ⟨l,T1,e1,e⟩:=aM e
 unfold kB at e
 split at e
 ·rename_i hok
  cases e
  have hok1:=of_decide_eq_true ((Bool.and_eq_true _ _ ▸ hok).1)
  have hok2:=of_decide_eq_true ((Bool.and_eq_true _ _ ▸ hok).2)
  intro p hp
  have nO:=rs.hc.fresh hp
  have nt:p∉ts:=fun z=>nO (rs.hc.own p z)
  have h00:H₀ p=none:=by
   cases e:H₀ p with
   | none=>rfl
   | some o=>rw [rs.same p o nt e] at hp; cases hp
  have h0:H₀ p=none∧¬ O₀ p:=⟨h00,fun z=>nO (rs.sub p z)⟩
  have nh:∀ (j:Nat) (ys:PyData),ρ[j]? = some (some (W.loc ys))→σ[j]? = some (some (V.ref p))→False:=fun j ys q1 q2=>by
   obtain ⟨v,h1,a,ea,h2,h3,h4⟩:=rs.re j _ q1
   rw [q2] at h1
   cases h1
   cases ea
   obtain ⟨o',h5⟩:=h4.some
   rw [hp] at h5
   cases h5
  have rs0:=rs.lay (o:=.dK []) hp (.inr (.inl ⟨_,rfl⟩))
  refine hq σ _ _ _ ts ρ T l T' rs0.hc rs0.re e1 fun kvs H1 s1 hc1 hk rk=>?_
  have rs1:=rs0.step s1 hc1
  have hp1:H1 p=some (.dK []):=s1 p _ nt bG
  have hlen:kvs.length=l.length:=by have:=congrArg List.length hk; simpa using this
  refine ⟨hp1,kvs.map cR,p6 kvs,by rw [List.length_map,hlen]; exact hok2,?_⟩
  have hm:d6 [] (kvs.map cR)=kvs.map cR:=by
   have:=me kvs [] (by rw [List.map_nil,List.nil_append,hk]; exact hok1)
   simpa using this
  rw [hm]
  exact q _ _ _ (rs1.take (.inr rfl) nt h0 nh (.inr (.inl ⟨_,rfl⟩)) fun le=>⟨_,bG,rk.mono le⟩)
 ·cases e
def C1 (ds:List (PyData×PyData)) (z:PyData):PyData→Option PyData
 | .str s=>some ((aL ds s).getD z)
 | _=>none
def tL (T:Tp) (o:Option PyData):Option (W×Tp):=match o with
 | some x=>some (.d x,T)
 | none=>none
def jM (w1 w2 w3:W) (T:Tp):Option (W×Tp):=match w1,w2,w3 with
 | .d (.dict ds),.d y,.d z=>tL T (C1 ds z y)
 | _,_,_=>none
def i7 (f g h:FE):FE:=fun ρ T=>bnd (f ρ T) fun w1 T1=>bnd (g ρ T1) fun w2 T2=>bnd (h ρ T2) (jM w1 w2)
theorem yg {w1 w2 w3 w:W} {T T':Tp} (h:jM w1 w2 w3 T=some (w,T')):∃ ds s z,w1=.d (.dict ds)∧w2=.d (.str s)∧w3=.d z∧w=.d ((aL ds s).getD z)∧T'=T:=by
 unfold jM at h
 split at h
 ·rename_i ds y z
  unfold tL at h
  split at h
  ·rename_i x hx
   cases h
   cases y with
   | str s=>cases hx; exact ⟨ds,s,z,rfl,rfl,rfl,rfl,rfl⟩
   | _=>cases hx
  ·cases h
 ·cases h
theorem rn {k:Nat} {o e e':Expr} {f g h:FE} {apos cpos:Pos} (hr:Room k X.A) (ho:DE X o f) (he:DE X e g) (he':DE X e' h)
  (m:M2 X o "get" apos e e' cpos:=by exact ⟨rfl,uo rfl rfl,rfl,by rfl⟩):DE X (.Call (.Attribute o "get" apos) [e,e'] [] cpos) (i7 f g h):=by
 refine ⟨?_⟩
 refine bD (xT (lh hr) ho.pe he.pe he'.pe m) fun σ H Q=>?_
 rintro ⟨O,ts,ρ,T,w,T',hc,re,e,q⟩
 obtain ⟨w1,T1,e1,e⟩:=aM e
 obtain ⟨w2,T2,e2,e⟩:=aM e
 obtain ⟨w3,T3,e3,e⟩:=aM e
 obtain ⟨ds,s,z,rfl,rfl,rfl,rfl,rfl⟩:=yg e
 refine ⟨O,ts,ρ,T,_,T1,hc,re,e1,fun v1 H1 s1 hc1 r1=>?_⟩
 cases (show Rep X.K O H1 v1 (.dict ds) from r1) with
 | @dct a ob kvs _ n t r=>
  refine ⟨a,rfl,BA (.inr ⟨_,t⟩),O,ts,ρ,T1,_,T2,hc1,re.mono hc s1,e2,fun v2 H2 s2 hc2 r2=>?_⟩
  refine ⟨O,ts,ρ,T2,_,T',hc2,(re.mono hc s1).mono hc1 s2,e3,fun v3 H3 s3 hc3 r3=>?_⟩
  cases (show Rep X.K O H2 v2 (.str s) from r2)
  have le:=hc1.le (s2.trans s3)
  have t3:=(le _ _ n t).2
  have r':=r.mono le
  refine ⟨_,DGet.rd (k:=Sum.inr s) (.inr ⟨_,t3⟩),?_⟩
  rcases iM (s:=s) r' with ⟨z1,z2⟩ | ⟨v,d',z1,z2,rv⟩
  ·rw [z2]
   exact q _ H3 ((s1.trans s2).trans s3) hc3 (by rw [z1]; exact r3)
  ·rw [z2]
   exact q _ H3 ((s1.trans s2).trans s3) hc3 (by rw [z1]; exact rv)
end
end D
namespace G
open PySem PySem.Spec PyProof.Rows L2 D

theorem c8 (k:Nat) (h:0 < k):∃ j,k=j + 1:=⟨k - 1,by omega⟩
def jj:FnM:=aX 1 (av (bI (fUn (bi .int) (aa 0)) (gy (fUn (bi .bl) (aa 0)))))
def fB:FnM:=aX 2 (av (fCB dv (ab (bf (br (aa 0)) a6 (ae inD (aa 0) (aa 2))) ag)))
def g7:FnM:=aX 1 (ak (fIf (aR (ar jj (ab (aa 0) ag))) (av (ae leD (fCB lN (ab (aa 0) ag)) (ae gC (fC (.int 10)) (fC (.int 18))))) aC) (av (bI (fUn (bi .str) (aa 0)) (bI (ae leD (fCB aF (ab (aa 0) ag)) (fC (.int 20))) (ar fB (ab (aa 0) (ab (fC (.str "abcdefghijklmnopqrstuvwxyz0123456789-")) ag)))))))
def dZ:Nat→FnM
 | 0=>fun _ _=>none
 | n + 1=>aX 2 (ak (fIf (bF (aR (fUn (bi .tup) (aa 0)))) (av (ar g7 (ab (aa 0) ag))) aC) (ak (fIf (bE (au (ae eqD (aa 1) (fC (.int 0)))) (au (ae gtD (fCB aF (ab (aa 0) ag)) (fC (.int 8))))) (av (fC (.bool false))) aC) (av (fCB dv (ab (bf (br (aa 0)) a6 (ar (dZ n) (ab (aa 0) (ab (ae jP (aa 2) (fC (.int 1))) ag)))) ag)))))
def fD:Nat→FnM
 | 0=>fun _ _=>none
 | n + 1=>aX 1 (ak (fIf (bF (aR (fUn (bi .tup) (aa 0)))) (av (fC (.int 1))) aC) (av (ae az (fC (.int 1)) (fCB eJ (ab (bf (br (aa 0)) a6 (ar (fD n) (ab (aa 0) ag))) ag)))))
def g9:FnM:=aX 1 (av (bI (ar (dZ 25) (ab (aa 0) (ab (fC (.int 4)) ag))) (ae leD (ar (fD 25) (ab (aa 0) ag)) (fC (.int 40)))))
def fu:FnM:=aX 1 (ak (fIf (bE (au (ae eqD (aa 0) (fC (.str "")))) (bF (aR (ar fB (ab (aa 0) (ab (fC (.str "0123456789")) ag)))))) (av (fC (.bool false))) aC) (av (oq (ae eqD (aa 0) (fC (.str "0"))) (gy (ae gJ (aa 0) (fC (.str "0")))))))
def g6:FnM:=aX 2 (ak (aE 1 (bH (aR (ae gJ (aa 0) (fC (.str "-")))) (fSl (aa 0) (fP (fC (.int 1))) bL) (aa 0))) (ak (fIf (bE (au (ae eqD (aa 0) (fC (.str "-0")))) (bE (au (ae gtD (fCB aF (ab (aa 1) ag)) (fC (.int 19)))) (bF (aR (ar fu (ab (aa 1) ag)))))) (av (fC .none)) aC) (av (fCB intD (ab (aa 0) ag)))))
def gZ:FnM:=aX 1 (ak (fIf (aR (ae gJ (aa 0) (fC (.str "'")))) (av (fSl (aa 0) (fP (fC (.int 1))) bL)) aC) (av (ar g6 (ab (aa 0) ag))))
def gG:FnM:=aX 4 (ak (aE 2 (aa 1)) (ak (bc (cz (au (ae ltD (aa 2) (fCB aF (ab (aa 0) ag)))) (au (ae gm (ae ixD (aa 0) (aa 2)) (fC (.str "(),"))))) (aE 2 (ae az (aa 2) (fC (.int 1)))) 100000) (ak (aE 3 (ar gZ (ab (fSl (aa 0) (fP (aa 1)) (fP (aa 2))) ag))) (av (bH (au (ae isD (aa 3) (fC .none))) (fC .none) (ao .tuple (ab (aa 3) (ab (aa 2) ag))))))))
mutual
def gI:Nat→FnM
 | 0=>fun _ _=>none
 | n + 1=>aX 6 (ak (fIf (au (ae eqD (fSl (aa 0) (fP (aa 1)) (fP (ae az (aa 1) (fC (.int 1))))) (fC (.str ")")))) (av (ao .tuple (ab (ao .tuple ag) (ab (ae az (aa 1) (fC (.int 1))) ag)))) aC) (ak (cF 3 ag) (bc (aR (fC (.bool true))) (ak (aE 4 (ar (dw n) (ab (aa 0) (ab (aa 1) (ab (aa 2) ag))))) (ak (fIf (au (ae isD (aa 4) (fC .none))) (av (fC .none)) aC) (ak (cj 3 (ae ixD (aa 4) (fC (.int 0)))) (ak (aE 1 (ae az (ae ixD (aa 4) (fC (.int 1))) (fC (.int 1)))) (ak (aE 5 (fSl (aa 0) (fP (ae ixD (aa 4) (fC (.int 1)))) (fP (aa 1)))) (ak (fIf (au (ae eqD (aa 5) (fC (.str ")")))) (av (ao .tuple (ab (fCB ck (ab (aa 3) ag)) (ab (aa 1) ag)))) aC) (fIf (au (ae neD (aa 5) (fC (.str ",")))) (av (fC .none)) aC))))))) 100000)))
def dw:Nat→FnM
 | 0=>fun _ _=>none
 | n + 1=>aX 3 (ak (fIf (au (ae neD (fSl (aa 0) (fP (aa 1)) (fP (ae az (aa 1) (fC (.int 1))))) (fC (.str "(")))) (av (ar gG (ab (aa 0) (ab (aa 1) ag)))) aC) (ak (fIf (au (ae eqD (aa 2) (fC (.int 0)))) (av (fC .none)) aC) (av (ar (gI n) (ab (aa 0) (ab (ae az (aa 1) (fC (.int 1))) (ab (ae jP (aa 2) (fC (.int 1))) ag)))))))
end
def eS:FnM:=aX 2 (ak (aE 1 (ar (dw 25) (ab (aa 0) (ab (fC (.int 0)) (ab (fC (.int 4)) ag))))) (ak (fIf (bE (au (ae isD (aa 1) (fC .none))) (au (ae ltD (ae ixD (aa 1) (fC (.int 1))) (fCB aF (ab (aa 0) ag))))) (av (fC .none)) aC) (av (bH (aR (ar g9 (ab (ae ixD (aa 1) (fC (.int 0))) ag))) (ae ixD (aa 1) (fC (.int 0))) (fC .none)))))
def iE:FnM:=aX 3 (ak (aE 2 (fC (.int 0))) (ak (bc (cz (au (ae ltD (aa 2) (fCB iX (ab (fCB aF (ab (aa 0) ag)) (ab (fCB aF (ab (aa 1) ag)) ag))))) (au (ae eqG (ae ixD (aa 0) (aa 2)) (ae ixD (aa 1) (aa 2))))) (aE 2 (ae az (aa 2) (fC (.int 1)))) 100000) (av (aa 2))))
def dJ:FnM:=aX 2 (av (bH (au (ae ltD (aa 1) (fCB aF (ab (ae ixD (aa 0) (fC (.int 1))) ag)))) (ao .tuple (ab (fC (.str "wants")) (ab (ae ixD (ae ixD (ae ixD (aa 0) (fC (.int 1))) (aa 1)) (fC (.int 0))) ag))) (ae ixD (aa 0) (fC (.int 2)))))
def gb:FnM:=aX 3 (ak (aE 2 (ar iE (ab (ae ixD (aa 0) (fC (.int 1))) (ab (ae ixD (aa 1) (fC (.int 1))) ag)))) (av (ae neG (ar dJ (ab (aa 0) (ab (aa 2) ag))) (ar dJ (ab (aa 1) (ab (aa 2) ag))))))
def fw:FnM:=aX 3 (ak (cI 1 (cG (fCB aF (ab (aa 0) ag))) (cI 2 (cG (aa 1)) (fIf (aR (ar gb (ab (ae ixD (aa 0) (aa 2)) (ab (ae ixD (aa 0) (aa 1)) ag)))) (av (ao .tuple (ab (aa 2) (ab (aa 1) ag)))) aC))) (av (fC .none)))
mutual
def eN:Nat→FnM
 | 0=>fun _ _=>none
 | n + 1=>aX 5 (ak (fIf (au (ae eqD (fCB aF (ab (aa 0) ag)) (fC (.int 0)))) (av (fC (.tuple [.str "fail",.str "any"]))) aC) (ak (aE 2 (ae ixD (ae ixD (ae ixD (ae ixD (aa 0) (fC (.int 0))) (fC (.int 1))) (aa 1)) (fC (.int 1)))) (ak (aE 3 (bf (br (aa 0)) (au (ae neD (ae ixD (ae ixD (ae ixD (aa 0) (fC (.int 1))) (aa 2)) (fC (.int 1))) (aa 3))) (aa 0))) (ak (aE 4 (ar (eM n) (ab (bf (br (aa 0)) (au (ae eqD (ae ixD (ae ixD (ae ixD (aa 0) (fC (.int 1))) (aa 2)) (fC (.int 1))) (aa 3))) (aa 0)) (ab (ae az (aa 1) (fC (.int 1))) ag)))) (ak (fIf (au (ae eqD (fCB aF (ab (aa 3) ag)) (fC (.int 0)))) (av (aa 4)) aC) (av (ao .tuple (ab (fC (.str "when")) (ab (ao .tuple (ab (fC (.str "same")) (ab (ao .tuple (ab (fC (.str "got")) (ab (aa 1) ag))) (ab (ao .tuple (ab (fC (.str "put")) (ab (ar eS (ab (aa 2) ag)) ag))) ag)))) (ab (aa 4) (ab (ar (eN n) (ab (aa 3) (ab (aa 1) ag))) ag)))))))))))
def eM:Nat→FnM
 | 0=>fun _ _=>none
 | n + 1=>aX 3 (ak (fIf (au (ae eqD (fCB aF (ab (aa 0) ag)) (fC (.int 0)))) (av (fC (.tuple [.str "fail",.str "any"]))) aC) (ak (aE 2 (ar dJ (ab (ae ixD (aa 0) (fC (.int 0))) (ab (aa 1) ag)))) (ak (fIf (au (ae eqD (ae ixD (aa 2) (fC (.int 0))) (fC (.str "made")))) (av (ao .tuple (ab (fC (.str "say")) (ab (ao .tuple (ab (fC (.str "put")) (ab (ar eS (ab (ae ixD (aa 2) (fC (.int 1))) ag)) ag))) ag)))) aC) (ak (fIf (au (ae eqD (ae ixD (aa 2) (fC (.int 0))) (fC (.str "fails")))) (av (ao .tuple (ab (fC (.str "fail")) (ab (ae ixD (aa 2) (fC (.int 1))) ag)))) aC) (av (ao .tuple (ab (fC (.str "want")) (ab (ao .tuple (ab (fC (.str "put")) (ab (ae ixD (aa 2) (fC (.int 1))) ag))) (ab (ar (eN n) (ab (bf (br (aa 0)) (au (ae gtD (fCB aF (ab (ae ixD (aa 0) (fC (.int 1))) ag)) (aa 2))) (aa 0)) (ab (aa 1) ag))) ag)))))))))
end
def dI:FnM:=aX 2 (ak (aE 1 (ar fw (ab (aa 0) ag))) (ak (fIf (au (ae iU (aa 1) (fC .none))) (av (ao .tuple (ab (fC (.str "odds")) (ab (ae ixD (aa 1) (fC (.int 0))) (ab (ae ixD (aa 1) (fC (.int 1))) ag))))) aC) (av (ao .tuple (ab (fC (.str "recipe")) (ab (ar (eM 25) (ab (aa 0) (ab (fC (.int 0)) ag))) ag))))))
def aU:FnM:=aX 6 (ak (aE 3 (fC (.int 0))) (ak (fIf (au (ae gtD (fCB aF (ab (aa 0) ag)) (fC (.int 0)))) (ak (aE 3 (ae ixD (aa 0) (ae dq (aa 1) (fCB aF (ab (aa 0) ag))))) (ak (aE 4 (ae oj (aa 3) (ae bo (fC (.int 7)) (fCB iX (ab (fC (.int 90)) (ab (ae ir (aa 1) (fCB aF (ab (aa 0) ag))) ag)))))) (fIf (cz (au (ae geD (aa 3) (ae gC (fC (.int 10)) (fC (.int 18))))) (au (ae gtD (aa 4) (fC (.int 127))))) (av (ae dq (aa 4) (aa 2))) aC))) aC) (ak (aE 5 (ae dq (ae bo (ae az (ae az (ae az (ae dq (aa 3) (fC (.int 999999937))) (ae bo (ae bo (fC (.int 31)) (aa 1)) (aa 1))) (ae bo (fC (.int 7)) (aa 1))) (fC (.int 1))) (fC (.int 48271))) (fC (.int 2147483647)))) (av (ae dq (ae ir (ae dq (ae bo (ae ir (aa 5) (fC (.int 7))) (fC (.int 69621))) (fC (.int 2147483629))) (fC (.int 5))) (aa 2))))))
def bN:Nat→FnM
 | 0=>fun _ _=>none
 | n + 1=>aX 1 (ak (fIf (aR (fUn (bi .int) (aa 0))) (av (fCB jQ (ab (aa 0) ag))) aC) (ak (fIf (aR (fUn (bi .str) (aa 0))) (av (ae az (fC (.str "'")) (aa 0))) aC) (av (ae az (ae az (fC (.str "(")) (ae i5 (fC (.str ",")) (bf (br (aa 0)) a6 (ar (bN n) (ab (aa 0) ag))))) (fC (.str ")"))))))
def gY:FnM:=aX 5 (ak (aE 2 (ao .list (ab (fC (.str "a")) (ab (fC (.str "ab")) (ab (fC (.str "abc")) (ab (fC (.str "b")) (ab (fC (.str "told")) (ab (fC (.str "made")) (ab (fC (.str "say")) (ab (fC (.str "want")) (ab (fC (.str "wants")) (ab (fC (.str "ba")) (ab (fC (.str "zz")) (ab (fC (.str "x")) ag)))))))))))))) (ak (aE 3 (ar aU (ab (aa 0) (ab (aa 1) (ab (fC (.int 12)) ag))))) (ak (aE 4 (ae ixD (ao .list (ab (fC (.int 1)) (ab (fC (.int 5)) (ab (fC (.int 7)) (ab (fC (.int 11)) ag))))) (ar aU (ab (aa 0) (ab (ae az (aa 1) (fC (.int 1))) (ab (fC (.int 4)) ag)))))) (av (bf (cG (ae az (fC (.int 4)) (ar aU (ab (aa 0) (ab (ae az (aa 1) (fC (.int 2))) (ab (fC (.int 4)) ag)))))) a6 (ae ixD (aa 3) (ae dq (ae az (aa 4) (ae bo (aa 5) (aa 0))) (fC (.int 12)))))))))
def eC:FnM:=aX 4 (ak (aE 3 (ae az (ao .list (ab (fC (.int 0)) (ab (fC (.int 1)) (ab (fC (.int 2)) (ab (fUn gT (fC (.int 3))) (ab (fC (.str "")) (ab (fC (.str "a")) (ab (fC (.str "-0")) (ab (ao .tuple ag) (ab (ao .tuple (ab (fC (.int 1)) (ab (fC (.str "b")) ag))) (ab (ao .tuple (ab (fC (.str "a")) (ab (ao .tuple (ab (fC (.int 0)) ag)) ag))) (ab (ae gC (fC (.int 10)) (fC (.int 18))) (ab (fC (.int 1)) (ab (fC (.int 0)) ag)))))))))))))) (aa 2))) (av (ae ixD (aa 3) (ar aU (ab (aa 0) (ab (aa 1) (ab (fCB aF (ab (aa 3) ag)) ag)))))))
def iG:FnM:=aX 6 (ak (aE 3 (ao .tuple (ab (fC (.str "got")) (ab (fC (.int 0)) ag)))) (ak (aE 4 (ao .tuple (ab (fC (.str "put")) (ab (ar eC (ab (aa 0) (ab (ae az (aa 1) (fC (.int 1))) (ab (aa 2) ag)))) ag)))) (ak (aE 5 (ao .list (ab (aa 3) (ab (ao .tuple (ab (fC (.str "sum")) (ab (aa 3) (ab (ao .tuple (ab (fC (.str "put")) (ab (fC (.int 1)) ag))) ag)))) (ab (ao .tuple (ab (fC (.str "join")) (ab (aa 3) (ab (ao .tuple (ab (fC (.str "put")) (ab (fC (.str "a")) ag))) ag)))) (ab (ao .tuple (ab (fC (.str "many")) (ab (aa 3) ag))) (ab (ao .tuple (ab (fC (.str "same")) (ab (aa 3) (ab (aa 4) ag)))) ag))))))) (ak (aE 5 (ae az (aa 5) (ao .list (ab (ao .tuple (ab (fC (.str "row")) (ab (ao .tuple (ab (aa 3) (ab (aa 4) ag))) ag))) (ab (ao .tuple (ab (fC (.str "part")) (ab (aa 3) (ab (ao .tuple (ab (fC (.str "put")) (ab (fC (.int 0)) ag))) ag)))) (ab (ao .tuple (ab (fC (.str "less")) (ab (aa 3) (ab (ao .tuple (ab (fC (.str "put")) (ab (fC (.int 1)) ag))) ag)))) (ab (ao .tuple (ab (fC (.str "many")) (ab (aa 3) ag))) (ab (aa 3) ag)))))))) (av (ae ixD (aa 5) (ar aU (ab (aa 0) (ab (aa 1) (ab (fC (.int 10)) ag))))))))))
def gX:FnM:=aX 12 (ak (aE 4 (ao .tuple (ab (fC (.str "put")) (ab (ae ixD (aa 2) (ar aU (ab (aa 0) (ab (aa 1) (ab (fCB aF (ab (aa 2) ag)) ag))))) ag)))) (ak (aE 5 (ao .tuple (ab (fC (.str "put")) (ab (ae ixD (aa 2) (ar aU (ab (aa 0) (ab (ae az (aa 1) (fC (.int 1))) (ab (fCB aF (ab (aa 2) ag)) ag))))) ag)))) (ak (aE 6 (ao .tuple (ab (fC (.str "say")) (ab (ao .tuple (ab (fC (.str "put")) (ab (ar eC (ab (aa 0) (ab (ae az (aa 1) (fC (.int 2))) (ab (aa 2) ag)))) ag))) ag)))) (ak (aE 7 (ar iG (ab (aa 0) (ab (ae az (aa 1) (fC (.int 3))) (ab (aa 2) ag))))) (ak (aE 8 (ao .list (ab (ao .tuple (ab (fC (.str "row")) (ab (ao .tuple (ab (ao .tuple (ab (fC (.str "got")) (ab (fC (.int 0)) ag))) (ab (ao .tuple (ab (fC (.str "got")) (ab (fC (.int 1)) ag))) ag))) ag))) (ab (ao .tuple (ab (fC (.str "same")) (ab (ao .tuple (ab (fC (.str "got")) (ab (fC (.int 0)) ag))) (ab (ao .tuple (ab (fC (.str "got")) (ab (fC (.int 1)) ag))) ag)))) (ab (ao .tuple (ab (fC (.str "sum")) (ab (ao .tuple (ab (fC (.str "got")) (ab (fC (.int 1)) ag))) (ab (ao .tuple (ab (fC (.str "got")) (ab (fC (.int 0)) ag))) ag)))) ag))))) (ak (aE 9 (ao .tuple (ab (fC (.str "say")) (ab (ae ixD (aa 8) (ar aU (ab (aa 0) (ab (ae az (aa 1) (fC (.int 5))) (ab (fC (.int 3)) ag))))) ag)))) (ak (aE 10 (ao .tuple (ab (fC (.str "want")) (ab (aa 5) (ab (ao .tuple (ab (fC (.str "say")) (ab (ao .tuple (ab (fC (.str "got")) (ab (fC (.int 1)) ag))) ag))) ag))))) (ak (aE 11 (ao .list (ab (aa 6) (ab (ao .tuple (ab (fC (.str "want")) (ab (aa 4) (ab (ao .tuple (ab (fC (.str "say")) (ab (aa 7) ag))) ag)))) (ab (ao .tuple (ab (fC (.str "want")) (ab (aa 4) (ab (ao .tuple (ab (fC (.str "want")) (ab (aa 5) (ab (aa 9) ag)))) ag)))) (ab (ao .tuple (ab (fC (.str "want")) (ab (aa 4) (ab (ao .tuple (ab (fC (.str "say")) (ab (aa 7) ag))) ag)))) ag)))))) (ak (aE 11 (ae az (aa 11) (ao .list (ab (ao .tuple (ab (fC (.str "want")) (ab (aa 4) (ab (ao .tuple (ab (fC (.str "when")) (ab (aa 7) (ab (aa 10) (ab (aa 6) ag))))) ag)))) (ab (ao .tuple (ab (fC (.str "want")) (ab (aa 4) (ab (ao .tuple (ab (fC (.str "want")) (ab (ao .tuple (ab (fC (.str "got")) (ab (fC (.int 0)) ag))) (ab (ao .tuple (ab (fC (.str "say")) (ab (ao .tuple (ab (fC (.str "got")) (ab (fC (.int 1)) ag))) ag))) ag)))) ag)))) ag))))) (ak (aE 11 (ae az (aa 11) (ao .list (ab (ao .tuple (ab (fC (.str "fail")) (ab (ae ixD (aa 2) (ar aU (ab (aa 0) (ab (ae az (aa 1) (fC (.int 6))) (ab (fCB aF (ab (aa 2) ag)) ag))))) ag))) (ab (ao .tuple (ab (fC (.str "want")) (ab (aa 4) (ab (ao .tuple (ab (fC (.str "want")) (ab (aa 4) (ab (aa 9) ag)))) ag)))) ag))))) (ak (aE 11 (ae az (aa 11) (ao .list (ab (ao .tuple (ab (fC (.str "peek")) (ab (aa 4) (ab (ao .tuple (ab (fC (.str "say")) (ab (aa 7) ag))) ag)))) (ab (ao .tuple (ab (fC (.str "peek")) (ab (aa 4) (ab (ao .tuple (ab (fC (.str "when")) (ab (aa 7) (ab (aa 10) (ab (aa 6) ag))))) ag)))) ag))))) (ak (aE 11 (ae az (aa 11) (ao .list (ab (ao .tuple (ab (fC (.str "want")) (ab (aa 4) (ab (ao .tuple (ab (fC (.str "peek")) (ab (aa 5) (ab (aa 9) ag)))) ag)))) (ab (ao .tuple (ab (fC (.str "peek")) (ab (aa 4) (ab (ao .tuple (ab (fC (.str "want")) (ab (aa 5) (ab (aa 9) ag)))) ag)))) ag))))) (av (ae ixD (aa 11) (ar aU (ab (aa 0) (ab (ae az (aa 1) (fC (.int 7))) (ab (aa 3) ag))))))))))))))))))
def bV:Nat→FnM
 | 0=>fun _ _=>none
 | n + 1=>aX 2 (ak (fIf (aR (fUn (bi .tup) (aa 0))) (av (bI (ae ltD (aa 1) (fC (.int 4))) (bI (ae leD (fCB aF (ab (aa 0) ag)) (fC (.int 8))) (fCB dv (ab (bf (br (aa 0)) a6 (ar (bV n) (ab (aa 0) (ab (ae az (aa 2) (fC (.int 1))) ag)))) ag))))) aC) (ak (fIf (aR (fUn (bi .str) (aa 0))) (av (ae leD (fCB aF (ab (aa 0) ag)) (fC (.int 20)))) aC) (av (d7 leD leD (fUn gT (ae gC (fC (.int 10)) (fC (.int 18)))) (aa 0) (ae gC (fC (.int 10)) (fC (.int 18)))))))
def bj:FnM:=aX 4 (ak (aE 3 (ao .list (ab (fUn (bi .int) (aa 1)) (ab (fUn (bi .int) (aa 2)) ag)))) (ak (fIf (au (ae eqD (aa 0) (fC (.str "same")))) (av (fCB intD (ab (ae eqD (ar (bN 25) (ab (aa 1) ag)) (ar (bN 25) (ab (aa 2) ag))) ag))) aC) (ak (fIf (au (ae eqD (aa 0) (fC (.str "part")))) (ak (fIf (bE (bF (aR (fUn (bi .tup) (aa 1)))) (bF (aR (ae ixD (aa 3) (fC (.int 1)))))) (av (fC .none)) aC) (av (bH (au (d7 leD ltD (fC (.int 0)) (aa 2) (fCB aF (ab (aa 1) ag)))) (ae ixD (aa 1) (aa 2)) (ao .tuple ag)))) aC) (ak (fIf (au (ae eqD (aa 0) (fC (.str "join")))) (ak (fIf (bE (aR (ae ixD (aa 3) (fC (.int 0)))) (bE (aR (ae ixD (aa 3) (fC (.int 1)))) (au (ae neD (fUn (bi .str) (aa 1)) (fUn (bi .str) (aa 2)))))) (av (fC .none)) aC) (av (ae az (aa 1) (aa 2)))) aC) (ak (fIf (au (ae neG (aa 3) (ao .list (ab (fC (.bool true)) (ab (fC (.bool true)) ag))))) (av (fC .none)) aC) (av (bH (au (ae eqD (aa 0) (fC (.str "sum")))) (ae az (aa 1) (aa 2)) (fCB intD (ab (ae ltD (aa 1) (aa 2)) ag)))))))))
def bq:Nat→FnM
 | 0=>fun _ _=>none
 | n + 1=>aX 6 (ak (fIf (au (ae eqD (ae ixD (aa 0) (fC (.int 0))) (fC (.str "put")))) (av (ao .tuple (ab (fC (.str "value")) (ab (ae ixD (aa 0) (fC (.int 1))) ag)))) aC) (ak (fIf (au (ae eqD (ae ixD (aa 0) (fC (.int 0))) (fC (.str "got")))) (av (ao .tuple (ab (fC (.str "value")) (ab (ae ixD (aa 1) (ae ixD (aa 0) (fC (.int 1)))) ag)))) aC) (ak (aE 2 (bf (br (bH (au (ae eqD (ae ixD (aa 0) (fC (.int 0))) (fC (.str "row")))) (ae ixD (aa 0) (fC (.int 1))) (fSl (aa 0) (fP (fC (.int 1))) bL))) a6 (ar (bq n) (ab (aa 0) (ab (aa 2) ag))))) (ak (cI 3 (br (aa 2)) (fIf (au (ae eqD (ae ixD (aa 3) (fC (.int 0))) (fC (.str "fails")))) (av (aa 3)) aC)) (ak (aE 4 (bf (br (aa 2)) a6 (ae ixD (aa 0) (fC (.int 1))))) (ak (fIf (au (ae eqD (ae ixD (aa 0) (fC (.int 0))) (fC (.str "row")))) (av (bH (aR (ar (bV 25) (ab (fCB ck (ab (aa 4) ag)) (ab (fC (.int 0)) ag)))) (ao .tuple (ab (fC (.str "value")) (ab (fCB ck (ab (aa 4) ag)) ag))) (ao .tuple (ab (fC (.str "fails")) (ab (fC (.str "great")) ag))))) aC) (ak (fIf (au (ae eqD (ae ixD (aa 0) (fC (.int 0))) (fC (.str "many")))) (av (bH (aR (fUn (bi .int) (ae ixD (aa 4) (fC (.int 0))))) (ao .tuple (ab (fC (.str "fails")) (ab (fC (.str "kind")) ag))) (ao .tuple (ab (fC (.str "value")) (ab (fCB aF (ab (ae ixD (aa 4) (fC (.int 0))) ag)) ag))))) aC) (ak (aE 5 (ar bj (ab (ae ixD (aa 0) (fC (.int 0))) (ab (ae ixD (aa 4) (fC (.int 0))) (ab (ae ixD (aa 4) (fC (.int 1))) ag))))) (ak (fIf (au (ae isD (aa 5) (fC .none))) (av (ao .tuple (ab (fC (.str "fails")) (ab (fC (.str "kind")) ag)))) aC) (ak (fIf (cz (au (ae eqD (ae ixD (aa 0) (fC (.int 0))) (fC (.str "part")))) (bF (au (d7 leD ltD (fC (.int 0)) (ae ixD (aa 4) (fC (.int 1))) (fCB aF (ab (ae ixD (aa 4) (fC (.int 0))) ag)))))) (av (ao .tuple (ab (fC (.str "fails")) (ab (fC (.str "part")) ag)))) aC) (av (bH (aR (ar (bV 25) (ab (aa 5) (ab (fC (.int 0)) ag)))) (ao .tuple (ab (fC (.str "value")) (ab (aa 5) ag))) (ao .tuple (ab (fC (.str "fails")) (ab (fC (.str "great")) ag)))))))))))))))
def bP:FnM:=aX 1 (ak (fIf (bE (bF (aR (fUn (bi .str) (aa 0)))) (bF (au (d7 leD leD (fC (.int 1)) (fCB aF (ab (aa 0) ag)) (fC (.int 8)))))) (av (fC (.bool false))) aC) (av (fCB dv (ab (bf (br (aa 0)) a6 (ae inD (aa 0) (fC (.str "abcdefghijklmnopqrstuvwxyz")))) ag))))
def gH:FnM:=aX 5 (ak (cF 2 ag) (ak (cF 3 ag) (ak (bc (au (ae gm (ae ixD (aa 0) (fC (.int 0))) (ao .tuple (ab (fC (.str "say")) (ab (fC (.str "fail")) ag))))) (ak (aE 4 (fJ (bq 25) (ab (ae ixD (aa 0) (fC (.int 1))) (ab (aa 2) ag)))) (ak (fIf (au (ae eqD (ae ixD (aa 4) (fC (.int 0))) (fC (.str "fails")))) (av (ao .tuple (ab (fCB ck (ab (aa 3) ag)) (ab (aa 4) (ab (fC .none) ag))))) aC) (fIf (au (ae eqD (ae ixD (aa 0) (fC (.int 0))) (fC (.str "when")))) (aE 0 (bH (au (ae inG (ae ixD (aa 4) (fC (.int 1))) (ao .tuple (ab (fC (.int 0)) (ab (fC (.str "")) (ab (ao .tuple ag) ag)))))) (ae ixD (aa 0) (fC (.int 3))) (ae ixD (aa 0) (fC (.int 2))))) (fIf (bF (aR (ar bP (ab (ae ixD (aa 4) (fC (.int 1))) ag)))) (av (ao .tuple (ab (fCB ck (ab (aa 3) ag)) (ab (ao .tuple (ab (fC (.str "fails")) (ab (fC (.str "name")) ag))) (ab (fC .none) ag))))) (fIf (au (ae kF (ae ixD (aa 4) (fC (.int 1))) (aa 1))) (av (ao .tuple (ab (fCB ck (ab (aa 3) ag)) (ab (ao .tuple (ab (fC (.str "wants")) (ab (ae ixD (aa 4) (fC (.int 1))) ag))) (ab (fC .none) ag))))) (ak (cj 2 (ae ixA (aa 1) (ae ixD (aa 4) (fC (.int 1))))) (ak (fIf (au (ae eqD (ae ixD (aa 0) (fC (.int 0))) (fC (.str "want")))) (cj 3 (ao .tuple (ab (ae ixD (aa 4) (fC (.int 1))) (ab (ar (bN 25) (ab (ae ixD (aa 2) (fUn gT (fC (.int 1)))) ag)) ag)))) aC) (aE 0 (ae ixD (aa 0) (fC (.int 2))))))))))) 100000) (ak (aE 4 (ao .tuple (ab (fC (.str "fails")) (ab (ae ixD (aa 0) (fC (.int 1))) ag)))) (ak (fIf (au (ae eqD (ae ixD (aa 0) (fC (.int 0))) (fC (.str "say")))) (aE 4 (fJ (bq 25) (ab (ae ixD (aa 0) (fC (.int 1))) (ab (aa 2) ag)))) aC) (ak (fIf (au (ae eqD (ae ixD (aa 4) (fC (.int 0))) (fC (.str "fails")))) (av (ao .tuple (ab (fCB ck (ab (aa 3) ag)) (ab (aa 4) (ab (fC .none) ag))))) aC) (av (ao .tuple (ab (fCB ck (ab (aa 3) ag)) (ab (ao .tuple (ab (fC (.str "made")) (ab (ar (bN 25) (ab (ae ixD (aa 4) (fC (.int 1))) ag)) ag))) (ab (ae ixD (aa 4) (fC (.int 1))) ag)))))))))))
def cS:FnM:=aX 6 (ak (cF 2 ag) (ak (cI 3 (cG (ar aU (ab (aa 0) (ab (aa 1) (ab (fC (.int 4)) ag))))) (ak (aE 4 (ae ixD (ao .list (ab (fC (.str "a")) (ab (fC (.str "a")) (ab (fC (.str "ab")) (ab (fC (.str "b")) ag))))) (ar aU (ab (aa 0) (ab (ae az (ae az (aa 1) (fC (.int 1))) (ae bo (fC (.int 2)) (aa 3))) (ab (fC (.int 4)) ag)))))) (cj 2 (ao .tuple (ab (aa 4) (ab (ae ixD (ao .list (ab (fC (.str "1")) (ab (fC (.str "'a")) (ab (fC (.str "()")) ag)))) (ar aU (ab (aa 0) (ab (ae az (ae az (aa 1) (fC (.int 2))) (ae bo (fC (.int 2)) (aa 3))) (ab (fC (.int 3)) ag))))) ag)))))) (ak (cF 5 (ab (ao .tuple (ab (fC (.str "made")) (ab (fC (.str "1")) ag))) (ab (ao .tuple (ab (fC (.str "made")) (ab (fC (.str "'")) ag))) (ab (ao .tuple (ab (fC (.str "fails")) (ab (fC (.str "a")) ag))) (ab (ao .tuple (ab (fC (.str "fails")) (ab (fC (.str "ab")) ag))) (ab (ao .tuple (ab (fC (.str "wants")) (ab (fC (.str "a")) ag))) (ab (ao .tuple (ab (fC (.str "wants")) (ab (fC (.str "b")) ag))) ag))))))) (ak (cj 5 (ao .tuple (ab (fC (.str "wants")) (ab (fC (.str "ab")) ag)))) (av (ao .tuple (ab (ae ixD (ao .list (ab (fC (.str "x")) (ab (fC (.str "y")) (ab (fC (.str "x")) ag)))) (ar aU (ab (aa 0) (ab (ae az (aa 1) (fC (.int 8))) (ab (fC (.int 3)) ag))))) (ab (fCB ck (ab (aa 2) ag)) (ab (ae ixD (aa 5) (ar aU (ab (aa 0) (ab (ae az (aa 1) (fC (.int 9))) (ab (fC (.int 7)) ag))))) ag)))))))))
def f7:FnM:=aX 2 (ak (aE 1 (nA (br (ae ixD (aa 0) (fC (.int 1)))) a6 (ao .tuple (ab (ao .tuple (ab (fC (.str "wants")) (ab (aa 0) ag))) (ab (aa 1) ag))))) (av (ae az (aa 1) (ao .list (ab (ao .tuple (ab (ae ixD (aa 0) (fC (.int 2))) (ab (fC .none) ag))) ag)))))
def f9:FnM:=aX 4 (ak (ll 2 3 (ar f7 (ab (aa 0) ag)) (ar f7 (ab (aa 1) ag)) (ak (fIf (au (ae neG (ae ixD (aa 2) (fC (.int 0))) (ae ixD (aa 3) (fC (.int 0))))) (av (fC (.bool true))) aC) (fIf (au (ae neG (ae ixD (aa 2) (fC (.int 1))) (ae ixD (aa 3) (fC (.int 1))))) (av (fC (.bool false))) aC))) (av (fC (.bool false))))
def dY:Nat→FnM
 | 0=>fun _ _=>none
 | n + 1=>aX 6 (ak (aE 2 (ao .tuple (ab (fC (.int 99)) (ab (fC (.int 99)) ag)))) (ak (fIf (bE (bF (aR (fUn (bi .tup) (aa 0)))) (bE (au (ae ltD (fCB aF (ab (aa 0) ag)) (fC (.int 2)))) (bF (aR (fUn (bi .str) (ae ixD (aa 0) (fC (.int 0)))))))) (av (aa 2)) aC) (ak (fIf (cz (au (ae eqD (ae ixD (aa 0) (fC (.int 0))) (fC (.str "put")))) (au (ae eqD (fCB aF (ab (aa 0) ag)) (fC (.int 2))))) (av (bH (cz (aR (fUn jy (ae ixD (aa 0) (fC (.int 1))))) (bF (aR (fUn (bi .bl) (ae ixD (aa 0) (fC (.int 1))))))) (ao .tuple (ab (fC (.int 1)) (ab (fC (.int 1)) ag))) (aa 2))) aC) (ak (fIf (cz (au (ae eqD (ae ixD (aa 0) (fC (.int 0))) (fC (.str "got")))) (au (ae eqD (fCB aF (ab (aa 0) ag)) (fC (.int 2))))) (ak (aE 3 (bI (fUn (bi .int) (ae ixD (aa 0) (fC (.int 1)))) (bI (gy (fUn (bi .bl) (ae ixD (aa 0) (fC (.int 1))))) (d7 leD ltD (fC (.int 0)) (ae ixD (aa 0) (fC (.int 1))) (aa 1))))) (av (bH (aR (aa 3)) (ao .tuple (ab (fC (.int 1)) (ab (fC (.int 1)) ag))) (aa 2)))) aC) (ak (aE 4 (fSl (aa 0) (fP (fC (.int 1))) bL)) (ak (fIf (cz (au (ae eqD (ae ixD (aa 0) (fC (.int 0))) (fC (.str "row")))) (cz (au (ae eqD (fCB aF (ab (aa 0) ag)) (fC (.int 2)))) (aR (fUn (bi .tup) (ae ixD (aa 0) (fC (.int 1))))))) (aE 4 (ae ixD (aa 0) (fC (.int 1)))) (fIf (au (ae neD (fCB aF (ab (aa 0) ag)) (i7 (iu (bt "many" (fC (.int 2)) (bt "part" (fC (.int 3)) (bt "sum" (fC (.int 3)) (bt "join" (fC (.int 3)) (bt "same" (fC (.int 3)) (bt "less" (fC (.int 3)) gx))))))) (ae ixD (aa 0) (fC (.int 0))) (fC (.int 0))))) (av (aa 2)) aC)) (ak (aE 5 (bf (br (aa 4)) a6 (ar (dY n) (ab (aa 0) (ab (aa 2) ag))))) (av (ao .tuple (ab (ae az (fC (.int 1)) (fCB eJ (ab (bf (br (aa 5)) a6 (ae ixD (aa 0) (fC (.int 0)))) ag))) (ab (ae az (fC (.int 1)) (ae iY (bf (br (aa 5)) a6 (ae ixD (aa 0) (fC (.int 1)))) (fC (.int 0)))) ag)))))))))))
def dG:Nat→FnM
 | 0=>fun _ _=>none
 | n + 1=>aX 5 (ak (aE 2 (ao .tuple (ab (fC (.int 99)) (ab (fC (.int 99)) ag)))) (ak (fIf (bE (bF (aR (fUn (bi .tup) (aa 0)))) (bE (au (ae ltD (fCB aF (ab (aa 0) ag)) (fC (.int 2)))) (au (ae gtD (aa 1) (fC (.int 12)))))) (av (aa 2)) aC) (ak (fIf (au (ae eqD (ae ixD (aa 0) (fC (.int 0))) (fC (.str "fail")))) (av (bH (cz (au (ae eqD (fCB aF (ab (aa 0) ag)) (fC (.int 2)))) (aR (ar bP (ab (ae ixD (aa 0) (fC (.int 1))) ag)))) (ao .tuple (ab (fC (.int 1)) (ab (fC (.int 1)) ag))) (aa 2))) aC) (ak (fIf (au (ae neD (fCB aF (ab (aa 0) ag)) (i7 (iu (bt "say" (fC (.int 2)) (bt "want" (fC (.int 3)) (bt "when" (fC (.int 4)) gx)))) (ae ixD (aa 0) (fC (.int 0))) (fC (.int 0))))) (av (aa 2)) aC) (ak (cF 3 (ab (ar (dY 25) (ab (ae ixD (aa 0) (fC (.int 1))) (ab (aa 1) ag))) ag)) (ak (cI 4 (br (fSl (aa 0) (fP (fC (.int 2))) bL)) (cj 3 (ar (dG n) (ab (aa 4) (ab (ae az (aa 1) (fCB intD (ab (ae eqD (ae ixD (aa 0) (fC (.int 0))) (fC (.str "want"))) ag))) ag))))) (av (ao .tuple (ab (ae az (fC (.int 1)) (fCB eJ (ab (bf (br (aa 3)) a6 (ae ixD (aa 0) (fC (.int 0)))) ag))) (ab (ae az (fC (.int 1)) (fCB gu (ab (bf (br (aa 3)) a6 (ae ixD (aa 0) (fC (.int 1)))) ag))) ag))))))))))
def fA:FnM:=aX 5 (ak (cF 3 ag) (ak (bc (au (ae gm (ae ixD (aa 0) (fC (.int 0))) (ao .tuple (ab (fC (.str "say")) (ab (fC (.str "fail")) ag))))) (ak (aE 4 (fJ (bq 25) (ab (ae ixD (aa 0) (fC (.int 1))) (ab (aa 3) ag)))) (ak (fIf (au (ae eqD (ae ixD (aa 4) (fC (.int 0))) (fC (.str "fails")))) (av (bI (ae eqD (fCB aF (ab (aa 3) ag)) (fCB aF (ab (ae ixD (aa 1) (fC (.int 1))) ag))) (ae eqG (ae ixD (aa 1) (fC (.int 2))) (aa 4)))) aC) (fIf (au (ae eqD (ae ixD (aa 0) (fC (.int 0))) (fC (.str "when")))) (aE 0 (bH (au (ae inG (ae ixD (aa 4) (fC (.int 1))) (ao .tuple (ab (fC (.int 0)) (ab (fC (.str "")) (ab (ao .tuple ag) ag)))))) (ae ixD (aa 0) (fC (.int 3))) (ae ixD (aa 0) (fC (.int 2))))) (fIf (bF (aR (ar bP (ab (ae ixD (aa 4) (fC (.int 1))) ag)))) (av (bI (ae eqD (fCB aF (ab (aa 3) ag)) (fCB aF (ab (ae ixD (aa 1) (fC (.int 1))) ag))) (ae eqG (ae ixD (aa 1) (fC (.int 2))) (ao .tuple (ab (fC (.str "fails")) (ab (fC (.str "name")) ag)))))) (fIf (au (ae eqD (fCB aF (ab (aa 3) ag)) (fCB aF (ab (ae ixD (aa 1) (fC (.int 1))) ag)))) (av (ae eqG (ae ixD (aa 1) (fC (.int 2))) (ao .tuple (ab (fC (.str "wants")) (ab (ae ixD (aa 4) (fC (.int 1))) ag))))) (fIf (au (ae neD (ae ixD (ae ixD (ae ixD (aa 1) (fC (.int 1))) (fCB aF (ab (aa 3) ag))) (fC (.int 0))) (ae ixD (aa 4) (fC (.int 1))))) (av (fC (.bool false))) (ak (cj 3 (ae ixA (aa 2) (ae ixD (ae ixD (ae ixD (aa 1) (fC (.int 1))) (fCB aF (ab (aa 3) ag))) (fC (.int 1))))) (aE 0 (ae ixD (aa 0) (fC (.int 2))))))))))) 100000) (ak (fIf (au (ae neD (fCB aF (ab (aa 3) ag)) (fCB aF (ab (ae ixD (aa 1) (fC (.int 1))) ag)))) (av (fC (.bool false))) aC) (ak (fIf (au (ae eqD (ae ixD (aa 0) (fC (.int 0))) (fC (.str "fail")))) (av (ae eqG (ae ixD (aa 1) (fC (.int 2))) (ao .tuple (ab (fC (.str "fails")) (ab (ae ixD (aa 0) (fC (.int 1))) ag))))) aC) (ak (aE 4 (fJ (bq 25) (ab (ae ixD (aa 0) (fC (.int 1))) (ab (aa 3) ag)))) (av (ae eqG (ae ixD (aa 1) (fC (.int 2))) (bH (au (ae eqD (ae ixD (aa 4) (fC (.int 0))) (fC (.str "fails")))) (aa 4) (ao .tuple (ab (fC (.str "made")) (ab (ar (bN 25) (ab (ae ixD (aa 4) (fC (.int 1))) ag)) ag)))))))))))
def eP:FnM:=jK 9 (ak (aE 2 (ar gY (ab (aa 0) (ab (aa 1) ag)))) (ak (aE 3 (ar gX (ab (aa 0) (ab (ae az (aa 1) (fC (.int 10))) (ab (aa 2) (ab (fC (.int 8)) ag)))))) (ak (gP 4) (ak (cF 5 ag) (ak (cI 6 (cG (ae az (fC (.int 1)) (ar aU (ab (aa 0) (ab (ae az (aa 1) (fC (.int 5))) (ab (fC (.int 4)) ag)))))) (ak (gP 7) (ak (cI 8 (cG (fCB aF (ab (aa 2) ag))) (fIf (au (ae gtD (ar aU (ab (aa 0) (ab (ae az (ae az (ae az (aa 1) (fC (.int 30))) (ae bo (fC (.int 20)) (aa 6))) (ae bo (fC (.int 2)) (aa 8))) (ab (fC (.int 4)) ag)))) (fC (.int 0)))) (ak (gQ 7 (ae ixD (aa 2) (aa 8)) (ar eC (ab (aa 0) (ab (ae az (ae az (ae az (aa 1) (fC (.int 31))) (ae bo (fC (.int 20)) (aa 6))) (ae bo (fC (.int 2)) (aa 8))) (ab (aa 2) ag))))) (gQ 4 (ar (bN 25) (ab (ae ixA (aa 7) (ae ixD (aa 2) (aa 8))) ag)) (ae ixA (aa 7) (ae ixD (aa 2) (aa 8))))) aC)) (cj 5 (i6 (ae az (ao .tuple (ab (fC (.str "x")) ag)) (fSl (ar gH (ab (aa 3) (ab (aa 7) ag))) bL (fP (fC (.int 2)))))))))) (jA 5 4))))))
def g8:FnM:=aX 7 (ak (aE 2 (ao .list (ab (fC (.str "1")) (ab (fC (.str "'a")) (ab (fC (.str "()")) (ab (fC (.str "'")) (ab (fC (.str "(1)")) ag))))))) (ak (cF 3 ag) (ak (cI 4 (cG (fC (.int 5))) (ak (aE 5 (ar cS (ab (aa 0) (ab (ae az (aa 1) (ae bo (fC (.int 20)) (aa 4))) ag)))) (ak (cF 6 (ab (ao .tuple (ab (fC (.str "a")) (ab (ae ixD (aa 2) (ae dq (ae az (ar aU (ab (aa 0) (ab (ae az (aa 1) (fC (.int 15))) (ab (fC (.int 5)) ag)))) (aa 4)) (fC (.int 5)))) ag))) ag)) (ak (cj 6 (ao .tuple (ab (fC (.str "b")) (ab (ae ixD (aa 2) (ar aU (ab (aa 0) (ab (ae az (ae az (aa 1) (fC (.int 16))) (ae bo (fC (.int 20)) (aa 4))) (ab (fC (.int 5)) ag))))) ag)))) (ak (cj 6 (ao .tuple (ab (fC (.str "ab")) (ab (ae ixD (aa 2) (ar aU (ab (aa 0) (ab (ae az (ae az (aa 1) (fC (.int 17))) (ae bo (fC (.int 20)) (aa 4))) (ab (fC (.int 5)) ag))))) ag)))) (cj 3 (ao .tuple (ab (ae ixD (aa 5) (fC (.int 0))) (ab (fCB ck (ab (fSl (aa 6) bL (fP (ae az (fC (.int 1)) (ar aU (ab (aa 0) (ab (ae az (ae az (aa 1) (fC (.int 18))) (ae bo (fC (.int 20)) (aa 4))) (ab (fC (.int 3)) ag))))))) ag)) (ab (ae ixD (aa 5) (fC (.int 2))) ag)))))))))) (av (aa 3)))))
def dH:FnM:=aX 7 (ak (aE 3 (ao .list ag)) (ak (cI 4 (cG (fCB aF (ab (aa 0) ag))) (aE 3 (ae az (aa 3) (bf (gw (ae az (aa 4) (fC (.int 1))) (fCB aF (ab (aa 0) ag))) (aR (ar f9 (ab (ae ixD (aa 1) (aa 5)) (ab (ae ixD (aa 1) (aa 0)) ag)))) (ao .tuple (ab (aa 5) (ab (aa 0) ag))))))) (ak (fIf (bE (bF (aR (fUn (bi .tup) (aa 2)))) (au (ae ltD (fCB aF (ab (aa 2) ag)) (fC (.int 2))))) (av (fC (.bool false))) aC) (ak (fIf (au (ae gtD (fCB aF (ab (aa 3) ag)) (fC (.int 0)))) (ak (aE 5 (bI (ae eqD (fCB aF (ab (aa 2) ag)) (fC (.int 3))) (fCB dv (ab (bf (br (fSl (aa 2) (fP (fC (.int 1))) bL)) a6 (bI (fUn (bi .int) (aa 0)) (gy (fUn (bi .bl) (aa 0))))) ag)))) (av (bI (aa 5) (bI (ae eqD (ae ixD (aa 2) (fC (.int 0))) (fC (.str "odds"))) (ae je (fSl (aa 2) (fP (fC (.int 1))) bL) (aa 3)))))) aC) (ak (fIf (bE (au (ae neD (fCB aF (ab (aa 2) ag)) (fC (.int 2)))) (au (ae neD (ae ixD (aa 2) (fC (.int 0))) (fC (.str "recipe"))))) (av (fC (.bool false))) aC) (ak (aE 6 (ar (dG 25) (ab (ae ixD (aa 2) (fC (.int 1))) (ab (fC (.int 0)) ag)))) (ak (fIf (bE (au (ae gtD (ae ixD (aa 6) (fC (.int 0))) (fC (.int 60)))) (au (ae gtD (ae ixD (aa 6) (fC (.int 1))) (fC (.int 20))))) (av (fC (.bool false))) aC) (av (fCB dv (ab (bf (br (aa 0)) a6 (ar fA (ab (ae ixD (aa 3) (fC (.int 1))) (ab (aa 0) (ab (aa 2) ag))))) ag))))))))))
def kZ:FnM:=aX 6 (ak (aE 1 (bf (cG (ar aU (ab (aa 0) (ab (fC (.int 0)) (ab (fC (.int 6)) ag))))) a6 (ar cS (ab (aa 1) (ab (ae az (fC (.int 10)) (ae bo (fC (.int 12)) (aa 0))) ag))))) (ak (nz 2 (bt "1" (fC (.int 1)) (bt "'a" (fC (.str "a")) (bt "()" (ao .tuple ag) (bt "'" (fC (.str "")) (bt "(1)" (ao .tuple (ab (fC (.int 1)) ag)) gx)))))) (ak (fIf (au (ae eqD (ar aU (ab (aa 0) (ab (fC (.int 4)) (ab (fC (.int 4)) ag)))) (fC (.int 0)))) (aE 1 (ar g8 (ab (aa 0) (ab (fC (.int 400)) ag)))) aC) (ak (fIf (au (ae eqD (ar aU (ab (aa 0) (ab (fC (.int 1)) (ab (fC (.int 2)) ag)))) (fC (.int 0)))) (ak (gO 1 3 eP (ab (aa 0) (ab (fC (.int 200)) ag))) (gE 3 (ak (iB 2 (aa 3)) (fIf (au (ae eqD (ar aU (ab (aa 0) (ab (fC (.int 2)) (ab (fC (.int 3)) ag)))) (fC (.int 0)))) (iC 1 (ar aU (ab (aa 0) (ab (fC (.int 3)) (ab (ae az (fCB aF (ab (aa 1) ag)) (fC (.int 1))) ag)))) (ar cS (ab (aa 0) (ab (fC (.int 100)) ag)))) aC)))) aC) (gE 2 (gE 1 (ak (aE 4 (fCB gM (ab (aa 1) ag))) (ak (aE 5 (ar dI (ab (aa 1) ag))) (ak (fIf (bE (au (ae neG (aa 1) (aa 4))) (bF (aR (ar dH (ab (aa 4) (ab (aa 2) (ab (aa 5) ag))))))) (av (fC (.bool false))) aC) (av (ar dH (ab (fSl (aa 4) bL (fP (fC (.int 2)))) (ab (aa 2) (ab (ar dI (ab (fSl (aa 4) bL (fP (fC (.int 2)))) ag)) ag))))))))))))))
end G
namespace GV
open PySem PySem.Spec PyProof.Rows L2 D G
open K1 (has LET TXT single bp bx lsz isName aZ tdp tP ldp)
mutual
def smB:PyData→Bool
 | .str x=>decide (x.length≤60000) && x.cps.toList.all fun c=>decide (c < 128)
 | .tuple ds=>gS ds
 | _=>true
def gS:List PyData→Bool
 | []=>true
 | d::r=>smB d && gS r
end
def Sm (d:PyData):Prop:=smB d=true
theorem Sm.both {x:Str} (h:Sm (.str x)):x.length≤60000∧∀ c∈x.cps.toList,c < 128:=by
 have h':(decide (x.length≤60000) && x.cps.toList.all fun c=>decide (c < 128))=true:=by
  have:smB (.str x)=true:=h
  rw [smB] at this
  exact this
 rw [Bool.and_eq_true,List.all_eq_true] at h'
 exact ⟨of_decide_eq_true h'.1,fun c hc=>of_decide_eq_true (h'.2 c hc)⟩
theorem Sm.str {x:Str} (h:Sm (.str x)):x.cps.size≤60000:=h.both.1
theorem Sm.mkS {x:Str} (h:x.length≤60000) (h2:∀ c∈x.cps.toList,c < 128):Sm (.str x):=by
 show smB (.str x)=true
 rw [smB,Bool.and_eq_true,List.all_eq_true]
 exact ⟨decide_eq_true h,fun c hc=>decide_eq_true (h2 c hc)⟩
theorem pU:∀ {ds:List PyData} {d:PyData},gS ds=true→d∈ds→smB d=true
 | e::r,d,h,hd=>by
  have h':(smB e && gS r)=true:=by simpa [gS] using h
  rw [Bool.and_eq_true] at h'
  rcases List.mem_cons.mp hd with z | z
  ·rw [z]; exact h'.1
  ·exact pU h'.2 z
theorem Sm.part {ds:List PyData} {d:PyData} (h:Sm (.tuple ds)) (hd:d∈ds):Sm d:=pU (by simpa [Sm,smB] using h) hd
theorem qD:∀ {ds:List PyData},(∀ d∈ds,Sm d)→gS ds=true
 | [],_=>by simp [gS]
 | d::r,h=>by
  have h1:smB d=true:=h d List.mem_cons_self
  simp [gS,h1,qD (ds:=r) fun x hx=>h x (List.mem_cons_of_mem _ hx)]
theorem Sm.tup {ds:List PyData} (h:∀ d∈ds,Sm d):Sm (.tuple ds):=by simp [Sm,smB,qD h]
def whole:PyData→Bool
 | .int _=>true
 | _=>false
theorem rM (x:PyData) (T:Tp):jj [.d x] T=some (.bool (whole x),T):=by cases x <;> rfl
theorem wD (y x:Str):(D.signs x).all (iQ y)=has y x:=by
 unfold D.signs has
 rw [List.all_map]
 congr 1
 funext c
 exact qd y c
theorem tV {x y:Str} (T:Tp) (h:x.length≤sizeLine):fB [.d (.str x),.d (.str y)] T=some (.bool (has y x),T):=by
 have hc:bh a6 (ae inD (aa 0) (aa 2)) [some (.d (.str x)),some (.d (.str y))] (D.signs x) T=some ((D.signs x).map fun d=>.bool (iQ y d),T):=gc fun d hd=>by
  obtain ⟨c,_,rfl⟩:=o9 hd
  rfl
 simp [fB,h,hc,wD]
theorem yB {d:PyData} (T:Tp) (h:Sm d):g7 [.d d] T=some (.bool (single d),T):=by
 cases d with
 | str x=>
  have hz:x.length≤sizeLine:=Nat.le_trans h.str (by decide)
  have hh:∀ T,fB [.d (.str x),.d (.str "abcdefghijklmnopqrstuvwxyz0123456789-")] T=some (.bool (has TXT x),T):=fun T=>tV T hz
  have e:single (.str x)=(decide (x.length≤20) && has TXT x):=rfl
  have hi:bO .str .str=true:=rfl
  by_cases hk:x.length≤20
  ·have hk':(x.length:Int)≤20:=by omega
   simp [g7,rM,whole,hh,hz,hi,e,hk,hk']
  ·have hk':¬ (x.length:Int)≤20:=by omega
   simp [g7,rM,whole,hh,hz,hi,e,hk,hk']
 | _=>rfl
theorem kL {d:PyData} (h:kd d=.tup):∃ ds,d=.tuple ds:=by cases d <;> first | exact ⟨_,rfl⟩ | cases h
theorem qN {d:PyData} (h:kd d≠.tup):bO (kd d) .tup=false:=by
 revert h
 cases kd d <;> simp [bO]
theorem oG {n:Nat} {d:PyData} (h:kd d≠.tup):bp n d=single d:=by cases d <;> first | (cases n <;> rfl) | exact absurd rfl h
theorem oO {n:Nat} {d:PyData} (h:kd d≠.tup):bx n d=1:=by cases d <;> first | (cases n <;> rfl) | exact absurd rfl h
theorem Dk {d:PyData} (h:tdp 0 d=true):kd d≠.tup:=by
 intro z
 cases d <;> first | cases h; done | cases z
theorem isi_tt:bO .tup .tup=true:=rfl
theorem rP:∀ (n k:Nat) (d:PyData) (T:Tp),Sm d→n < k→dZ k [.d d,.d (.int n)] T=some (.bool (bp n d),T)
 | n,0,d,T,_,hk=>absurd hk (Nat.not_lt_zero _)
 | n,k + 1,d,T,hg,hk=>by
  by_cases ht:kd d=.tup
  ·obtain ⟨ds,rfl⟩:=kL ht
   cases n with
   | zero=>simp [dZ,isi_tt,bp]
   | succ n=>
    have e:bp (n + 1) (.tuple ds)=(decide (ds.length≤8) && ds.all (bp n)):=rfl
    have h0:¬ ((n + 1:Nat):Int)=0:=by omega
    have h0':¬ (n:Int) + 1=0:=by omega
    by_cases h8:ds.length≤8
    ·have h8':¬ (8:Int) < (ds.length:Int):=by omega
     have hs:((n + 1:Nat):Int) - 1=(n:Int):=by omega
     have hc:bh a6 (ar (dZ k) (ab (aa 0) (ab (ae jP (aa 2) (fC (.int 1))) ag))) [some (.d (.tuple ds)),some (.d (.int ((n + 1:Nat):Int)))] ds T=some (ds.map fun x=>.bool (bp n x),T):=gc fun x hx=>by
      have:=rP n k x T (hg.part hx) (by omega)
      simp [hs,this]
     simp [dZ,isi_tt,e,h0,h0',h8,h8'] at hc ⊢
     simp [hc]
    ·have h8':(8:Int) < (ds.length:Int):=by omega
     simp [dZ,isi_tt,e,h0,h0',h8,h8']
  ·simp [dZ,qN ht,oG ht,yB T hg]
theorem sY:∀ (n k:Nat) (d:PyData) (T:Tp),tdp n d=true→n < k→fD k [.d d] T=some (.int (bx n d),T)
 | n,0,d,T,_,hk=>absurd hk (Nat.not_lt_zero _)
 | n,k + 1,d,T,hg,hk=>by
  by_cases ht:kd d=.tup
  ·cases n with
   | zero=>exact absurd ht (Dk hg)
   | succ n=>
    obtain ⟨ds,rfl⟩:=kL ht
    have hg':ds.all (tdp n)=true:=hg
    have e:bx (n + 1) (.tuple ds)=1 + (ds.map (bx n)).sum:=rfl
    have hc:bh a6 (ar (fD k) (ab (aa 0) ag)) [some (.d (.tuple ds))] ds T=some (ds.map fun x=>.int (bx n x),T):=gc fun x hx=>by
     have:=sY n k x T (List.all_eq_true.mp hg' x hx) (by omega)
     simp [this]
    simp [fD,isi_tt,e,hc]
  ·simp [fD,qN ht,oO ht]
theorem L_value {d:PyData} (T:Tp) (h:Sm d):g9 [.d d] T=some (.bool (aZ d),T):=by
 have h1:=rP 4 25 d T h (by decide)
 have h1':dZ 25 [.d d,.d (.int 4)] T=some (.bool (bp 4 d),T):=h1
 have e:aZ d=(bp 4 d && decide (bx 4 d≤40)):=rfl
 cases hb:bp 4 d with
 | false=>simp [g9,h1',e,hb]
 | true=>
  have h2:=sY 4 25 d T (K1.pJ 4 d hb) (by decide)
  simp [g9,h1',h2,e,hb]
def cd (x:Str):List Nat:=x.cps.toList
theorem gK {x y:Str} (h:cd x=cd y):x=y:=by
 obtain ⟨x⟩:=x
 obtain ⟨y⟩:=y
 have h':x.toList=y.toList:=h
 exact congrArg Str.mk (Array.toList_inj.mp h')
theorem d9 (x:Str):(cd x).length=x.length:=Array.length_toList
theorem jC (x y:Str):cd (x++y)=cd x++cd y:=cps_toList_append x y
theorem ph {α:Type} (xs:List α) (a:Nat):∀ k:Nat,(List.range k).filterMap (fun m=>xs[a + m]?)=(xs.drop a).take k
 | 0=>by simp
 | k + 1=>by
  rw [List.range_succ,List.filterMap_append,ph xs a k,List.take_add_one]
  congr 1
  simp only [List.filterMap_cons,List.filterMap_nil,List.getElem?_drop]
  cases xs[a + k]? <;> rfl
theorem pV {x:Str} {i j:Int} (h0:0≤i) (h1:0≤j):cd (Txt.slice x (some i) (some j))=((cd x).drop i.toNat).take (j.toNat - i.toNat):=by
 have hl:x.cps.toList.length=x.length:=Array.length_toList
 have e:Builtin.Str.strSliceIndices (some i) (some j) 1 x.length=(List.range ((min j.toNat x.length) - (min i.toNat x.length))).map fun k=>min i.toNat x.length + k:=by
  unfold Builtin.Str.strSliceIndices sliceRange
  simp only [show (1:Int) > 0 by decide,if_true,show ¬ i < 0 by omega,show ¬ j < 0 by omega,if_false]
  have ea:max 0 (min i (x.length:Int))=((min i.toNat x.length:Nat):Int):=by omega
  have eb:max 0 (min j (x.length:Int))=((min j.toNat x.length:Nat):Int):=by omega
  rw [ea,eb]
  have ec:(if ((min i.toNat x.length:Nat):Int) < ((min j.toNat x.length:Nat):Int) then (((min j.toNat x.length:Nat):Int) - ((min i.toNat x.length:Nat):Int) + 1 - 1) / 1 else 0).toNat=(min j.toNat x.length) - (min i.toNat x.length):=by
   split
   ·rw [Int.ediv_one]; omega
   ·omega
  rw [ec]
  refine List.map_congr_left fun k _=>?_
  omega
 have pk:(Builtin.Str.strSliceIndices (some i) (some j) 1 x.length).filterMap (x.cps[·]?)=(x.cps.toList.drop (min i.toNat x.length)).take ((min j.toNat x.length) - (min i.toNat x.length)):=by
  rw [e,List.filterMap_map,← ph]
  congr 1
  funext m
  simp
 have fin:(x.cps.toList.drop (min i.toNat x.length)).take ((min j.toNat x.length) - (min i.toNat x.length))=((cd x).drop i.toNat).take (j.toNat - i.toNat):=by
  unfold cd
  by_cases hi:i.toNat≤x.length
  ·have e1:min i.toNat x.length=i.toNat:=by omega
   rw [e1]
   by_cases hj:j.toNat≤x.length
   ·have e2:min j.toNat x.length=j.toNat:=by omega
    rw [e2]
   ·have e2:min j.toNat x.length=x.length:=by omega
    rw [e2,List.take_of_length_le (by rw [List.length_drop,hl]; omega),List.take_of_length_le (by rw [List.length_drop,hl]; omega)]
  ·have e1:min i.toNat x.length=x.length:=by omega
   rw [e1,List.drop_eq_nil_of_le (by omega),List.drop_eq_nil_of_le (by omega)]
   simp
 unfold Txt.slice
 split
 ·rename_i h
  have h':(Builtin.Str.strSliceIndices (some i) (some j) 1 x.length).length=x.length:=by simpa using h
  rw [e,List.length_map,List.length_range] at h'
  rw [← fin]
  show x.cps.toList=_
  by_cases hz:x.length=0
  ·have:x.cps.toList=[]:=List.length_eq_zero_iff.mp (by omega)
   rw [this]; simp
  ·have e1:min i.toNat x.length=0:=by omega
   have e2:min j.toNat x.length=x.length:=by omega
   rw [e1,e2,List.drop_zero,Nat.sub_zero,List.take_of_length_le (by omega)]
 ·rw [← fin,← pk]
  rfl
theorem oJ {x:Str} {i:Int} (h0:0≤i) (h1:i≤(x.length:Int)):cd (Txt.slice x (some i) none)=(cd x).drop i.toNat:=by
 rw [slice_from_eq h0 h1 rfl]
 show (List.take _ _)=_
 refine List.take_of_length_le ?_
 rw [List.length_drop]
 have:x.cps.toList.length=x.length:=Array.length_toList
 omega
def bY (c:List Nat):List (List Nat)→List Nat
 | []=>[]
 | [x]=>x
 | x::y::r=>x++c++bY c (y::r)
theorem qV (z:Str):∀ ys:List Str,cd (Str.join z ys)=bY (cd z) (ys.map cd)
 | []=>rfl
 | [x]=>by
  show cd (Str.join z [x])=cd x
  simp [Str.join]
 | x::y::r=>by
  have ih:=qV z (y::r)
  show cd ((x++z)++Str.join z (y::r))=_
  rw [jC,jC,ih]
  rfl
theorem vT (c x:List Nat) (r:List (List Nat)):bY c (x::r)=x++(r.map (c++·)).flatten:=by
 induction r generalizing x with
 | nil=>simp [bY]
 | cons y r ih=>
  show x++c++bY c (y::r)=_
  rw [ih y]
  simp
theorem oH {x:Str} {c:Nat}:Txt.startswith x ⟨#[c]⟩=decide ((cd x).head? = some c):=by
 unfold Txt.startswith
 have hl:(⟨#[c]⟩:Str).length=1:=rfl
 rw [hl]
 obtain ⟨⟨l⟩⟩:=x
 cases l with
 | nil=>rfl
 | cons a r=>
  have h1:(0 + 1≤(⟨⟨a::r⟩⟩:Str).length):=by show 0 + 1≤(a::r).length; simp
  rw [decide_eq_true h1,Bool.true_and]
  show Builtin.Str.subAt ⟨⟨a::r⟩⟩ ⟨#[c]⟩ 0=decide ((a::r).head? = some c)
  have e:(⟨⟨a::r⟩⟩:Str).cps.extract 0 (0 + (⟨#[c]⟩:Str).length) = #[a]:=by
   rw [hl]
   apply Array.toList_inj.mp
   rw [Array.toList_extract]
   rfl
  unfold Builtin.Str.subAt
  rw [e,Bool.eq_iff_iff]
  simp
def mk (l:List Nat):Str:=⟨l.toArray⟩
theorem jN (l:List Nat):cd (mk l)=l:=by simp [cd,mk]
theorem CQ (x:Str):mk (cd x)=x:=gK (jN _)
theorem ny (l:List Nat):(mk l).length=l.length:=by simp [mk,Str.length]
def FIG:Str:=Str.ofString "0123456789"
def dl (c:Nat):Bool:=decide (c∈cd "(),")
theorem kO (c:Nat):dl c=decide (c=40∨c=41∨c=44):=by
 have e:cd "()," = [40,41,44]:=by decide +kernel
 unfold dl
 rw [e]
 simp
def W (l:List Nat):List Nat:=l.takeWhile fun c=>!dl c
def fZ (w:List Nat):Bool:=!decide (w=[]) && w.all (fun c=>decide (c∈cd FIG)) && (decide (w=[48]) || !decide (w.head? = some 48))
theorem tN {x:Str} {y:Str} {l:List Nat} (h:cd y=l):decide (x=y)=decide (cd x=l):=by refine decide_eq_decide.mpr ⟨fun e=>by rw [e,h],fun e=>gK (by rw [e,h])⟩
theorem B1 {x:Str} (T:Tp) (h:x.length≤sizeLine):fu [.d (.str x)] T=some (.bool (fZ (cd x)),T):=by
 have h1:∀ T,fB [.d (.str x),.d (.str "0123456789")] T=some (.bool (has FIG x),T):=fun T=>tV T h
 have e1:decide (x=Str.ofString "")=decide (cd x=[]):=tN (by decide +kernel)
 have e2:decide (x=Str.ofString "0")=decide (cd x=[48]):=tN (by decide +kernel)
 have e3:Txt.startswith x "0" = decide ((cd x).head? = some 48):=by
  have:Str.ofString "0" = ⟨#[48]⟩:=gK (by decide +kernel)
  rw [this,oH]
 have e4:has FIG x=(cd x).all (fun c=>decide (c∈cd FIG)):=rfl
 have p1:(x=Str.ofString "")=(cd x=[]):=propext (by simpa using e1)
 have p2:(x=Str.ofString "0")=(cd x=[48]):=propext (by simpa using e2)
 unfold fZ
 rw [← e4]
 by_cases hn:cd x=[]
 ·simp [fu,h1,p1,p2,e3,hn]
 ·cases hf:has FIG x with
  | false=>simp [fu,h1,p1,p2,e3,hn,hf]
  | true=>
   by_cases h0:cd x=[48]
   ·simp [fu,h1,p1,p2,e3,hn,hf,h0]
   ·simp [fu,h1,p1,p2,e3,hn,hf,h0]
def iz:Option Int→PyData
 | some i=>.int i
 | none=>.none
def jR:Option PyData→PyData
 | some i=>i
 | none=>.none
def DU (w:List Nat):Bool:=w.all (fun c=>decide (c∈cd FIG))
theorem pE:cd FIG=[48,49,50,51,52,53,54,55,56,57]:=by decide +kernel
theorem BP {w:List Nat} (h:DU w=true):NumText.AllDigits w:=fun c hc=>by
 have:=of_decide_eq_true (List.all_eq_true.mp h c hc)
 rw [pE] at this
 simp at this
 omega
theorem yj {w:List Nat} (h:fZ w=true):NumText.AllDigits w∧w≠[]:=by
 unfold fZ at h
 rw [Bool.and_eq_true,Bool.and_eq_true] at h
 exact ⟨BP h.1.2,by simpa using h.1.1⟩
def fg (w:List Nat):List Nat:=if w.head? = some 45 then w.tail else w
def jS (w:List Nat):Option Int:=if w=[45,48]∨19 < (fg w).length∨fZ (fg w)=false then none else some (if w.head? = some 45 then -((NumText.digitsVal w.tail:Nat):Int) else ((NumText.digitsVal w:Nat):Int))
theorem oI {x y:Str} {c:Nat} (h:cd y=[c]):Txt.startswith x y=decide ((cd x).head? = some c):=by
 have:y=⟨#[c]⟩:=gK (by rw [h]; rfl)
 rw [this,oH]
theorem yF {x:Str} (T:Tp) (h:x.length≤sizeLine):g6 [.d (.str x)] T=some (iz (jS (cd x)),T):=by
 have e1:Txt.startswith x "-" = decide ((cd x).head? = some 45):=oI (by decide +kernel)
 have p2:(x=Str.ofString "-0")=(cd x=[45,48]):=propext ⟨fun e=>by rw [e]; decide +kernel,fun e=>gK (by rw [e]; decide +kernel)⟩
 have hl:=d9 x
 obtain ⟨f,hf,hfl,hfe⟩:∃ f:Str,cd f=fg (cd x)∧f.length≤x.length∧∀ T,bH (aR (ae gJ (aa 0) (fC (.str "-")))) (fSl (aa 0) (fP (fC (.int 1))) bL) (aa 0) [some (.d (.str x)),none] T=some (.d (.str f),T):=by
  by_cases hm:(cd x).head? = some 45
  ·have hne:1≤x.length:=by
    rw [← hl]
    cases hx:cd x with
    | nil=>rw [hx] at hm; cases hm
    | cons _ _=>simp
   refine ⟨Txt.slice x (some 1) none,?_,Txt.slice_le _ _ _,fun T=>by simp [e1,hm,h]⟩
   rw [oJ (by decide) (by omega)]
   unfold fg
   rw [if_pos hm]
   simp
  ·refine ⟨x,?_,Nat.le_refl _,fun T=>by simp [e1,hm]⟩
   unfold fg
   rw [if_neg hm]
 have hfz:f.length≤sizeLine:=Nat.le_trans hfl h
 have h1:=fun T=>B1 (x:=f) T hfz
 have hfl':f.length=(fg (cd x)).length:=by rw [← hf,d9]
 unfold jS
 have start:g6 [.d (.str x)] T=dS (bnd (bnd (bH (aR (ae gJ (aa 0) (fC (.str "-")))) (fSl (aa 0) (fP (fC (.int 1))) bL) (aa 0) [some (.d (.str x)),none] T) (lF 1 [some (.d (.str x)),none])) (cZ (ak (fIf (bE (au (ae eqD (aa 0) (fC (.str "-0")))) (bE (au (ae gtD (fCB aF (ab (aa 1) ag)) (fC (.int 19)))) (bF (aR (ar fu (ab (aa 1) ag)))))) (av (fC .none)) aC) (av (fCB intD (ab (aa 0) ag)))))):=by
  simp only [g6,lm,j4,j5,if_true,sN,sM]
  rfl
 rw [start,hfe]
 by_cases c1:cd x=[45,48]
 ·rw [if_pos (.inl c1)]
  simp [p2,c1,iz]
 ·by_cases c2:19 < (fg (cd x)).length
  ·rw [if_pos (.inr (.inl c2))]
   have c2':(19:Int) < (f.length:Int):=by omega
   simp [p2,c1,hfz,c2',iz]
  ·have c2':¬ (19:Int) < (f.length:Int):=by omega
   cases c3:fZ (fg (cd x)) with
   | false=>
    rw [if_pos (.inr (.inr rfl))]
    simp [p2,c1,hfz,c2',h1,hf,c3,iz]
   | true=>
    rw [if_neg (by simp [c1,c2])]
    obtain ⟨ad,ne⟩:=yj c3
    have xl:x.length≤640:=by
     rw [← hl]
     have:(cd x).length≤(fg (cd x)).length + 1:=by
      unfold fg
      split
      ·rw [List.length_tail]; omega
      ·omega
     omega
    by_cases hm:(cd x).head? = some 45
    ·have ht:∃ cs,cd x=45::cs:=by
      cases hx:cd x with
      | nil=>rw [hx] at hm; cases hm
      | cons a r=>rw [hx] at hm; cases hm; exact ⟨r,rfl⟩
     obtain ⟨cs,hcs⟩:=ht
     have hfg:fg (cd x)=cs:=by unfold fg; rw [if_pos hm,hcs]; rfl
     rw [hfg] at ad ne
     have it:=intText_neg (x:=x) (cs:=cs) hcs ad ne (by omega)
     have it':intText? x=some (-((NumText.digitsVal (cd x).tail:Nat):Int)):=by rw [it,hcs]; rfl
     simp [p2,c1,hfz,c2',h1,hf,c3,iz,xl,it',hm]
    ·have hfg:fg (cd x)=cd x:=by unfold fg; rw [if_neg hm]
     rw [hfg] at ad ne
     have it:=intText_digits (x:=x) ad ne (by omega)
     have it':intText? x=some ((NumText.digitsVal (cd x):Nat):Int):=it
     simp [p2,c1,hfz,c2',h1,hf,c3,iz,xl,it',hm]
def gr (w:List Nat):Option PyData:=if w.head? = some 39 then some (.str (mk w.tail)) else (jS w).map .int
theorem xX (o:Option Int):iz o=jR (o.map .int):=by cases o <;> rfl
theorem yC {x:Str} (T:Tp) (h:x.length≤sizeLine):gZ [.d (.str x)] T=some (jR (gr (cd x)),T):=by
 have e1:Txt.startswith x "'" = decide ((cd x).head? = some 39):=oI (by decide +kernel)
 unfold gr
 by_cases hm:(cd x).head? = some 39
 ·have hne:1≤x.length:=by
   rw [← d9]
   cases hx:cd x with
   | nil=>rw [hx] at hm; cases hm
   | cons _ _=>simp
  have es:Txt.slice x (some 1) none=mk (cd x).tail:=gK (by
   rw [oJ (by decide) (by omega),jN]
   simp)
  rw [if_pos hm]
  simp [gZ,e1,hm,h,es,jR]
 ·rw [if_neg hm,← xX]
  simp [gZ,e1,hm,yF T h]
theorem Dd {x:Str} {b:Nat} {a:Nat} {r:List Nat} (h:(cd x).drop b=a::r):atI x.cps.toList (b:Int)=some a∧b < x.length:=by
 have hb:b < (cd x).length:=by
  apply Decidable.byContradiction
  intro z
  rw [List.drop_eq_nil_of_le (by omega)] at h
  cases h
 refine ⟨eY ?_,by rw [← d9]; exact hb⟩
 have:(cd x)[b]? = ((cd x).drop b)[0]?:=by simp
 show (cd x)[b]? = some a
 rw [this,h]
 rfl
theorem qF {t:Str} {at':PyData} {T:Tp} (ht:t.length≤sizeLine):∀ (n b:Nat),((cd t).drop b).length < n→b≤t.length →
  bc (cz (au (ae ltD (aa 2) (fCB aF (ab (aa 0) ag)))) (au (ae gm (ae ixD (aa 0) (aa 2)) (fC (.str "(),"))))) (aE 2 (ae az (aa 2) (fC (.int 1)))) n [some (.d (.str t)),some (.d at'),some (.d (.int b)),none] T
   = some ((.nx,[some (.d (.str t)),some (.d at'),some (.d (.int ((b + (W ((cd t).drop b)).length:Nat):Int))),none]),T)
 | 0,b,h,_=>absurd h (Nat.not_lt_zero _)
 | n + 1,b,h,hb=>by
  unfold bc
  cases hd:(cd t).drop b with
  | nil=>
   have hl:t.length≤b:=by
    have:=congrArg List.length hd
    rw [List.length_drop,d9] at this
    simp at this
    omega
   have hn:¬ (b:Int) < (t.length:Int):=by omega
   simp [ht,hn,W]
  | cons a r=>
   obtain ⟨h1,h2⟩:=Dd hd
   have hn:(b:Int) < (t.length:Int):=by omega
   have hin:gm (.str ⟨#[a]⟩) (.str "(),")=some (.bool (!dl a)):=by
    show some (PyData.bool (!iA "()," ⟨#[a]⟩))=_
    rw [qd]
    rfl
   cases hdl:dl a with
   | true=>simp [ht,hn,h1,hin,hdl,W]
   | false=>
    have hr:(cd t).drop (b + 1)=r:=by
     have:=congrArg List.tail hd
     simpa using this
    have ih:=qF (at':=at') (T:=T) ht n (b + 1) (by rw [hr]; rw [hd] at h; simpa using h) (by omega)
    rw [hr] at ih
    have eb:((b + 1:Nat):Int)=(b:Int) + 1:=by omega
    rw [eb] at ih
    have ew:W (a::r)=a::W r:=by simp [W,hdl]
    have el:b + (a::W r).length=b + 1 + (W r).length:=by simp; omega
    rw [ew,el]
    simp [ht,hn,h1,hin,hdl,ih]
theorem yD {t:Str} {b:Nat} (T:Tp) (ht:t.length≤60000) (hb:b≤t.length):gG [.d (.str t),.d (.int b)] T=some ((match gr (W ((cd t).drop b)) with | none=>PyData.none | some v=>.tuple [v,.int ((b + (W ((cd t).drop b)).length:Nat):Int)]),T):=by
 have ht':t.length≤sizeLine:=Nat.le_trans ht (by decide)
 have hsc:=qF (at':=.int b) (T:=T) ht' 100000 b (by rw [List.length_drop,d9]; omega) hb
 have hsl:cd (Txt.slice t (some (b:Int)) (some ((b + (W ((cd t).drop b)).length:Nat):Int)))=W ((cd t).drop b):=by
  rw [pV (by omega) (by omega)]
  have e:((b + (W ((cd t).drop b)).length:Nat):Int).toNat - ((b:Nat):Int).toNat=(W ((cd t).drop b)).length:=by omega
  rw [e]
  have e2:((b:Nat):Int).toNat=b:=by omega
  rw [e2]
  exact List.prefix_iff_eq_take.mp (List.takeWhile_prefix _) |>.symm
 have hlen:(Txt.slice t (some (b:Int)) (some ((b + (W ((cd t).drop b)).length:Nat):Int))).length≤sizeLine:=Nat.le_trans (Txt.slice_le _ _ _) ht'
 have hsb:=yC (x:=Txt.slice t (some (b:Int)) (some ((b + (W ((cd t).drop b)).length:Nat):Int))) T hlen
 rw [hsl] at hsb
 rw [Int.natCast_add] at hsb hsl hlen hsc
 rw [Int.natCast_add]
 cases hs:gr (W ((cd t).drop b)) with
 | none=>
  rw [hs] at hsb
  simp only [gG,lm,j4,j5,if_true]
  simp [hsc,ht',hsb,jR,isNone]
 | some v=>
  have hv:isNone v=false:=by
   unfold gr at hs
   split at hs
   ·cases hs; rfl
   ·obtain ⟨i,_,rfl⟩:=Option.map_eq_some_iff.mp hs
    rfl
  rw [hs] at hsb
  simp only [gG,lm,j4,j5,if_true]
  simp [hsc,ht',hsb,jR,hv]
def dW (n:Nat):Option (PyData×List Nat)→PyData
 | none=>.none
 | some (v,r)=>.tuple [v,.int ((n - r.length:Nat):Int)]
def fO (val:List Nat→Option (PyData×List Nat)):Nat→List PyData→List Nat→Option (PyData×List Nat)
 | 0,_,_=>none
 | n + 1,acc,l=>match val l with
  | none=>none
  | some (v,r)=>if r.head? = some 41 then some (.tuple (acc++[v]),r.tail) else if r.head? = some 44 then fO val n (acc++[v]) r.tail else none
def gq (l:List Nat):Option (PyData×List Nat):=(gr (W l)).map fun v=>(v,l.drop (W l).length)
def dU:Nat→List Nat→Option (PyData×List Nat)
 | 0,l=>if l.head? = some 40 then none else gq l
 | n + 1,l=>if l.head? = some 40 then (if l.tail.head? = some 41 then some (.tuple [],l.tail.tail) else fO (dU n) 100000 [] l.tail) else gq l
def Suf (val:List Nat→Option (PyData×List Nat)):Prop:=∀ l v r,val l=some (v,r)→r <:+ l
theorem pS {val:List Nat→Option (PyData×List Nat)} (h:Suf val):∀ n acc l v r,fO val n acc l=some (v,r)→r <:+ l
 | 0,acc,l,v,r,e=>by cases e
 | n + 1,acc,l,v,r,e=>by
  unfold fO at e
  cases hv:val l with
  | none=>rw [hv] at e; cases e
  | some p=>
   obtain ⟨v1,r1⟩:=p
   have s1:=h l v1 r1 hv
   rw [hv] at e
   dsimp only at e
   split at e
   ·cases e
    exact (List.tail_suffix _).trans s1
   ·split at e
    ·exact ((pS h n _ _ _ _ e).trans (List.tail_suffix _)).trans s1
    ·cases e
theorem pR:Suf gq:=fun l v r e=>by
 obtain ⟨v',_,e'⟩:=Option.map_eq_some_iff.mp e
 cases e'
 exact List.drop_suffix _ _
theorem qy:∀ n,Suf (dU n)
 | 0=>fun l v r e=>by
  unfold dU at e
  split at e
  ·cases e
  ·exact pR _ _ _ e
 | n + 1=>fun l v r e=>by
  unfold dU at e
  split at e
  ·split at e
   ·cases e
    exact (List.tail_suffix _).trans (List.tail_suffix _)
   ·exact (pS (qy n) _ _ _ _ _ e).trans (List.tail_suffix _)
  ·exact pR _ _ _ e
theorem j6 {l:List Nat} {c:Nat} (h:l.head? = some c):l.length=l.tail.length + 1:=by
 cases l with
 | nil=>cases h
 | cons=>simp
theorem ju {t y:Str} {l:List Nat} {c:Nat} (hl:l <:+ cd t) (hy:cd y=[c]):(Txt.slice t (some ((t.length - l.length:Nat):Int)) (some (((t.length - l.length:Nat):Int) + 1))=y)=(l.head? = some c):=by
 have hd:(cd t).drop (t.length - l.length)=l:=by
  have:=List.suffix_iff_eq_drop.mp hl
  rw [d9] at this
  exact this.symm
 have e:cd (Txt.slice t (some ((t.length - l.length:Nat):Int)) (some (((t.length - l.length:Nat):Int) + 1)))=l.take 1:=by
  rw [pV (by omega) (by omega)]
  have e1:((t.length - l.length:Nat):Int).toNat=t.length - l.length:=by omega
  have e2:(((t.length - l.length:Nat):Int) + 1).toNat - (t.length - l.length)=1:=by omega
  rw [e1,e2,hd]
 refine propext ⟨fun z=>?_,fun z=>gK ?_⟩
 ·rw [z,hy] at e
  cases l with
  | nil=>cases e
  | cons a r=>simp at e; simp [e]
 ·rw [e,hy]
  cases l with
  | nil=>cases z
  | cons a r=>simp at z; simp [z]
theorem lM {α:Type} {a b:α}:atI [a,b] 0=some a:=rfl
theorem lL {α:Type} {a b:α}:atI [a,b] 1=some b:=rfl
theorem o8 {t:Str} {l:List Nat} (hl:l <:+ cd t) (T:Tp) (ht:t.length≤60000):gG [.d (.str t),.d (.int ((t.length - l.length:Nat):Int))] T=some (dW t.length (gq l),T):=by
 have hd:(cd t).drop (t.length - l.length)=l:=by
  have:=List.suffix_iff_eq_drop.mp hl
  rw [d9] at this
  exact this.symm
 have hn:=hl.length_le
 rw [d9] at hn
 have h:=yD (t:=t) (b:=t.length - l.length) T ht (by omega)
 rw [hd] at h
 rw [h]
 unfold gq
 have hw:(W l).length≤l.length:=(List.takeWhile_prefix _).length_le
 cases gr (W l) with
 | none=>rfl
 | some v=>
  show some (PyData.tuple [v,.int ((t.length - l.length + (W l).length:Nat):Int)],T)=some (PyData.tuple [v,.int ((t.length - (l.drop (W l).length).length:Nat):Int)],T)
  rw [List.length_drop]
  have:t.length - l.length + (W l).length=t.length - (l.length - (W l).length):=by omega
  rw [this]
def jd (n:Nat):FS:=(ak (aE 4 (ar (dw n) (ab (aa 0) (ab (aa 1) (ab (aa 2) ag))))) (ak (fIf (au (ae isD (aa 4) (fC .none))) (av (fC .none)) aC) (ak (cj 3 (ae ixD (aa 4) (fC (.int 0)))) (ak (aE 1 (ae az (ae ixD (aa 4) (fC (.int 1))) (fC (.int 1)))) (ak (aE 5 (fSl (aa 0) (fP (ae ixD (aa 4) (fC (.int 1)))) (fP (aa 1)))) (ak (fIf (au (ae eqD (aa 5) (fC (.str ")")))) (av (ao .tuple (ab (fCB ck (ab (aa 3) ag)) (ab (aa 1) ag)))) aC) (fIf (au (ae neD (aa 5) (fC (.str ",")))) (av (fC .none)) aC)))))))
theorem rY {t:Str} {T:Tp} {val:List Nat→Option (PyData×List Nat)} {n rows:Nat} (ht:t.length≤60000) (hs:Suf val) (hv:∀ l,l <:+ cd t→dw n [.d (.str t),.d (.int ((t.length - l.length:Nat):Int)),.d (.int rows)] T=some (dW t.length (val l),T)) :
  ∀ (k:Nat) (l:List Nat) (acc:List PyData) (o4 o5:Option D.W),l <:+ cd t→l.length < k→acc.length + l.length≤60000 →
  dS (bc (aR (fC (.bool true))) (jd n) k [some (.d (.str t)),some (.d (.int ((t.length - l.length:Nat):Int))),some (.d (.int rows)),some (.loc (.list acc)),o4,o5] T)=some (dW t.length (fO val k acc l),T)
 | 0,l,acc,o4,o5,hl,hk,ha=>absurd hk (Nat.not_lt_zero _)
 | k + 1,l,acc,o4,o5,hl,hk,ha=>by
  have ht':t.length≤sizeLine:=Nat.le_trans ht (by decide)
  have ha':acc.length < sizeLine:=Nat.lt_of_le_of_lt (by omega:acc.length≤60000) (by decide)
  have h1:=hv l hl
  unfold bc fO
  cases hvl:val l with
  | none=>
   rw [hvl] at h1
   simp [jd,h1,dW,isNone]
  | some p=>
   obtain ⟨v,r⟩:=p
   have hr:=(hs l v r hvl)
   have hrt:=hr.trans hl
   have hrl:=hr.length_le
   have hll:=hl.length_le
   rw [d9] at hll
   have s1:=ju (c:=41) hrt (y:=Str.ofString ")") (by decide +kernel)
   have s2:=ju (c:=44) hrt (y:=Str.ofString ",") (by decide +kernel)
   rw [hvl] at h1
   have step:∀ c,r.head? = some c→(((t.length - r.length:Nat):Int) + 1)=((t.length - r.tail.length:Nat):Int):=fun c hc=>by
    have:=j6 hc
    omega
   dsimp only
   by_cases c1:r.head? = some 41
   ·have e1:=step _ c1
    rw [if_pos c1]
    have goal:dW t.length (some (PyData.tuple (acc++[v]),r.tail))=.tuple [.tuple (acc++[v]),.int (((t.length - r.length:Nat):Int) + 1)]:=by
     rw [e1]
     rfl
    rw [goal]
    simp [jd,h1,dW,isNone,lM,lL,ha',ht',s1,c1]
   ·rw [if_neg c1]
    by_cases c2:r.head? = some 44
    ·have e1:=step _ c2
     have e2:=j6 c2
     have ih:=rY ht hs hv k r.tail (acc++[v]) (some (.d (.tuple [v,.int ((t.length - r.length:Nat):Int)]))) (some (.d (.str (Txt.slice t (some ((t.length - r.length:Nat):Int)) (some (((t.length - r.length:Nat):Int) + 1)))))) ((List.tail_suffix _).trans hrt) (by omega) (by simp; omega)
     rw [← e1] at ih
     rw [if_pos c2,← ih]
     simp [jd,h1,dW,isNone,lM,lL,ha',ht',s1,s2,c1,c2]
    ·rw [if_neg c2]
     simp [jd,h1,dW,isNone,lM,lL,ha',ht',s1,s2,c1,c2]
def om (val:List Nat→Option (PyData×List Nat)) (l:List Nat):Option (PyData×List Nat):=if l.head? = some 41 then some (.tuple [],l.tail) else fO val 100000 [] l
theorem Al {t:Str} {T:Tp} {val:List Nat→Option (PyData×List Nat)} {n rows:Nat} (ht:t.length≤60000) (hs:Suf val) (hv:∀ l,l <:+ cd t→dw n [.d (.str t),.d (.int ((t.length - l.length:Nat):Int)),.d (.int rows)] T=some (dW t.length (val l),T)) {l:List Nat} (hl:l <:+ cd t) :
  gI (n + 1) [.d (.str t),.d (.int ((t.length - l.length:Nat):Int)),.d (.int rows)] T=some (dW t.length (om val l),T):=by
 have ht':t.length≤sizeLine:=Nat.le_trans ht (by decide)
 have hll:=hl.length_le
 rw [d9] at hll
 have s1:=ju (c:=41) hl (y:=Str.ofString ")") (by decide +kernel)
 have hr:=rY (T:=T) ht hs hv 100000 l [] none none hl (by omega) (by simp; omega)
 unfold om
 by_cases c1:l.head? = some 41
 ·rw [if_pos c1]
  have goal:dW t.length (some (PyData.tuple [],l.tail))=.tuple [.tuple [],.int (((t.length - l.length:Nat):Int) + 1)]:=by
   have:=j6 c1
   have e:(((t.length - l.length:Nat):Int) + 1)=((t.length - l.tail.length:Nat):Int):=by omega
   rw [e]
   rfl
  rw [goal]
  simp [gI,ht',s1,c1]
 ·rw [if_neg c1,← hr]
  have:gI (n + 1)=aX 6 (ak (fIf (au (ae eqD (fSl (aa 0) (fP (aa 1)) (fP (ae az (aa 1) (fC (.int 1))))) (fC (.str ")")))) (av (ao .tuple (ab (ao .tuple ag) (ab (ae az (aa 1) (fC (.int 1))) ag)))) aC) (ak (cF 3 ag) (bc (aR (fC (.bool true))) (jd n) 100000))):=by rw [gI]; rfl
  rw [this]
  simp [ht',s1,c1]
theorem rN {t:Str} {T:Tp} (ht:t.length≤60000):∀ (rows n:Nat),2 * rows + 1≤n→∀ l,l <:+ cd t→dw n [.d (.str t),.d (.int ((t.length - l.length:Nat):Int)),.d (.int rows)] T=some (dW t.length (dU rows l),T)
 | _,0,h,_,_=>absurd h (by omega)
 | 0,n + 1,h,l,hl=>by
  have ht':t.length≤sizeLine:=Nat.le_trans ht (by decide)
  have s1:=ju (c:=40) hl (y:=Str.ofString "(") (by decide +kernel)
  have sg:=o8 hl T ht
  unfold dU
  by_cases c1:l.head? = some 40
  ·simp [dw,ht',s1,c1,dW]
  ·simp [dw,ht',s1,c1,sg]
 | rows + 1,n + 1,h,l,hl=>by
  have ht':t.length≤sizeLine:=Nat.le_trans ht (by decide)
  have s1:=ju (c:=40) hl (y:=Str.ofString "(") (by decide +kernel)
  have sg:=o8 hl T ht
  have hll:=hl.length_le
  rw [d9] at hll
  unfold dU
  by_cases c1:l.head? = some 40
  ·obtain ⟨m,rfl⟩:∃ m,n=m + 1:=⟨n - 1,by omega⟩
   have rr:=Al ht (qy rows) (rN (T:=T) ht rows m (by omega)) ((List.tail_suffix l).trans hl)
   have:=j6 c1
   have e:(((t.length - l.length:Nat):Int) + 1)=((t.length - l.tail.length:Nat):Int):=by omega
   rw [← e] at rr
   have e2:((rows + 1:Nat):Int) - 1=(rows:Int):=by omega
   have e3:¬ ((rows + 1:Nat):Int)=0:=by omega
   rw [if_pos c1]
   show _=some (dW t.length (om (dU rows) l.tail),T)
   rw [← e2] at rr
   generalize ((rows + 1:Nat):Int)=R at e3 rr
   simp [dw,ht',s1,c1,e3,rr]
  ·rw [if_neg c1]
   simp [dw,ht',s1,c1,sg]
def dg (m:Nat):List Nat:=(Nat.toDigits 10 m).map Char.toNat
theorem lp (m:Nat):NumText.AllDigits (dg m):=fun c hc=>by
 obtain ⟨ch,hch,e⟩:=List.mem_map.mp hc
 rw [← e]
 exact digit_range (Nat.isDigit_of_mem_toDigits (by decide) (by decide) hch)
theorem sR (m:Nat):NumText.digitsVal (dg m)=m:=W.KIN.val_back m
theorem nY (m:Nat):dg m≠[]:=fun e=>by
 have h:=toDigits_len_ge 10 m
 rw [List.map_eq_nil_iff.mp e] at h
 exact absurd h (by decide)
theorem kP {m:Nat} (h:m≤10 ^ 18):(dg m).length≤19:=by
 unfold dg
 rw [List.length_map]
 exact toDigits_len_pow (by decide) (by decide) (Nat.lt_of_le_of_lt h (by decide))
theorem rf (m:Nat):0 < m→(dg m).head?≠some 48:=by
 induction m using Nat.strongRecOn with
 | _ m ih=>
  intro hm
  by_cases h:m < 10
  ·have:∀ m:Nat,m < 10→0 < m→((Nat.toDigits 10 m).map Char.toNat).head?≠some 48:=by decide
   exact this m h hm
  ·have hm:m % 10 < 10:=Nat.mod_lt m (by decide)
   have t:Nat.toDigits 10 (m / 10)++Nat.toDigits 10 (m % 10)=Nat.toDigits 10 (10 * (m / 10) + m % 10):=Nat.toDigits_append_toDigits (by decide) (by omega) hm
   rw [Nat.div_add_mod] at t
   have e:dg m=dg (m / 10)++dg (m % 10):=by
    unfold dg
    rw [← t,List.map_append]
   have i1:=ih (m / 10) (by omega) (by omega)
   have i2:=nY (m / 10)
   rw [e]
   cases hd:dg (m / 10) with
   | nil=>exact absurd hd i2
   | cons a r=>rw [hd] at i1; simpa using i1
theorem Aa:dg 0=[48]:=by decide
theorem rh (m:Nat):fZ (dg m)=true:=by
 unfold fZ
 rw [Bool.and_eq_true,Bool.and_eq_true]
 refine ⟨⟨by simpa using nY m,List.all_eq_true.mpr fun c hc=>decide_eq_true ?_⟩,?_⟩
 ·rw [pE]
  have:=lp m c hc
  simp
  omega
 ·rcases Nat.eq_zero_or_pos m with h | h
  ·subst h
   rw [Aa]
   rfl
  ·rw [Bool.or_eq_true]
   right
   simpa using rf m h
def nc:Int→List Nat
 | .ofNat m=>dg m
 | .negSucc m=>45::dg (m + 1)
theorem CP (i:Int):cd (Str.ofString (toString i))=nc i:=by
 cases i with
 | ofNat m=>exact W.KIN.signs_num m
 | negSucc m=>
  have e:toString (Int.negSucc m) = "-"++toString (m + 1):=rfl
  unfold cd
  rw [e,signs_ofString]
  show ("-"++Nat.repr (m + 1)).toList.map Char.toNat=_
  rw [String.toList_append,List.map_append,Nat.toList_repr]
  rfl
theorem qP (i:Int):∀ c∈nc i,c=45∨(48≤c∧c≤57):=by
 cases i with
 | ofNat m=>exact fun c hc=>.inr (lp m c hc)
 | negSucc m=>
  intro c hc
  rcases List.mem_cons.mp hc with h | h
  ·exact .inl h
  ·exact .inr (lp _ c h)
theorem CO (i:Int):nc i≠[]:=by
 cases i with
 | ofNat m=>exact nY m
 | negSucc m=>exact fun h=>nomatch h
theorem lS {i:Int} (h:single (.int i)=true):i.natAbs≤10 ^ 18:=by
 have h':(if i < 0 then -i else i)≤10 ^ 18:=of_decide_eq_true h
 have e:((10:Int) ^ 18)=1000000000000000000:=by decide
 have e2:((10:Nat) ^ 18)=1000000000000000000:=by decide
 rw [e] at h'
 rw [e2]
 split at h' <;> omega
theorem Bo {i:Int} (h:single (.int i)=true):(nc i).length≤20:=by
 have h:=lS h
 cases i with
 | ofNat m=>
  have:=kP (m:=m) h
  show (dg m).length≤20
  omega
 | negSucc m=>
  have:=kP (m:=m + 1) h
  show (dg (m + 1)).length + 1≤20
  omega
theorem mD (m:Nat):(dg m).head?≠some 45:=fun h=>by
 cases hd:dg m with
 | nil=>rw [hd] at h; cases h
 | cons a r=>
  rw [hd] at h
  cases h
  have:=lp m 45 (by rw [hd]; exact List.mem_cons_self)
  omega
theorem zH {i:Int} (h:single (.int i)=true):jS (nc i)=some i:=by
 have h:=lS h
 unfold jS
 cases i with
 | ofNat m=>
  show (if dg m=[45,48]∨19 < (fg (dg m)).length∨fZ (fg (dg m))=false then none else some (if (dg m).head? = some 45 then -((NumText.digitsVal (dg m).tail:Nat):Int) else ((NumText.digitsVal (dg m):Nat):Int)))=_
  have e:fg (dg m)=dg m:=by unfold fg; rw [if_neg (mD m)]
  have l:=kP (m:=m) h
  rw [e,if_neg (mD m),sR,rh,if_neg]
  ·rfl
  ·rintro (z | z | z)
   ·exact mD m (by rw [z]; rfl)
   ·omega
   ·cases z
 | negSucc m=>
  show (if 45::dg (m + 1)=[45,48]∨19 < (fg (45::dg (m + 1))).length∨fZ (fg (45::dg (m + 1)))=false then none else some (if (45::dg (m + 1)).head? = some 45 then -((NumText.digitsVal (45::dg (m + 1)).tail:Nat):Int) else ((NumText.digitsVal (45::dg (m + 1)):Nat):Int)))=_
  have e:fg (45::dg (m + 1))=dg (m + 1):=rfl
  have l:=kP (m:=m + 1) h
  have e2:(45::dg (m + 1)).tail=dg (m + 1):=rfl
  rw [e,e2,sR,rh,if_pos (by rfl:(45::dg (m + 1)).head? = some 45),if_neg]
  ·rfl
  ·rintro (z | z | z)
   ·have z':dg (m + 1)=[48]:=(List.cons.inj z).2
    have:=rf (m + 1) (by omega)
    rw [z'] at this
    exact this rfl
   ·omega
   ·cases z
def cst:Nat→PyData→List Nat
 | n + 1,.tuple ds=>40::(bY [44] (ds.map (cst n))++[41])
 | 0,.tuple _=>[]
 | _,.int i=>nc i
 | _,.str x=>39::cd x
 | _,_=>[]
theorem rF (n:Nat) (i:Int):cst n (.int i)=nc i:=by cases n <;> rfl
theorem rD (n:Nat) (x:Str):cst n (.str x)=39::cd x:=by cases n <;> rfl
theorem jX {d:PyData} (h:single d=true):(∃ i,d=.int i)∨∃ x,d=.str x:=by cases d <;> first | exact .inl ⟨_,rfl⟩ | exact .inr ⟨_,rfl⟩ | cases h
theorem iH {n:Nat} {d:PyData} (h:bp n d=true):single d=true∨∃ m ds,n=m + 1∧d=.tuple ds∧ds.length≤8∧∀ x∈ds,bp m x=true:=by
 by_cases k:kd d=.tup
 ·obtain ⟨ds,rfl⟩:=kL k
  cases n with
  | zero=>cases h
  | succ m=>
   right
   have h':(decide (ds.length≤8) && ds.all (bp m))=true:=h
   rw [Bool.and_eq_true] at h'
   exact ⟨m,ds,rfl,rfl,of_decide_eq_true h'.1,List.all_eq_true.mp h'.2⟩
 ·left
  rw [oG k] at h
  exact h
theorem txt_codes {x:Str} (h:has TXT x=true):∀ c∈cd x,dl c=false:=fun c hc=>by
 have h1:=of_decide_eq_true (List.all_eq_true.mp h c hc)
 have h2:∀ c∈TXT.cps.toList,dl c=false:=by decide +kernel
 exact h2 c h1
theorem x3 (i:Int):∀ c∈nc i,dl c=false:=fun c hc=>by
 rw [kO]
 have:=qP i c hc
 exact decide_eq_false (by omega)
theorem qc {a b:List Nat} (h:a≠[]):(a++b).head? = a.head?:=by
 cases a with
 | nil=>exact absurd rfl h
 | cons=>rfl
def lO (l:List Nat):Prop:=∀ c,l.head? = some c→dl c=true
theorem tU {w l:List Nat} (hw:∀ c∈w,dl c=false) (hl:lO l):W (w++l)=w:=by
 unfold W
 rw [List.takeWhile_append_of_pos (fun c hc=>by rw [hw c hc]; rfl)]
 cases l with
 | nil=>simp
 | cons a r=>
  have:=hl a rfl
  rw [List.takeWhile_cons,this]
  simp
theorem lY {d:PyData} {n:Nat} {l:List Nat} (h:single d=true) (hl:lO l):(cst n d++l).head?≠some 40∧(cst n d).head?≠some 41∧cst n d≠[]∧gq (cst n d++l)=some (d,l)∧(cst n d).length≤21:=by
 rcases jX h with ⟨i,rfl⟩ | ⟨x,rfl⟩
 ·rw [rF]
  have hne:=CO i
  have hs:=qP i
  have hh:∀ c,(nc i).head? = some c→c=45∨(48≤c∧c≤57):=fun c hc=>hs c (List.mem_of_head? hc)
  have h39:(nc i).head?≠some 39:=fun z=>by have:=hh _ z; omega
  refine ⟨?_,fun z=>by have:=hh _ z; omega,hne,?_,by have:=Bo h; omega⟩
  ·rw [qc hne]
   exact fun z=>by have:=hh _ z; omega
  ·unfold gq
   rw [tU (x3 i) hl]
   unfold gr
   rw [if_neg h39,zH h]
   simp
 ·rw [rD]
  have h':(decide (x.length≤20) && has TXT x)=true:=h
  rw [Bool.and_eq_true] at h'
  refine ⟨by simp,by simp,by simp,?_,?_⟩
  ·unfold gq
   rw [tU (w:=39::cd x) (fun c hc=>by
    rcases List.mem_cons.mp hc with z | z
    ·subst z; rw [kO]; rfl
    ·exact txt_codes h'.2 c z) hl]
   unfold gr
   rw [if_pos (by rfl:(39::cd x).head? = some 39)]
   show (some (PyData.str (mk (cd x)))).map _=_
   rw [CQ]
   simp
  ·have:=of_decide_eq_true h'.1
   rw [List.length_cons,d9]
   omega
theorem pq {val:List Nat→Option (PyData×List Nat)} {f:PyData→List Nat} {post:List Nat}:∀ (ds:List PyData) (d:PyData) (k:Nat) (acc:List PyData),ds.length < k→(∀ x∈d::ds,∀ l,lO l→val (f x++l)=some (x,l)) →
  fO val k acc (bY [44] ((d::ds).map f)++41::post)=some (.tuple (acc++d::ds),post)
 | ds,d,0,acc,h,_=>absurd h (Nat.not_lt_zero _)
 | [],d,k + 1,acc,h,hv=>by
  have:=hv d List.mem_cons_self (41::post) (fun c hc=>by cases hc; rw [kO]; rfl)
  unfold fO
  show (match val (f d++41::post) with | none=>none | some (v,r)=>_)=_
  rw [this]
  rfl
 | e::ds,d,k + 1,acc,h,hv=>by
  have h1:=hv d List.mem_cons_self (44::(bY [44] ((e::ds).map f)++41::post)) (fun c hc=>by cases hc; rw [kO]; rfl)
  have ih:=pq (post:=post) ds e k (acc++[d]) (by simpa using h) (fun x hx=>hv x (List.mem_cons_of_mem _ hx))
  have e1:bY [44] ((d::e::ds).map f)++41::post=f d++44::(bY [44] ((e::ds).map f)++41::post):=by
   show (f d++[44]++bY [44] ((e::ds).map f))++41::post=_
   simp
  unfold fO
  rw [e1,h1]
  simp only [List.append_assoc,List.cons_append,List.nil_append] at ih
  simpa using ih
theorem yq:∀ (n:Nat) (d:PyData),bp n d=true→cst n d≠[]∧(cst n d).head?≠some 41:=fun n d h=>by
 rcases iH h with h1 | ⟨m,ds,rfl,rfl,_,_⟩
 ·have:=lY (n:=n) (l:=[]) h1 (fun c hc=>by cases hc)
  exact ⟨this.2.2.1,this.2.1⟩
 ·exact ⟨by simp [cst],by simp [cst]⟩
theorem xt {n:Nat} {l:List Nat} (h:l.head?≠some 40):dU n l=gq l:=by
 cases n with
 | zero=>unfold dU; rw [if_neg h]
 | succ n=>unfold dU; rw [if_neg h]
theorem val_back:∀ (n:Nat) (d:PyData),bp n d=true→∀ l,lO l→dU n (cst n d++l)=some (d,l)
 | n,d,h,l,hl=>by
  rcases iH h with h1 | ⟨m,ds,rfl,rfl,h8,hb⟩
  ·have:=lY (n:=n) h1 hl
   rw [xt this.1,this.2.2.2.1]
  ·have ih:=val_back m
   have e:cst (m + 1) (.tuple ds)++l=40::(bY [44] (ds.map (cst m))++41::l):=by
    show (40::(bY [44] (ds.map (cst m))++[41]))++l=_
    simp
   rw [e]
   unfold dU
   rw [if_pos (by rfl:(40::(bY [44] (ds.map (cst m))++41::l)).head? = some 40)]
   cases ds with
   | nil=>rfl
   | cons d ds=>
    have hh:=yq m d (hb d List.mem_cons_self)
    have e2:(40::(bY [44] ((d::ds).map (cst m))++41::l)).tail=bY [44] ((d::ds).map (cst m))++41::l:=rfl
    have e3:(bY [44] ((d::ds).map (cst m))++41::l).head?≠some 41:=by
     rw [List.map_cons,vT,List.append_assoc,qc hh.1]
     exact hh.2
    rw [e2,if_neg e3]
    have:=pq (val:=dU m) (f:=cst m) (post:=l) ds d 100000 [] (by simp at h8; omega) (fun x hx l hl=>ih x (hb x hx) l hl)
    rw [this]
    rfl
termination_by n=>n
theorem x5 (n:Nat):∀ d,1≤bx n d:=by
 induction n with
 | zero=>intro d; cases d <;> exact Int.le_refl _
 | succ n ih=>
  intro d
  by_cases k:kd d=.tup
  ·obtain ⟨ds,rfl⟩:=kL k
   have:=K1.rX (bx n) ih ds
   show 1≤1 + (ds.map (bx n)).sum
   omega
  ·rw [oO k]
   exact Int.le_refl _
theorem oS (f:PyData→List Nat):∀ ds:List PyData,(ds.map fun d=>(f d).length).sum + ds.length≤(bY [44] (ds.map f)).length + 1∧(bY [44] (ds.map f)).length≤(ds.map fun d=>(f d).length).sum + ds.length
 | []=>by simp [bY]
 | [d]=>by simp [bY]
 | d::e::r=>by
  have ih:=oS f (e::r)
  have e1:bY [44] ((d::e::r).map f)=f d++[44]++bY [44] ((e::r).map f):=rfl
  rw [e1]
  simp only [List.map_cons,List.sum_cons,List.length_cons,List.length_append,List.length_nil] at ih ⊢
  omega
theorem qR {n:Nat}:∀ {ds:List PyData},(∀ d∈ds,((cst n d).length:Int) + 1≤25 * bx n d)→(((ds.map fun d=>(cst n d).length).sum + ds.length:Nat):Int)≤25 * (ds.map (bx n)).sum
 | [],_=>by simp
 | d::r,h=>by
  have h1:=h d List.mem_cons_self
  have h2:=qR (ds:=r) fun x hx=>h x (List.mem_cons_of_mem _ hx)
  simp only [List.map_cons,List.sum_cons,List.length_cons]
  omega
theorem rE:∀ (n:Nat) (d:PyData),bp n d=true→((cst n d).length:Int) + 1≤25 * bx n d
 | n,d,h=>by
  rcases iH h with h1 | ⟨m,ds,rfl,rfl,h8,hb⟩
  ·have:=(lY (n:=n) (l:=[]) h1 (fun c hc=>by cases hc)).2.2.2.2
   have:=x5 n d
   omega
  ·have ih:=rE m
   have h1:=qR (ds:=ds) fun d hd=>ih d (hb d hd)
   have h2:=(oS (cst m) ds).2
   show (((40::(bY [44] (ds.map (cst m))++[41])).length:Nat):Int) + 1≤25 * (1 + (ds.map (bx m)).sum)
   simp only [List.length_cons,List.length_append,List.length_nil]
   omega
termination_by n=>n
theorem sG {s x:Str} (hs:∀ c∈s.cps.toList,c < 128) (h:has s x=true):∀ c∈x.cps.toList,c < 128:=fun c hc=>
 hs c (of_decide_eq_true (List.all_eq_true.mp h c hc))
theorem sW:∀ c∈TXT.cps.toList,c < 128:=by decide +kernel
theorem qp:∀ (n:Nat) (v:PyData),bp n v=true→Sm v
 | n,v,h=>by
  rcases iH h with h1 | ⟨m,ds,rfl,rfl,_,hd⟩
  ·rcases jX h1 with ⟨i,rfl⟩ | ⟨x,rfl⟩
   ·show smB (.int i)=true
    rw [smB]
    intro _ z; cases z
    intro _ z; cases z
   ·have h2:(decide (x.length≤20) && has TXT x)=true:=h1
    rw [Bool.and_eq_true] at h2
    exact Sm.mkS (Nat.le_trans (of_decide_eq_true h2.1) (by decide)) (sG sW h2.2)
  ·exact Sm.tup fun d hx=>qp m d (hd d hx)
termination_by n=>n
theorem As {v:PyData} (h:aZ v=true):Sm v:=by
 have h':(bp 4 v && decide (bx 4 v≤40))=true:=h
 rw [Bool.and_eq_true] at h'
 exact qp 4 v h'.1
theorem lW {v:PyData} (h:aZ v=true):bp 4 v=true∧bx 4 v≤40:=by
 have h':(bp 4 v && decide (bx 4 v≤40))=true:=h
 rw [Bool.and_eq_true] at h'
 exact ⟨h'.1,of_decide_eq_true h'.2⟩
theorem B3 {v:PyData} (T:Tp) (h:aZ v=true):eS [.d (.str (mk (cst 4 v)))] T=some (v,T):=by
 obtain ⟨hb,hm⟩:=lW h
 have hl:=rE 4 v hb
 have ht:(mk (cst 4 v)).length≤60000:=by rw [ny]; omega
 have ht':(mk (cst 4 v)).length≤sizeLine:=Nat.le_trans ht (by decide)
 have e:=rN (T:=T) ht 4 25 (by decide) (cst 4 v) (by rw [jN]; exact List.suffix_refl _)
 have b:=val_back 4 v hb [] (fun c hc=>by cases hc)
 rw [List.append_nil] at b
 rw [b,ny,Nat.sub_self] at e
 have e':dw 25 [.d (.str (mk (cst 4 v))),.d (.int 0),.d (.int 4)] T=some (.tuple [v,.int ((cst 4 v).length:Int)],T):=e
 have iv:=L_value T (As h)
 rw [h] at iv
 have hn:¬ ((cst 4 v).length:Int) < ((cst 4 v).length:Int):=by omega
 have hz:(mk (cst 4 v)).length=(cst 4 v).length:=ny _
 simp [eS,e',isNone,lM,lL,ht',iv,hz]
 intro z
 rw [hz] at ht'
 omega
end GV
namespace G
open PySem PySem.Spec PyProof.Rows L2 D
theorem ij {α:Type} {xs:List α} {i:Int} (h0:0≤i) (h1:i < xs.length):∃ x,atI xs i=some x∧x∈xs:=by
 obtain ⟨n,rfl⟩:=Int.eq_ofNat_of_zero_le h0
 have hn:n < xs.length:=by omega
 exact ⟨xs[n],eY (List.getElem?_eq_getElem hn),List.getElem_mem hn⟩
def jh:FS:=ak (aE 5 (ae dq (ae bo (ae az (ae az (ae az (ae dq (aa 3) (fC (.int 999999937))) (ae bo (ae bo (fC (.int 31)) (aa 1)) (aa 1))) (ae bo (fC (.int 7)) (aa 1))) (fC (.int 1))) (fC (.int 48271))) (fC (.int 2147483647)))) (av (ae dq (ae ir (ae dq (ae bo (ae ir (aa 5) (fC (.int 7))) (fC (.int 69621))) (fC (.int 2147483629))) (fC (.int 5))) (aa 2)))
theorem jv {many:Int} (hm:0 < many) (z:Int):0≤z % many∧z % many < many:=⟨Int.emod_nonneg _ (by omega),Int.emod_lt_of_pos _ hm⟩
theorem qe {ns:List Int} {k many c:Int} {a:Option W} {T:Tp} (hk:0≤k) (hk':k≤100000) (hm:0 < many) (ha:a=none∨∃ i,a=some (.d (.int i))) :
  ∃ r,dS (jh [some (.d (aS ns)),some (.d (.int k)),some (.d (.int many)),some (.d (.int c)),a,none] T)=some (.int r,T)∧0≤r∧r < many:=by
 refine ⟨_,?_,jv hm ((c % 999999937 + 31 * k * k + 7 * k + 1) * 48271 % 2147483647 / 7 * 69621 % 2147483629 / 5)⟩
 rcases ha with rfl | ⟨i,rfl⟩
 ·simp [jh,hm]
  omega
 ·simp [jh,hm]
  omega
theorem bZ (ns:List Int) (k many:Int) (T:Tp) (hk:0≤k:=by omega) (hk':k≤100000:=by omega) (hm:0 < many:=by omega) (hl:ns.length≤63:=by omega):∃ r,aU [.d (aS ns),.d (.int k),.d (.int many)] T=some (.int r,T)∧0≤r∧r < many:=by
 by_cases h0:ns.length=0
 ·obtain ⟨r,h,h'⟩:=qe (ns:=ns) (c:=0) (a:=none) (T:=T) hk hk' hm (.inl rfl)
  refine ⟨r,?_,h'⟩
  rw [← h]
  unfold jh
  simp [aU,aS,h0]
 ·obtain ⟨x,hx,_⟩:=ij (xs:=ns) (i:=k % (ns.length:Int)) (jv (by omega) k).1 (jv (by omega) k).2
  have hx':atI (ns.map PyData.int) (k % (ns.length:Int))=some (.int x):=by
   unfold atI at hx ⊢
   rw [List.length_map]
   cases e:ixN ns.length (k % (ns.length:Int)) with
   | none=>rw [e] at hx; cases hx
   | some j=>
    rw [e] at hx
    show (ns.map PyData.int)[j]? = _
    rw [List.getElem?_map,show ns[j]? = some x from hx]
    rfl
  have hp:(0:Int) < ns.length:=by omega
  have hpn:0 < ns.length:=by omega
  have hd:=Int.ediv_nonneg hk (Int.le_of_lt hp)
  have hp2:(ns.length:Int) < 1073741824:=by omega
  have pw:(10:Int) ^ 18=1000000000000000000:=by decide
  have hs:(0:Int)≤7 * (if k / (ns.length:Int) < 90 then k / (ns.length:Int) else 90):=by split <;> omega
  by_cases hc:1000000000000000000≤x∧127 < x / 2 ^ (7 * (if k / (ns.length:Int) < 90 then k / (ns.length:Int) else 90)).toNat
  ·refine ⟨_,?_,jv hm (x / 2 ^ (7 * (if k / (ns.length:Int) < 90 then k / (ns.length:Int) else 90)).toNat)⟩
   simp [aU,aS,hp,hpn,hx',hp2,hs,hc.1,hc.2,hm,pw]
  ·obtain ⟨r,h,h'⟩:=qe (ns:=ns) (c:=x) (a:=some (.d (.int (x / 2 ^ (7 * (if k / (ns.length:Int) < 90 then k / (ns.length:Int) else 90)).toNat)))) (T:=T) hk hk' hm (.inr ⟨_,rfl⟩)
   refine ⟨r,?_,h'⟩
   rw [← h]
   by_cases h1:1000000000000000000≤x
   ·have h2:¬ 127 < x / 2 ^ (7 * (if k / (ns.length:Int) < 90 then k / (ns.length:Int) else 90)).toNat:=fun z=>hc ⟨h1,z⟩
    unfold jh
    simp [aU,aS,hp,hpn,hx',hp2,hs,h1,h2,pw]
   ·unfold jh
    simp [aU,aS,hp,hpn,hx',hp2,hs,h1,pw]
def menu:List Str:=["a","ab","abc","b","told","made","say","want","wants","ba","zz","x"]
theorem p9 {x:Str} (h:x∈menu):x.length≤5:=by
 simp only [menu,List.mem_cons,List.not_mem_nil,or_false] at h
 rcases h with h | h | h | h | h | h | h | h | h | h | h | h <;> subst h <;> decide
def Lo (x:Str):Prop:=∀ c∈x.cps.toList,c < 128
theorem cx {x:Str} (h:(x.cps.toList.all fun c=>decide (c < 128))=true):Lo x:=fun c hc=>of_decide_eq_true (List.all_eq_true.mp h c hc)
theorem Lo.app {x y:Str} (h:Lo x) (g:Lo y):Lo (x++y):=fun c hc=>by
 rw [cps_toList_append] at hc
 rcases List.mem_append.mp hc with k | k
 ·exact h c k
 ·exact g c k
theorem Lo.join {z:Str} (hz:Lo z):∀ {xs:List Str},(∀ x∈xs,Lo x)→Lo (Str.join z xs)
 | [],_=>fun c hc=>by cases hc
 | [a],h=>h a List.mem_cons_self
 | a::b::r,h=>by
  have e:Str.join z (a::b::r)=a++z++Str.join z (b::r):=rfl
  rw [e]
  exact ((h a List.mem_cons_self).app hz).app (Lo.join hz fun x hx=>h x (List.mem_cons_of_mem _ hx))
theorem menu_lo {x:Str} (h:x∈menu):Lo x:=by
 simp only [menu,List.mem_cons,List.not_mem_nil,or_false] at h
 rcases h with h | h | h | h | h | h | h | h | h | h | h | h <;> subst h <;> exact cx (by decide +kernel)
structure Nms (xs:List Str):Prop where
 few:4≤xs.length
 most:xs.length≤7
 inm:∀ x∈xs,x∈menu
theorem mE {e:FE} {ρ:Rho} {T:Tp} {Q:PyData→Prop}:∀ {ds:List PyData},(∀ d∈ds,∃ y,e (some (.d d)::ρ) T=some (.d y,T)∧Q y)→∃ ys,bh a6 e ρ ds T=some (ys,T)∧ys.length=ds.length∧∀ y∈ys,Q y
 | [],_=>⟨[],rfl,rfl,fun y hy=>by cases hy⟩
 | d::r,h=>by
  obtain ⟨y,e1,q1⟩:=h d List.mem_cons_self
  obtain ⟨ys,e2,l2,q2⟩:=mE (ds:=r) fun x hx=>h x (List.mem_cons_of_mem _ hx)
  refine ⟨y::ys,?_,by simp [l2],fun z hz=>?_⟩
  ·unfold bh
   simp [e1,e2]
  ·rcases List.mem_cons.mp hz with k | k
   ·subst k; exact q1
   ·exact q2 z k
theorem iL {lo:Int} {n:Nat} {d:PyData} (h:d∈cb lo n):∃ i:Int,d=.int i∧lo≤i∧i < lo + n:=by
 obtain ⟨i,hi,rfl⟩:=List.mem_map.mp h
 have:=List.mem_range.mp hi
 exact ⟨_,rfl,by omega,by omega⟩
theorem eE {lo:Int} {n:Nat}:(cb lo n).length=n:=by simp [cb]
theorem qA {P:Str→Prop}:∀ {ys:List PyData},(∀ y∈ys,∃ x,y=.str x∧P x)→∃ xs:List Str,ys=xs.map .str∧∀ x∈xs,P x
 | [],_=>⟨[],rfl,fun _ h=>by cases h⟩
 | y::r,h=>by
  obtain ⟨x,rfl,p⟩:=h y List.mem_cons_self
  obtain ⟨xs,rfl,q⟩:=qA (ys:=r) fun z hz=>h z (List.mem_cons_of_mem _ hz)
  exact ⟨x::xs,rfl,fun z hz=>by
   rcases List.mem_cons.mp hz with k | k
   ·subst k; exact p
   ·exact q z k⟩
theorem eT {j:Int} (h0:0≤j) (h1:j≤1000):cD j=true:=by unfold cD; simp; omega
theorem in4 {r:Int} (h0:0≤r) (h1:r < 4):r=0∨r=1∨r=2∨r=3:=by omega
theorem Ao (ns:List Int) (k:Int) (T:Tp) (hk:0≤k) (hk':k≤90000) (hl:ns.length≤63):∃ xs,gY [.d (aS ns),.d (.int k)] T=some (.list (xs.map .str),T)∧Nms xs:=by
 obtain ⟨r0,e0,a0,b0⟩:=bZ ns k 12 T
 obtain ⟨r1,e1,a1,b1⟩:=bZ ns (k + 1) 4 T
 obtain ⟨r2,e2,a2,b2⟩:=bZ ns (k + 2) 4 T
 have st:∃ s:Int,atI [PyData.int 1,.int 5,.int 7,.int 11] r1=some (.int s)∧0 < s∧s≤11:=by
  rcases in4 a1 b1 with rfl | rfl | rfl | rfl
  ·exact ⟨1,rfl,by decide,by decide⟩
  ·exact ⟨5,rfl,by decide,by decide⟩
  ·exact ⟨7,rfl,by decide,by decide⟩
  ·exact ⟨11,rfl,by decide,by decide⟩
 obtain ⟨s,e3,a3,b3⟩:=st
 have hc:=mE (e:=ae ixD (aa 3) (ae dq (ae az (aa 4) (ae bo (aa 5) (aa 0))) (fC (.int 12)))) (T:=T) (ρ:=[some (.d (aS ns)),some (.d (.int k)),some (.d (.list (menu.map .str))),some (.d (.int r0)),some (.d (.int s))]) (ds:=cb 0 (4 + r2).toNat) (Q:=fun y=>∃ x,y=.str x∧x∈menu) fun d hd=>by
  obtain ⟨i,rfl,c1,c2⟩:=iL hd
  have hm:=jv (show (0:Int) < 12 by decide) (r0 + s * i)
  obtain ⟨x,f1,f2⟩:=ij (xs:=menu.map PyData.str) (i:=(r0 + s * i) % 12) hm.1 (by simpa [menu] using hm.2)
  obtain ⟨z,g1,rfl⟩:=List.mem_map.mp f2
  refine ⟨.str z,?_,z,rfl,g1⟩
  have hb:(-18446744073709551616 < s∧s < 18446744073709551616):=by omega
  simp [hb,f1]
 obtain ⟨ys,c1,c2,c3⟩:=hc
 obtain ⟨xs,rfl,c4⟩:=qA c3
 rw [eE,List.length_map] at c2
 refine ⟨xs,?_,by omega,by omega,c4⟩
 unfold menu at c1
 have h4:cD (4 + r2)=true:=eT (by omega) (by omega)
 simp only [List.map_cons,List.map_nil] at c1
 simp [gY,e0,e1,e2,e3,h4,c1]
abbrev SS:=Str×Str
def enD (e:SS):PyData:=.tuple [.str e.1,.str e.2]
def rdD (rs:List SS):List PyData:=rs.map enD
def lnD (n:Str) (rs:List SS) (e:SS):PyData:=.tuple [.str n,.tuple (rdD rs),enD e]
def nxt:List SS→SS→SS
 | [],e=>e
 | p::_,_=>(Str.ofString "wants",p.1)
def cpl:List SS→List SS→Nat
 | p::r,q::s=>if p=q then cpl r s + 1 else 0
 | _,_=>0
def bK (r:List SS) (e:SS) (s:List SS) (f:SS):Bool:=decide (nxt (r.drop (cpl r s)) e≠nxt (s.drop (cpl r s)) f)
theorem md (p:SS) (r:List SS) (e:SS) (s:List SS) (f:SS):bK (p::r) e (p::s) f=bK r e s f:=by
 unfold bK
 simp [cpl]
theorem l9:∀ (r:List SS) (e:SS),bK r e r e=false
 | [],e=>by simp [bK,nxt]
 | p::r,e=>by rw [md]; exact l9 r e
theorem qj:∀ (r s:List SS),cpl r s=cpl s r
 | [],[]=>rfl
 | [],_::_=>rfl
 | _::_,[]=>rfl
 | p::r,q::s=>by
  unfold cpl
  rw [qj r s]
  by_cases h:p=q
  ·rw [if_pos h,if_pos h.symm]
  ·rw [if_neg h,if_neg (fun z=>h z.symm)]
theorem wR (r:List SS) (e:SS) (s:List SS) (f:SS):bK r e s f=bK s f r e:=by
 unfold bK
 rw [qj r s]
 exact decide_eq_decide.mpr ⟨fun h z=>h z.symm,fun h z=>h z.symm⟩
theorem hV {x:Str} (h:Lo x):PyData.strOk x=true:=by
 unfold PyData.strOk
 rw [← Array.all_toList,List.all_eq_true]
 intro c hc
 exact decide_eq_true (Nat.lt_trans (h c hc) (by decide))
def OkE (e:SS):Prop:=Lo e.1∧Lo e.2
def OkR (r:List SS):Prop:=∀ p∈r,OkE p
theorem hG:Lo "wants":=cx (by decide +kernel)
theorem kA {x:Str} (h:Lo x):SeqAt.shaped (.str x)=true:=by simp [SeqAt.shaped,PyData.canLay0,PyData.depth,hV h]
theorem kW {e:SS} (h:OkE e):SeqAt.shaped (enD e)=true:=by simp [SeqAt.shaped,enD,PyData.canLay0,PyData.canLayAll0,PyData.depth,PyData.depthAll,hV h.1,hV h.2]
theorem sO (a b:SS):PyData.eqv (enD a) (enD b)=decide (a=b):=by
 obtain ⟨a1,a2⟩:=a
 obtain ⟨b1,b2⟩:=b
 rw [Bool.eq_iff_iff]
 simp [enD,PyData.eqv,PyData.eqvAll]
theorem nF {a b:SS} (h:OkE a) (g:OkE b):eqG (enD a) (enD b)=some (.bool (decide (a=b))):=by
 unfold eqG
 rw [if_pos ⟨kW h,kW g⟩,sO]
theorem nu {a b:SS} (h:OkE a) (g:OkE b):neG (enD a) (enD b)=some (.bool (!decide (a=b))):=by
 unfold neG
 rw [if_pos ⟨kW h,kW g⟩,sO]
theorem zK {a b:Str} (h:Lo a) (g:Lo b):neG (.str a) (.str b)=some (.bool (!decide (a=b))):=by
 unfold neG
 rw [if_pos ⟨kA h,kA g⟩]
 have:PyData.eqv (.str a) (.str b)=decide (a=b):=by
  rw [Bool.eq_iff_iff]
  simp [PyData.eqv]
 rw [this]
theorem Bl {a:Str} (h:Lo a):neG (.str a) .none=some (.bool true):=by
 unfold neG
 rw [if_pos ⟨kA h,by rfl⟩]
 rfl
theorem Bm {a:Str} (h:Lo a):neG .none (.str a)=some (.bool true):=by
 unfold neG
 rw [if_pos ⟨by rfl,kA h⟩]
 rfl
theorem Bn:neG .none .none=some (.bool false):=rfl
theorem okN {r:List SS} {e:SS} (hr:OkR r) (he:OkE e):OkE (nxt r e):=by
 cases r with
 | nil=>exact he
 | cons p r=>exact ⟨hG,(hr p List.mem_cons_self).1⟩
theorem okD {r:List SS} (hr:OkR r) (k:Nat):OkR (r.drop k):=fun p hp=>hr p (List.mem_of_mem_drop hp)
theorem ip {r:List SS} {i:Nat} {p:SS} (h:r[i]? = some p):atI (rdD r) (i:Int)=some (enD p):=eY (by unfold rdD; rw [List.getElem?_map,h]; rfl)
def alC:FT:=(cz (au (ae ltD (aa 2) (fCB iX (ab (fCB aF (ab (aa 0) ag)) (ab (fCB aF (ab (aa 1) ag)) ag))))) (au (ae eqG (ae ixD (aa 0) (aa 2)) (ae ixD (aa 1) (aa 2)))))
def alB:FS:=(aE 2 (ae az (aa 2) (fC (.int 1))))
theorem rK (r s:List SS) (hr0:OkR r) (hs0:OkR s) (T:Tp):∀ (m i:Nat),i≤r.length→i≤s.length→r.length - i < m →
  bc alC alB m [some (.d (.tuple (rdD r))),some (.d (.tuple (rdD s))),some (.d (.int i))] T=some ((.nx,[some (.d (.tuple (rdD r))),some (.d (.tuple (rdD s))),some (.d (.int ((i + cpl (r.drop i) (s.drop i):Nat):Int)))]),T)
 | 0,_,_,_,h=>by omega
 | m + 1,i,h1,h2,h3=>by
  have l1:(rdD r).length=r.length:=by simp [rdD]
  have l2:(rdD s).length=s.length:=by simp [rdD]
  by_cases hr:i < r.length∧i < s.length
  ·have e1:r[i]? = some r[i]:=List.getElem?_eq_getElem hr.1
   have e2:s[i]? = some s[i]:=List.getElem?_eq_getElem hr.2
   have d1:r.drop i=r[i]::r.drop (i + 1):=List.drop_eq_getElem_cons hr.1
   have d2:s.drop i=s[i]::s.drop (i + 1):=List.drop_eq_getElem_cons hr.2
   have mp:((i:Int) < if s.length < r.length then (s.length:Int) else (r.length:Int)):=by split <;> omega
   have k1:=hr0 _ (List.mem_of_getElem? e1)
   have k2:=hs0 _ (List.mem_of_getElem? e2)
   have eg:=nF k1 k2
   by_cases hq:r[i]=s[i]
   ·have ih:=rK r s hr0 hs0 T m (i + 1) hr.1 hr.2 (by omega)
    have ec:alC [some (.d (.tuple (rdD r))),some (.d (.tuple (rdD s))),some (.d (.int i))] T=some (true,T):=by
     have eg':=nF k2 k2
     simp [alC,l1,l2,mp,ip e1,ip e2,hq,eg']
    have eb:alB [some (.d (.tuple (rdD r))),some (.d (.tuple (rdD s))),some (.d (.int i))] T=some ((.nx,[some (.d (.tuple (rdD r))),some (.d (.tuple (rdD s))),some (.d (.int ((i + 1:Nat):Int)))]),T):=by
     simp [alB]
    have ed:i + 1 + cpl (r.drop (i + 1)) (s.drop (i + 1))=i + cpl (r.drop i) (s.drop i):=by
     rw [d1,d2]
     conv=>rhs; unfold cpl
     rw [if_pos hq]
     omega
    rw [ed] at ih
    unfold bc
    rw [ec,jB,if_pos rfl,eb,jB]
    exact ih
   ·have ec:alC [some (.d (.tuple (rdD r))),some (.d (.tuple (rdD s))),some (.d (.int i))] T=some (false,T):=by
     simp [alC,l1,l2,mp,ip e1,ip e2,eg,hq]
    have ed:cpl (r.drop i) (s.drop i)=0:=by
     rw [d1,d2]
     unfold cpl
     rw [if_neg hq]
    unfold bc
    rw [ec,jB,if_neg Bool.false_ne_true,ed]
    rfl
  ·have mp:¬ ((i:Int) < if s.length < r.length then (s.length:Int) else (r.length:Int)):=by split <;> omega
   have ec:alC [some (.d (.tuple (rdD r))),some (.d (.tuple (rdD s))),some (.d (.int i))] T=some (false,T):=by
    simp [alC,l1,l2,mp]
   have ed:cpl (r.drop i) (s.drop i)=0:=by
    by_cases h:i < r.length
    ·rw [List.drop_eq_nil_of_le (show s.length≤i by omega)]
     cases r.drop i <;> rfl
    ·rw [List.drop_eq_nil_of_le (show r.length≤i by omega)]
     rfl
   unfold bc
   rw [ec,jB,if_neg Bool.false_ne_true,ed]
   rfl
theorem Ar (r s:List SS) (T:Tp) (hr0:OkR r) (hs0:OkR s) (h:r.length≤1000):iE [.d (.tuple (rdD r)),.d (.tuple (rdD s))] T=some (.int (cpl r s),T):=by
 have e:=rK r s hr0 hs0 T 100000 0 (Nat.zero_le _) (Nat.zero_le _) (by omega)
 have e0:iE=aX 3 (ak (aE 2 (fC (.int 0))) (ak (bc alC alB 100000) (av (aa 2)))):=rfl
 simp only [List.drop_zero,Nat.zero_add,Int.natCast_zero] at e
 simp [e0,e]
theorem at3 {α:Type} {a b c:α}:atI [a,b,c] 0=some a∧atI [a,b,c] 1=some b∧atI [a,b,c] 2=some c:=⟨rfl,rfl,rfl⟩
theorem aY {α:Type} {a b:α}:atI [a,b] 0=some a∧atI [a,b] 1=some b:=⟨rfl,rfl⟩
theorem kS (n:Str) (r:List SS) (e:SS) (k:Nat) (T:Tp):dJ [.d (lnD n r e),.d (.int k)] T=some (enD (nxt (r.drop k) e),T):=by
 have l1:(rdD r).length=r.length:=by simp [rdD]
 by_cases h:k < r.length
 ·have e1:r[k]? = some r[k]:=List.getElem?_eq_getElem h
  have d1:r.drop k=r[k]::r.drop (k + 1):=List.drop_eq_getElem_cons h
  rw [d1]
  have ix:=ip e1
  generalize r[k]=p at ix
  have h':(k:Int) < (r.length:Int):=by omega
  simp [dJ,lnD,at3,l1,h,ix,nxt,enD,aY]
 ·rw [List.drop_eq_nil_of_le (by omega)]
  simp [dJ,lnD,at3,l1,h,nxt,enD]
theorem BZ (n m:Str) (r s:List SS) (e f:SS) (T:Tp) (h:r.length≤1000) (hr0:OkR r) (hs0:OkR s) (he:OkE e) (hf:OkE f):gb [.d (lnD n r e),.d (lnD m s f)] T=some (.bool (bK r e s f),T):=by
 have a:=Ar r s T hr0 hs0 h
 have ng:=nu (okN (okD hr0 (cpl r s)) he) (okN (okD hs0 (cpl r s)) hf)
 have i1:∀ (n:Str) (r:List SS) (e:SS),ixD (lnD n r e) (.int 1)=some (.tuple (rdD r)):=fun _ _ _=>rfl
 have d:(!decide (nxt (r.drop (cpl r s)) e=nxt (s.drop (cpl r s)) f))=bK r e s f:=by
  unfold bK
  exact (decide_not).symm
 simp [gb,i1,a,kS,ng,d]
def stD (p:SS):PyData:=.tuple [enD (Str.ofString "wants",p.1),.str p.2]
def lsD (e:SS):PyData:=.tuple [enD e,.none]
theorem rO (n:Str) (r:List SS) (e:SS) (T:Tp) (h:r.length≤1000):f7 [.d (lnD n r e)] T=some (.list (r.map stD++[lsD e]),T):=by
 have i1:ixD (lnD n r e) (.int 1)=some (.tuple (rdD r)):=rfl
 have i2:ixD (lnD n r e) (.int 2)=some (enD e):=rfl
 have c:∀ (ρ:Rho) (r:List SS),fL a6 (ao .tuple (ab (ao .tuple (ab (fC (.str "wants")) (ab (aa 0) ag))) (ab (aa 1) ag))) ρ (rdD r) T=some (r.map stD,T):=fun ρ r=>by
  induction r with
  | nil=>rfl
  | cons p r ih=>
   have e0:rdD (p::r)=.tuple [.str p.1,.str p.2]::rdD r:=rfl
   rw [e0]
   unfold fL
   simp [ih]
   rfl
 have z:r.length + 1≤sizeLine:=by
  have:sizeLine=16777216:=by decide
  omega
 have fc:∀ {it:FI} {c:FT} {f:FE} {ρ:Rho} {T:Tp},nA it c f ρ T=bnd (it ρ T) fun ds T1=>bnd (fL c f ρ ds T1) fun ys T2=>some (.d (.list ys),T2):=rfl
 have ls:PyData.tuple [enD e,.none]=lsD e:=rfl
 simp [f7,fc,i1,i2,c,z,ls]
def odB:FS:=(ak (fIf (au (ae neG (ae ixD (aa 2) (fC (.int 0))) (ae ixD (aa 3) (fC (.int 0))))) (av (fC (.bool true))) aC) (fIf (au (ae neG (ae ixD (aa 2) (fC (.int 1))) (ae ixD (aa 3) (fC (.int 1))))) (av (fC (.bool false))) aC))
theorem kj {a b:SS} (ha:OkE a) (hb:OkE b) (x y:PyData) (c:Bool) (h:neG x y=some (.bool c)) (A B:W) (u v:Option W) (T:Tp):odB [some A,some B,some (.d (.tuple [enD a,x])),some (.d (.tuple [enD b,y]))] T =
  if a≠b then some ((.rt (.bool true),[some A,some B,some (.d (.tuple [enD a,x])),some (.d (.tuple [enD b,y]))]),T) else if c=true then some ((.rt (.bool false),[some A,some B,some (.d (.tuple [enD a,x])),some (.d (.tuple [enD b,y]))]),T) else some ((.nx,[some A,some B,some (.d (.tuple [enD a,x])),some (.d (.tuple [enD b,y]))]),T):=by
 by_cases hab:a=b
 ·subst hab
  cases c <;> simp [odB,aY,nu ha hb,h]
 ·cases c <;> simp [odB,aY,nu ha hb,h,hab]
theorem qM (A B:W) (T:Tp):∀ (r s:List SS) (e f:SS) (u v:Option W),OkR r→OkR s→OkE e→OkE f→∃ ρ',bnd (dt 2 3 odB (r.map stD++[lsD e]) (s.map stD++[lsD f]) [some A,some B,u,v] T) (cZ (av (fC (.bool false))))=some ((.rt (.bool (bK r e s f)),ρ'),T)
 | [],[],e,f,u,v,hr,hs,he,hf=>by
  have t:=kj he hf .none .none false Bn A B u v T
  refine ⟨[some A,some B,some (.d (lsD e)),some (.d (lsD f))],?_⟩
  simp only [List.map_nil,List.nil_append,lsD]
  unfold dt
  by_cases h:e=f
  ·have o:bK [] e [] f=false:=by rw [h]; exact l9 _ _
   rw [o]
   simp only [h,ne_eq,not_true_eq_false,if_false,Bool.false_eq_true] at t
   simp [h,t,dt]
  ·have o:bK [] e [] f=true:=by simp [bK,nxt,h]
   rw [o]
   simp only [h,ne_eq,not_false_eq_true,if_true] at t
   simp [t]
 | [],q::s,e,f,u,v,hr,hs,he,hf=>by
  have kq:=hs q List.mem_cons_self
  have t:=kj he (b:=(Str.ofString "wants",q.1)) ⟨hG,kq.1⟩ .none (.str q.2) true (Bm kq.2) A B u v T
  have o:bK [] e (q::s) f=decide (e≠(Str.ofString "wants",q.1)):=by simp [bK,nxt,cpl]
  refine ⟨[some A,some B,some (.d (lsD e)),some (.d (stD q))],?_⟩
  rw [o]
  simp only [List.map_nil,List.nil_append,List.map_cons,List.cons_append,lsD,stD]
  unfold dt
  by_cases h:e=(Str.ofString "wants",q.1)
  ·simp only [h,ne_eq,not_true_eq_false,if_false,if_true] at t
   simp [h,t]
  ·simp only [h,ne_eq,not_false_eq_true,if_true] at t
   simp [h,t]
 | p::r,[],e,f,u,v,hr,hs,he,hf=>by
  have kp:=hr p List.mem_cons_self
  have t:=kj (a:=(Str.ofString "wants",p.1)) ⟨hG,kp.1⟩ hf (.str p.2) .none true (Bl kp.2) A B u v T
  have o:bK (p::r) e [] f=decide ((Str.ofString "wants",p.1)≠f):=by simp [bK,nxt,cpl]
  refine ⟨[some A,some B,some (.d (stD p)),some (.d (lsD f))],?_⟩
  rw [o]
  simp only [List.map_nil,List.nil_append,List.map_cons,List.cons_append,lsD,stD]
  unfold dt
  by_cases h:(Str.ofString "wants",p.1)=f
  ·simp only [h,ne_eq,not_true_eq_false,if_false,if_true] at t
   simp [h,t]
  ·simp only [h,ne_eq,not_false_eq_true,if_true] at t
   simp [h,t]
 | p::r,q::s,e,f,u,v,hr,hs,he,hf=>by
  have kp:=hr p List.mem_cons_self
  have kq:=hs q List.mem_cons_self
  have t:=kj (a:=(Str.ofString "wants",p.1)) (b:=(Str.ofString "wants",q.1)) ⟨hG,kp.1⟩ ⟨hG,kq.1⟩ (.str p.2) (.str q.2) _ (zK kp.2 kq.2) A B u v T
  simp only [List.map_cons,List.cons_append]
  by_cases h1:p.1=q.1
  ·by_cases h2:p.2=q.2
   ·have hp:p=q:=Prod.ext h1 h2
    subst hp
    obtain ⟨ρ',ih⟩:=qM A B T r s e f (some (.d (stD p))) (some (.d (stD p))) (fun x hx=>hr x (List.mem_cons_of_mem _ hx)) (fun x hx=>hs x (List.mem_cons_of_mem _ hx)) he hf
    refine ⟨ρ',?_⟩
    rw [md,← ih]
    have t':odB [some A,some B,some (.d (stD p)),some (.d (stD p))] T=some ((.nx,[some A,some B,some (.d (stD p)),some (.d (stD p))]),T):=by
     unfold stD
     rw [t]
     simp
    conv=>lhs; unfold dt
    simp [t']
   ·have o:bK (p::r) e (q::s) f=false:=by
     have hp:p≠q:=fun z=>h2 (by rw [z])
     simp [bK,cpl,hp,nxt,h1]
    refine ⟨[some A,some B,some (.d (stD p)),some (.d (stD q))],?_⟩
    rw [o]
    unfold dt
    simp only [stD]
    simp only [h1,h2,ne_eq,not_true_eq_false,if_false,decide_false,Bool.not_false,if_true] at t
    simp [h1,t]
  ·have o:bK (p::r) e (q::s) f=true:=by
    have hp:p≠q:=fun z=>h1 (by rw [z])
    simp [bK,cpl,hp,nxt,h1]
   refine ⟨[some A,some B,some (.d (stD p)),some (.d (stD q))],?_⟩
   rw [o]
   unfold dt
   simp only [stD]
   simp [t,h1]
theorem Ap (n m:Str) (r s:List SS) (e f:SS) (T:Tp) (h:r.length≤1000) (h':s.length≤1000) (hr0:OkR r) (hs0:OkR s) (he:OkE e) (hf:OkE f):f9 [.d (lnD n r e),.d (lnD m s f)] T=some (.bool (bK r e s f),T):=by
 obtain ⟨ρ',l⟩:=qM (.d (lnD n r e)) (.d (lnD m s f)) T r s e f none none hr0 hs0 he hf
 have e0:f9=aX 4 (ak (ll 2 3 (ar f7 (ab (aa 0) ag)) (ar f7 (ab (aa 1) ag)) odB) (av (fC (.bool false)))):=rfl
 have fz:∀ {i j:Nat} {f g:FE} {body:FS} {ρ:Rho} {T:Tp},ll i j f g body ρ T=bnd (f ρ T) fun w T1=>bnd (g ρ T1) fun u T2=>lj i j body ρ w u T2:=rfl
 have fk:∀ {i j:Nat} {body:FS} {ρ:Rho} {xs ys:List PyData} {T:Tp},lj i j body ρ (.d (.list xs)) (.d (.list ys)) T=dt i j body xs ys ρ T:=rfl
 simp only [e0,lm,j4,j5,if_true,sN,fz,zZ,zX,yl,List.map_cons,List.map_nil,List.cons_append,List.nil_append,BH,jB,zU,zT,rO n r e T h,rO m s f T h',fk]
 show dS (bnd (dt 2 3 odB _ _ [some (.d (lnD n r e)),some (.d (lnD m s f)),none,none] T) _)=_
 rw [l]
 rfl
theorem sz:sizeLine=16777216:=by decide
theorem in3 {r:Int} (h0:0≤r) (h1:r < 3):r=0∨r=1∨r=2:=by omega
theorem in7 {r:Int} (h0:0≤r) (h1:r < 7):r=0∨r=1∨r=2∨r=3∨r=4∨r=5∨r=6:=by omega
theorem in8 {r:Int} (h0:0≤r) (h1:r < 8):r=0∨r=1∨r=2∨r=3∨r=4∨r=5∨r=6∨r=7:=by omega
def fzO (o:Option W):Option W:=(cg [o]).headD none
theorem cT {o:Option W} {r:Rho}:cg (o::r)=fzO o::cg r:=rfl
@[simp] theorem GN:fzO none=none:=rfl
@[simp] theorem GP {x:PyData}:fzO (some (.d x))=some (.d x):=rfl
@[simp] theorem GO {x:PyData}:fzO (some (.loc x))=some (.d x):=rfl
def olB:FS:=(ak (aE 4 (ae ixD (ao .list (ab (fC (.str "a")) (ab (fC (.str "a")) (ab (fC (.str "ab")) (ab (fC (.str "b")) ag))))) (ar aU (ab (aa 0) (ab (ae az (ae az (aa 1) (fC (.int 1))) (ae bo (fC (.int 2)) (aa 3))) (ab (fC (.int 4)) ag)))))) (cj 2 (ao .tuple (ab (aa 4) (ab (ae ixD (ao .list (ab (fC (.str "1")) (ab (fC (.str "'a")) (ab (fC (.str "()")) ag)))) (ar aU (ab (aa 0) (ab (ae az (ae az (aa 1) (fC (.int 2))) (ae bo (fC (.int 2)) (aa 3))) (ab (fC (.int 3)) ag))))) ag)))))
def nmL:List Str:=["a","ab","b"]
def stL:List Str:=["1","'a","()"]
def iw:List SS:=[(Str.ofString "made",Str.ofString "1"),(Str.ofString "made",Str.ofString "'"),(Str.ofString "fails",Str.ofString "a"),(Str.ofString "fails",Str.ofString "ab"),(Str.ofString "wants",Str.ofString "a"),(Str.ofString "wants",Str.ofString "b"),(Str.ofString "wants",Str.ofString "ab")]
theorem qL (ns:List Int) (k:Int) (T:Tp) (hk:0≤k) (hk':k≤90000) (hl:ns.length≤63):∀ (ds:List PyData),(∀ d∈ds,∃ i:Int,d=.int i∧0≤i∧i < 4)→∀ (rs:List SS) (a b:Option W),rs.length + ds.length≤1000 →
  ∃ more a' b',forL 3 olB ds [some (.d (aS ns)),some (.d (.int k)),some (.loc (.list (rdD rs))),a,b,none] T=some ((.nx,[some (.d (aS ns)),some (.d (.int k)),some (.loc (.list (rdD (rs++more)))),a',b',none]),T)∧more.length=ds.length∧∀ p∈more,p.1∈nmL∧p.2∈stL
 | [],_,rs,a,b,_=>⟨[],a,b,by simp [forL],rfl,fun p hp=>by cases hp⟩
 | d::ds,h,rs,a,b,hz=>by
  obtain ⟨i,rfl,h0,h1⟩:=h d List.mem_cons_self
  obtain ⟨r1,e1,a1,b1⟩:=bZ ns (k + 1 + 2 * i) 4 T
  obtain ⟨r2,e2,a2,b2⟩:=bZ ns (k + 2 + 2 * i) 3 T
  have hn:∃ n:Str,atI [PyData.str "a",.str "a",.str "ab",.str "b"] r1=some (.str n)∧n∈nmL:=by
   rcases in4 a1 b1 with rfl | rfl | rfl | rfl <;> exact ⟨_,rfl,by simp [nmL]⟩
  have hs:∃ n:Str,atI [PyData.str "1",.str "'a",.str "()"] r2=some (.str n)∧n∈stL:=by
   rcases in3 a2 b2 with rfl | rfl | rfl <;> exact ⟨_,rfl,by simp [stL]⟩
  obtain ⟨n,en,on⟩:=hn
  obtain ⟨s,es,os⟩:=hs
  obtain ⟨more,a',b',e,l,o⟩:=qL ns k T hk hk' hl ds (fun x hx=>h x (List.mem_cons_of_mem _ hx)) (rs++[(n,s)]) (some (.d (.int i))) (some (.d (.str n))) (by simp at hz ⊢; omega)
  refine ⟨(n,s)::more,a',b',?_,by simp [l],fun p hp=>?_⟩
  ·have z:(rdD rs).length < sizeLine:=by rw [sz]; simp [rdD] at hz ⊢; omega
   have hm:(-18446744073709551616 < i∧i < 18446744073709551616):=by omega
   have rr:rdD rs++[.tuple [.str n,.str s]]=rdD (rs++[(n,s)]):=by simp [rdD,enD]
   have eb:olB [some (.d (aS ns)),some (.d (.int k)),some (.loc (.list (rdD rs))),some (.d (.int i)),b,none] T=some ((.nx,[some (.d (aS ns)),some (.d (.int k)),some (.loc (.list (rdD (rs++[(n,s)])))),some (.d (.int i)),some (.d (.str n)),none]),T):=by
    simp [olB,e1,e2,en,es,z,rr]
   unfold forL
   simp only [List.append_assoc,List.singleton_append] at e
   simp [eb,e]
  ·rcases List.mem_cons.mp hp with z | z
   ·subst z; exact ⟨on,os⟩
   ·exact o p z
def tO:List PyData:=[enD (Str.ofString "made",Str.ofString "1"),enD (Str.ofString "made",Str.ofString "'"),enD (Str.ofString "fails",Str.ofString "a"),enD (Str.ofString "fails",Str.ofString "ab"),enD (Str.ofString "wants",Str.ofString "a"),enD (Str.ofString "wants",Str.ofString "b"),enD (Str.ofString "wants",Str.ofString "ab")]
theorem z5 {r:Int} (h0:0≤r) (h1:r < 7):∃ e,atI tO r=some (enD e)∧e∈iw:=by rcases in7 h0 h1 with rfl | rfl | rfl | rfl | rfl | rfl | rfl <;> exact ⟨_,rfl,by simp [iw]⟩
structure Lne (n:Str) (r:List SS) (e:SS):Prop where
 nm:Lo n
 rd:∀ p∈r,p.1∈nmL∧p.2∈stL
 en:e∈iw
 few:r.length≤10
theorem B0 (ns:List Int) (k:Int) (T:Tp) (hk:0≤k:=by omega) (hk':k≤80000:=by omega) (hl:ns.length≤63:=by omega):∃ n r e,cS [.d (aS ns),.d (.int k)] T=some (lnD n r e,T)∧Lne n r e∧r.length≤3:=by
 obtain ⟨m,em,am,bm⟩:=bZ ns k 4 T
 obtain ⟨r8,e8,a8,b8⟩:=bZ ns (k + 8) 3 T
 obtain ⟨r9,e9,a9,b9⟩:=bZ ns (k + 9) 7 T
 obtain ⟨e,ee,oe⟩:=z5 a9 b9
 have hn:∃ n:Str,atI [PyData.str "x",.str "y",.str "x"] r8=some (.str n)∧Lo n:=by
  rcases in3 a8 b8 with rfl | rfl | rfl <;> exact ⟨_,rfl,cx (by decide +kernel)⟩
 obtain ⟨n,en,on⟩:=hn
 obtain ⟨more,a',b',ef,lf,of⟩:=qL ns k T hk (by omega) hl (cb 0 m.toNat) (fun d hd=>by
  obtain ⟨i,rfl,h1,h2⟩:=iL hd
  exact ⟨i,rfl,h1,by omega⟩) [] none none (by rw [eE]; simp; omega)
 rw [eE] at lf
 have hr:cD m=true:=eT (by omega) (by omega)
 refine ⟨n,more,e,?_,⟨on,of,oe,by omega⟩,by omega⟩
 have z:∀ {n:Nat},n≤6→n < sizeLine:=fun h=>by rw [sz]; omega
 unfold tO enD at ee
 dsimp only at ee
 unfold olB at ef
 have r0:rdD []=[]:=rfl
 simp only [r0,List.nil_append] at ef
 have hz:(6:Nat) < sizeLine:=by decide
 simp [cT,cS,em,hr,ef,e8,en,e9,hz,ee,lnD,enD]
theorem rC {α β:Type} (f:α→β) (l:List α) (lo hi:Option Int):bv (l.map f) lo hi=(bv l lo hi).map f:=by
 unfold bv
 rw [List.length_map,List.map_take,List.map_drop]
theorem rq {α:Type} {l:List α} {lo hi:Option Int} {x:α} (h:x∈bv l lo hi):x∈l:=List.mem_of_mem_drop (List.mem_of_mem_take h)
theorem mW {α:Type} (l:List α) (lo hi:Option Int):(bv l lo hi).length≤l.length:=by
 unfold bv
 simp
 omega
theorem BU (r:List SS) (lo hi:Option Int):bv (rdD r) lo hi=rdD (bv r lo hi):=rC enD r lo hi
theorem eZ (r:List SS):(rdD r).length=r.length:=by simp [rdD]
theorem Bj {r s:List SS} (h:OkR r) (g:OkR s):OkR (r++s):=fun p hp=>(List.mem_append.mp hp).elim (h p) (g p)
theorem len_app (a b:Str):(a++b).length=a.length + b.length:=by
 show (a++b).cps.size=_
 rw [PySem.Str.cps_append,Array.size_append]
 rfl
theorem join_le (z:Str):∀ xs:List Str,(Str.join z xs).length≤(xs.map Str.length).sum + xs.length * z.length
 | []=>by
  have:(Str.join z []).length=0:=rfl
  omega
 | [a]=>by
  have:(Str.join z [a]).length=a.length:=rfl
  simp [this]
 | a::b::r=>by
  have ih:=join_le z (b::r)
  have e:Str.join z (a::b::r)=a++z++Str.join z (b::r):=rfl
  rw [e,len_app,len_app]
  simp only [List.map_cons,List.sum_cons,List.length_cons,Nat.add_mul,Nat.one_mul] at ih ⊢
  omega
theorem rW {B:Nat} {xs:List Str} (h:∀ x∈xs,x.length≤B):(xs.map Str.length).sum≤B * xs.length:=by
 induction xs with
 | nil=>simp
 | cons a r ih=>
  have h1:=h a List.mem_cons_self
  have h2:=ih fun x hx=>h x (List.mem_cons_of_mem _ hx)
  simp only [List.map_cons,List.sum_cons,List.length_cons,Nat.mul_add,Nat.mul_one]
  omega
inductive Vt:Nat→PyData→Prop where
 | int {n:Nat} {i:Int}:i.natAbs≤5000000000000000000→Vt n (.int i)
 | str {n:Nat} {x:Str}:x.length≤40→Lo x→Vt n (.str x)
 | tup {n:Nat} {ds:List PyData}:ds.length≤8→(∀ d∈ds,Vt n d)→Vt (n + 1) (.tuple ds)
theorem Vt.up {n m:Nat} {v:PyData} (h:Vt n v) (l:n≤m):Vt m v:=by
 induction h generalizing m with
 | int h=>exact .int h
 | str h g=>exact .str h g
 | tup h g ih=>
  obtain ⟨k,rfl⟩:∃ k,m=k + 1:=⟨m - 1,by omega⟩
  exact .tup h fun d hd=>ih d hd (by omega)
def stp:Nat→PyData→Str
 | _,.int i=>Str.ofString (toString i)
 | _,.str x=>Str.ofString "'"++x
 | n + 1,.tuple ds=>Str.ofString "("++Str.join "," (ds.map (stp n))++Str.ofString ")"
 | _,_=>Str.ofString ""
theorem int_text {i:Int} (h:i.natAbs≤5000000000000000000):(Str.ofString (toString i)).length≤60∧Lo (Str.ofString (toString i)):=by
 constructor
 ·have e:=int_text_length_le10 (a:=i) (k:=19) (by decide) (Nat.lt_of_le_of_lt h (by decide))
  rw [PySem.ofString_length]
  omega
 ·intro c hc
  rw [signs_ofString] at hc
  obtain ⟨d,hd,rfl⟩:=List.mem_map.mp hc
  exact int_ascii i d hd
theorem lg {i:Int} (h:i.natAbs≤5000000000000000000):i.natAbs.log2 < 1920:=by
 by_cases z:i.natAbs=0
 ·rw [z]; decide
 ·exact Nat.lt_of_lt_of_le ((Nat.log2_lt (k:=64) z).mpr (Nat.lt_of_le_of_lt h (by decide))) (by decide)
theorem iR {n:Nat} {v:PyData} (h:Vt n v):∀ m,n≤m→(stp m v).length≤60 * 10 ^ n∧Lo (stp m v):=by
 induction h with
 | @int n i h=>
  intro m hm
  have e:stp m (.int i)=Str.ofString (toString i):=by cases m <;> rfl
  rw [e]
  have p:1≤10 ^ n:=Nat.one_le_pow _ _ (by decide)
  have:=int_text h
  exact ⟨by omega,this.2⟩
 | @str n x h g=>
  intro m hm
  have e:stp m (.str x)=Str.ofString "'"++x:=by cases m <;> rfl
  rw [e,len_app]
  have p:1≤10 ^ n:=Nat.one_le_pow _ _ (by decide)
  have:(Str.ofString "'").length=1:=by decide
  exact ⟨by omega,(cx (by decide +kernel)).app g⟩
 | @tup n ds h g ih=>
  intro m hm
  obtain ⟨k,rfl⟩:∃ k,m=k + 1:=⟨m - 1,by omega⟩
  have e:stp (k + 1) (.tuple ds)=Str.ofString "("++Str.join "," (ds.map (stp k))++Str.ofString ")":=rfl
  rw [e,len_app,len_app]
  have c1:(Str.ofString ",").length=1:=by decide
  have c2:(Str.ofString "(").length=1:=by decide
  have c3:(Str.ofString ")").length=1:=by decide
  have j:=join_le "," (ds.map (stp k))
  have s:=rW (B:=60 * 10 ^ n) (xs:=ds.map (stp k)) fun x hx=>by
   obtain ⟨d,hd,rfl⟩:=List.mem_map.mp hx
   exact (ih d hd k (by omega)).1
  rw [c1,List.length_map] at j
  rw [List.length_map] at s
  have p:1≤10 ^ n:=Nat.one_le_pow _ _ (by decide)
  have s2:60 * 10 ^ n * ds.length≤60 * 10 ^ n * 8:=Nat.mul_le_mul_left _ h
  have pe:10 ^ (n + 1)=10 ^ n * 10:=Nat.pow_succ _ _
  refine ⟨by rw [pe]; omega,((cx (by decide +kernel)).app (Lo.join (cx (by decide +kernel)) fun x hx=>?_)).app (cx (by decide +kernel))⟩
  obtain ⟨d,hd,rfl⟩:=List.mem_map.mp hx
  exact (ih d hd k (by omega)).2
theorem dP:bO .str .str=true:=rfl
theorem jx:bO .tup .str=false:=rfl
theorem kN:bO .int .str=false:=rfl
theorem sD:bO .int .bl=false:=rfl
theorem cu:bO .int .int=true:=rfl
theorem cE:bO .str .int=false:=rfl
theorem cO:bO .tup .int=false:=rfl
theorem kM:bO .int .tup=false:=rfl
theorem sC:bO .str .tup=false:=rfl
theorem isi_tt:bO .tup .tup=true:=rfl
theorem zV {i:Int} (h:i.natAbs.log2 < 1920):jQ [.int i]=some (.str (Str.ofString (toString i))):=if_pos h
theorem yk {z:Str} {xs:List PyData} {ys:List Str} (h:gp xs=some ys):i5 (.str z) (.list xs)=if (ys.map Str.length).sum + ys.length * z.length≤16777216 then some (.str (Str.join z ys)) else none:=by
 show (match gp xs with | some ys=>if (ys.map Str.length).sum + ys.length * z.length≤16777216 then some (PyData.str (Str.join z ys)) else none | none=>none)=_
 rw [h]
theorem AG {f:FnM} {ds:List PyData} {k:Nat} {t:Str} {T:Tp} (c:bh a6 (ar f (ab (aa 0) ag)) [some (.d (.tuple ds))] ds T=some (ds.map fun d=>.str (stp k d),T)) (j:i5 (.str ",") (.list (ds.map fun d=>.str (stp k d)))=some (.str t))
  (z1:(Str.ofString "(").length + t.length≤sizeLine) (z2:(Str.ofString "("++t).length + (Str.ofString ")").length≤sizeLine) :
  aX 1 (ak (fIf (aR (fUn (bi .int) (aa 0))) (av (fCB jQ (ab (aa 0) ag))) aC) (ak (fIf (aR (fUn (bi .str) (aa 0))) (av (ae az (fC (.str "'")) (aa 0))) aC) (av (ae az (ae az (fC (.str "(")) (ae i5 (fC (.str ",")) (bf (br (aa 0)) a6 (ar f (ab (aa 0) ag))))) (fC (.str ")")))))) [.d (.tuple ds)] T=some (.str (Str.ofString "("++t++Str.ofString ")"),T):=by simp [cO,jx,c,j,z1,z2]
theorem js {n:Nat} {v:PyData} (h:Vt n v) (h5:n≤4):∀ (m:Nat) (T:Tp),n≤m→bN (m + 1) [.d v] T=some (.str (stp m v),T):=by
 induction h with
 | @int n i h=>
  intro m T hm
  have e:stp m (.int i)=Str.ofString (toString i):=by cases m <;> rfl
  rw [e]
  have q:=zV (lg h)
  generalize Str.ofString (toString i)=t at q
  simp [bN,cu,q]
 | @str n x h g=>
  intro m T hm
  have e:stp m (.str x)=Str.ofString "'"++x:=by cases m <;> rfl
  rw [e]
  have z:(Str.ofString "'").length + x.length≤sizeLine:=by rw [show (Str.ofString "'").length=1 by decide,sz]; omega
  simp [bN,cE,dP,z]
 | @tup n ds h g ih=>
  intro m T hm
  obtain ⟨k,rfl⟩:∃ k,m=k + 1:=⟨m - 1,by omega⟩
  have o:=iR (.tup h g) (k + 1) hm
  have e:stp (k + 1) (.tuple ds)=Str.ofString "("++Str.join "," (ds.map (stp k))++Str.ofString ")":=rfl
  rw [e,len_app,len_app] at o
  rw [e]
  have c:bh a6 (ar (bN (k + 1)) (ab (aa 0) ag)) [some (.d (.tuple ds))] ds T=some (ds.map fun d=>.str (stp k d),T):=gc (g:=fun d=>.str (stp k d)) fun d hd=>by
   simp [ih d hd (by omega) k T (by omega)]
  have p:10 ^ (n + 1)≤10000:=Nat.le_trans (Nat.pow_le_pow_right (by decide) h5) (by decide)
  have j:=yk (z:=Str.ofString ",") (show gp (ds.map fun d=>.str (stp k d))=some (ds.map (stp k)) from o3 (stp k) ds)
  have s:=rW (B:=600000) (xs:=ds.map (stp k)) fun x hx=>by
   obtain ⟨d,hd,rfl⟩:=List.mem_map.mp hx
   have q:=(iR (g d hd) k (by omega)).1
   have p':10 ^ n≤10000:=Nat.le_trans (Nat.pow_le_pow_right (by decide) (show n≤4 by omega)) (by decide)
   omega
  rw [List.length_map] at s
  rw [if_pos (by rw [List.length_map,show (Str.ofString ",").length=1 by decide]; omega)] at j
  have z1:(Str.ofString "(").length + (Str.join "," (ds.map (stp k))).length≤sizeLine:=by rw [sz]; omega
  have z2:(Str.ofString "("++Str.join "," (ds.map (stp k))).length + (Str.ofString ")").length≤sizeLine:=by rw [sz,len_app]; omega
  exact AG c j z1 z2
theorem BD {f:FnM} {ds:List PyData} {k:Int} {p:PyData→Bool} {T:Tp} (h4:k < 4) (h8:ds.length≤8) (c:bh a6 (ar f (ab (aa 0) (ab (ae az (aa 2) (fC (.int 1))) ag))) [some (.d (.tuple ds)),some (.d (.int k))] ds T=some (ds.map fun d=>.bool (p d),T)) :
  aX 2 (ak (fIf (aR (fUn (bi .tup) (aa 0))) (av (bI (ae ltD (aa 1) (fC (.int 4))) (bI (ae leD (fCB aF (ab (aa 0) ag)) (fC (.int 8))) (fCB dv (ab (bf (br (aa 0)) a6 (ar f (ab (aa 0) (ab (ae az (aa 2) (fC (.int 1))) ag)))) ag))))) aC) (ak (fIf (aR (fUn (bi .str) (aa 0))) (av (ae leD (fCB aF (ab (aa 0) ag)) (fC (.int 20)))) aC) (av (d7 leD leD (fUn gT (ae gC (fC (.int 10)) (fC (.int 18)))) (aa 0) (ae gC (fC (.int 10)) (fC (.int 18))))))) [.d (.tuple ds),.d (.int k)] T=some (.bool (ds.all p),T):=by
 have h8':((ds.length:Int)≤8):=by omega
 simp [isi_tt,h4,h8,h8',c]
theorem sZ {n:Nat} {v:PyData} (h:Vt n v):∀ (m:Nat) (k:Int),n≤m→∃ b,∀ T,bV (m + 1) [.d v,.d (.int k)] T=some (.bool b,T):=by
 induction h with
 | @int n i h=>
  intro m k hm
  by_cases h1 : -1000000000000000000≤i
  ·exact ⟨decide (i≤1000000000000000000),fun T=>by simp [bV,kM,kN,h1]⟩
  ·exact ⟨false,fun T=>by simp [bV,kM,kN,h1]⟩
 | @str n x h g=>
  intro m k hm
  have z:x.length≤sizeLine:=by rw [sz]; omega
  exact ⟨decide ((x.length:Int)≤20),fun T=>by simp [bV,sC,dP,z]⟩
 | @tup n ds h g ih=>
  intro m k hm
  obtain ⟨q,rfl⟩:∃ q,m=q + 1:=⟨m - 1,by omega⟩
  by_cases h4:k < 4
  ·have c:∃ p:PyData→Bool,∀ T,bh a6 (ar (bV (q + 1)) (ab (aa 0) (ab (ae az (aa 2) (fC (.int 1))) ag))) [some (.d (.tuple ds)),some (.d (.int k))] ds T=some (ds.map fun d=>.bool (p d),T):=by
    have hc:∀ d,∃ b,d∈ds→∀ T,bV (q + 1) [.d d,.d (.int (k + 1))] T=some (.bool b,T):=fun d=>by
     by_cases hd:d∈ds
     ·obtain ⟨b,hb⟩:=ih d hd q (k + 1) (by omega)
      exact ⟨b,fun _=>hb⟩
     ·exact ⟨false,fun z=>absurd z hd⟩
    obtain ⟨p,hp⟩:=Classical.axiomOfChoice hc
    exact ⟨p,fun T=>gc (g:=fun d=>.bool (p d)) fun d hd=>by simp [hp d hd T]⟩
   obtain ⟨p,hp⟩:=c
   have l8:((ds.length:Int)≤8):=by omega
   exact ⟨ds.all p,fun T=>BD h4 h (hp T)⟩
  ·exact ⟨false,fun T=>by simp [bV,isi_tt,h4]⟩
open K1 (has LET TXT single bp bx aZ)
def dC (f:FnM):FnM:=aX 6 (ak (fIf (au (ae eqD (ae ixD (aa 0) (fC (.int 0))) (fC (.str "put")))) (av (ao .tuple (ab (fC (.str "value")) (ab (ae ixD (aa 0) (fC (.int 1))) ag)))) aC) (ak (fIf (au (ae eqD (ae ixD (aa 0) (fC (.int 0))) (fC (.str "got")))) (av (ao .tuple (ab (fC (.str "value")) (ab (ae ixD (aa 1) (ae ixD (aa 0) (fC (.int 1)))) ag)))) aC) (ak (aE 2 (bf (br (bH (au (ae eqD (ae ixD (aa 0) (fC (.int 0))) (fC (.str "row")))) (ae ixD (aa 0) (fC (.int 1))) (fSl (aa 0) (fP (fC (.int 1))) bL))) a6 (ar f (ab (aa 0) (ab (aa 2) ag))))) (ak (cI 3 (br (aa 2)) (fIf (au (ae eqD (ae ixD (aa 3) (fC (.int 0))) (fC (.str "fails")))) (av (aa 3)) aC)) (ak (aE 4 (bf (br (aa 2)) a6 (ae ixD (aa 0) (fC (.int 1))))) (ak (fIf (au (ae eqD (ae ixD (aa 0) (fC (.int 0))) (fC (.str "row")))) (av (bH (aR (ar (bV 25) (ab (fCB ck (ab (aa 4) ag)) (ab (fC (.int 0)) ag)))) (ao .tuple (ab (fC (.str "value")) (ab (fCB ck (ab (aa 4) ag)) ag))) (ao .tuple (ab (fC (.str "fails")) (ab (fC (.str "great")) ag))))) aC) (ak (fIf (au (ae eqD (ae ixD (aa 0) (fC (.int 0))) (fC (.str "many")))) (av (bH (aR (fUn (bi .int) (ae ixD (aa 4) (fC (.int 0))))) (ao .tuple (ab (fC (.str "fails")) (ab (fC (.str "kind")) ag))) (ao .tuple (ab (fC (.str "value")) (ab (fCB aF (ab (ae ixD (aa 4) (fC (.int 0))) ag)) ag))))) aC) (ak (aE 5 (ar bj (ab (ae ixD (aa 0) (fC (.int 0))) (ab (ae ixD (aa 4) (fC (.int 0))) (ab (ae ixD (aa 4) (fC (.int 1))) ag))))) (ak (fIf (au (ae isD (aa 5) (fC .none))) (av (ao .tuple (ab (fC (.str "fails")) (ab (fC (.str "kind")) ag)))) aC) (ak (fIf (cz (au (ae eqD (ae ixD (aa 0) (fC (.int 0))) (fC (.str "part")))) (bF (au (d7 leD ltD (fC (.int 0)) (ae ixD (aa 4) (fC (.int 1))) (fCB aF (ab (ae ixD (aa 4) (fC (.int 0))) ag)))))) (av (ao .tuple (ab (fC (.str "fails")) (ab (fC (.str "part")) ag)))) aC) (av (bH (aR (ar (bV 25) (ab (aa 5) (ab (fC (.int 0)) ag)))) (ao .tuple (ab (fC (.str "value")) (ab (aa 5) ag))) (ao .tuple (ab (fC (.str "fails")) (ab (fC (.str "great")) ag)))))))))))))))
theorem wx (n:Nat):bq (n + 1)=dC (bq n):=rfl
def vaD (v:PyData):PyData:=.tuple [.str "value",v]
def faD (w:Str):PyData:=.tuple [.str "fails",.str w]
def exP (v:PyData):PyData:=.tuple [.str "put",v]
def exG (k:Int):PyData:=.tuple [.str "got",.int k]
def ex2 (w:String) (a b:PyData):PyData:=.tuple [.str (Str.ofString w),a,b]
theorem jt (f:FnM) (v g:PyData) (T:Tp):dC f [.d (exP v),.d g] T=some (vaD v,T):=by simp [dC,exP,aY,vaD]
theorem rT (f:FnM) (k:Int) (g:List PyData) (v:PyData) (h:atI g k=some v) (T:Tp):dC f [.d (exG k),.d (.list g)] T=some (vaD v,T):=by
 have n1:Str.ofString "got"≠Str.ofString "put":=by decide
 simp [dC,exG,aY,vaD,n1,h]
inductive Vg:PyData→Prop where
 | int {i:Int}:i.natAbs≤1000000000000000000→Vg (.int i)
 | str {x:Str}:x.length≤10→Lo x→Vg (.str x)
 | tup {ds:List PyData}:ds.length≤2→(∀ d∈ds,Vt 1 d)→Vg (.tuple ds)
theorem Vg.vt {v:PyData} (h:Vg v):Vt 2 v:=by
 cases h with
 | int h=>exact .int (by omega)
 | str h g=>exact .str (by omega) g
 | tup h g=>exact .tup (by omega) g
inductive Tl:PyData→Prop where
 | va {v:PyData}:Vt 4 v→Tl (vaD v)
 | fa {w:Str}:Lo w→Tl (faD w)
def fwL:List Str:=["kind","great","part"]
inductive Tv:PyData→Prop where
 | va {v:PyData}:aZ v=true→Tv (vaD v)
 | fa {w:Str}:w∈fwL→Tv (faD w)
theorem qt {i:Int} (h:i.natAbs≤1000000000000000000):aZ (.int i)=true:=by
 have h1:single (.int i)=true:=decide_eq_true (by omega)
 have h2:bp 4 (.int i)=true:=h1
 have h3:bx 4 (.int i)=1:=rfl
 show (bp 4 (.int i) && decide (bx 4 (.int i)≤40))=true
 rw [h2,h3]
 rfl
theorem tK:neG (.list [.bool true,.bool true]) (.list [.bool true,.bool true])=some (.bool false):=rfl
theorem k8:neG (.list [.bool true,.bool false]) (.list [.bool true,.bool true])=some (.bool true):=rfl
theorem k9:neG (.list [.bool false,.bool true]) (.list [.bool true,.bool true])=some (.bool true):=rfl
theorem gN:neG (.list [.bool false,.bool false]) (.list [.bool true,.bool true])=some (.bool true):=rfl
theorem jz (b:Bool):intD [.bool b]=some (.int (if b then 1 else 0)):=rfl
theorem De (w:String) (hw:w = "sum"∨w = "join"∨w = "same"∨w = "part"∨w = "less") {a b:PyData} (ha:Vg a) (hb:Vg b):∃ v,(∀ T,bj [.d (.str (Str.ofString w)),.d a,.d b] T=some (v,T))∧(v=.none∨(Vt 3 v∧(w = "part"→∃ ds k,a=.tuple ds∧b=.int k))):=by
 have s1:Str.ofString "sum"≠Str.ofString "same":=by decide
 have s2:Str.ofString "sum"≠Str.ofString "part":=by decide
 have s3:Str.ofString "sum"≠Str.ofString "join":=by decide
 have j1:Str.ofString "join"≠Str.ofString "same":=by decide
 have j2:Str.ofString "join"≠Str.ofString "part":=by decide
 have l1:Str.ofString "less"≠Str.ofString "same":=by decide
 have l2:Str.ofString "less"≠Str.ofString "part":=by decide
 have l3:Str.ofString "less"≠Str.ofString "join":=by decide
 have l4:Str.ofString "less"≠Str.ofString "sum":=by decide
 have p1:Str.ofString "part"≠Str.ofString "same":=by decide
 rcases hw with rfl | rfl | rfl | rfl | rfl
 ·cases ha with
  | int h=>
   cases hb with
   | int g=>exact ⟨_,fun T=>by simp [bj,s1,s2,s3,cu,tK]; rfl,.inr ⟨.int (by omega),fun z=>absurd z (by decide)⟩⟩
   | str _ _=>exact ⟨.none,fun T=>by simp [bj,s1,s2,s3,cu,cE,k8],.inl rfl⟩
   | tup _ _=>exact ⟨.none,fun T=>by simp [bj,s1,s2,s3,cu,cO,k8],.inl rfl⟩
  | str _ _=>
   cases hb with
   | int g=>exact ⟨.none,fun T=>by simp [bj,s1,s2,s3,cu,cE,k9],.inl rfl⟩
   | str _ _=>exact ⟨.none,fun T=>by simp [bj,s1,s2,s3,cu,cE,gN],.inl rfl⟩
   | tup _ _=>exact ⟨.none,fun T=>by simp [bj,s1,s2,s3,cE,cO,gN],.inl rfl⟩
  | tup _ _=>
   cases hb with
   | int g=>exact ⟨.none,fun T=>by simp [bj,s1,s2,s3,cu,cO,k9],.inl rfl⟩
   | str _ _=>exact ⟨.none,fun T=>by simp [bj,s1,s2,s3,cO,cE,gN],.inl rfl⟩
   | tup _ _=>exact ⟨.none,fun T=>by simp [bj,s1,s2,s3,cE,cO,gN],.inl rfl⟩
 ·cases ha with
  | int h=>
   cases hb <;> exact ⟨.none,fun T=>by simp [bj,j1,j2,cu,cE,cO,aY],.inl rfl⟩
  | @str x hx ox=>
   cases hb with
   | int g=>exact ⟨.none,fun T=>by simp [bj,j1,j2,cu,cE,aY],.inl rfl⟩
   | @str y hy oy=>
    have z:x.length + y.length≤sizeLine:=by rw [sz]; omega
    exact ⟨.str (x++y),fun T=>by simp [bj,j1,j2,dP,cE,aY,z],.inr ⟨.str (by rw [len_app]; omega) (ox.app oy),fun z=>absurd z (by decide)⟩⟩
   | tup _ _=>exact ⟨.none,fun T=>by simp [bj,j1,j2,cE,cO,dP,jx,aY],.inl rfl⟩
  | @tup xs hx ox=>
   cases hb with
   | int g=>exact ⟨.none,fun T=>by simp [bj,j1,j2,cu,cO,aY],.inl rfl⟩
   | str _ _=>exact ⟨.none,fun T=>by simp [bj,j1,j2,cE,cO,dP,jx,aY],.inl rfl⟩
   | @tup ys hy oy=>
    have z:xs.length + ys.length≤sizeLine:=by rw [sz]; omega
    refine ⟨.tuple (xs++ys),fun T=>by simp [bj,j1,j2,jx,cO,aY,z],.inr ⟨.tup (by simp; omega) fun d hd=>?_,fun z=>absurd z (by decide)⟩⟩
    rcases List.mem_append.mp hd with q | q
    ·exact (ox d q).up (by omega)
    ·exact (oy d q).up (by omega)
 ·have q1:=fun T=>js ha.vt (by decide) 24 T (by decide)
  have q2:=fun T=>js hb.vt (by decide) 24 T (by decide)
  refine ⟨_,fun T=>by simp [bj,q1,q2,jz]; rfl,.inr ⟨?_,fun z=>absurd z (by decide)⟩⟩
  split <;> exact .int (by decide)
 ·cases ha with
  | int h=>exact ⟨.none,fun T=>by simp [bj,p1,kM],.inl rfl⟩
  | str _ _=>exact ⟨.none,fun T=>by simp [bj,p1,sC],.inl rfl⟩
  | @tup xs hx ox=>
   cases hb with
   | str _ _=>exact ⟨.none,fun T=>by simp [bj,p1,isi_tt,cE,aY],.inl rfl⟩
   | tup _ _=>exact ⟨.none,fun T=>by simp [bj,p1,isi_tt,cO,aY],.inl rfl⟩
   | @int i hi=>
    by_cases h0:0≤i
    ·by_cases h1:i < xs.length
     ·obtain ⟨v,hv,mv⟩:=ij h0 h1
      exact ⟨v,fun T=>by simp [bj,p1,isi_tt,cu,aY,h0,h1,hv],.inr ⟨(ox v mv).up (by omega),fun _=>⟨xs,i,rfl,rfl⟩⟩⟩
     ·exact ⟨.tuple [],fun T=>by simp [bj,p1,isi_tt,cu,aY,h0,h1],.inr ⟨(.tup (by simp) (fun d hd=>by cases hd)),fun _=>⟨xs,i,rfl,rfl⟩⟩⟩
    ·exact ⟨.tuple [],fun T=>by simp [bj,p1,isi_tt,cu,aY,h0],.inr ⟨(.tup (by simp) (fun d hd=>by cases hd)),fun _=>⟨xs,i,rfl,rfl⟩⟩⟩
 ·cases ha with
  | int h=>
   cases hb with
   | int g=>
    refine ⟨_,fun T=>by simp [bj,l1,l2,l3,l4,cu,tK,jz]; rfl,.inr ⟨?_,fun z=>absurd z (by decide)⟩⟩
    split <;> exact .int (by decide)
   | str _ _=>exact ⟨.none,fun T=>by simp [bj,l1,l2,l3,cu,cE,k8],.inl rfl⟩
   | tup _ _=>exact ⟨.none,fun T=>by simp [bj,l1,l2,l3,cu,cO,k8],.inl rfl⟩
  | str _ _=>
   cases hb with
   | int g=>exact ⟨.none,fun T=>by simp [bj,l1,l2,l3,cu,cE,k9],.inl rfl⟩
   | str _ _=>exact ⟨.none,fun T=>by simp [bj,l1,l2,l3,cu,cE,gN],.inl rfl⟩
   | tup _ _=>exact ⟨.none,fun T=>by simp [bj,l1,l2,l3,cE,cO,gN],.inl rfl⟩
  | tup _ _=>
   cases hb with
   | int g=>exact ⟨.none,fun T=>by simp [bj,l1,l2,l3,cu,cO,k9],.inl rfl⟩
   | str _ _=>exact ⟨.none,fun T=>by simp [bj,l1,l2,l3,cO,cE,gN],.inl rfl⟩
   | tup _ _=>exact ⟨.none,fun T=>by simp [bj,l1,l2,l3,cE,cO,gN],.inl rfl⟩
theorem jp {T:Tp}:∀ (vs:List PyData) (u v l:W) (b c d:Option W),∃ b',forL 3 (fIf (au (ae eqD (ae ixD (aa 3) (fC (.int 0))) (fC (.str "fails")))) (av (aa 3)) aC) (vs.map vaD) [some u,some v,some l,b,c,d] T=some ((.nx,[some u,some v,some l,b',c,d]),T)
 | [],u,v,l,b,c,d=>⟨b,rfl⟩
 | x::vs,u,v,l,b,c,d=>by
  obtain ⟨b',e⟩:=jp (T:=T) vs u v l (some (.d (vaD x))) c d
  have n1:Str.ofString "value"≠Str.ofString "fails":=by decide
  refine ⟨b',?_⟩
  rw [List.map_cons]
  unfold forL
  simp only [vaD] at e ⊢
  simp [aY,n1,e]
def oi:PyData→PyData
 | .tuple [_,v]=>v
 | _=>.none
theorem kf {T:Tp} {ρ:Rho} (vs:List PyData):bh a6 (ae ixD (aa 0) (fC (.int 1))) ρ (vs.map vaD) T=some (vs,T):=by
 have h:=gc (e:=ae ixD (aa 0) (fC (.int 1))) (ρ:=ρ) (T:=T) (g:=oi) (ds:=vs.map vaD) fun d hd=>by
  obtain ⟨v,_,rfl⟩:=List.mem_map.mp hd
  simp [vaD,aY,oi]
 rw [h,List.map_map]
 have:(oi ∘ vaD)=id:=rfl
 rw [this,List.map_id]
def lB (w:String):Prop:=w = "sum"∨w = "join"∨w = "same"∨w = "part"∨w = "less"
theorem Aw {w:String} (h:lB w):Str.ofString w≠Str.ofString "put"∧Str.ofString w≠Str.ofString "got"∧Str.ofString w≠Str.ofString "row"∧Str.ofString w≠Str.ofString "many"∧(Str.ofString w=Str.ofString "part"→w = "part"):=by rcases h with rfl | rfl | rfl | rfl | rfl <;> exact ⟨by decide,by decide,by decide,by decide,fun z=>by first | rfl | exact absurd z (by decide)⟩
theorem dX {s:String} (h:((Str.ofString s).cps.toList.all fun c=>decide (c < 128))=true):Lo (Str.ofString s):=cx h
theorem Az (f:FnM) (w:String) (hw:lB w) (x y:PyData) (g:PyData) {a b:PyData} (ha:Vg a) (hb:Vg b) (hok:∀ v,(∀ T,bj [.d (.str (Str.ofString w)),.d a,.d b] T=some (v,T))→(∀ T,bV 25 [.d v,.d (.int 0)] T=some (.bool true,T))→aZ v=true) (h1:∀ T,f [.d x,.d g] T=some (vaD a,T)) (h2:∀ T,f [.d y,.d g] T=some (vaD b,T)) :
  ∃ r,(Tl r∧Tv r)∧∀ T,dC f [.d (ex2 w x y),.d g] T=some (r,T):=by
 obtain ⟨v,ev,hv⟩:=De w hw ha hb
 obtain ⟨n1,n2,n3,n4,n5⟩:=Aw hw
 have c:∀ T,bh a6 (ar f (ab (aa 0) (ab (aa 2) ag))) [some (.d (ex2 w x y)),some (.d g),none,none,none,none] [x,y] T=some ([vaD a,vaD b],T):=fun T=>by
  simp [bh,h1,h2]
 have sl:bv [PyData.str (Str.ofString w),x,y] (some 1) none=[x,y]:=rfl
 have i3:atI [PyData.str (Str.ofString w),x,y] 0=some (.str (Str.ofString w)):=rfl
 have mp:[vaD a,vaD b]=[a,b].map vaD:=rfl
 have base:∀ T,∃ b',dC f [.d (ex2 w x y),.d g] T=dS (ak (fIf (au (ae isD (aa 5) (fC .none))) (av (ao .tuple (ab (fC (.str "fails")) (ab (fC (.str "kind")) ag)))) aC) (ak (fIf (cz (au (ae eqD (ae ixD (aa 0) (fC (.int 0))) (fC (.str "part")))) (bF (au (d7 leD ltD (fC (.int 0)) (ae ixD (aa 4) (fC (.int 1))) (fCB aF (ab (ae ixD (aa 4) (fC (.int 0))) ag)))))) (av (ao .tuple (ab (fC (.str "fails")) (ab (fC (.str "part")) ag)))) aC) (av (bH (aR (ar (bV 25) (ab (aa 5) (ab (fC (.int 0)) ag)))) (ao .tuple (ab (fC (.str "value")) (ab (aa 5) ag))) (ao .tuple (ab (fC (.str "fails")) (ab (fC (.str "great")) ag)))))) [some (.d (ex2 w x y)),some (.d g),some (.d (.list [vaD a,vaD b])),b',some (.d (.list [a,b])),some (.d v)] T):=fun T=>by
  obtain ⟨b',e⟩:=jp (T:=T) [a,b] (.d (ex2 w x y)) (.d g) (.d (.list [vaD a,vaD b])) none none none
  refine ⟨b',?_⟩
  have cv:=kf (T:=T) (ρ:=[some (.d (ex2 w x y)),some (.d g),some (.d (.list [vaD a,vaD b])),b',none,none]) [a,b]
  rw [← mp] at e cv
  have c':=c T
  unfold ex2 at c' e cv ⊢
  simp [dC,i3,n1,n2,n3,n4,sl,c',e,cv,aY,ev]
 have kd:isNone v=true∨isNone v=false:=by cases isNone v <;> simp
 rcases hv with rfl | ⟨tv,hp⟩
 ·refine ⟨faD "kind",⟨.fa (dX (by decide +kernel)),.fa (by simp [fwL])⟩,fun T=>?_⟩
  obtain ⟨b',e⟩:=base T
  rw [e]
  simp [cT,isNone,faD]
 ·have nv:isNone v=false:=by cases tv <;> rfl
  obtain ⟨fb,hf⟩:∃ fb,∀ T,bV 25 [.d v,.d (.int 0)] T=some (.bool fb,T):=sZ tv 24 0 (by decide)
  by_cases hpw:Str.ofString w=Str.ofString "part"
  ·obtain ⟨ds,k,rfl,rfl⟩:=hp (n5 hpw)
   have i3':ixD (ex2 w x y) (.int 0)=some (.str "part"):=by rw [← hpw]; rfl
   by_cases hk:0≤k∧k < ds.length
   ·cases fb with
    | true=>
     refine ⟨vaD v,⟨.va (tv.up (by decide)),.va (hok v ev hf)⟩,fun T=>?_⟩
     obtain ⟨b',e⟩:=base T
     rw [e]
     simp [cT,nv,i3',aY,hk.1,hk.2,hf,vaD]
    | false=>
     refine ⟨faD "great",⟨.fa (dX (by decide +kernel)),.fa (by simp [fwL])⟩,fun T=>?_⟩
     obtain ⟨b',e⟩:=base T
     rw [e]
     simp [cT,nv,i3',aY,hk.1,hk.2,hf,faD]
   ·refine ⟨faD "part",⟨.fa (dX (by decide +kernel)),.fa (by simp [fwL])⟩,fun T=>?_⟩
    obtain ⟨b',e⟩:=base T
    rw [e]
    by_cases h0:0≤k
    ·have h1:¬ k < ds.length:=fun z=>hk ⟨h0,z⟩
     simp [cT,nv,i3',aY,h0,h1,faD]
    ·simp [cT,nv,i3',aY,h0,faD]
  ·have i3':ixD (ex2 w x y) (.int 0)=some (.str (Str.ofString w)):=rfl
   cases fb with
   | true=>
    refine ⟨vaD v,⟨.va (tv.up (by decide)),.va (hok v ev hf)⟩,fun T=>?_⟩
    obtain ⟨b',e⟩:=base T
    rw [e]
    simp [cT,nv,i3',hpw,hf,vaD]
   | false=>
    refine ⟨faD "great",⟨.fa (dX (by decide +kernel)),.fa (by simp [fwL])⟩,fun T=>?_⟩
    obtain ⟨b',e⟩:=base T
    rw [e]
    simp [cT,nv,i3',hpw,hf,faD]
theorem AA (f:FnM) (x y:PyData) (g:PyData) {a b:PyData} (ha:Vg a) (hb:Vg b) (hok:aZ (.tuple [a,b])=true) (h1:∀ T,f [.d x,.d g] T=some (vaD a,T)) (h2:∀ T,f [.d y,.d g] T=some (vaD b,T)) :
  ∃ r,(Tl r∧Tv r)∧∀ T,dC f [.d (.tuple [.str "row",.tuple [x,y]]),.d g] T=some (r,T):=by
 have n1:Str.ofString "row"≠Str.ofString "put":=by decide
 have n2:Str.ofString "row"≠Str.ofString "got":=by decide
 have tv:Vt 3 (.tuple [a,b]):=.tup (by simp) fun d hd=>by
  simp only [List.mem_cons,List.not_mem_nil,or_false] at hd
  rcases hd with rfl | rfl
  ·exact ha.vt
  ·exact hb.vt
 obtain ⟨fb,hf⟩:∃ fb,∀ T,bV 25 [.d (.tuple [a,b]),.d (.int 0)] T=some (.bool fb,T):=sZ tv 24 0 (by decide)
 have c:∀ T,bh a6 (ar f (ab (aa 0) (ab (aa 2) ag))) [some (.d (.tuple [.str "row",.tuple [x,y]])),some (.d g),none,none,none,none] [x,y] T=some ([vaD a,vaD b],T):=fun T=>by
  simp [bh,h1,h2]
 have mp:[vaD a,vaD b]=[a,b].map vaD:=rfl
 refine ⟨if fb then vaD (.tuple [a,b]) else faD "great",by cases fb; exact ⟨.fa (dX (by decide +kernel)),.fa (by simp [fwL])⟩; exact ⟨.va (tv.up (by decide)),.va hok⟩,fun T=>?_⟩
 obtain ⟨b',e⟩:=jp (T:=T) [a,b] (.d (.tuple [.str "row",.tuple [x,y]])) (.d g) (.d (.list [vaD a,vaD b])) none none none
 have cv:=kf (T:=T) (ρ:=[some (.d (.tuple [.str "row",.tuple [x,y]])),some (.d g),some (.d (.list [vaD a,vaD b])),b',none,none]) [a,b]
 rw [← mp] at e cv
 have vf:∀ x,PyData.tuple [.str "value",x]=vaD x:=fun _=>rfl
 have ff:∀ x,PyData.tuple [.str "fails",.str x]=faD x:=fun _=>rfl
 cases fb <;> simp [cT,dC,aY,n1,n2,c T,e,cv,hf,vf,ff]
theorem yO (f:FnM) (x:PyData) (g:PyData) {a:PyData} (ha:Vg a) (h1:∀ T,f [.d x,.d g] T=some (vaD a,T)) :
  ∃ r,(Tl r∧Tv r)∧∀ T,dC f [.d (.tuple [.str "many",x]),.d g] T=some (r,T):=by
 have n1:Str.ofString "many"≠Str.ofString "put":=by decide
 have n2:Str.ofString "many"≠Str.ofString "got":=by decide
 have n3:Str.ofString "many"≠Str.ofString "row":=by decide
 have sl:bv [PyData.str "many",x] (some 1) none=[x]:=rfl
 have c:∀ T,bh a6 (ar f (ab (aa 0) (ab (aa 2) ag))) [some (.d (.tuple [.str "many",x])),some (.d g),none,none,none,none] [x] T=some ([vaD a],T):=fun T=>by
  simp [bh,h1]
 have mp:[vaD a]=[a].map vaD:=rfl
 have a1:atI [a] 0=some a:=rfl
 have vf:∀ x,PyData.tuple [.str "value",x]=vaD x:=fun _=>rfl
 have ff:∀ x,PyData.tuple [.str "fails",.str x]=faD x:=fun _=>rfl
 have pre:∀ T,∃ b',forL 3 (fIf (au (ae eqD (ae ixD (aa 3) (fC (.int 0))) (fC (.str "fails")))) (av (aa 3)) aC) [vaD a] [some (.d (.tuple [.str "many",x])),some (.d g),some (.d (.list [vaD a])),none,none,none] T=some ((.nx,[some (.d (.tuple [.str "many",x])),some (.d g),some (.d (.list [vaD a])),b',none,none]),T) ∧
   bh a6 (ae ixD (aa 0) (fC (.int 1))) [some (.d (.tuple [.str "many",x])),some (.d g),some (.d (.list [vaD a])),b',none,none] [vaD a] T=some ([a],T):=fun T=>by
  obtain ⟨b',e⟩:=jp (T:=T) [a] (.d (.tuple [.str "many",x])) (.d g) (.d (.list [vaD a])) none none none
  exact ⟨b',e,kf [a]⟩
 cases ha with
 | int h=>
  refine ⟨faD "kind",⟨.fa (dX (by decide +kernel)),.fa (by simp [fwL])⟩,fun T=>?_⟩
  obtain ⟨b',e,cv⟩:=pre T
  simp [cT,dC,aY,n1,n2,n3,sl,c T,e,cv,a1,cu,vf,ff]
 | @str z h o=>
  refine ⟨vaD (.int z.length),⟨.va (.int (by omega)),.va (qt (by omega))⟩,fun T=>?_⟩
  obtain ⟨b',e,cv⟩:=pre T
  have hz:z.length≤sizeLine:=by rw [sz]; omega
  simp [cT,dC,aY,n1,n2,n3,sl,c T,e,cv,a1,cE,vf,ff,hz]
 | @tup ds h o=>
  refine ⟨vaD (.int ds.length),⟨.va (.int (by omega)),.va (qt (by omega))⟩,fun T=>?_⟩
  obtain ⟨b',e,cv⟩:=pre T
  simp [cT,dC,aY,n1,n2,n3,sl,c T,e,cv,a1,cO,vf,ff]
def gs:List PyData:=[PyData.int 0,.int 1,.int 2,.int (-3),.str "",.str "a",.str "-0",.tuple [],.tuple [.int 1,.str "b"],.tuple [.str "a",.tuple [.int 0]],.int 1000000000000000000,.int 1,.int 0]
theorem zL {x:PyData} (h:x∈gs++menu.map .str):Vg x:=by
 rcases List.mem_append.mp h with h | h
 ·simp only [gs,List.mem_cons,List.not_mem_nil,or_false] at h
  rcases h with h | h | h | h | h | h | h | h | h | h | h | h | h <;> subst h
  ·exact .int (by decide)
  ·exact .int (by decide)
  ·exact .int (by decide)
  ·exact .int (by decide)
  ·exact .str (by decide) (cx (by decide +kernel))
  ·exact .str (by decide) (cx (by decide +kernel))
  ·exact .str (by decide) (cx (by decide +kernel))
  ·exact .tup (by simp) fun d hd=>by cases hd
  ·refine .tup (by simp) fun d hd=>?_
   simp only [List.mem_cons,List.not_mem_nil,or_false] at hd
   rcases hd with rfl | rfl
   ·exact .int (by decide)
   ·exact .str (by decide) (cx (by decide +kernel))
  ·refine .tup (by simp) fun d hd=>?_
   simp only [List.mem_cons,List.not_mem_nil,or_false] at hd
   rcases hd with rfl | rfl
   ·exact .str (by decide) (cx (by decide +kernel))
   ·refine .tup (by simp) fun d hd=>?_
    simp only [List.mem_cons,List.not_mem_nil,or_false] at hd
    subst hd
    exact .int (by decide)
  ·exact .int (by decide)
  ·exact .int (by decide)
  ·exact .int (by decide)
 ·obtain ⟨y,hy,rfl⟩:=List.mem_map.mp h
  exact .str (by have:=p9 hy; omega) (menu_lo hy)
def allV:List PyData:=gs++menu.map PyData.str
theorem L_value (ns:List Int) (k:Int) (xs:List Str) (N:Nms xs) (T:Tp) (hk:0≤k:=by omega) (hk':k≤90000:=by omega) (hl:ns.length≤63:=by omega):∃ x,eC [.d (aS ns),.d (.int k),.d (.list (xs.map .str))] T=some (x,T)∧x∈allV:=by
 have n1:=N.most
 obtain ⟨r,e,a,b⟩:=bZ ns k (13 + (xs.length:Int)) T
 obtain ⟨x,h1,h2⟩:=ij (xs:=gs++xs.map PyData.str) (i:=r) a (by simp [gs]; omega)
 refine ⟨x,?_,?_⟩
 ·have hz:13 + xs.length≤sizeLine:=by rw [sz]; omega
  have hz':(xs.length:Int) + 1 + 1 + 1 + 1 + 1 + 1 + 1 + 1 + 1 + 1 + 1 + 1 + 1=13 + (xs.length:Int):=by omega
  simp [gs] at h1
  simp [eC,hz,hz',e,h1]
 ·unfold allV
  rcases List.mem_append.mp h2 with h | h
  ·exact List.mem_append_left _ h
  ·obtain ⟨y,hy,rfl⟩:=List.mem_map.mp h
   exact List.mem_append_right _ (List.mem_map.mpr ⟨y,N.inm y hy,rfl⟩)
def kR (m:FnM) (ws:List D.W) (T1:Tp):Option (D.W×Tp):=if jT ws=true then (match m (ws.map jf) [] with
 | some (x,_)=>if bM x=true then some (.d x,T1) else none
 | none=>none) else none
@[simp] theorem EE {m:FnM} {a:FA} {ρ:Rho} {T:Tp}:fJ m a ρ T=bnd (a ρ T) (kR m):=rfl
theorem xp {m:FnM} {ws:List D.W} {T T':Tp} {x:PyData} (h1:jT ws=true) (h2:m (ws.map jf) []=some (x,T')) (h3:bM x=true):kR m ws T=some (.d x,T):=by
 unfold kR
 rw [if_pos h1,h2]
 dsimp only
 rw [if_pos h3]
@[simp] theorem Ed {s:Str} {ds:List (PyData×PyData)}:kF (.str s) (.dict ds)=some (.bool (!(aL ds s).isSome)):=rfl
@[simp] theorem Ft {s:Str} {ds:List (PyData×PyData)}:ixA (.dict ds) (.str s)=aL ds s:=rfl
inductive Lf (k:Nat):PyData→Prop where
 | put {v:PyData}:v∈allV→Lf k (exP v)
 | got {i:Nat}:i < k→Lf k (exG i)
inductive EXp (k:Nat):PyData→Prop where
 | lf {e:PyData}:Lf k e→EXp k e
 | two {w:String} {a b:PyData}:lB w→Lf k a→Lf k b→EXp k (ex2 w a b)
 | row {a b:PyData}:Lf k a→Lf k b→EXp k (.tuple [.str "row",.tuple [a,b]])
 | many {a:PyData}:Lf k a→EXp k (.tuple [.str "many",a])
theorem yK {n:Nat} {v:PyData} (h:Vt n v):bM v=true:=by
 induction h with
 | int _=>simp [bM]
 | str _ _=>simp [bM]
 | tup _ _ ih=>
  rename_i ds _ _
  have:cX ds=true:=by
   induction ds with
   | nil=>simp [cX]
   | cons a r ih2=>
    simp only [cX,Bool.and_eq_true]
    exact ⟨ih a List.mem_cons_self,ih2 (by simp at *; omega) (fun d hd=>by simp_all) fun d hd=>ih d (List.mem_cons_of_mem _ hd)⟩
  simpa [bM] using this
theorem il {v:PyData} (h:v∈allV):Vg v:=zL h
theorem iZ {k:Nat} {e:PyData} (h:Lf k e) {got:List PyData} (hk:got.length=k) (hg:∀ v∈got,v∈allV):∃ v,v∈allV∧∀ (n:Nat) (T:Tp),bq (n + 1) [.d e,.d (.list got)] T=some (vaD v,T):=by
 cases h with
 | @put v hv=>exact ⟨v,hv,fun n T=>jt _ v _ T⟩
 | @got i hi=>
  obtain ⟨v,h1,h2⟩:=ij (xs:=got) (i:=(i:Int)) (by omega) (by omega)
  exact ⟨v,hg v h2,fun n T=>rT _ _ got v h1 T⟩
def okT (w:String) (a b:PyData):Bool:=match bj [.d (.str (Str.ofString w)),.d a,.d b] [] with
 | some (v,_)=>(match bV 25 [.d v,.d (.int 0)] [] with
  | some (.bool true,_)=>aZ v
  | _=>true)
 | none=>true
theorem mZ {v:PyData} (h:v∈allV):aZ v=true:=by
 have:(allV.all aZ)=true:=by decide +kernel
 exact List.all_eq_true.mp this v h
theorem Ah {a b:PyData} (h:a∈allV) (g:b∈allV):aZ (.tuple [a,b])=true:=by
 have:(allV.all fun a=>allV.all fun b=>aZ (.tuple [a,b]))=true:=by decide +kernel
 exact List.all_eq_true.mp (List.all_eq_true.mp this a h) b g
theorem yN:(allV.all fun a=>allV.all fun b=>["sum","join","same","part","less"].all fun w=>okT w a b)=true:=by decide +kernel
theorem yM {w:String} {a b:PyData} (hw:lB w) (h:a∈allV) (g:b∈allV):∀ v,(∀ T,bj [.d (.str (Str.ofString w)),.d a,.d b] T=some (v,T))→(∀ T,bV 25 [.d v,.d (.int 0)] T=some (.bool true,T))→aZ v=true:=fun v e1 e2=>by
 have h1:=List.all_eq_true.mp (List.all_eq_true.mp (List.all_eq_true.mp yN a h) b g) w (by rcases hw with rfl | rfl | rfl | rfl | rfl <;> simp)
 unfold okT at h1
 rw [e1 []] at h1
 dsimp only at h1
 rw [e2 []] at h1
 exact h1
theorem pQ {k:Nat} {e:PyData} (h:EXp k e) {got:List PyData} (hk:got.length=k) (hg:∀ v∈got,v∈allV):∃ r,(Tl r∧Tv r)∧∀ T,bq 25 [.d e,.d (.list got)] T=some (r,T):=by
 cases h with
 | lf h=>
  obtain ⟨v,hv,e⟩:=iZ h hk hg
  exact ⟨vaD v,⟨.va ((il hv).vt.up (by decide)),.va (mZ hv)⟩,e 24⟩
 | two hw ha hb=>
  obtain ⟨a,h1,e1⟩:=iZ ha hk hg
  obtain ⟨b,h2,e2⟩:=iZ hb hk hg
  exact Az (bq 24) _ hw _ _ _ (il h1) (il h2) (yM hw h1 h2) (e1 23) (e2 23)
 | row ha hb=>
  obtain ⟨a,h1,e1⟩:=iZ ha hk hg
  obtain ⟨b,h2,e2⟩:=iZ hb hk hg
  exact AA (bq 24) _ _ _ (il h1) (il h2) (Ah h1 h2) (e1 23) (e2 23)
 | many ha=>
  obtain ⟨a,h1,e1⟩:=iZ ha hk hg
  exact yO (bq 24) _ _ (il h1) (e1 23)
theorem mG {k:Nat} {e:PyData} (h:EXp k e) {got:List PyData} (hk:got.length=k) (hg:∀ v∈got,v∈allV):∃ r,Tl r∧∀ T,bq 25 [.d e,.d (.list got)] T=some (r,T):=by
 obtain ⟨r,h1,h2⟩:=pQ h hk hg
 exact ⟨r,h1.1,h2⟩
def bC (e:PyData):PyData:=.tuple [.str "say",e]
def cy (w:Str):PyData:=.tuple [.str "fail",.str w]
def bg (e r:PyData):PyData:=.tuple [.str "want",e,r]
def cw (e p q:PyData):PyData:=.tuple [.str "when",e,p,q]
inductive RC:Nat→Nat→PyData→Prop where
 | say {h k:Nat} {e:PyData}:EXp k e→RC h k (bC e)
 | fail {h k:Nat} {w:Str}:w∈menu→RC h k (cy w)
 | want {h k:Nat} {e r:PyData}:EXp k e→RC h (k + 1) r→RC (h + 1) k (bg e r)
 | when {h k:Nat} {e p q:PyData}:EXp k e→RC h k p→RC h k q→RC (h + 1) k (cw e p q)
abbrev Dc:=List (PyData×PyData)
def tld (e:PyData) (got:List PyData):Option PyData:=(bq 25 [.d e,.d (.list got)] []).map (·.1)
def zer:PyData:=.tuple [.int 0,.str "",.tuple []]
def nmB (v:PyData):Option PyData:=(bP [.d v] []).map (·.1)
inductive Run (gd:Dc):PyData→List PyData→List SS→SS→Prop where
 | sayV {e v:PyData} {got:List PyData}:tld e got=some (vaD v)→Run gd (bC e) got [] (Str.ofString "made",stp 24 v)
 | sayF {e:PyData} {w:Str} {got:List PyData}:tld e got=some (faD w)→Run gd (bC e) got [] (Str.ofString "fails",w)
 | fail {w:Str} {got:List PyData}:Run gd (cy w) got [] (Str.ofString "fails",w)
 | whenF {e p q:PyData} {w:Str} {got:List PyData}:tld e got=some (faD w)→Run gd (cw e p q) got [] (Str.ofString "fails",w)
 | when {e p q v:PyData} {b:Bool} {got:List PyData} {m:List SS} {en:SS}:tld e got=some (vaD v)→inG v zer=some (.bool b)→Run gd (if b=true then q else p) got m en→Run gd (cw e p q) got m en
 | wantF {e r:PyData} {w:Str} {got:List PyData}:tld e got=some (faD w)→Run gd (bg e r) got [] (Str.ofString "fails",w)
 | wantN {e r v:PyData} {got:List PyData}:tld e got=some (vaD v)→nmB v=some (.bool false)→Run gd (bg e r) got [] (Str.ofString "fails",Str.ofString "name")
 | wantW {e r:PyData} {n:Str} {got:List PyData}:tld e got=some (vaD (.str n))→nmB (.str n)=some (.bool true)→aL gd n=none→Run gd (bg e r) got [] (Str.ofString "wants",n)
 | want {e r v:PyData} {n:Str} {got:List PyData} {m:List SS} {en:SS}:tld e got=some (vaD (.str n))→nmB (.str n)=some (.bool true)→aL gd n=some v→Run gd r (got++[v]) m en→Run gd (bg e r) got ((n,stp 24 v)::m) en
theorem rQ {a b:PyData} (h:vaD a=vaD b):a=b:=by
 unfold vaD at h
 injection h with h
 injection h with _ h
 injection h
theorem BG {a b:Str} (h:faD a=faD b):a=b:=by
 unfold faD at h
 injection h with h
 injection h with _ h
 injection h with h _
 injection h
theorem nN {a:PyData} {b:Str} (h:vaD a=faD b):False:=by
 unfold vaD faD at h
 injection h with h
 injection h with h _
 injection h with h
 exact absurd h (by decide)
theorem zO {g:Dc} {e:PyData} {got:List PyData} {m:List SS} {en:SS} (h:Run g (bC e) got m en):m=[]∧((∃ v,tld e got=some (vaD v)∧en=(Str.ofString "made",stp 24 v))∨∃ w,tld e got=some (faD w)∧en=(Str.ofString "fails",w)):=by
 generalize hs:bC e=s at h
 cases h with
 | sayV h=>cases hs; exact ⟨rfl,.inl ⟨_,h,rfl⟩⟩
 | sayF h=>cases hs; exact ⟨rfl,.inr ⟨_,h,rfl⟩⟩
 | _=>cases hs
theorem yd {g:Dc} {w:Str} {got:List PyData} {m:List SS} {en:SS} (h:Run g (cy w) got m en):m=[]∧en=(Str.ofString "fails",w):=by
 generalize hs:cy w=s at h
 cases h with
 | fail=>cases hs; exact ⟨rfl,rfl⟩
 | _=>cases hs
theorem ya {g:Dc} {e p q:PyData} {got:List PyData} {m:List SS} {en:SS} (h:Run g (cw e p q) got m en):(∃ w,tld e got=some (faD w)∧m=[]∧en=(Str.ofString "fails",w))∨∃ v b,tld e got=some (vaD v)∧inG v zer=some (.bool b)∧Run g (if b=true then q else p) got m en:=by
 generalize hs:cw e p q=s at h
 cases h with
 | whenF h=>cases hs; exact .inl ⟨_,h,rfl,rfl⟩
 | when h hb hr=>cases hs; exact .inr ⟨_,_,h,hb,hr⟩
 | _=>cases hs
theorem yb {g:Dc} {e r:PyData} {got:List PyData} {m:List SS} {en:SS} (h:Run g (bg e r) got m en):(∃ w,tld e got=some (faD w)∧m=[]∧en=(Str.ofString "fails",w))∨(∃ v,tld e got=some (vaD v)∧nmB v=some (.bool false)∧m=[]∧en=(Str.ofString "fails",Str.ofString "name")) ∨
  (∃ n,tld e got=some (vaD (.str n))∧nmB (.str n)=some (.bool true)∧aL g n=none∧m=[]∧en=(Str.ofString "wants",n))∨∃ n v m',tld e got=some (vaD (.str n))∧nmB (.str n)=some (.bool true)∧aL g n=some v∧Run g r (got++[v]) m' en∧m=(n,stp 24 v)::m':=by
 generalize hs:bg e r=s at h
 cases h with
 | wantF h=>cases hs; exact .inl ⟨_,h,rfl,rfl⟩
 | wantN h hn=>cases hs; exact .inr (.inl ⟨_,h,hn,rfl,rfl⟩)
 | wantW h hn hk=>cases hs; exact .inr (.inr (.inl ⟨_,h,hn,hk,rfl,rfl⟩))
 | want h hn hk hr=>cases hs; exact .inr (.inr (.inr ⟨_,_,_,h,hn,hk,hr,rfl⟩))
 | _=>cases hs
def rnC:FT:=(au (ae gm (ae ixD (aa 0) (fC (.int 0))) (ao .tuple (ab (fC (.str "say")) (ab (fC (.str "fail")) ag)))))
def rnB:FS:=(ak (aE 4 (fJ (bq 25) (ab (ae ixD (aa 0) (fC (.int 1))) (ab (aa 2) ag)))) (ak (fIf (au (ae eqD (ae ixD (aa 4) (fC (.int 0))) (fC (.str "fails")))) (av (ao .tuple (ab (fCB ck (ab (aa 3) ag)) (ab (aa 4) (ab (fC .none) ag))))) aC) (fIf (au (ae eqD (ae ixD (aa 0) (fC (.int 0))) (fC (.str "when")))) (aE 0 (bH (au (ae inG (ae ixD (aa 4) (fC (.int 1))) (ao .tuple (ab (fC (.int 0)) (ab (fC (.str "")) (ab (ao .tuple ag) ag)))))) (ae ixD (aa 0) (fC (.int 3))) (ae ixD (aa 0) (fC (.int 2))))) (fIf (bF (aR (ar bP (ab (ae ixD (aa 4) (fC (.int 1))) ag)))) (av (ao .tuple (ab (fCB ck (ab (aa 3) ag)) (ab (ao .tuple (ab (fC (.str "fails")) (ab (fC (.str "name")) ag))) (ab (fC .none) ag))))) (fIf (au (ae kF (ae ixD (aa 4) (fC (.int 1))) (aa 1))) (av (ao .tuple (ab (fCB ck (ab (aa 3) ag)) (ab (ao .tuple (ab (fC (.str "wants")) (ab (ae ixD (aa 4) (fC (.int 1))) ag))) (ab (fC .none) ag))))) (ak (cj 2 (ae ixA (aa 1) (ae ixD (aa 4) (fC (.int 1))))) (ak (fIf (au (ae eqD (ae ixD (aa 0) (fC (.int 0))) (fC (.str "want")))) (cj 3 (ao .tuple (ab (ae ixD (aa 4) (fC (.int 1))) (ab (ar (bN 25) (ab (ae ixD (aa 2) (fUn gT (fC (.int 1)))) ag)) ag)))) aC) (aE 0 (ae ixD (aa 0) (fC (.int 2)))))))))))
def rnR:FS:=(ak (aE 4 (ao .tuple (ab (fC (.str "fails")) (ab (ae ixD (aa 0) (fC (.int 1))) ag)))) (ak (fIf (au (ae eqD (ae ixD (aa 0) (fC (.int 0))) (fC (.str "say")))) (aE 4 (fJ (bq 25) (ab (ae ixD (aa 0) (fC (.int 1))) (ab (aa 2) ag)))) aC) (ak (fIf (au (ae eqD (ae ixD (aa 4) (fC (.int 0))) (fC (.str "fails")))) (av (ao .tuple (ab (fCB ck (ab (aa 3) ag)) (ab (aa 4) (ab (fC .none) ag))))) aC) (av (ao .tuple (ab (fCB ck (ab (aa 3) ag)) (ab (ao .tuple (ab (fC (.str "made")) (ab (ar (bN 25) (ab (ae ixD (aa 4) (fC (.int 1))) ag)) ag))) (ab (ae ixD (aa 4) (fC (.int 1))) ag))))))))
theorem AO:gH=aX 5 (ak (cF 2 ag) (ak (cF 3 ag) (ak (bc rnC rnB 100000) rnR))):=rfl
theorem Cm {n:Nat} {v:PyData} (h:Vt n v):v.canLay0=true∧v.depth≤n:=by
 induction h with
 | int _=>exact ⟨rfl,by simp [PyData.depth]⟩
 | str _ g=>exact ⟨by simp [PyData.canLay0,hV g],by simp [PyData.depth]⟩
 | @tup n ds h g ih=>
  have key:PyData.canLayAll0 ds=true∧PyData.depthAll ds≤n:=by
   clear h
   induction ds with
   | nil=>exact ⟨rfl,by simp [PyData.depthAll]⟩
   | cons a r ih2=>
    have h1:=ih a List.mem_cons_self
    have h2:=ih2 (fun d hd=>g d (List.mem_cons_of_mem _ hd)) fun d hd=>ih d (List.mem_cons_of_mem _ hd)
    exact ⟨by simp [PyData.canLayAll0,h1.1,h2.1],by simp [PyData.depthAll]; omega⟩
  exact ⟨by simp [PyData.canLay0,key.1],by simp [PyData.depth]; omega⟩
theorem BC {v:PyData} (h:Vt 4 v):∃ b,inG v zer=some (.bool b):=by
 have s:=Cm h
 have s1:SeqAt.shaped v=true:=by
  unfold SeqAt.shaped
  rw [s.1]
  simp
  omega
 exact ⟨_,if_pos ⟨s1,by decide +kernel⟩⟩
theorem mF {n:Nat} {v:PyData} (h:Vt n v):∃ b,(∀ T,bP [.d v] T=some (.bool b,T))∧(b=true→∃ x,v=.str x∧Lo x):=by
 cases h with
 | int _=>exact ⟨false,fun T=>by simp [bP,kN],fun z=>by cases z⟩
 | tup _ _=>exact ⟨false,fun T=>by simp [bP,jx],fun z=>by cases z⟩
 | @str _ x hx ox=>
  have z:x.length≤sizeLine:=by rw [sz]; omega
  by_cases h1:1≤x.length∧x.length≤8
  ·have c:∀ T,bh a6 (ae inD (aa 0) (fC (.str "abcdefghijklmnopqrstuvwxyz"))) [some (.d (.str x))] (D.signs x) T=some ((D.signs x).map fun d=>.bool (iQ "abcdefghijklmnopqrstuvwxyz" d),T):=fun T=>gc (g:=fun d=>.bool (iQ "abcdefghijklmnopqrstuvwxyz" d)) fun d hd=>by
    obtain ⟨k,_,rfl⟩:=o9 hd
    simp [iQ]
   have h1a:(1:Int)≤x.length:=by omega
   have h1b:(x.length:Int)≤8:=by omega
   exact ⟨(D.signs x).all (iQ "abcdefghijklmnopqrstuvwxyz"),fun T=>by simp [bP,dP,z,h1,h1a,h1b,c],fun _=>⟨x,rfl,ox⟩⟩
  ·by_cases h2:(1:Int)≤x.length
   ·have h3:¬ (x.length:Int)≤8:=by omega
    have h3':¬ x.length≤8:=by omega
    exact ⟨false,fun T=>by simp [bP,dP,z,h2,h3,h3'],fun z=>by cases z⟩
   ·exact ⟨false,fun T=>by simp [bP,dP,z,h2],fun z=>by cases z⟩
theorem B5 {v:PyData} (h:Vt 4 v):bM (vaD v)=true:=by
 have:=yK h
 simp [vaD,bM,cX,this]
theorem B8 (w:Str):bM (faD w)=true:=by simp [faD,bM,cX]
theorem B6 {r:PyData} (h:Tl r):bM r=true:=by
 cases h with
 | va h=>exact B5 h
 | fa _=>exact B8 _
theorem DC (a b c:Str):gm (.str a) (.tuple [.str b,.str c])=some (.bool (!(decide (b=a) || decide (c=a)))):=by
 have e:∀ x y:Str,eqF (.str x) (.str y)=decide (x=y):=fun x y=>by
  rw [Bool.eq_iff_iff]
  simp [eqF]
 simp [gm,inS,eG,e]
theorem cond_of (w:String) (l:List PyData) (u v x y:Option W) (T:Tp):rnC [some (.d (.tuple (.str (Str.ofString w)::l))),u,v,x,y] T=some (!(decide (Str.ofString "say" = Str.ofString w) || decide (Str.ofString "fail" = Str.ofString w)),T):=by
 have i0:atI (PyData.str (Str.ofString w)::l) 0=some (.str (Str.ofString w)):=by
  exact eY (xs:=PyData.str (Str.ofString w)::l) (j:=0) (v:=.str (Str.ofString w)) rfl
 simp [rnC,i0,DC]
theorem eX {e:PyData} {got:List PyData} {r:PyData} {T:Tp} (h:∀ T,bq 25 [.d e,.d (.list got)] T=some (r,T)) (hr:Tl r):kR (bq 25) [.d e,.loc (.list got)] T=some (.d r,T):=xp rfl (h []) (B6 hr)
def fin (rs:List SS) (en:SS) (x:PyData):PyData:=.tuple [.tuple (rdD rs),enD en,x]
theorem fU:Str.ofString "value"≠Str.ofString "fails":=by decide
theorem at4 {α:Type} {a b c d:α}:atI [a,b,c,d] 0=some a∧atI [a,b,c,d] 1=some b∧atI [a,b,c,d] 2=some c∧atI [a,b,c,d] 3=some d:=⟨rfl,rfl,rfl,rfl⟩
theorem z6 {e:PyData} {got:List PyData} {r:PyData} (h:∀ T,bq 25 [.d e,.d (.list got)] T=some (r,T)) (hr:Tl r) (g:PyData) (rs:List SS) (y:Option W) (T:Tp):∃ en x ρ',OkE en∧((∃ v,r=vaD v∧en=(Str.ofString "made",stp 24 v))∨(∃ w,r=faD w∧en=(Str.ofString "fails",w))) ∧
  rnR [some (.d (bC e)),some (.d g),some (.loc (.list got)),some (.loc (.list (rdD rs))),y] T=some ((.rt (fin rs en x),ρ'),T):=by
 have cf:=eX (T:=T) h hr
 cases hr with
 | @va v hv=>
  have st:∀ T,bN 25 [.d v] T=some (.str (stp 24 v),T):=fun T=>js hv (by decide) 24 T (by decide)
  refine ⟨(Str.ofString "made",stp 24 v),v,[some (.d (bC e)),some (.d g),some (.loc (.list got)),some (.loc (.list (rdD rs))),some (.d (vaD v))],⟨dX (by decide +kernel),(iR hv 24 (by decide)).2⟩,.inl ⟨v,rfl,rfl⟩,?_⟩
  unfold vaD at cf
  simp [rnR,bC,aY,cf,fU,st,fin,enD,vaD]
 | @fa w hw=>
  refine ⟨(Str.ofString "fails",w),.none,[some (.d (bC e)),some (.d g),some (.loc (.list got)),some (.loc (.list (rdD rs))),some (.d (faD w))],⟨dX (by decide +kernel),hw⟩,.inr ⟨w,rfl,rfl⟩,?_⟩
  unfold faD at cf
  simp [rnR,bC,aY,cf,fin,enD,faD]
theorem ym {w:Str} (g:PyData) (got:List PyData) (rs:List SS) (y:Option W) (T:Tp):∃ ρ',rnR [some (.d (cy w)),some (.d g),some (.loc (.list got)),some (.loc (.list (rdD rs))),y] T=some ((.rt (fin rs (Str.ofString "fails",w) .none),ρ'),T):=by
 refine ⟨[some (.d (cy w)),some (.d g),some (.loc (.list got)),some (.loc (.list (rdD rs))),some (.d (faD w))],?_⟩
 have n:Str.ofString "fail"≠Str.ofString "say":=by decide
 simp [rnR,cy,aY,n,fin,enD,faD]
theorem gk {e:PyData} {got:List PyData} {r:PyData} (h:∀ T,bq 25 [.d e,.d (.list got)] T=some (r,T)):tld e got=some r:=by
 unfold tld
 rw [h []]
 rfl
theorem kI {v:PyData} {b:Bool} (h:∀ T,bP [.d v] T=some (.bool b,T)):nmB v=some (.bool b):=by
 unfold nmB
 rw [h []]
 rfl
theorem hW:OkR []:=fun p hp=>by cases hp
theorem jU:Str.ofString "want"≠Str.ofString "when":=by decide
theorem gl {got:List PyData} {v:PyData}:atI (got++[v]) (-1)=some v:=by
 have h1:(1:Int)≤(got.length:Int) + 1:=by omega
 have h2:(-1 + ((got.length:Int) + 1)).toNat=got.length:=by omega
 unfold atI ixN
 simp [h1,h2]
theorem o6 {e:PyData} {l:List PyData} {a:String} {got:List PyData} {w:Str} (h:∀ T,bq 25 [.d e,.d (.list got)] T=some (faD w,T)) (ht:Tl (faD w)) (g:PyData) (rs:List SS) (y:Option W) (T:Tp) :
  ∃ ρ',rnB [some (.d (.tuple (.str (Str.ofString a)::e::l))),some (.d g),some (.loc (.list got)),some (.loc (.list (rdD rs))),y] T=some ((.rt (fin rs (Str.ofString "fails",w) .none),ρ'),T):=by
 have cf:=eX (T:=T) h ht
 have i1:atI (PyData.str (Str.ofString a)::e::l) 1=some e:=eY (xs:=PyData.str (Str.ofString a)::e::l) (j:=1) (v:=e) rfl
 refine ⟨[some (.d (.tuple (.str (Str.ofString a)::e::l))),some (.d g),some (.loc (.list got)),some (.loc (.list (rdD rs))),some (.d (faD w))],?_⟩
 unfold faD at cf
 simp [rnB,i1,cf,aY,fin,enD,faD]
theorem wA {e p q v:PyData} {b:Bool} {got:List PyData} (h:∀ T,bq 25 [.d e,.d (.list got)] T=some (vaD v,T)) (ht:Tl (vaD v)) (hb:inG v zer=some (.bool b)) (g:PyData) (rs:List SS) (y:Option W) (T:Tp) :
  rnB [some (.d (cw e p q)),some (.d g),some (.loc (.list got)),some (.loc (.list (rdD rs))),y] T=some ((.nx,[some (.d (if b=true then q else p)),some (.d g),some (.loc (.list got)),some (.loc (.list (rdD rs))),some (.d (vaD v))]),T):=by
 have cf:=eX (T:=T) h ht
 unfold vaD at cf ⊢
 unfold zer at hb
 cases b <;> simp [rnB,cw,at4,cf,aY,fU,hb]
theorem vB {e r v:PyData} {got:List PyData} (h:∀ T,bq 25 [.d e,.d (.list got)] T=some (vaD v,T)) (ht:Tl (vaD v)) (hn:∀ T,bP [.d v] T=some (.bool false,T)) (g:PyData) (rs:List SS) (y:Option W) (T:Tp) :
  ∃ ρ',rnB [some (.d (bg e r)),some (.d g),some (.loc (.list got)),some (.loc (.list (rdD rs))),y] T=some ((.rt (fin rs (Str.ofString "fails",Str.ofString "name") .none),ρ'),T):=by
 have cf:=eX (T:=T) h ht
 refine ⟨[some (.d (bg e r)),some (.d g),some (.loc (.list got)),some (.loc (.list (rdD rs))),some (.d (vaD v))],?_⟩
 unfold vaD at cf ⊢
 simp [rnB,bg,at3,cf,aY,fU,jU,hn,fin,enD]
theorem wC {e r:PyData} {n:Str} {got:List PyData} {gd:Dc} (h:∀ T,bq 25 [.d e,.d (.list got)] T=some (vaD (.str n),T)) (ht:Tl (vaD (.str n))) (hn:∀ T,bP [.d (.str n)] T=some (.bool true,T)) (hk:aL gd n=none) (rs:List SS) (y:Option W) (T:Tp) :
  ∃ ρ',rnB [some (.d (bg e r)),some (.d (.dict gd)),some (.loc (.list got)),some (.loc (.list (rdD rs))),y] T=some ((.rt (fin rs (Str.ofString "wants",n) .none),ρ'),T):=by
 have cf:=eX (T:=T) h ht
 refine ⟨[some (.d (bg e r)),some (.d (.dict gd)),some (.loc (.list got)),some (.loc (.list (rdD rs))),some (.d (vaD (.str n)))],?_⟩
 unfold vaD at cf ⊢
 simp [rnB,bg,at3,cf,aY,fU,jU,hn,hk,fin,enD]
theorem wB {e r v:PyData} {n:Str} {got:List PyData} {gd:Dc} (h:∀ T,bq 25 [.d e,.d (.list got)] T=some (vaD (.str n),T)) (ht:Tl (vaD (.str n))) (hn:∀ T,bP [.d (.str n)] T=some (.bool true,T)) (hk:aL gd n=some v) (hv:Vt 2 v) (rs:List SS) (l1:rs.length≤100) (l2:got.length≤100) (y:Option W) (T:Tp) :
  rnB [some (.d (bg e r)),some (.d (.dict gd)),some (.loc (.list got)),some (.loc (.list (rdD rs))),y] T=some ((.nx,[some (.d r),some (.d (.dict gd)),some (.loc (.list (got++[v]))),some (.loc (.list (rdD (rs++[(n,stp 24 v)])))),some (.d (vaD (.str n)))]),T):=by
 have cf:=eX (T:=T) h ht
 have st:∀ T,bN 25 [.d v] T=some (.str (stp 24 v),T):=fun T=>js hv (by decide) 24 T (by decide)
 have z1:got.length < sizeLine:=by rw [sz]; omega
 have z2:(rdD rs).length < sizeLine:=by rw [sz,eZ]; omega
 have rr:rdD rs++[.tuple [.str n,.str (stp 24 v)]]=rdD (rs++[(n,stp 24 v)]):=by simp [rdD,enD]
 have vw:∀ (T:Tp) (xs:List PyData) (y:PyData),op2 ixD T (.loc (.list xs)) (.d y)=mkD T (ixD (.list xs) y):=fun _ _ _=>rfl
 unfold vaD at cf ⊢
 simp [rnB,bg,at3,cf,aY,fU,jU,hn,hk,z1,z2,st,gl,rr,vw]
theorem AN {gd:Dc} (hgd:∀ n v,aL gd n=some v→v∈allV) {h k:Nat} {r:PyData} (hc:RC h k r):∀ (got:List PyData) (rs:List SS) (y:Option W) (T:Tp) (f:Nat),got.length=k→(∀ v∈got,v∈allV)→OkR rs→rs.length + h≤100→got.length + h≤100→h < f →
  ∃ more en x ρ',Run gd r got more en∧OkR more∧OkE en∧more.length≤h∧bnd (bc rnC rnB f [some (.d r),some (.d (.dict gd)),some (.loc (.list got)),some (.loc (.list (rdD rs))),y] T) (cZ rnR)=some ((.rt (fin (rs++more) en x),ρ'),T):=by
 induction hc with
 | @say h k e he=>
  intro got rs y T f hk hg ho l1 l2 hf
  obtain ⟨f,rfl⟩:=c8 f (by omega)
  obtain ⟨t,ht,et⟩:=mG he hk hg
  obtain ⟨en,x,ρ',oe,hen,ee⟩:=z6 et ht (.dict gd) rs y T
  have cc:=cond_of "say" [e] (some (.d (.dict gd))) (some (.loc (.list got))) (some (.loc (.list (rdD rs)))) y T
  refine ⟨[],en,x,ρ',?_,hW,oe,Nat.zero_le _,?_⟩
  ·rcases hen with ⟨v,rfl,rfl⟩ | ⟨w,rfl,rfl⟩
   ·exact .sayV (gk et)
   ·exact .sayF (gk et)
  ·rw [List.append_nil,← ee]
   unfold bc bC
   rw [cc]
   simp
 | @fail h k w hw=>
  have hw:=menu_lo hw
  intro got rs y T f hk hg ho l1 l2 hf
  obtain ⟨f,rfl⟩:=c8 f (by omega)
  obtain ⟨ρ',ee⟩:=ym (w:=w) (.dict gd) got rs y T
  have cc:=cond_of "fail" [.str w] (some (.d (.dict gd))) (some (.loc (.list got))) (some (.loc (.list (rdD rs)))) y T
  refine ⟨[],_,.none,ρ',.fail,hW,⟨dX (by decide +kernel),hw⟩,Nat.zero_le _,?_⟩
  rw [List.append_nil,← ee]
  unfold bc cy
  rw [cc]
  simp
 | @want h k e r he hr ih=>
  intro got rs y T f hk hg ho l1 l2 hf
  obtain ⟨f,rfl⟩:=c8 f (by omega)
  obtain ⟨t,ht,et⟩:=mG he hk hg
  have cc:=cond_of "want" [e,r] (some (.d (.dict gd))) (some (.loc (.list got))) (some (.loc (.list (rdD rs)))) y T
  have c1:(!(decide (Str.ofString "say" = Str.ofString "want") || decide (Str.ofString "fail" = Str.ofString "want")))=true:=by decide
  rw [c1] at cc
  have go:bc rnC rnB (f + 1) [some (.d (bg e r)),some (.d (.dict gd)),some (.loc (.list got)),some (.loc (.list (rdD rs))),y] T=bnd (rnB [some (.d (bg e r)),some (.d (.dict gd)),some (.loc (.list got)),some (.loc (.list (rdD rs))),y] T) fun p T2=>match p with
    | (.nx,ρ1)=>bc rnC rnB f ρ1 T2
    | (.ct,ρ1)=>bc rnC rnB f ρ1 T2
    | (.bk,ρ1)=>some ((.nx,ρ1),T2)
    | (.rt x,ρ1)=>some ((.rt x,ρ1),T2)
    | (.ro x,ρ1)=>some ((.ro x,ρ1),T2):=by
   conv=>lhs; unfold bc
   show bnd (rnC [some (.d (.tuple (.str "want"::[e,r]))),_,_,_,_] T) _=_
   rw [cc]
   rfl
  rw [go]
  cases ht with
  | @fa w hw=>
   obtain ⟨ρ',es⟩:=o6 (a:="want") (l:=[r]) et (.fa hw) (.dict gd) rs y T
   refine ⟨[],_,.none,ρ',.wantF (gk et),hW,⟨dX (by decide +kernel),hw⟩,Nat.zero_le _,?_⟩
   rw [List.append_nil,show bg e r=.tuple (.str "want"::e::[r]) from rfl,es]
   rfl
  | @va v hv=>
   obtain ⟨b,hb,hb'⟩:=mF hv
   cases b with
   | false=>
    obtain ⟨ρ',es⟩:=vB (r:=r) et (.va hv) hb (.dict gd) rs y T
    refine ⟨[],_,.none,ρ',.wantN (gk et) (kI hb),hW,⟨dX (by decide +kernel),dX (by decide +kernel)⟩,Nat.zero_le _,?_⟩
    rw [List.append_nil,es]
    rfl
   | true=>
    obtain ⟨n,rfl,on⟩:=hb' rfl
    cases hkk:aL gd n with
    | none=>
     obtain ⟨ρ',es⟩:=wC (r:=r) et (.va hv) hb hkk rs y T
     refine ⟨[],_,.none,ρ',.wantW (gk et) (kI hb) hkk,hW,⟨dX (by decide +kernel),on⟩,Nat.zero_le _,?_⟩
     rw [List.append_nil,es]
     rfl
    | some u=>
     have hu:=hgd n u hkk
     have vu:=(il hu).vt
     have es:=wB (r:=r) et (.va hv) hb hkk vu rs (by omega) (by omega) y T
     obtain ⟨more,en,x,ρ',h1,h2,h3,h4,h5⟩:=ih (got++[u]) (rs++[(n,stp 24 u)]) (some (.d (vaD (.str n)))) T f (by simp [hk]) (fun v hv=>by
      rcases List.mem_append.mp hv with q | q
      ·exact hg v q
      ·simp at q; subst q; exact hu) (Bj ho fun p hp=>by simp at hp; subst hp; exact ⟨on,(iR vu 24 (by decide)).2⟩) (by simp; omega) (by simp; omega) (by omega)
     refine ⟨(n,stp 24 u)::more,en,x,ρ',.want (gk et) (kI hb) hkk h1,fun p hp=>?_,h3,by simp; omega,?_⟩
     ·rcases List.mem_cons.mp hp with q | q
      ·subst q; exact ⟨on,(iR vu 24 (by decide)).2⟩
      ·exact h2 p q
     ·rw [es]
      rw [List.append_assoc] at h5
      exact h5
 | @when h k e p q he hp hq ihp ihq=>
  intro got rs y T f hk hg ho l1 l2 hf
  obtain ⟨f,rfl⟩:=c8 f (by omega)
  obtain ⟨t,ht,et⟩:=mG he hk hg
  have cc:=cond_of "when" [e,p,q] (some (.d (.dict gd))) (some (.loc (.list got))) (some (.loc (.list (rdD rs)))) y T
  have c1:(!(decide (Str.ofString "say" = Str.ofString "when") || decide (Str.ofString "fail" = Str.ofString "when")))=true:=by decide
  rw [c1] at cc
  have go:bc rnC rnB (f + 1) [some (.d (cw e p q)),some (.d (.dict gd)),some (.loc (.list got)),some (.loc (.list (rdD rs))),y] T=bnd (rnB [some (.d (cw e p q)),some (.d (.dict gd)),some (.loc (.list got)),some (.loc (.list (rdD rs))),y] T) fun p T2=>match p with
    | (.nx,ρ1)=>bc rnC rnB f ρ1 T2
    | (.ct,ρ1)=>bc rnC rnB f ρ1 T2
    | (.bk,ρ1)=>some ((.nx,ρ1),T2)
    | (.rt x,ρ1)=>some ((.rt x,ρ1),T2)
    | (.ro x,ρ1)=>some ((.ro x,ρ1),T2):=by
   conv=>lhs; unfold bc
   show bnd (rnC [some (.d (.tuple (.str "when"::[e,p,q]))),_,_,_,_] T) _=_
   rw [cc]
   rfl
  rw [go]
  cases ht with
  | @fa w hw=>
   obtain ⟨ρ',es⟩:=o6 (a:="when") (l:=[p,q]) et (.fa hw) (.dict gd) rs y T
   refine ⟨[],_,.none,ρ',.whenF (gk et),hW,⟨dX (by decide +kernel),hw⟩,Nat.zero_le _,?_⟩
   rw [List.append_nil,show cw e p q=.tuple (.str "when"::e::[p,q]) from rfl,es]
   rfl
  | @va v hv=>
   obtain ⟨b,hb⟩:=BC hv
   have es:=wA (p:=p) (q:=q) et (.va hv) hb (.dict gd) rs y T
   have ih:∃ more en x ρ',Run gd (if b=true then q else p) got more en∧OkR more∧OkE en∧more.length≤h∧bnd (bc rnC rnB f [some (.d (if b=true then q else p)),some (.d (.dict gd)),some (.loc (.list got)),some (.loc (.list (rdD rs))),some (.d (vaD v))] T) (cZ rnR)=some ((.rt (fin (rs++more) en x),ρ'),T):=by
    cases b with
    | true=>exact ihq got rs _ T f hk hg ho (by omega) (by omega) (by omega)
    | false=>exact ihp got rs _ T f hk hg ho (by omega) (by omega) (by omega)
   obtain ⟨more,en,x,ρ',h1,h2,h3,h4,h5⟩:=ih
   refine ⟨more,en,x,ρ',.when (gk et) hb h1,h2,h3,by omega,?_⟩
   rw [es]
   exact h5
theorem Dg {gd:Dc} (hgd:∀ n v,aL gd n=some v→v∈allV) {h:Nat} {r:PyData} (hc:RC h 0 r) (hh:h≤10) (T:Tp):∃ m en x,Run gd r [] m en∧OkR m∧OkE en∧m.length≤h∧gH [.d r,.d (.dict gd)] T=some (fin m en x,T):=by
 obtain ⟨m,en,x,ρ',h1,h2,h3,h4,h5⟩:=AN hgd hc [] [] none T 100000 rfl (fun v hv=>by cases hv) hW (by simp; omega) (by simp; omega) (by omega)
 refine ⟨m,en,x,h1,h2,h3,by omega,?_⟩
 rw [List.nil_append] at h5
 rw [AO]
 have r0:rdD []=[]:=rfl
 rw [r0] at h5
 simp [h5]
theorem DM {r:Int} (h0:0≤r) (h1:r < 10):r=0∨r=1∨r=2∨r=3∨r=4∨r=5∨r=6∨r=7∨r=8∨r=9:=by omega
theorem v_1:PyData.int 1∈allV:=by simp [allV,gs]
theorem v_0:PyData.int 0∈allV:=by simp [allV,gs]
theorem v_a:PyData.str "a"∈allV:=by simp [allV,gs]
theorem g0 {k:Nat} (h:0 < k):Lf k (exG 0):=.got (i:=0) h
theorem g1 {k:Nat} (h:1 < k):Lf k (exG 1):=.got (i:=1) h
theorem B2 (ns:List Int) (k:Int) (xs:List Str) (N:Nms xs) (T:Tp) (hk:0≤k:=by omega) (hk':k≤80000:=by omega) (hl:ns.length≤63:=by omega):∃ e,iG [.d (aS ns),.d (.int k),.d (.list (xs.map .str))] T=some (e,T)∧EXp 1 e:=by
 obtain ⟨v,ev,hv⟩:=L_value ns (k + 1) xs N T
 obtain ⟨r,er,a,b⟩:=bZ ns k 10 T
 have z:(5:Nat) + 5≤sizeLine:=by decide
 have all:∃ e,atI [exG 0,ex2 "sum" (exG 0) (exP (.int 1)),ex2 "join" (exG 0) (exP (.str "a")),.tuple [.str "many",exG 0],ex2 "same" (exG 0) (exP v),.tuple [.str "row",.tuple [exG 0,exP v]],ex2 "part" (exG 0) (exP (.int 0)),ex2 "less" (exG 0) (exP (.int 1)),.tuple [.str "many",exG 0],exG 0] r=some e∧EXp 1 e:=by
  have g:=g0 (show 0 < 1 by decide)
  rcases DM a b with rfl | rfl | rfl | rfl | rfl | rfl | rfl | rfl | rfl | rfl
  ·exact ⟨_,rfl,.lf g⟩
  ·exact ⟨_,rfl,.two (.inl rfl) g (.put v_1)⟩
  ·exact ⟨_,rfl,.two (.inr (.inl rfl)) g (.put v_a)⟩
  ·exact ⟨_,rfl,.many g⟩
  ·exact ⟨_,rfl,.two (.inr (.inr (.inl rfl))) g (.put hv)⟩
  ·exact ⟨_,rfl,.row g (.put hv)⟩
  ·exact ⟨_,rfl,.two (.inr (.inr (.inr (.inl rfl)))) g (.put v_0)⟩
  ·exact ⟨_,rfl,.two (.inr (.inr (.inr (.inr rfl)))) g (.put v_1)⟩
  ·exact ⟨_,rfl,.many g⟩
  ·exact ⟨_,rfl,.lf g⟩
 obtain ⟨e,ee,he⟩:=all
 refine ⟨e,?_,he⟩
 unfold exG exP ex2 at ee
 simp [iG,ev,z,er,ee]
theorem nM (ns:List Int) (k:Int) (xs:List Str) (N:Nms xs) (T:Tp) (hk:0≤k:=by omega) (hk':k≤90000:=by omega) (hl:ns.length≤63:=by omega):∃ r x,aU [.d (aS ns),.d (.int k),.d (.int (xs.length:Int))] T=some (.int r,T)∧atI (xs.map PyData.str) r=some (.str x)∧x∈menu:=by
 have n1:=N.few
 obtain ⟨r,e,a,b⟩:=bZ ns k (xs.length:Int) T
 obtain ⟨x,h1,h2⟩:=ij (xs:=xs.map PyData.str) (i:=r) a (by simpa using b)
 obtain ⟨y,hy,rfl⟩:=List.mem_map.mp h2
 exact ⟨r,y,e,h1,N.inm y hy⟩
theorem tW {x:Str} (h:x∈menu):PyData.str x∈allV:=List.mem_append_right _ (List.mem_map.mpr ⟨x,h,rfl⟩)
theorem yE (ns:List Int) (k:Int) (xs:List Str) (N:Nms xs) (T:Tp) (hk:0≤k:=by omega) (hk':k≤70000:=by omega) (hl:ns.length≤63:=by omega):∃ r,gX [.d (aS ns),.d (.int k),.d (.list (xs.map .str)),.d (.int 8)] T=some (r,T)∧RC 3 0 r:=by
 obtain ⟨r0,n0,e0,f0,m0⟩:=nM ns k xs N T
 obtain ⟨r1,n1,e1,f1,m1⟩:=nM ns (k + 1) xs N T
 obtain ⟨v,e2,hv⟩:=L_value ns (k + 2) xs N T
 obtain ⟨x,e3,hx⟩:=B2 ns (k + 3) xs N T
 obtain ⟨r5,e5,a5,b5⟩:=bZ ns (k + 5) 3 T
 obtain ⟨r6,n6,e6,f6,m6⟩:=nM ns (k + 6) xs N T
 obtain ⟨r7,e7,a7,b7⟩:=bZ ns (k + 7) 8 T
 have hb:∃ b,atI [PyData.tuple [.str "row",.tuple [exG 0,exG 1]],ex2 "same" (exG 0) (exG 1),ex2 "sum" (exG 1) (exG 0)] r5=some b∧EXp 2 b:=by
  have p:=g0 (show 0 < 2 by decide)
  have q:=g1 (show 1 < 2 by decide)
  rcases in3 a5 b5 with rfl | rfl | rfl
  ·exact ⟨_,rfl,.row p q⟩
  ·exact ⟨_,rfl,.two (.inr (.inr (.inl rfl))) p q⟩
  ·exact ⟨_,rfl,.two (.inl rfl) q p⟩
 obtain ⟨b,eb,hb⟩:=hb
 have p0:∀ {k:Nat},EXp k (exP (.str n0)):=.lf (.put (tW m0))
 have p1:∀ {k:Nat},EXp k (exP (.str n1)):=.lf (.put (tW m1))
 have all:∃ r,atI [bC (exP v),bg (exP (.str n0)) (bC x),bg (exP (.str n0)) (bg (exP (.str n1)) (bC b)),bg (exP (.str n0)) (bC x),bg (exP (.str n0)) (cw x (bg (exP (.str n1)) (bC (exG 1))) (bC (exP v))),bg (exP (.str n0)) (bg (exG 0) (bC (exG 1))),cy n6,bg (exP (.str n0)) (bg (exP (.str n0)) (bC b)),
   .tuple [.str "peek",exP (.str n0),bC x],.tuple [.str "peek",exP (.str n0),cw x (bg (exP (.str n1)) (bC (exG 1))) (bC (exP v))],bg (exP (.str n0)) (.tuple [.str "peek",exP (.str n1),bC b]),.tuple [.str "peek",exP (.str n0),bg (exP (.str n1)) (bC b)]] r7=some r∧RC 3 0 r:=by
  rcases in8 a7 b7 with rfl | rfl | rfl | rfl | rfl | rfl | rfl | rfl
  ·exact ⟨_,rfl,.say (.lf (.put hv))⟩
  ·exact ⟨_,rfl,.want p0 (.say hx)⟩
  ·exact ⟨_,rfl,.want p0 (.want p1 (.say hb))⟩
  ·exact ⟨_,rfl,.want p0 (.say hx)⟩
  ·exact ⟨_,rfl,.want p0 (.when hx (.want p1 (.say (.lf (g1 (by decide))))) (.say (.lf (.put hv))))⟩
  ·exact ⟨_,rfl,.want p0 (.want (.lf (g0 (by decide))) (.say (.lf (g1 (by decide)))))⟩
  ·exact ⟨_,rfl,.fail m6⟩
  ·exact ⟨_,rfl,.want p0 (.want p0 (.say hb))⟩
 obtain ⟨r,er,hr⟩:=all
 refine ⟨r,?_,hr⟩
 ·have z1:(4:Nat) + 2≤sizeLine:=by decide
  have z2:(6:Nat) + 2≤sizeLine:=by decide
  have z3:(8:Nat) + 2≤sizeLine:=by decide
  have z4:(10:Nat) + 2≤sizeLine:=by decide
  unfold exG ex2 at eb
  unfold bC bg cw cy exP exG at er
  simp [gX,e0,f0,e1,f1,e2,e3,e5,eb,e6,f6,z1,z2,z3,z4,e7,er]
theorem qB:∀ (n:Nat) (v:PyData),bp n v=true→∀ m,n≤m→stp m v=GV.mk (GV.cst n v)
 | n,v,h,m,hm=>by
  apply GV.gK
  rw [GV.jN]
  rcases GV.iH h with h1 | ⟨k,ds,rfl,rfl,_,hd⟩
  ·rcases GV.jX h1 with ⟨i,rfl⟩ | ⟨x,rfl⟩
   ·rw [GV.rF,← GV.CP]
    cases m <;> rfl
   ·rw [GV.rD]
    have e:stp m (.str x)=Str.ofString "'"++x:=by cases m <;> rfl
    rw [e,GV.jC]
    rfl
  ·obtain ⟨m,rfl⟩:=c8 m (by omega)
   have e:stp (m + 1) (.tuple ds)=Str.ofString "("++Str.join "," (ds.map (stp m))++Str.ofString ")":=rfl
   have ih:(ds.map (stp m)).map GV.cd=ds.map (GV.cst k):=by
    rw [List.map_map]
    apply List.map_congr_left
    intro d hx
    have:=qB k d (hd d hx) m (by omega)
    show GV.cd (stp m d)=_
    rw [this,GV.jN]
   rw [e,GV.jC,GV.jC,GV.qV,ih]
   rfl
theorem sX {v:PyData} (h:aZ v=true) (T:Tp):eS [.d (.str (stp 24 v))] T=some (v,T):=by
 have hb:=(GV.lW h).1
 rw [qB 4 v hb 24 (by decide)]
 exact GV.B3 T h
theorem qo:∀ (n:Nat) (v:PyData),bp n v=true→Vt n v
 | n,v,h=>by
  rcases GV.iH h with h1 | ⟨k,ds,rfl,rfl,h8,hd⟩
  ·rcases GV.jX h1 with ⟨i,rfl⟩ | ⟨x,rfl⟩
   ·exact .int (by have:=GV.lS h1; omega)
   ·have h2:(decide (x.length≤20) && has TXT x)=true:=h1
    rw [Bool.and_eq_true] at h2
    exact .str (by have:=of_decide_eq_true h2.1; omega) (GV.sG GV.sW h2.2)
  ·exact .tup h8 fun d hx=>qo k d (hd d hx)
theorem kr {v:PyData} (h:aZ v=true):Vt 4 v:=qo 4 v (GV.lW h).1
theorem lA {v:PyData} (h:aZ v=true) (T:Tp):bN 25 [.d v] T=some (.str (stp 24 v),T):=js (kr h) (by decide) 24 T (by decide)
structure Ln where
 n:Str
 r:List SS
 e:SS
def Ln.d (l:Ln):PyData:=lnD l.n l.r l.e
def Nm (w:Str):Prop:=Lo w∧∀ T,bP [.d (.str w)] T=some (.bool true,T)
inductive GE:SS→Prop where
 | made {v:PyData}:aZ v=true→GE (Str.ofString "made",stp 24 v)
 | fails {w:Str}:Nm w→GE (Str.ofString "fails",w)
 | wants {w:Str}:Nm w→GE (Str.ofString "wants",w)
structure DOk (D:Dc):Prop where
 ok:∀ s v,aL D s=some v→aZ v=true∧s=stp 24 v
structure GL (D:Dc) (l:Ln):Prop where
 rd:∀ p∈l.r,Nm p.1∧∃ v,aL D p.2=some v
 en:GE l.e
 le:l.r.length≤3
 lo:Lo l.n
theorem qQ:Lo "made":=cx (by decide +kernel)
theorem qb:Lo "fails":=cx (by decide +kernel)
theorem m8 {v:PyData} (h:aZ v=true):Lo (stp 24 v):=(iR (kr h) 24 (by decide)).2
theorem GE.ok {e:SS} (h:GE e):OkE e:=by
 cases h with
 | made h=>exact ⟨qQ,m8 h⟩
 | fails h=>exact ⟨qb,h.1⟩
 | wants h=>exact ⟨hG,h.1⟩
theorem GL.okR {D:Dc} (hD:DOk D) {l:Ln} (h:GL D l):OkR l.r:=fun p hp=>by
 obtain ⟨h1,v,h2⟩:=h.rd p hp
 obtain ⟨h3,h4⟩:=hD.ok _ _ h2
 exact ⟨h1.1,by rw [h4]; exact m8 h3⟩
def fM (a b:Ln):Bool:=bK a.r a.e b.r b.e
theorem An {D:Dc} (hD:DOk D) {a b:Ln} (ha:GL D a) (hb:GL D b) (T:Tp):gb [.d a.d,.d b.d] T=some (.bool (fM a b),T):=BZ a.n b.n a.r b.r a.e b.e T (by have:=ha.le; omega) (ha.okR hD) (hb.okR hD) ha.en.ok hb.en.ok
theorem yG {D:Dc} (hD:DOk D) {a b:Ln} (ha:GL D a) (hb:GL D b) (T:Tp):f9 [.d a.d,.d b.d] T=some (.bool (fM a b),T):=Ap a.n b.n a.r b.r a.e b.e T (by have:=ha.le; omega) (by have:=hb.le; omega) (ha.okR hD) (hb.okR hD) ha.en.ok hb.en.ok
theorem BF (b:Bool) (T:Tp):bV 25 [.d (.int (if b then 1 else 0)),.d (.int 0)] T=some (.bool true,T):=by cases b <;> simp [bV,kM,kN]
theorem wy {g:List PyData} {i:Nat} {a v:PyData} (ha:aZ a=true) (hv:aZ v=true) (hi:atI g (i:Int)=some a) (T:Tp) :
  bq 25 [.d (ex2 "same" (exG i) (exP v)),.d (.list g)] T=some (vaD (.int (if decide (stp 24 a=stp 24 v) then 1 else 0)),T):=by
 have n1:Str.ofString "same"≠Str.ofString "put":=by decide
 have n2:Str.ofString "same"≠Str.ofString "got":=by decide
 have n3:Str.ofString "same"≠Str.ofString "row":=by decide
 have n4:Str.ofString "same"≠Str.ofString "many":=by decide
 have n5:Str.ofString "same"≠Str.ofString "part":=by decide
 have h1:∀ T,bq 24 [.d (exG i),.d (.list g)] T=some (vaD a,T):=fun T=>rT (bq 23) i g a hi T
 have h2:∀ T,bq 24 [.d (exP v),.d (.list g)] T=some (vaD v,T):=fun T=>jt (bq 23) v _ T
 have c:∀ T,bh a6 (ar (bq 24) (ab (aa 0) (ab (aa 2) ag))) [some (.d (ex2 "same" (exG i) (exP v))),some (.d (.list g)),none,none,none,none] [exG i,exP v] T=some ([vaD a,vaD v],T):=fun T=>by
  simp [bh,h1,h2]
 have sl:bv [PyData.str "same",exG i,exP v] (some 1) none=[exG i,exP v]:=rfl
 have i3:atI [PyData.str "same",exG i,exP v] 0=some (.str "same"):=rfl
 have mp:[vaD a,vaD v]=[a,v].map vaD:=rfl
 have q1:=fun T=>lA ha T
 have q2:=fun T=>lA hv T
 have ev:∀ T,bj [.d (.str "same"),.d a,.d v] T=some (.int (if decide (stp 24 a=stp 24 v) then 1 else 0),T):=fun T=>by
  simp [bj,q1,q2,jz]
 obtain ⟨b',e⟩:=jp (T:=T) [a,v] (.d (ex2 "same" (exG i) (exP v))) (.d (.list g)) (.d (.list [vaD a,vaD v])) none none none
 have cv:=kf (T:=T) (ρ:=[some (.d (ex2 "same" (exG i) (exP v))),some (.d (.list g)),some (.d (.list [vaD a,vaD v])),b',none,none]) [a,v]
 rw [← mp] at e cv
 have c':=c T
 have ft:=BF (decide (stp 24 a=stp 24 v))
 have nn:isNone (.int (if decide (stp 24 a=stp 24 v) then 1 else 0))=false:=rfl
 rw [wx]
 generalize hz:(if decide (stp 24 a=stp 24 v) then (1:Int) else 0)=z at ev ft nn ⊢
 unfold ex2 at c' e cv ⊢
 simp [dC,i3,n1,n2,n3,n4,n5,sl,c',e,cv,aY,ev,ft,nn,cT]
 rfl
def rgB:FS:=(ak (aE 4 (fJ (bq 25) (ab (ae ixD (aa 0) (fC (.int 1))) (ab (aa 3) ag)))) (ak (fIf (au (ae eqD (ae ixD (aa 4) (fC (.int 0))) (fC (.str "fails")))) (av (bI (ae eqD (fCB aF (ab (aa 3) ag)) (fCB aF (ab (ae ixD (aa 1) (fC (.int 1))) ag))) (ae eqG (ae ixD (aa 1) (fC (.int 2))) (aa 4)))) aC) (fIf (au (ae eqD (ae ixD (aa 0) (fC (.int 0))) (fC (.str "when")))) (aE 0 (bH (au (ae inG (ae ixD (aa 4) (fC (.int 1))) (ao .tuple (ab (fC (.int 0)) (ab (fC (.str "")) (ab (ao .tuple ag) ag)))))) (ae ixD (aa 0) (fC (.int 3))) (ae ixD (aa 0) (fC (.int 2))))) (fIf (bF (aR (ar bP (ab (ae ixD (aa 4) (fC (.int 1))) ag)))) (av (bI (ae eqD (fCB aF (ab (aa 3) ag)) (fCB aF (ab (ae ixD (aa 1) (fC (.int 1))) ag))) (ae eqG (ae ixD (aa 1) (fC (.int 2))) (ao .tuple (ab (fC (.str "fails")) (ab (fC (.str "name")) ag)))))) (fIf (au (ae eqD (fCB aF (ab (aa 3) ag)) (fCB aF (ab (ae ixD (aa 1) (fC (.int 1))) ag)))) (av (ae eqG (ae ixD (aa 1) (fC (.int 2))) (ao .tuple (ab (fC (.str "wants")) (ab (ae ixD (aa 4) (fC (.int 1))) ag))))) (fIf (au (ae neD (ae ixD (ae ixD (ae ixD (aa 1) (fC (.int 1))) (fCB aF (ab (aa 3) ag))) (fC (.int 0))) (ae ixD (aa 4) (fC (.int 1))))) (av (fC (.bool false))) (ak (cj 3 (ae ixA (aa 2) (ae ixD (ae ixD (ae ixD (aa 1) (fC (.int 1))) (fCB aF (ab (aa 3) ag))) (fC (.int 1))))) (aE 0 (ae ixD (aa 0) (fC (.int 2)))))))))))
def rgR:FS:=(ak (fIf (au (ae neD (fCB aF (ab (aa 3) ag)) (fCB aF (ab (ae ixD (aa 1) (fC (.int 1))) ag)))) (av (fC (.bool false))) aC) (ak (fIf (au (ae eqD (ae ixD (aa 0) (fC (.int 0))) (fC (.str "fail")))) (av (ae eqG (ae ixD (aa 1) (fC (.int 2))) (ao .tuple (ab (fC (.str "fails")) (ab (ae ixD (aa 0) (fC (.int 1))) ag))))) aC) (ak (aE 4 (fJ (bq 25) (ab (ae ixD (aa 0) (fC (.int 1))) (ab (aa 3) ag)))) (av (ae eqG (ae ixD (aa 1) (fC (.int 2))) (bH (au (ae eqD (ae ixD (aa 4) (fC (.int 0))) (fC (.str "fails")))) (aa 4) (ao .tuple (ab (fC (.str "made")) (ab (ar (bN 25) (ab (ae ixD (aa 4) (fC (.int 1))) ag)) ag)))))))))
theorem xy:fA=aX 5 (ak (cF 3 ag) (ak (bc rnC rgB 100000) rgR)):=rfl
def RT (D:Dc) (n:Nat) (R:PyData) (l:Ln) (got:List PyData):Prop:=∀ (y:Option W) (T:Tp) (f:Nat),n < f →
 ∃ ρ',bnd (bc rnC rgB f [some (.d R),some (.d l.d),some (.d (.dict D)),some (.loc (.list got)),y] T) (cZ rgR)=some ((.rt (.bool true),ρ'),T)
theorem RT.mono {D:Dc} {n m:Nat} {R:PyData} {l:Ln} {got:List PyData} (h:RT D n R l got) (k:n≤m):RT D m R l got:=fun y T f hf=>h y T f (by omega)
theorem mS {a:SS} (h:OkE a):eqG (enD a) (enD a)=some (.bool true):=by rw [nF h h]; simp
theorem Dj {v:PyData} (h:aZ v=true):Tl (vaD v):=.va (kr h)
theorem sx {w:Str} (h:Nm w):Tl (vaD (.str w)):=by
 by_cases hl:w.length≤40
 ·exact .va (.str hl h.1)
 ·exfalso
  have:=h.2 []
  have z:¬ ((w.length:Int)≤8):=by omega
  by_cases hs:w.length≤sizeLine
  ·by_cases h1:(1:Int)≤(w.length:Int)
   ·simp [bP,dP,hs,h1,z] at this
   ·omega
  ·simp [bP,dP,hs] at this
   cases this
theorem qC (w:String) (l:List PyData) (u v x y:Option W) (T:Tp) (f:Nat) (h:(decide (Str.ofString "say" = Str.ofString w) || decide (Str.ofString "fail" = Str.ofString w))=true) :
  bc rnC rgB (f + 1) [some (.d (.tuple (.str (Str.ofString w)::l))),u,v,x,y] T=some ((.nx,[some (.d (.tuple (.str (Str.ofString w)::l))),u,v,x,y]),T):=by
 unfold bc
 rw [cond_of,h]
 rfl
theorem nU {w:String} {l:List PyData} {u v x y:Option W} {T:Tp} {f:Nat} {ρ':Rho} (h:(decide (Str.ofString "say" = Str.ofString w) || decide (Str.ofString "fail" = Str.ofString w))=false) (e:rgB [some (.d (.tuple (.str (Str.ofString w)::l))),u,v,x,y] T=some ((.nx,ρ'),T)) :
  bc rnC rgB (f + 1) [some (.d (.tuple (.str (Str.ofString w)::l))),u,v,x,y] T=bc rnC rgB f ρ' T:=by
 rw [bc]
 dsimp only
 rw [cond_of,h,dh]
 rw [if_pos (by rfl),e,dh]
theorem C0 {w:String} {l:List PyData} {u v x y:Option W} {T:Tp} {f:Nat} {ρ':Rho} {z:PyData} (h:(decide (Str.ofString "say" = Str.ofString w) || decide (Str.ofString "fail" = Str.ofString w))=false) (e:rgB [some (.d (.tuple (.str (Str.ofString w)::l))),u,v,x,y] T=some ((.rt z,ρ'),T)) :
  bc rnC rgB (f + 1) [some (.d (.tuple (.str (Str.ofString w)::l))),u,v,x,y] T=some ((.rt z,ρ'),T):=by
 rw [bc]
 dsimp only
 rw [cond_of,h,dh]
 rw [if_pos (by rfl),e,dh]
theorem AR {D:Dc} {v:PyData} {l:Ln} {got:List PyData} (hv:aZ v=true) (hg:got.length=l.r.length) (h3:l.r.length≤3) (he:l.e=(Str.ofString "made",stp 24 v)) (n:Nat):RT D n (bC (exP v)) l got:=fun y T f hf=>by
 obtain ⟨f,rfl⟩:=c8 f (by omega)
 have hs:=qC "say" [exP v] (some (.d l.d)) (some (.d (.dict D))) (some (.loc (.list got))) y T f (by decide)
 have cf:=eX (T:=T) (fun T=>jt (bq 24) v (.list got) T) (Dj hv)
 have st:=fun T=>lA hv T
 have eq:=mS (a:=(Str.ofString "made",stp 24 v)) ⟨qQ,m8 hv⟩
 have n1:Str.ofString "say"≠Str.ofString "fail":=by decide
 have z:got.length≤sizeLine:=by rw [sz]; omega
 have z':(rdD l.r).length≤sizeLine:=by rw [sz,eZ]; omega
 have hg':(got.length:Int)=((rdD l.r).length:Int):=by rw [eZ,hg]
 have hR:rgR [some (.d (bC (exP v))),some (.d l.d),some (.d (.dict D)),some (.loc (.list got)),y] T=some ((.rt (.bool true),[some (.d (bC (exP v))),some (.d l.d),some (.d (.dict D)),some (.loc (.list got)),some (.d (vaD v))]),T):=by
  unfold vaD at cf ⊢
  unfold enD at eq
  unfold bC Ln.d lnD
  rw [he]
  unfold enD
  simp [rgR,aY,at3,cf,fU,n1,st,hg',z,z',eq]
 exact ⟨_,by show bnd (bc rnC rgB (f + 1) [some (.d (.tuple (.str "say"::[exP v]))),some (.d l.d),some (.d (.dict D)),some (.loc (.list got)),y] T) (cZ rgR)=_; rw [hs]; exact hR⟩
theorem yV {D:Dc} {w:Str} {l:Ln} {got:List PyData} (hw:Lo w) (hg:got.length=l.r.length) (h3:l.r.length≤3) (he:l.e=(Str.ofString "fails",w)) (n:Nat):RT D n (cy w) l got:=fun y T f hf=>by
 obtain ⟨f,rfl⟩:=c8 f (by omega)
 have hs:=qC "fail" [.str w] (some (.d l.d)) (some (.d (.dict D))) (some (.loc (.list got))) y T f (by decide)
 have eq:=mS (a:=(Str.ofString "fails",w)) ⟨qb,hw⟩
 have z:got.length≤sizeLine:=by rw [sz]; omega
 have z':(rdD l.r).length≤sizeLine:=by rw [sz,eZ]; omega
 have hg':(got.length:Int)=((rdD l.r).length:Int):=by rw [eZ,hg]
 have hR:rgR [some (.d (cy w)),some (.d l.d),some (.d (.dict D)),some (.loc (.list got)),y] T=some ((.rt (.bool true),[some (.d (cy w)),some (.d l.d),some (.d (.dict D)),some (.loc (.list got)),y]),T):=by
  unfold enD at eq
  unfold cy Ln.d lnD
  rw [he]
  unfold enD
  simp [rgR,aY,at3,hg',z,z',eq]
 exact ⟨_,by show bnd (bc rnC rgB (f + 1) [some (.d (.tuple (.str "fail"::[.str w]))),some (.d l.d),some (.d (.dict D)),some (.loc (.list got)),y] T) (cZ rgR)=_; rw [hs]; exact hR⟩
theorem AS {D:Dc} {w:Str} {R:PyData} {l:Ln} {got:List PyData} (hw:Nm w) (hg:got.length=l.r.length) (h3:l.r.length≤3) (he:l.e=(Str.ofString "wants",w)) (n:Nat):RT D n (bg (exP (.str w)) R) l got:=fun y T f hf=>by
 obtain ⟨f,rfl⟩:=c8 f (by omega)
 have cf:=eX (T:=T) (fun T=>jt (bq 24) (.str w) (.list got) T) (sx hw)
 have hn:=hw.2
 have eq:=mS (a:=(Str.ofString "wants",w)) ⟨hG,hw.1⟩
 have z:got.length≤sizeLine:=by rw [sz]; omega
 have z':(rdD l.r).length≤sizeLine:=by rw [sz,eZ]; omega
 have hg':(got.length:Int)=((rdD l.r).length:Int):=by rw [eZ,hg]
 have st:rgB [some (.d (bg (exP (.str w)) R)),some (.d l.d),some (.d (.dict D)),some (.loc (.list got)),y] T=some ((.rt (.bool true),[some (.d (bg (exP (.str w)) R)),some (.d l.d),some (.d (.dict D)),some (.loc (.list got)),some (.d (vaD (.str w)))]),T):=by
  unfold vaD at cf ⊢
  unfold enD at eq
  unfold bg Ln.d lnD
  rw [he]
  unfold enD
  simp [rgB,aY,at3,cf,fU,jU,hn,hg',z,z',eq]
 exact ⟨_,by
  show bnd (bc rnC rgB (f + 1) [some (.d (.tuple (.str "want"::[exP (.str w),R]))),some (.d l.d),some (.d (.dict D)),some (.loc (.list got)),y] T) (cZ rgR)=_
  rw [C0 (by decide) st]
  rfl⟩
theorem yU {D:Dc} {w s:Str} {v R:PyData} {l:Ln} {got:List PyData} {n:Nat} (hw:Nm w) (hg:l.r[got.length]? = some (w,s)) (h3:l.r.length≤3) (hk:aL D s=some v) (hr:RT D n R l (got++[v])):RT D (n + 1) (bg (exP (.str w)) R) l got:=fun y T f hf=>by
 obtain ⟨f,rfl⟩:=c8 f (by omega)
 have cf:=eX (T:=T) (fun T=>jt (bq 24) (.str w) (.list got) T) (sx hw)
 have hn:=hw.2
 have hlt:got.length < l.r.length:=(List.getElem?_eq_some_iff.mp hg).1
 have z:got.length≤sizeLine:=by rw [sz]; omega
 have z2:got.length < sizeLine:=by rw [sz]; omega
 have z':(rdD l.r).length≤sizeLine:=by rw [sz,eZ]; omega
 have hg':¬ (got.length:Int)=((rdD l.r).length:Int):=by rw [eZ]; omega
 have ix:=ip hg
 obtain ⟨ρ',e⟩:=hr (some (.d (vaD (.str w)))) T f (by omega)
 refine ⟨ρ',?_⟩
 have st:rgB [some (.d (bg (exP (.str w)) R)),some (.d l.d),some (.d (.dict D)),some (.loc (.list got)),y] T=some ((.nx,[some (.d R),some (.d l.d),some (.d (.dict D)),some (.loc (.list (got++[v]))),some (.d (vaD (.str w)))]),T):=by
  unfold vaD at cf ⊢
  unfold enD at ix
  unfold bg Ln.d lnD
  simp [rgB,aY,at3,cf,fU,jU,hn,hg',z,z',z2,ix,hk]
 show bnd (bc rnC rgB (f + 1) [some (.d (.tuple (.str "want"::[exP (.str w),R]))),some (.d l.d),some (.d (.dict D)),some (.loc (.list got)),y] T) (cZ rgR)=_
 rw [nU (by decide) st]
 exact e
theorem yT {D:Dc} {i:Nat} {a v A B:PyData} {l:Ln} {got:List PyData} {n:Nat} (ha:aZ a=true) (hv:aZ v=true) (hi:got[i]? = some a) (hr:RT D n (if stp 24 a=stp 24 v then A else B) l got):RT D (n + 1) (cw (ex2 "same" (exG i) (exP v)) A B) l got:=fun y T f hf=>by
 obtain ⟨f,rfl⟩:=c8 f (by omega)
 have ts:=fun T=>wy (g:=got) ha hv (eY hi) T
 by_cases h:stp 24 a=stp 24 v
 ·rw [if_pos h] at hr
  simp only [h,decide_true,if_true] at ts
  have cf:=eX (T:=T) ts (.va (.int (by decide)))
  obtain ⟨ρ',e⟩:=hr (some (.d (vaD (.int 1)))) T f (by omega)
  refine ⟨ρ',?_⟩
  have hb:inG (.int 1) (.tuple [.int 0,.str "",.tuple []])=some (.bool false):=by
   simp [inG,SeqAt.shaped,PyData.canLay0,PyData.canLayAll0,PyData.depth,PyData.depthAll,PyData.eqv]
   decide +kernel
  have st:rgB [some (.d (cw (ex2 "same" (exG i) (exP v)) A B)),some (.d l.d),some (.d (.dict D)),some (.loc (.list got)),y] T=some ((.nx,[some (.d A),some (.d l.d),some (.d (.dict D)),some (.loc (.list got)),some (.d (vaD (.int 1)))]),T):=by
   unfold vaD at cf ⊢
   unfold cw
   simp [rgB,aY,at4,cf,fU,hb]
  show bnd (bc rnC rgB (f + 1) [some (.d (.tuple (.str "when"::[ex2 "same" (exG i) (exP v),A,B]))),some (.d l.d),some (.d (.dict D)),some (.loc (.list got)),y] T) (cZ rgR)=_
  rw [nU (by decide) st]
  exact e
 ·rw [if_neg h] at hr
  simp only [h,decide_false,Bool.false_eq_true,if_false] at ts
  have cf:=eX (T:=T) ts (.va (.int (by decide)))
  obtain ⟨ρ',e⟩:=hr (some (.d (vaD (.int 0)))) T f (by omega)
  refine ⟨ρ',?_⟩
  have hb:inG (.int 0) (.tuple [.int 0,.str "",.tuple []])=some (.bool true):=by
   simp [inG,SeqAt.shaped,PyData.canLay0,PyData.canLayAll0,PyData.depth,PyData.depthAll,PyData.eqv]
   decide +kernel
  have st:rgB [some (.d (cw (ex2 "same" (exG i) (exP v)) A B)),some (.d l.d),some (.d (.dict D)),some (.loc (.list got)),y] T=some ((.nx,[some (.d B),some (.d l.d),some (.d (.dict D)),some (.loc (.list got)),some (.d (vaD (.int 0)))]),T):=by
   unfold vaD at cf ⊢
   unfold cw
   simp [rgB,aY,at4,cf,fU,hb]
  show bnd (bc rnC rgB (f + 1) [some (.d (.tuple (.str "when"::[ex2 "same" (exG i) (exP v),A,B]))),some (.d l.d),some (.d (.dict D)),some (.loc (.list got)),y] T) (cZ rgR)=_
  rw [nU (by decide) st]
  exact e
theorem Am {D:Dc} {R:PyData} {l:Ln} {n:Nat} (h:RT D n R l []) (hn:n < 100000) (T:Tp):fA [.d R,.d l.d,.d (.dict D)] T=some (.bool true,T):=by
 obtain ⟨ρ',e⟩:=h none T 100000 hn
 rw [xy]
 simp [e]
def D6:List (Str×PyData):=[(Str.ofString "many",.int 2),(Str.ofString "part",.int 3),(Str.ofString "sum",.int 3),(Str.ofString "join",.int 3),(Str.ofString "same",.int 3),(Str.ofString "less",.int 3)]
def D3:List (Str×PyData):=[(Str.ofString "say",.int 2),(Str.ofString "want",.int 3),(Str.ofString "when",.int 4)]
theorem DX (ρ:Rho) (T:Tp):iu (bt "many" (fC (.int 2)) (bt "part" (fC (.int 3)) (bt "sum" (fC (.int 3)) (bt "join" (fC (.int 3)) (bt "same" (fC (.int 3)) (bt "less" (fC (.int 3)) gx)))))) ρ T=some (.d (.dict (dj D6)),T):=by
 have h:okP D6=true:=by decide +kernel
 show i9 D6 T=_
 unfold i9
 rw [if_pos h]
theorem ot (ρ:Rho) (T:Tp):iu (bt "say" (fC (.int 2)) (bt "want" (fC (.int 3)) (bt "when" (fC (.int 4)) gx))) ρ T=some (.d (.dict (dj D3)),T):=by
 have h:okP D3=true:=by decide +kernel
 show i9 D3 T=_
 unfold i9
 rw [if_pos h]
@[simp] theorem FB {f g h:FE} {ρ:Rho} {T:Tp}:i7 f g h ρ T=bnd (f ρ T) fun w1 T1=>bnd (g ρ T1) fun w2 T2=>bnd (h ρ T2) (jM w1 w2):=rfl
@[simp] theorem EA {ds:List (PyData×PyData)} {s:Str} {z:PyData} {T:Tp}:jM (.d (.dict ds)) (.d (.str s)) (.d z) T=some (.d ((aL ds s).getD z),T):=rfl
theorem Bw:aL (dj D6) "same" = some (.int 3):=by
 have n1:Str.ofString "many"≠Str.ofString "same":=by decide
 have n2:Str.ofString "part"≠Str.ofString "same":=by decide
 have n3:Str.ofString "sum"≠Str.ofString "same":=by decide
 have n4:Str.ofString "join"≠Str.ofString "same":=by decide
 simp [aL,dj,D6,n1,n2,n3,n4]
theorem CW:aL (dj D3) "say" = some (.int 2):=by simp [aL,dj,D3]
theorem Bv:aL (dj D3) "want" = some (.int 3):=by
 have n1:Str.ofString "say"≠Str.ofString "want":=by decide
 simp [aL,dj,D3,n1]
theorem Bu:aL (dj D3) "when" = some (.int 4):=by
 have n1:Str.ofString "say"≠Str.ofString "when":=by decide
 have n2:Str.ofString "want"≠Str.ofString "when":=by decide
 simp [aL,dj,D3,n1,n2]
def fI (f:FnM):FnM:=aX 6 (ak (aE 2 (ao .tuple (ab (fC (.int 99)) (ab (fC (.int 99)) ag)))) (ak (fIf (bE (bF (aR (fUn (bi .tup) (aa 0)))) (bE (au (ae ltD (fCB aF (ab (aa 0) ag)) (fC (.int 2)))) (bF (aR (fUn (bi .str) (ae ixD (aa 0) (fC (.int 0)))))))) (av (aa 2)) aC) (ak (fIf (cz (au (ae eqD (ae ixD (aa 0) (fC (.int 0))) (fC (.str "put")))) (au (ae eqD (fCB aF (ab (aa 0) ag)) (fC (.int 2))))) (av (bH (cz (aR (fUn jy (ae ixD (aa 0) (fC (.int 1))))) (bF (aR (fUn (bi .bl) (ae ixD (aa 0) (fC (.int 1))))))) (ao .tuple (ab (fC (.int 1)) (ab (fC (.int 1)) ag))) (aa 2))) aC) (ak (fIf (cz (au (ae eqD (ae ixD (aa 0) (fC (.int 0))) (fC (.str "got")))) (au (ae eqD (fCB aF (ab (aa 0) ag)) (fC (.int 2))))) (ak (aE 3 (bI (fUn (bi .int) (ae ixD (aa 0) (fC (.int 1)))) (bI (gy (fUn (bi .bl) (ae ixD (aa 0) (fC (.int 1))))) (d7 leD ltD (fC (.int 0)) (ae ixD (aa 0) (fC (.int 1))) (aa 1))))) (av (bH (aR (aa 3)) (ao .tuple (ab (fC (.int 1)) (ab (fC (.int 1)) ag))) (aa 2)))) aC) (ak (aE 4 (fSl (aa 0) (fP (fC (.int 1))) bL)) (ak (fIf (cz (au (ae eqD (ae ixD (aa 0) (fC (.int 0))) (fC (.str "row")))) (cz (au (ae eqD (fCB aF (ab (aa 0) ag)) (fC (.int 2)))) (aR (fUn (bi .tup) (ae ixD (aa 0) (fC (.int 1))))))) (aE 4 (ae ixD (aa 0) (fC (.int 1)))) (fIf (au (ae neD (fCB aF (ab (aa 0) ag)) (i7 (iu (bt "many" (fC (.int 2)) (bt "part" (fC (.int 3)) (bt "sum" (fC (.int 3)) (bt "join" (fC (.int 3)) (bt "same" (fC (.int 3)) (bt "less" (fC (.int 3)) gx))))))) (ae ixD (aa 0) (fC (.int 0))) (fC (.int 0))))) (av (aa 2)) aC)) (ak (aE 5 (bf (br (aa 4)) a6 (ar f (ab (aa 0) (ab (aa 2) ag))))) (av (ao .tuple (ab (ae az (fC (.int 1)) (fCB eJ (ab (bf (br (aa 5)) a6 (ae ixD (aa 0) (fC (.int 0)))) ag))) (ab (ae az (fC (.int 1)) (ae iY (bf (br (aa 5)) a6 (ae ixD (aa 0) (fC (.int 1)))) (fC (.int 0)))) ag)))))))))))
theorem v5 (n:Nat):dY (n + 1)=fI (dY n):=rfl
def jF (f:FnM):FnM:=aX 5 (ak (aE 2 (ao .tuple (ab (fC (.int 99)) (ab (fC (.int 99)) ag)))) (ak (fIf (bE (bF (aR (fUn (bi .tup) (aa 0)))) (bE (au (ae ltD (fCB aF (ab (aa 0) ag)) (fC (.int 2)))) (au (ae gtD (aa 1) (fC (.int 12)))))) (av (aa 2)) aC) (ak (fIf (au (ae eqD (ae ixD (aa 0) (fC (.int 0))) (fC (.str "fail")))) (av (bH (cz (au (ae eqD (fCB aF (ab (aa 0) ag)) (fC (.int 2)))) (aR (ar bP (ab (ae ixD (aa 0) (fC (.int 1))) ag)))) (ao .tuple (ab (fC (.int 1)) (ab (fC (.int 1)) ag))) (aa 2))) aC) (ak (fIf (au (ae neD (fCB aF (ab (aa 0) ag)) (i7 (iu (bt "say" (fC (.int 2)) (bt "want" (fC (.int 3)) (bt "when" (fC (.int 4)) gx)))) (ae ixD (aa 0) (fC (.int 0))) (fC (.int 0))))) (av (aa 2)) aC) (ak (cF 3 (ab (ar (dY 25) (ab (ae ixD (aa 0) (fC (.int 1))) (ab (aa 1) ag))) ag)) (ak (cI 4 (br (fSl (aa 0) (fP (fC (.int 2))) bL)) (cj 3 (ar f (ab (aa 4) (ab (ae az (aa 1) (fCB intD (ab (ae eqD (ae ixD (aa 0) (fC (.int 0))) (fC (.str "want"))) ag))) ag))))) (av (ao .tuple (ab (ae az (fC (.int 1)) (fCB eJ (ab (bf (br (aa 3)) a6 (ae ixD (aa 0) (fC (.int 0)))) ag))) (ab (ae az (fC (.int 1)) (fCB gu (ab (bf (br (aa 3)) a6 (ae ixD (aa 0) (fC (.int 1)))) ag))) ag))))))))))
theorem jZ (n:Nat):dG (n + 1)=jF (dG n):=rfl
theorem rV {v:PyData} (h:aZ v=true) (f:FnM) (k:Int) (T:Tp):fI f [.d (exP v),.d (.int k)] T=some (.tuple [.int 1,.int 1],T):=by
 have hv:=kr h
 have i0:atI [PyData.str "put",v] 0=some (.str "put"):=rfl
 have i1:atI [PyData.str "put",v] 1=some v:=rfl
 have e1:jy v=some (.bool true):=by cases hv <;> rfl
 have e2:bO (kd v) .bl=false:=by cases hv <;> rfl
 unfold exP
 simp [fI,isi_tt,dP,i0,i1,e1,e2]
theorem AF {i k:Nat} (h:i < k) (f:FnM) (T:Tp):fI f [.d (exG i),.d (.int k)] T=some (.tuple [.int 1,.int 1],T):=by
 have i0:atI [PyData.str "got",.int (i:Int)] 0=some (.str "got"):=rfl
 have i1:atI [PyData.str "got",.int (i:Int)] 1=some (.int i):=rfl
 have n1:Str.ofString "got"≠Str.ofString "put":=by decide
 have h1:(0:Int)≤(i:Int):=by omega
 have h2:(i:Int) < (k:Int):=by omega
 unfold exG
 simp [fI,isi_tt,dP,cu,sD,i0,i1,n1,h1,h2]
theorem Dx:eJ [.list [.int 1,.int 1]]=some (.int 2):=rfl
theorem DD:iY (.list [.int 1,.int 1]) (.int 0)=some (.int 1):=rfl
theorem yS {i k:Nat} {v:PyData} (h:i < k) (hv:aZ v=true) (f:FnM) (T:Tp):fI (fI f) [.d (ex2 "same" (exG i) (exP v)),.d (.int k)] T=some (.tuple [.int 3,.int 2],T):=by
 have i0:atI [PyData.str "same",exG i,exP v] 0=some (.str "same"):=rfl
 have n1:Str.ofString "same"≠Str.ofString "put":=by decide
 have n2:Str.ofString "same"≠Str.ofString "got":=by decide
 have n3:Str.ofString "same"≠Str.ofString "row":=by decide
 have sl:bv [PyData.str "same",exG i,exP v] (some 1) none=[exG i,exP v]:=rfl
 have g1:=fun T=>AF h f T
 have g2:=fun T=>rV hv f k T
 generalize fI f=q at g1 g2 ⊢
 have c:∀ (a b d:Option W) (T:Tp),bh a6 (ar q (ab (aa 0) (ab (aa 2) ag))) [some (.d (.tuple [.str "same",exG i,exP v])),some (.d (.int k)),a,b,some (.d (.tuple [exG i,exP v])),d] [exG i,exP v] T=some ([.tuple [.int 1,.int 1],.tuple [.int 1,.int 1]],T):=fun a b d T=>by
  simp [bh,g1,g2]
 unfold ex2
 simp [fI,isi_tt,dP,i0,n1,n2,n3,sl,DX,Bw,g1,g2,bh,aY,Dx,DD]
theorem Ak {v:PyData} (h:aZ v=true) (k:Int) (T:Tp):dY 25 [.d (exP v),.d (.int k)] T=some (.tuple [.int 1,.int 1],T):=rV h _ k T
theorem yA {i k:Nat} {v:PyData} (h:i < k) (hv:aZ v=true) (T:Tp):dY 25 [.d (ex2 "same" (exG i) (exP v)),.d (.int k)] T=some (.tuple [.int 3,.int 2],T):=yS h hv _ T
def SZ (R:PyData) (k s d:Nat):Prop:=∀ (f:Nat) (T:Tp),d≤f→dG f [.d R,.d (.int k)] T=some (.tuple [.int s,.int d],T)
theorem mH {w:Str} {k:Nat} (hw:Nm w) (hk:k≤12):SZ (cy w) k 1 1:=fun f T hf=>by
 obtain ⟨f,rfl⟩:=c8 f (by omega)
 have hk':¬ (12:Int) < (k:Int):=by omega
 have hn:=hw.2
 rw [jZ]
 unfold cy
 simp [jF,isi_tt,aY,hk',hn]
theorem sm1 (a:Int):eJ [.list [.int a]]=some (.int a):=by
 have:=nB (fun x:Int=>x) [a]
 simpa using this
theorem sm2 (a b:Int):eJ [.list [.int a,.int b]]=some (.int (a + b)):=by
 have:=nB (fun x:Int=>x) [a,b]
 simpa using this
theorem sm3 (a b c:Int):eJ [.list [.int a,.int b,.int c]]=some (.int (a + (b + c))):=by
 have:=nB (fun x:Int=>x) [a,b,c]
 simpa using this
theorem AE {v:PyData} {k:Nat} (hv:aZ v=true) (hk:k≤12):SZ (bC (exP v)) k 2 2:=fun f T hf=>by
 obtain ⟨f,rfl⟩:=c8 f (by omega)
 have hk':¬ (12:Int) < (k:Int):=by omega
 have n1:Str.ofString "say"≠Str.ofString "fail":=by decide
 have g:=fun T=>Ak hv (k:Int) T
 have sl:bv [PyData.str "say",exP v] (some 2) none=[]:=rfl
 have mx:gu [.list [.int 1]]=some (.int 1):=rfl
 rw [jZ]
 unfold bC
 simp [jF,isi_tt,aY,hk',n1,ot,CW,g,sl,forL,bh,sm1,mx]
theorem mx2 (b:Nat) (h:1≤b):gu [.list [.int 1,.int (b:Int)]]=some (.int (b:Int)):=by
 have:gu [.list [.int 1,.int (b:Int)]]=some (.int (if (1:Int) < b then (b:Int) else 1)):=rfl
 rw [this]
 by_cases z:(1:Int) < b
 ·rw [if_pos z]
 ·rw [if_neg z]
  have:b=1:=by omega
  rw [this]
  rfl
theorem Aj (w:Str) (k:Int) (T:Tp):dY 25 [.d (exP (.str w)),.d (.int k)] T=some (.tuple [.int 1,.int 1],T):=by
 have i0:atI [PyData.str "put",PyData.str w] 0=some (.str "put"):=rfl
 have i1:atI [PyData.str "put",PyData.str w] 1=some (.str w):=rfl
 have e1:jy (.str w)=some (.bool true):=rfl
 have e2:bO .str .bl=false:=rfl
 rw [v5]
 unfold exP
 simp [fI,isi_tt,dP,i0,i1,e1,e2]
theorem qx {w:Str} {R:PyData} {k s d:Nat} (hw:Nm w) (hk:k≤12) (hd:1≤d) (h:SZ R (k + 1) s d):SZ (bg (exP (.str w)) R) k (s + 2) (d + 1):=fun f T hf=>by
 obtain ⟨f,rfl⟩:=c8 f (by omega)
 have hk':¬ (12:Int) < (k:Int):=by omega
 have n1:Str.ofString "want"≠Str.ofString "fail":=by decide
 have g:∀ T,dY 25 [.d (exP (.str w)),.d (.int k)] T=some (.tuple [.int 1,.int 1],T):=fun T=>Aj w k T
 have hr:=fun T=>h f T (by omega)
 have sl:bv [PyData.str "want",exP (.str w),R] (some 2) none=[R]:=rfl
 have kc:((k + 1:Nat):Int)=(k:Int) + 1:=by omega
 rw [kc] at hr
 have z:1 < sizeLine:=by rw [sz]; decide
 rw [jZ]
 generalize dG f=q at hr ⊢
 unfold bg
 simp [jF,isi_tt,at3,aY,hk',n1,ot,Bv,g,sl,forL,hr,z,bh,sm2,mx2 d hd,jz]
 omega
theorem mx3 (a b:Nat):gu [.list [.int 2,.int (a:Int),.int (b:Int)]]=some (.int ((max 2 (max a b):Nat):Int)):=by
 have:gu [.list [.int 2,.int (a:Int),.int (b:Int)]]=some (.int (if (if (2:Int) < a then (a:Int) else 2) < b then (b:Int) else (if (2:Int) < a then (a:Int) else 2))):=rfl
 rw [this]
 congr 2
 split <;> split <;> omega
theorem yR {i k s1 d1 s2 d2:Nat} {v A B:PyData} (hi:i < k) (hv:aZ v=true) (hk:k≤12) (h1:SZ A k s1 d1) (h2:SZ B k s2 d2):SZ (cw (ex2 "same" (exG i) (exP v)) A B) k (s1 + s2 + 4) (1 + max 2 (max d1 d2)):=fun f T hf=>by
 obtain ⟨f,rfl⟩:=c8 f (by omega)
 have hk':¬ (12:Int) < (k:Int):=by omega
 have n1:Str.ofString "when"≠Str.ofString "fail":=by decide
 have n2:Str.ofString "when"≠Str.ofString "want":=by decide
 have g:=fun T=>yA hi hv T
 have r1:=fun T=>h1 f T (by omega)
 have r2:=fun T=>h2 f T (by omega)
 have sl:bv [PyData.str "when",ex2 "same" (exG i) (exP v),A,B] (some 2) none=[A,B]:=rfl
 have z:1 < sizeLine:=by rw [sz]; decide
 have z2:2 < sizeLine:=by rw [sz]; decide
 rw [jZ]
 generalize dG f=q at r1 r2 ⊢
 unfold cw
 simp [jF,isi_tt,at4,aY,hk',n1,n2,ot,Bu,g,sl,forL,r1,r2,z,z2,bh,sm3,mx3,jz]
 omega
def gz (p:FnM):FnM:=aX 3 (ak (fIf (au (ae eqD (fCB aF (ab (aa 0) ag)) (fC (.int 0)))) (av (fC (.tuple [.str "fail",.str "any"]))) aC) (ak (aE 2 (ar dJ (ab (ae ixD (aa 0) (fC (.int 0))) (ab (aa 1) ag)))) (ak (fIf (au (ae eqD (ae ixD (aa 2) (fC (.int 0))) (fC (.str "made")))) (av (ao .tuple (ab (fC (.str "say")) (ab (ao .tuple (ab (fC (.str "put")) (ab (ar eS (ab (ae ixD (aa 2) (fC (.int 1))) ag)) ag))) ag)))) aC) (ak (fIf (au (ae eqD (ae ixD (aa 2) (fC (.int 0))) (fC (.str "fails")))) (av (ao .tuple (ab (fC (.str "fail")) (ab (ae ixD (aa 2) (fC (.int 1))) ag)))) aC) (av (ao .tuple (ab (fC (.str "want")) (ab (ao .tuple (ab (fC (.str "put")) (ab (ae ixD (aa 2) (fC (.int 1))) ag))) (ab (ar p (ab (bf (br (aa 0)) (au (ae gtD (fCB aF (ab (ae ixD (aa 0) (fC (.int 1))) ag)) (aa 2))) (aa 0)) (ab (aa 1) ag))) ag)))))))))
def iy (r p:FnM):FnM:=aX 5 (ak (fIf (au (ae eqD (fCB aF (ab (aa 0) ag)) (fC (.int 0)))) (av (fC (.tuple [.str "fail",.str "any"]))) aC) (ak (aE 2 (ae ixD (ae ixD (ae ixD (ae ixD (aa 0) (fC (.int 0))) (fC (.int 1))) (aa 1)) (fC (.int 1)))) (ak (aE 3 (bf (br (aa 0)) (au (ae neD (ae ixD (ae ixD (ae ixD (aa 0) (fC (.int 1))) (aa 2)) (fC (.int 1))) (aa 3))) (aa 0))) (ak (aE 4 (ar r (ab (bf (br (aa 0)) (au (ae eqD (ae ixD (ae ixD (ae ixD (aa 0) (fC (.int 1))) (aa 2)) (fC (.int 1))) (aa 3))) (aa 0)) (ab (ae az (aa 1) (fC (.int 1))) ag)))) (ak (fIf (au (ae eqD (fCB aF (ab (aa 3) ag)) (fC (.int 0)))) (av (aa 4)) aC) (av (ao .tuple (ab (fC (.str "when")) (ab (ao .tuple (ab (fC (.str "same")) (ab (ao .tuple (ab (fC (.str "got")) (ab (aa 1) ag))) (ab (ao .tuple (ab (fC (.str "put")) (ab (ar eS (ab (aa 2) ag)) ag))) ag)))) (ab (aa 4) (ab (ar p (ab (aa 3) (ab (aa 1) ag))) ag)))))))))))
theorem j8 (n:Nat):eM (n + 1)=gz (eN n):=rfl
theorem mw (n:Nat):eN (n + 1)=iy (eM n) (eN n):=rfl
theorem kg {c:FT} {ρ:Rho} {T:Tp} {p:Ln→Bool}:∀ {ls:List Ln},(∀ l∈ls,c (some (.d l.d)::ρ) T=some (p l,T))→bh c (aa 0) ρ (ls.map Ln.d) T=some ((ls.filter p).map Ln.d,T)
 | [],_=>rfl
 | l::ls,h=>by
  have h1:=h l List.mem_cons_self
  have h2:=kg (ls:=ls) fun x hx=>h x (List.mem_cons_of_mem _ hx)
  rw [List.map_cons]
  unfold bh
  rw [h1,dh]
  cases hp:p l with
  | true=>simp [hp,h2]
  | false=>simp [hp,h2]
def jW:PyData:=cy "any"
def aD (ls:List Ln):PyData:=.list (ls.map Ln.d)
theorem yX (p:FnM) (k:Nat) (T:Tp):gz p [.d (aD []),.d (.int k)] T=some (jW,T):=by
 unfold aD jW cy
 simp [gz]
theorem zr (r p:FnM) (k:Nat) (T:Tp):iy r p [.d (aD []),.d (.int k)] T=some (jW,T):=by
 unfold aD jW cy
 simp [iy]
theorem xB {l:Ln} {ls:List Ln} (h5:(l::ls).length≤5) {k:Nat} {v:PyData} (hv:aZ v=true) (h:nxt (l.r.drop k) l.e=(Str.ofString "made",stp 24 v)) (p:FnM) (T:Tp):gz p [.d (aD (l::ls)),.d (.int k)] T=some (bC (exP v),T):=by
 have hn:=fun T=>kS l.n l.r l.e k T
 rw [h] at hn
 have hr:=fun T=>sX hv T
 have i0:atI (l.d::ls.map Ln.d) 0=some l.d:=eY (xs:=l.d::ls.map Ln.d) (j:=0) (v:=l.d) rfl
 have z:ls.length + 1≤sizeLine:=by rw [sz]; simp at h5; omega
 have z0:¬ (ls.length:Int) + 1=0:=by omega
 unfold aD bC exP
 unfold enD at hn
 have hn':∀ T,dJ [.d l.d,.d (.int k)] T=_:=hn
 simp [gz,i0,z,z0,hn',aY,hr]
theorem wG {l:Ln} {ls:List Ln} (h5:(l::ls).length≤5) {k:Nat} {w:Str} (h:nxt (l.r.drop k) l.e=(Str.ofString "fails",w)) (p:FnM) (T:Tp):gz p [.d (aD (l::ls)),.d (.int k)] T=some (cy w,T):=by
 have hn:=fun T=>kS l.n l.r l.e k T
 rw [h] at hn
 have i0:atI (l.d::ls.map Ln.d) 0=some l.d:=eY (xs:=l.d::ls.map Ln.d) (j:=0) (v:=l.d) rfl
 have z:ls.length + 1≤sizeLine:=by rw [sz]; simp at h5; omega
 have z0:¬ (ls.length:Int) + 1=0:=by omega
 have n1:Str.ofString "fails"≠Str.ofString "made":=by decide
 unfold aD cy
 unfold enD at hn
 have hn':∀ T,dJ [.d l.d,.d (.int k)] T=_:=hn
 simp [gz,i0,z,z0,hn',aY,n1]
def fV (k:Nat) (l:Ln):Bool:=decide (k < l.r.length)
theorem pY {l:Ln} {ls:List Ln} (h5:(l::ls).length≤5) (h3:∀ x∈l::ls,x.r.length≤3) {k:Nat} {w:Str} {R:PyData} (h:nxt (l.r.drop k) l.e=(Str.ofString "wants",w)) (p:FnM) (hp:∀ T,p [.d (aD ((l::ls).filter (fV k))),.d (.int k)] T=some (R,T)) (T:Tp):gz p [.d (aD (l::ls)),.d (.int k)] T=some (bg (exP (.str w)) R,T):=by
 have hn:=fun T=>kS l.n l.r l.e k T
 rw [h] at hn
 have i0:atI (l.d::ls.map Ln.d) 0=some l.d:=eY (xs:=l.d::ls.map Ln.d) (j:=0) (v:=l.d) rfl
 have z:ls.length + 1≤sizeLine:=by rw [sz]; simp at h5; omega
 have z0:¬ (ls.length:Int) + 1=0:=by omega
 have n1:Str.ofString "wants"≠Str.ofString "made":=by decide
 have n2:Str.ofString "wants"≠Str.ofString "fails":=by decide
 have c:∀ (u:Option W) (T:Tp),bh (au (ae gtD (fCB aF (ab (ae ixD (aa 0) (fC (.int 1))) ag)) (aa 2))) (aa 0) [some (.d (.list ((l::ls).map Ln.d))),some (.d (.int k)),u] ((l::ls).map Ln.d) T=some (((l::ls).filter (fV k)).map Ln.d,T):=fun u T=>kg fun x hx=>by
  have zx:(rdD x.r).length≤sizeLine:=by rw [sz,eZ]; have:=h3 x hx; omega
  unfold Ln.d lnD fV
  simp [at3,zx,eZ]
 unfold aD bg exP
 unfold aD at hp
 unfold enD at hn
 have hn':∀ T,dJ [.d l.d,.d (.int k)] T=_:=hn
 generalize (l::ls).filter (fV k)=fl at c hp
 simp only [List.map_cons] at c
 simp [gz,i0,z,z0,hn',aY,n1,n2,c,hp]
def bu (k:Nat) (l:Ln):Str:=((l.r[k]?).getD (Str.ofString "",Str.ofString "")).2
def dr (k:Nat) (s:Str) (l:Ln):Bool:=decide (bu k l=s)
def cL (k:Nat) (s:Str) (l:Ln):Bool:=!decide (bu k l=s)
theorem n9 {k:Nat} {l:Ln} (h:k < l.r.length):∃ w,atI (rdD l.r) (k:Int)=some (.tuple [.str w,.str (bu k l)]):=by
 have hg:l.r[k]? = some l.r[k]:=List.getElem?_eq_getElem h
 refine ⟨l.r[k].1,?_⟩
 rw [ip hg]
 unfold bu
 rw [hg]
 rfl
theorem A7 {l:Ln} {ls:List Ln} (h5:(l::ls).length≤5) {k:Nat} (hk:∀ x∈l::ls,k < x.r.length) {A:PyData} (r p:FnM) (hr:∀ T,r [.d (aD ((l::ls).filter (dr k (bu k l)))),.d (.int ((k + 1:Nat):Int))] T=some (A,T)) (T:Tp) :
  ((l::ls).filter (cL k (bu k l))=[]→iy r p [.d (aD (l::ls)),.d (.int k)] T=some (A,T)) ∧
  (∀ v B,aZ v=true→bu k l=stp 24 v→(l::ls).filter (cL k (bu k l))≠[]→(∀ T,p [.d (aD ((l::ls).filter (cL k (bu k l)))),.d (.int k)] T=some (B,T))→iy r p [.d (aD (l::ls)),.d (.int k)] T=some (cw (ex2 "same" (exG k) (exP v)) A B,T)):=by
 have i0:atI (l.d::ls.map Ln.d) 0=some l.d:=eY (xs:=l.d::ls.map Ln.d) (j:=0) (v:=l.d) rfl
 have z:ls.length + 1≤sizeLine:=by rw [sz]; simp at h5; omega
 have z0:¬ (ls.length:Int) + 1=0:=by omega
 obtain ⟨w0,a0⟩:=n9 (hk l List.mem_cons_self)
 have c1:∀ (u v:Option W) (T:Tp),bh (au (ae neD (ae ixD (ae ixD (ae ixD (aa 0) (fC (.int 1))) (aa 2)) (fC (.int 1))) (aa 3))) (aa 0) [some (.d (.list ((l::ls).map Ln.d))),some (.d (.int k)),some (.d (.str (bu k l))),u,v] ((l::ls).map Ln.d) T=some (((l::ls).filter (cL k (bu k l))).map Ln.d,T):=fun u v T=>kg fun x hx=>by
  obtain ⟨w,a⟩:=n9 (hk x hx)
  unfold Ln.d lnD cL
  simp [at3,a,aY]
 have c2:∀ (u v:Option W) (T:Tp),bh (au (ae eqD (ae ixD (ae ixD (ae ixD (aa 0) (fC (.int 1))) (aa 2)) (fC (.int 1))) (aa 3))) (aa 0) [some (.d (.list ((l::ls).map Ln.d))),some (.d (.int k)),some (.d (.str (bu k l))),u,v] ((l::ls).map Ln.d) T=some (((l::ls).filter (dr k (bu k l))).map Ln.d,T):=fun u v T=>kg fun x hx=>by
  obtain ⟨w,a⟩:=n9 (hk x hx)
  unfold Ln.d lnD dr
  simp [at3,a,aY]
 have kc:((k + 1:Nat):Int)=(k:Int) + 1:=by omega
 rw [kc] at hr
 have hl:((l::ls).filter (cL k (bu k l))).length≤sizeLine:=by
  have:=List.length_filter_le (cL k (bu k l)) (l::ls)
  rw [sz]
  omega
 have d0:ixD l.d (.int 1)=some (.tuple (rdD l.r)):=rfl
 unfold aD at hr ⊢
 generalize (l::ls).filter (cL k (bu k l))=f1 at c1 hl ⊢
 generalize (l::ls).filter (dr k (bu k l))=f2 at c2 hr
 simp only [List.map_cons] at c1 c2 ⊢
 refine ⟨fun hz=>?_,fun v B hv es hz hp=>?_⟩
 ·subst hz
  simp only [List.map_nil] at c1
  simp [iy,i0,z,z0,d0,a0,aY,c1,c2,hr]
 ·have hz':¬ (f1.length:Int)=0:=fun q=>hz (List.length_eq_zero_iff.mp (by omega))
  have hv':=fun T=>sX hv T
  unfold aD at hp
  rw [es] at c1 c2 a0
  unfold cw ex2 exG exP
  simp [iy,i0,z,z0,d0,a0,aY,c1,c2,hr,hl,hz',hz,hp,hv']
theorem p7:∀ (k:Nat) (r s:List SS) (e f:SS),bK r e s f=false→r.take k=s.take k→k≤r.length→k≤s.length→nxt (r.drop k) e=nxt (s.drop k) f
 | 0,[],s,e,f,h,_,_,_=>by
  have c:cpl [] s=0:=by cases s <;> rfl
  unfold bK at h
  rw [c] at h
  simpa using h
 | 0,p::r,[],e,f,h,_,_,_=>by
  unfold bK at h
  simpa [cpl] using h
 | 0,p::r,q::s,e,f,h,_,_,_=>by
  by_cases z:p=q
  ·subst z; rfl
  ·unfold bK at h
   simpa [cpl,z] using h
 | k + 1,[],s,e,f,h,_,h1,_=>by simp at h1
 | k + 1,p::r,[],e,f,h,_,_,h1=>by simp at h1
 | k + 1,p::r,q::s,e,f,h,ht,h1,h2=>by
  simp only [List.take_succ_cons,List.cons.injEq] at ht
  obtain ⟨rfl,ht⟩:=ht
  rw [md] at h
  exact p7 k r s e f h ht (by simpa using h1) (by simpa using h2)
def vals (D:Dc) (l:Ln) (k:Nat):List PyData:=(l.r.take k).map fun p=>(aL D p.2).getD .none
theorem jk {D:Dc} {l:Ln} {k:Nat} (h:k≤l.r.length):(vals D l k).length=k:=by
 unfold vals
 rw [List.length_map,List.length_take]
 omega
theorem oX {D:Dc} {l:Ln} {k:Nat} {w s:Str} {v:PyData} (h:l.r[k]? = some (w,s)) (hk:aL D s=some v):vals D l (k + 1)=vals D l k++[v]:=by
 unfold vals
 rw [List.take_succ,h,List.map_append]
 simp [hk]
theorem xr {D:Dc} {l:Ln} {k:Nat} {w s:Str} {v:PyData} (h:l.r[k]? = some (w,s)) (hk:aL D s=some v):(vals D l (k + 1))[k]? = some v:=by
 have hl:k < l.r.length:=(List.getElem?_eq_some_iff.mp h).1
 rw [oX h hk,List.getElem?_append_right (by rw [jk (by omega)]; omega),jk (by omega)]
 simp
structure HR (D:Dc) (ls:List Ln) (k:Nat):Prop where
 gl:∀ l∈ls,GL D l
 le:∀ l∈ls,k≤l.r.length
 pre:∀ a∈ls,∀ b∈ls,a.r.take k=b.r.take k
 odd:∀ a∈ls,∀ b∈ls,fM a b=false
 five:ls.length≤5
theorem HR.nx {D:Dc} {ls:List Ln} {k:Nat} (h:HR D ls k) {a b:Ln} (ha:a∈ls) (hb:b∈ls):nxt (a.r.drop k) a.e=nxt (b.r.drop k) b.e:=p7 k a.r b.r a.e b.e (h.odd a ha b hb) (h.pre a ha b hb) (h.le a ha) (h.le b hb)
theorem HR.sub {D:Dc} {ls:List Ln} {k:Nat} (h:HR D ls k) (p:Ln→Bool):HR D (ls.filter p) k where
 gl:=fun l hl=>h.gl l (List.mem_filter.mp hl).1
 le:=fun l hl=>h.le l (List.mem_filter.mp hl).1
 pre:=fun a ha b hb=>h.pre a (List.mem_filter.mp ha).1 b (List.mem_filter.mp hb).1
 odd:=fun a ha b hb=>h.odd a (List.mem_filter.mp ha).1 b (List.mem_filter.mp hb).1
 five:=Nat.le_trans (List.length_filter_le _ _) h.five
def RSp (D:Dc) (k f:Nat) (ls:List Ln):Prop:=∃ R s d,(∀ T,eM f [.d (aD ls),.d (.int k)] T=some (R,T))∧SZ R k s d∧1≤d∧s + 2≤(5 + 2 * (3 - k)) * ls.length∧d≤ls.length + (3 - k) + 2∧∀ l∈ls,RT D d R l (vals D l k)
def PSp (D:Dc) (k f:Nat) (ls:List Ln):Prop:=∃ R s d,(∀ T,eN f [.d (aD ls),.d (.int k)] T=some (R,T))∧SZ R (k + 1) s d∧1≤d∧s + 4≤(5 + 2 * (3 - k)) * ls.length∧d≤ls.length + (3 - (k + 1)) + 2∧∀ l∈ls,RT D d R l (vals D l (k + 1))
theorem sL (k:Nat) (s:Str):∀ ls:List Ln,(ls.filter (dr k s)).length + (ls.filter (cL k s)).length=ls.length
 | []=>rfl
 | l::ls=>by
  have ih:=sL k s ls
  by_cases h:bu k l=s
  ·have h1:dr k s l=true:=by unfold dr; simp [h]
   have h2:cL k s l=false:=by unfold cL; simp [h]
   rw [List.filter_cons_of_pos h1,List.filter_cons_of_neg (by rw [h2]; simp)]
   simp only [List.length_cons]
   omega
  ·have h1:dr k s l=false:=by unfold dr; simp [h]
   have h2:cL k s l=true:=by unfold cL; simp [h]
   rw [List.filter_cons_of_neg (by rw [h1]; simp),List.filter_cons_of_pos h2]
   simp only [List.length_cons]
   omega
theorem jE {k:Nat} {l:Ln} (h:k < l.r.length):l.r[k]? = some (l.r[k].1,bu k l):=by
 have hg:l.r[k]? = some l.r[k]:=List.getElem?_eq_getElem h
 unfold bu
 rw [hg]
 rfl
theorem m5 {D:Dc} (hD:DOk D) {l:Ln} (h:GL D l) {k:Nat} (hk:k < l.r.length):∃ v,aL D (bu k l)=some v∧aZ v=true∧bu k l=stp 24 v:=by
 obtain ⟨_,v,hv⟩:=h.rd _ (List.mem_of_getElem? (jE hk))
 obtain ⟨h1,h2⟩:=hD.ok _ _ hv
 exact ⟨v,hv,h1,h2⟩
theorem mV {l:Ln} {k:Nat} (h:k < l.r.length) (e:SS):nxt (l.r.drop k) e=(Str.ofString "wants",l.r[k].1):=by
 rw [List.drop_eq_getElem_cons h]
 rfl
theorem zG {r:List SS} {e:SS} {w s:Str} (h:nxt r e=(w,s)) (hw:w≠Str.ofString "wants"):r=[]∧e=(w,s):=by
 cases r with
 | nil=>exact ⟨rfl,h⟩
 | cons p r=>exact absurd (congrArg Prod.fst h).symm hw
theorem Ct {D:Dc} (hD:DOk D) {k:Nat} (hk3:k < 3) (IH:∀ ls f,HR D ls (k + 1)→ls≠[]→2 + 7 * (3 - (k + 1))≤f→RSp D (k + 1) f ls) :
  ∀ (n:Nat) (ls:List Ln) (f:Nat),ls.length=n→ls≠[]→HR D ls k→(∀ l∈ls,k < l.r.length)→2 + 7 * (3 - (k + 1)) + n≤f→PSp D k f ls:=by
 intro n
 induction n using Nat.strongRecOn with
 | ind n ihn=>
 intro ls f hn hne hr hlt hf
 cases ls with
 | nil=>exact absurd rfl hne
 | cons l t=>
 have hpos:1≤n:=by rw [← hn]; simp
 obtain ⟨f,rfl⟩:=c8 f (by omega)
 have hl:=hlt l List.mem_cons_self
 have hsum:=sL k (bu k l) (l::t)
 have hmem:l∈(l::t).filter (dr k (bu k l)):=List.mem_filter.mpr ⟨List.mem_cons_self,by unfold dr; simp⟩
 have hap:1≤((l::t).filter (dr k (bu k l))).length:=List.length_pos_of_mem hmem
 have hal:HR D ((l::t).filter (dr k (bu k l))) (k + 1):=by
  refine ⟨(hr.sub _).gl,fun x hx=>hlt x (List.mem_filter.mp hx).1,fun a ha b hb=>?_,(hr.sub _).odd,(hr.sub _).five⟩
  obtain ⟨ma,pa⟩:=List.mem_filter.mp ha
  obtain ⟨mb,pb⟩:=List.mem_filter.mp hb
  have sa:bu k a=bu k l:=of_decide_eq_true pa
  have sb:bu k b=bu k l:=of_decide_eq_true pb
  have nn:=hr.nx ma mb
  rw [mV (hlt a ma),mV (hlt b mb)] at nn
  have nn':=(Prod.mk.inj nn).2
  rw [List.take_succ,List.take_succ,hr.pre a ma b mb,jE (hlt a ma),jE (hlt b mb),nn',sa,sb]
 obtain ⟨A,s1,d1,eA,zA,p1,bA,dA,rA⟩:=IH _ f hal (List.ne_nil_of_mem hmem) (by omega)
 have kc:((k + 1:Nat):Int)=((k + 1:Nat):Int):=rfl
 have par:=fun T=>A7 hr.five hlt (eM f) (eN f) eA T
 by_cases ho:(l::t).filter (cL k (bu k l))=[]
 ·rw [ho,List.length_nil] at hsum
  refine ⟨A,s1,d1,fun T=>?_,zA,p1,?_,?_,fun x hx=>?_⟩
  ·rw [mw]
   exact (par T).1 ho
  ·obtain rfl | rfl | rfl:k=0∨k=1∨k=2:=by omega
   all_goals (simp only [hn] at hsum bA ⊢; omega)
  ·omega
  ·refine rA x (List.mem_filter.mpr ⟨hx,?_⟩)
   cases hc:dr k (bu k l) x with
   | true=>rfl
   | false=>
    have:x∈(l::t).filter (cL k (bu k l)):=List.mem_filter.mpr ⟨hx,by unfold dr at hc; unfold cL; simp at hc ⊢; exact hc⟩
    rw [ho] at this
    cases this
 ·obtain ⟨v,kv,hv,ev⟩:=m5 hD (hr.gl l List.mem_cons_self) hl
  have hop:1≤((l::t).filter (cL k (bu k l))).length:=by
   cases hc:(l::t).filter (cL k (bu k l)) with
   | nil=>exact absurd hc ho
   | cons _ _=>simp
  obtain ⟨B,s2,d2,eB,zB,p2,bB,dB,rB⟩:=ihn _ (by omega) _ f rfl ho (hr.sub _) (fun x hx=>hlt x (List.mem_filter.mp hx).1) (by omega)
  refine ⟨_,s1 + s2 + 4,1 + max 2 (max d1 d2),fun T=>?_,yR (i:=k) (k:=k + 1) (by omega) hv (by omega) zA zB,by omega,?_,?_,fun x hx=>?_⟩
  ·rw [mw]
   exact (par T).2 v B hv ev ho eB
  ·obtain rfl | rfl | rfl:k=0∨k=1∨k=2:=by omega
   all_goals (simp only [hn] at hsum bA bB ⊢; omega)
  ·omega
  ·obtain ⟨a,ka,ha,ea⟩:=m5 hD (hr.gl x hx) (hlt x hx)
   have hg:=xr (jE (hlt x hx)) ka
   have e1:1 + max 2 (max d1 d2)=max 2 (max d1 d2) + 1:=by omega
   rw [e1]
   refine yT ha hv hg ?_
   by_cases hc:bu k x=bu k l
   ·rw [if_pos (by rw [← ea,← ev]; exact hc)]
    exact (rA x (List.mem_filter.mpr ⟨hx,by unfold dr; simp [hc]⟩)).mono (by omega)
   ·rw [if_neg (by rw [← ea,← ev]; exact hc)]
    exact (rB x (List.mem_filter.mpr ⟨hx,by unfold cL; simp [hc]⟩)).mono (by omega)
def nmK (x:Str):Bool:=match bP [.d (.str x)] [] with
 | some (.bool b,_)=>b
 | _=>false
theorem iq {x:Str} (hl:x.length≤40) (ho:Lo x) (hd:nmK x=true):Nm x:=⟨ho,fun T=>by
 obtain ⟨b,h,_⟩:=mF (n:=0) (v:=.str x) (.str hl ho)
 unfold nmK at hd
 rw [h []] at hd
 have hb:b=true:=hd
 subst hb
 exact h T⟩
theorem sy:Nm "any":=iq (by decide) (cx (by decide +kernel)) (by decide +kernel)
theorem wU {D:Dc} {l:Ln} (h:GL D l) {k:Nat}:(∃ v,aZ v=true∧nxt (l.r.drop k) l.e=(Str.ofString "made",stp 24 v))∨(∃ w,Nm w∧nxt (l.r.drop k) l.e=(Str.ofString "fails",w))∨∃ w,Nm w∧nxt (l.r.drop k) l.e=(Str.ofString "wants",w):=by
 cases hd:l.r.drop k with
 | nil=>
  show (∃ v,aZ v=true∧l.e=_)∨(∃ w,Nm w∧l.e=_)∨∃ w,Nm w∧l.e=_
  have hE:=h.en
  generalize l.e=e at hE ⊢
  cases hE with
  | @made v hv=>exact .inl ⟨v,hv,rfl⟩
  | @fails w hw=>exact .inr (.inl ⟨w,hw,rfl⟩)
  | @wants w hw=>exact .inr (.inr ⟨w,hw,rfl⟩)
 | cons p r=>exact .inr (.inr ⟨p.1,(h.rd p (List.mem_of_mem_drop (by rw [hd]; exact List.mem_cons_self))).1,rfl⟩)
theorem tB {D:Dc} (hD:DOk D) {k:Nat} (hk3:k≤3) (IH:k < 3→∀ ls f,HR D ls (k + 1)→ls≠[]→2 + 7 * (3 - (k + 1))≤f→RSp D (k + 1) f ls) (ls:List Ln) (f:Nat) (hr:HR D ls k) (hne:ls≠[]) (hf:2 + 7 * (3 - k)≤f):RSp D k f ls:=by
 cases ls with
 | nil=>exact absurd rfl hne
 | cons l t=>
 obtain ⟨f,rfl⟩:=c8 f (by omega)
 have hpos:1≤(l::t).length:=by simp
 have h3:∀ x∈l::t,x.r.length≤3:=fun x hx=>(hr.gl x hx).le
 have n1:Str.ofString "made"≠Str.ofString "wants":=by decide
 have n2:Str.ofString "fails"≠Str.ofString "wants":=by decide
 have full:∀ {w s:Str} {x:Ln},x∈l::t→nxt (l.r.drop k) l.e=(w,s)→w≠Str.ofString "wants"→(vals D x k).length=x.r.length∧x.e=(w,s):=fun {w s x} hx e hw=>by
  rw [hr.nx List.mem_cons_self hx] at e
  obtain ⟨e1,e2⟩:=zG e hw
  have:=List.drop_eq_nil_iff.mp e1
  exact ⟨by rw [jk (hr.le x hx)]; have:=hr.le x hx; omega,e2⟩
 rcases wU (k:=k) (hr.gl l List.mem_cons_self) with ⟨v,hv,e⟩ | ⟨w,hw,e⟩ | ⟨w,hw,e⟩
 ·refine ⟨bC (exP v),2,2,fun T=>by rw [j8]; exact xB hr.five hv e _ T,AE hv (by omega),by omega,?_,by omega,fun x hx=>?_⟩
  ·have:5 * 1≤(5 + 2 * (3 - k)) * (l::t).length:=Nat.mul_le_mul (by omega) hpos
   omega
  ·obtain ⟨e1,e2⟩:=full hx e n1
   exact AR hv e1 (h3 x hx) e2 _
 ·refine ⟨cy w,1,1,fun T=>by rw [j8]; exact wG hr.five e _ T,mH hw (by omega),by omega,?_,by omega,fun x hx=>?_⟩
  ·have:5 * 1≤(5 + 2 * (3 - k)) * (l::t).length:=Nat.mul_le_mul (by omega) hpos
   omega
  ·obtain ⟨e1,e2⟩:=full hx e n2
   exact yV hw.1 e1 (h3 x hx) e2 _
 ·have ended:∀ {x:Ln} (R:PyData) (n:Nat),x∈l::t→¬ k < x.r.length→RT D n (bg (exP (.str w)) R) x (vals D x k):=fun {x} R n hx hlt=>by
   have e':=e
   rw [hr.nx List.mem_cons_self hx,List.drop_eq_nil_iff.mpr (by omega)] at e'
   have e2:x.e=(Str.ofString "wants",w):=e'
   exact AS hw (by rw [jk (hr.le x hx)]; have:=hr.le x hx; omega) (h3 x hx) e2 n
  have hfl:=List.length_filter_le (fV k) (l::t)
  by_cases hz:(l::t).filter (fV k)=[]
  ·obtain ⟨f,rfl⟩:=c8 f (by omega)
   refine ⟨bg (exP (.str w)) jW,1 + 2,1 + 1,fun T=>?_,qx hw (by omega) (by omega) (mH sy (by omega)),by omega,?_,by omega,fun x hx=>?_⟩
   ·rw [j8]
    refine pY hr.five h3 e _ (fun T=>?_) T
    rw [hz,mw]
    exact zr _ _ k T
   ·have:5 * 1≤(5 + 2 * (3 - k)) * (l::t).length:=Nat.mul_le_mul (by omega) hpos
    omega
   ·refine ended _ _ hx fun hlt=>?_
    have:x∈(l::t).filter (fV k):=List.mem_filter.mpr ⟨hx,by unfold fV; simp [hlt]⟩
    rw [hz] at this
    cases this
  ·obtain ⟨y,hy⟩:=List.exists_mem_of_ne_nil _ hz
   have hky:k < y.r.length:=of_decide_eq_true (List.mem_filter.mp hy).2
   have hk2:k < 3:=by have:=h3 y (List.mem_filter.mp hy).1; omega
   have h5:=(hr.sub (fV k)).five
   obtain ⟨R,s,d,eR,zR,p1,bR,dR,rR⟩:=Ct hD hk2 (IH hk2) _ _ f rfl hz (hr.sub _) (fun x hx=>of_decide_eq_true (List.mem_filter.mp hx).2) (by omega)
   refine ⟨bg (exP (.str w)) R,s + 2,d + 1,fun T=>?_,qx hw (by omega) p1 zR,by omega,?_,by omega,fun x hx=>?_⟩
   ·rw [j8]
    exact pY hr.five h3 e _ eR T
   ·have:=Nat.mul_le_mul_left (5 + 2 * (3 - k)) hfl
    omega
   ·by_cases hlt:k < x.r.length
    ·have e':=e
     rw [hr.nx List.mem_cons_self hx,mV hlt] at e'
     have ew:x.r[k].1=w:=(Prod.mk.inj e').2
     obtain ⟨a,ka,ha,ea⟩:=m5 hD (hr.gl x hx) hlt
     have hg:=jE hlt
     rw [ew] at hg
     have hR:=rR x (List.mem_filter.mpr ⟨hx,by unfold fV; simp [hlt]⟩)
     rw [oX hg ka] at hR
     exact yU hw (by rw [jk (hr.le x hx)]; exact hg) (h3 x hx) ka hR
    ·exact ended _ _ hx hlt
theorem Cp {D:Dc} (hD:DOk D):∀ (r k:Nat),k + r=3→∀ (ls:List Ln) (f:Nat),HR D ls k→ls≠[]→2 + 7 * r≤f→RSp D k f ls:=by
 intro r
 induction r with
 | zero=>exact fun k hk ls f hr hne hf=>tB hD (by omega) (fun h=>by omega) ls f hr hne (by omega)
 | succ r ih=>exact fun k hk ls f hr hne hf=>tB hD (by omega) (fun h ls f a b c=>ih (k + 1) (by omega) ls f a b (by omega)) ls f hr hne (by omega)
def cV (ls:List Ln) (i j:Nat):Bool:=match ls[i]?,ls[j]? with
 | some a,some b=>fM a b
 | _,_=>false
theorem k0 {ls:List Ln} {i:Nat} {a:Ln} (h:ls[i]? = some a):atI (ls.map Ln.d) (i:Int)=some a.d:=eY (by rw [List.getElem?_map,h]; rfl)
theorem kJ {ls:List Ln} {i:Nat} (h:i < ls.length):∃ a,ls[i]? = some a∧a∈ls:=⟨ls[i],List.getElem?_eq_getElem h,List.getElem_mem h⟩
def fo1:FS:=(fIf (aR (ar gb (ab (ae ixD (aa 0) (aa 2)) (ab (ae ixD (aa 0) (aa 1)) ag)))) (av (ao .tuple (ab (aa 2) (ab (aa 1) ag)))) aC)
def fo2:FS:=cI 2 (cG (aa 1)) fo1
theorem BE:(cI 2 (cG (aa 1)) (fIf (aR (ar gb (ab (ae ixD (aa 0) (aa 2)) (ab (ae ixD (aa 0) (aa 1)) ag)))) (av (ao .tuple (ab (aa 2) (ab (aa 1) ag)))) aC))=fo2:=rfl
def cH (ds:List Nat):List PyData:=ds.map fun (i:Nat)=>PyData.int (i:Int)
theorem lT (n:Nat):cb 0 n=cH (List.range n):=by
 unfold cb cH
 apply List.map_congr_left
 intro i _
 simp
theorem tM {D:Dc} (hD:DOk D) {ls:List Ln} (hg:∀ l∈ls,GL D l) {j:Nat} (hj:j < ls.length) (T:Tp):∀ (ds:List Nat) (c:Option W),(∀ i∈ds,i < ls.length) →
  (∃ i ρ',i∈ds∧cV ls i j=true∧forL 2 fo1 (cH ds) [some (.d (aD ls)),some (.d (.int j)),c] T=some ((.rt (.tuple [.int i,.int j]),ρ'),T)) ∨
  ∃ c',(∀ i∈ds,cV ls i j=false)∧forL 2 fo1 (cH ds) [some (.d (aD ls)),some (.d (.int j)),c] T=some ((.nx,[some (.d (aD ls)),some (.d (.int j)),c']),T)
 | [],c,_=>.inr ⟨c,(fun i hi=>by cases hi),rfl⟩
 | i::ds,c,h=>by
  obtain ⟨a,ea,ma⟩:=kJ (h i List.mem_cons_self)
  obtain ⟨b,eb,mb⟩:=kJ hj
  have ho:=An hD (hg a ma) (hg b mb) T
  have ia:=k0 ea
  have ib:=k0 eb
  have oa:cV ls i j=fM a b:=by unfold cV; rw [ea,eb]
  cases hb:fM a b with
  | true=>
   rw [hb] at ho
   refine .inl ⟨i,[some (.d (aD ls)),some (.d (.int j)),some (.d (.int i))],List.mem_cons_self,by rw [oa,hb],?_⟩
   unfold cH
   rw [List.map_cons]
   unfold forL aD
   simp [fo1,ia,ib,ho]
  | false=>
   rw [hb] at ho
   have st:fo1 [some (.d (aD ls)),some (.d (.int j)),some (.d (.int i))] T=some ((.nx,[some (.d (aD ls)),some (.d (.int j)),some (.d (.int i))]),T):=by
    unfold aD
    simp [fo1,ia,ib,ho]
   have go:forL 2 fo1 (cH (i::ds)) [some (.d (aD ls)),some (.d (.int j)),c] T=forL 2 fo1 (cH ds) [some (.d (aD ls)),some (.d (.int j)),some (.d (.int i))] T:=by
    show bnd (fo1 [some (.d (aD ls)),some (.d (.int j)),some (.d (.int i))] T) _=_
    rw [st]
    rfl
   rcases tM hD hg hj T ds (some (.d (.int i))) (fun x hx=>h x (List.mem_cons_of_mem _ hx)) with ⟨i',ρ',m,e1,e2⟩ | ⟨c',e1,e2⟩
   ·exact .inl ⟨i',ρ',List.mem_cons_of_mem _ m,e1,by rw [go]; exact e2⟩
   ·refine .inr ⟨c',fun x hx=>?_,by rw [go]; exact e2⟩
    rcases List.mem_cons.mp hx with z | z
    ·rw [z,oa,hb]
    ·exact e1 x z
theorem sI {D:Dc} (hD:DOk D) {ls:List Ln} (hg:∀ l∈ls,GL D l) (h5:ls.length≤5) (T:Tp):∀ (ds:List Nat) (b c:Option W),(∀ j∈ds,j < ls.length) →
  (∃ i j ρ',i < j∧j∈ds∧cV ls i j=true∧forL 1 fo2 (cH ds) [some (.d (aD ls)),b,c] T=some ((.rt (.tuple [.int i,.int j]),ρ'),T)) ∨
  ∃ b' c',(∀ j∈ds,∀ i,i < j→cV ls i j=false)∧forL 1 fo2 (cH ds) [some (.d (aD ls)),b,c] T=some ((.nx,[some (.d (aD ls)),b',c']),T)
 | [],b,c,_=>.inr ⟨b,c,(fun j hj=>by cases hj),rfl⟩
 | j::ds,b,c,h=>by
  have hj:=h j List.mem_cons_self
  have rg:cD (j:Int)=true:=eT (by omega) (by omega)
  have ev:fo2 [some (.d (aD ls)),some (.d (.int j)),c] T=forL 2 fo1 (cH (List.range j)) [some (.d (aD ls)),some (.d (.int j)),c] T:=by
   rw [← lT]
   simp [fo2,rg]
  rcases tM hD hg hj T (List.range j) c (fun i hi=>by have:=List.mem_range.mp hi; omega) with ⟨i,ρ',m,e1,e2⟩ | ⟨c',e1,e2⟩
  ·refine .inl ⟨i,j,ρ',List.mem_range.mp m,List.mem_cons_self,e1,?_⟩
   show bnd (fo2 [some (.d (aD ls)),some (.d (.int j)),c] T) _=_
   rw [ev,e2]
   rfl
  ·have go:forL 1 fo2 (cH (j::ds)) [some (.d (aD ls)),b,c] T=forL 1 fo2 (cH ds) [some (.d (aD ls)),some (.d (.int j)),c'] T:=by
    show bnd (fo2 [some (.d (aD ls)),some (.d (.int j)),c] T) _=_
    rw [ev,e2]
    rfl
   rcases sI hD hg h5 T ds (some (.d (.int j))) c' (fun x hx=>h x (List.mem_cons_of_mem _ hx)) with ⟨i',j',ρ',lt,m,e3,e4⟩ | ⟨b2,c2,e3,e4⟩
   ·exact .inl ⟨i',j',ρ',lt,List.mem_cons_of_mem _ m,e3,by rw [go]; exact e4⟩
   ·refine .inr ⟨b2,c2,fun x hx i hi=>?_,by rw [go]; exact e4⟩
    rcases List.mem_cons.mp hx with z | z
    ·subst z; exact e1 i (List.mem_range.mpr hi)
    ·exact e3 x z i hi
theorem Aq {D:Dc} (hD:DOk D) {ls:List Ln} (hg:∀ l∈ls,GL D l) (h5:ls.length≤5) (T:Tp) :
  (∃ i j,i < j∧j < ls.length∧cV ls i j=true∧fw [.d (aD ls)] T=some (.tuple [.int i,.int j],T))∨((∀ i j,i < j→j < ls.length→cV ls i j=false)∧fw [.d (aD ls)] T=some (.none,T)):=by
 have z:ls.length≤sizeLine:=by rw [sz]; omega
 have rg:cD (ls.length:Int)=true:=eT (by omega) (by omega)
 have hf:fw [.d (aD ls)] T=dS (bnd (forL 1 fo2 (cH (List.range ls.length)) [some (.d (aD ls)),none,none] T) (cZ (av (fC .none)))):=by
  rw [← lT]
  unfold fw
  rw [BE]
  generalize fo2=g
  unfold aD
  simp [z,rg]
 rcases sI hD hg h5 T (List.range ls.length) none none (fun j hj=>List.mem_range.mp hj) with ⟨i,j,ρ',lt,m,e1,e2⟩ | ⟨b,c,e1,e2⟩
 ·refine .inl ⟨i,j,lt,List.mem_range.mp m,e1,?_⟩
  rw [hf,e2]
  rfl
 ·refine .inr ⟨fun i j hi hj=>e1 j (List.mem_range.mpr hj) i hi,?_⟩
  rw [hf,e2]
  simp
theorem qk {α:Type} {c:FT} {e:FE} {ρ:Rho} {T:Tp} {q g:α→PyData} {p:α→Bool}:∀ {ds:List α},(∀ d∈ds,c (some (.d (q d))::ρ) T=some (p d,T))→(∀ d∈ds,e (some (.d (q d))::ρ) T=some (.d (g d),T))→bh c e ρ (ds.map q) T=some ((ds.filter p).map g,T)
 | [],_,_=>rfl
 | d::ds,h1,h2=>by
  have a:=h1 d List.mem_cons_self
  have b:=h2 d List.mem_cons_self
  have ih:=qk (ds:=ds) (fun x hx=>h1 x (List.mem_cons_of_mem _ hx)) (fun x hx=>h2 x (List.mem_cons_of_mem _ hx))
  rw [List.map_cons]
  unfold bh
  rw [a,dh]
  cases hp:p d with
  | true=>
   rw [if_pos rfl,b,dh,ih]
   simp [hp]
  | false=>
   rw [if_neg (by simp),ih]
   simp [hp]
def lat (n i:Nat):List Nat:=(List.range (n - (i + 1))).map fun t=>i + 1 + t
def prD (i j:Nat):PyData:=.tuple [.int (i:Int),.int (j:Int)]
def prs (ls:List Ln) (i:Nat):List PyData:=((lat ls.length i).filter (cV ls i)).map (prD i)
theorem lat_mem {n i j:Nat}:j∈lat n i↔i < j∧j < n:=by
 unfold lat
 rw [List.mem_map]
 constructor
 ·rintro ⟨t,ht,rfl⟩
  have:=List.mem_range.mp ht
  omega
 ·rintro ⟨h1,h2⟩
  exact ⟨j - (i + 1),List.mem_range.mpr (by omega),by omega⟩
theorem mK (ls:List Ln) (i:Nat):(prs ls i).length≤ls.length:=by
 unfold prs
 rw [List.length_map]
 refine Nat.le_trans (List.length_filter_le _ _) ?_
 unfold lat
 simp
theorem xZ {n i:Nat} (h:i < n):cb ((i:Int) + 1) ((n:Int) - ((i:Int) + 1)).toNat=cH (lat n i):=by
 unfold cb cH lat
 have e:((n:Int) - ((i:Int) + 1)).toNat=n - (i + 1):=by omega
 rw [e,List.map_map]
 apply List.map_congr_left
 intro t _
 show PyData.int _=PyData.int _
 congr 1 <;> omega
def paC:FT:=(aR (ar f9 (ab (ae ixD (aa 1) (aa 5)) (ab (ae ixD (aa 1) (aa 0)) ag))))
def paE:FE:=(ao .tuple (ab (aa 5) (ab (aa 0) ag)))
def paB:FS:=(aE 3 (ae az (aa 3) (bf (gw (ae az (aa 4) (fC (.int 1))) (fCB aF (ab (aa 0) ag))) (aR (ar f9 (ab (ae ixD (aa 1) (aa 5)) (ab (ae ixD (aa 1) (aa 0)) ag)))) (ao .tuple (ab (aa 5) (ab (aa 0) ag))))))
def paR:FS:=(ak (fIf (bE (bF (aR (fUn (bi .tup) (aa 2)))) (au (ae ltD (fCB aF (ab (aa 2) ag)) (fC (.int 2))))) (av (fC (.bool false))) aC) (ak (fIf (au (ae gtD (fCB aF (ab (aa 3) ag)) (fC (.int 0)))) (ak (aE 5 (bI (ae eqD (fCB aF (ab (aa 2) ag)) (fC (.int 3))) (fCB dv (ab (bf (br (fSl (aa 2) (fP (fC (.int 1))) bL)) a6 (bI (fUn (bi .int) (aa 0)) (gy (fUn (bi .bl) (aa 0))))) ag)))) (av (bI (aa 5) (bI (ae eqD (ae ixD (aa 2) (fC (.int 0))) (fC (.str "odds"))) (ae je (fSl (aa 2) (fP (fC (.int 1))) bL) (aa 3)))))) aC) (ak (fIf (bE (au (ae neD (fCB aF (ab (aa 2) ag)) (fC (.int 2)))) (au (ae neD (ae ixD (aa 2) (fC (.int 0))) (fC (.str "recipe"))))) (av (fC (.bool false))) aC) (ak (aE 6 (ar (dG 25) (ab (ae ixD (aa 2) (fC (.int 1))) (ab (fC (.int 0)) ag)))) (ak (fIf (bE (au (ae gtD (ae ixD (aa 6) (fC (.int 0))) (fC (.int 60)))) (au (ae gtD (ae ixD (aa 6) (fC (.int 1))) (fC (.int 20))))) (av (fC (.bool false))) aC) (av (fCB dv (ab (bf (br (aa 0)) a6 (ar fA (ab (ae ixD (aa 3) (fC (.int 1))) (ab (aa 0) (ab (aa 2) ag))))) ag))))))))
theorem BX:dH=aX 7 (ak (aE 3 (ao .list ag)) (ak (cI 4 (cG (fCB aF (ab (aa 0) ag))) paB) paR)):=rfl
theorem zW {f g:FE} {ρ:Rho} {T:Tp} {i j:Int} (h1:f ρ T=some (.d (.int i),T)) (h2:g ρ T=some (.d (.int j),T)) (h0:0≤i) (hi:cD i=true) (hj:cD j=true):gw f g ρ T=some (cb i (j - i).toNat,T):=by
 unfold gw
 rw [h1,dh,h2,dh]
 exact if_pos ⟨h0,hi,hj⟩
theorem zt {D:Dc} (hD:DOk D) {ls:List Ln} (hg:∀ l∈ls,GL D l) (h5:ls.length≤5) {i:Nat} (hi:i < ls.length) (ps:List PyData) (hp:ps.length≤100) (u v c5 c6:Option W) (T:Tp) :
  paB [some (.d (aD ls)),u,v,some (.d (.list ps)),some (.d (.int i)),c5,c6] T=some ((.nx,[some (.d (aD ls)),u,v,some (.d (.list (ps++prs ls i))),some (.d (.int i)),c5,c6]),T):=by
 obtain ⟨a,ea,ma⟩:=kJ hi
 have ia:=k0 ea
 have c:bh paC paE [some (.d (aD ls)),u,v,some (.d (.list ps)),some (.d (.int i)),c5,c6] (cH (lat ls.length i)) T=some (prs ls i,T):=by
  refine qk (fun j hj=>?_) (fun j hj=>?_)
  ·obtain ⟨b,eb,mb⟩:=kJ (lat_mem.mp hj).2
   have ib:=k0 eb
   have ho:=yG hD (hg a ma) (hg b mb) T
   have oa:cV ls i j=fM a b:=by unfold cV; rw [ea,eb]
   rw [oa]
   unfold aD
   simp [paC,ia,ib,ho]
  ·simp [paE,prD]
 have z:ls.length≤sizeLine:=by rw [sz]; omega
 have r1:cD ((i:Int) + 1)=true:=eT (by omega) (by omega)
 have r2:cD (ls.length:Int)=true:=eT (by omega) (by omega)
 have rg:=zW (f:=ae az (aa 4) (fC (.int 1))) (g:=fCB aF (ab (aa 0) ag)) (ρ:=[some (.d (aD ls)),u,v,some (.d (.list ps)),some (.d (.int i)),c5,c6]) (T:=T) (i:=(i:Int) + 1) (j:=ls.length) (by simp) (by unfold aD; simp [z]) (by omega) r1 r2
 rw [xZ hi] at rg
 have zz:ps.length + (prs ls i).length≤sizeLine:=by rw [sz]; have:=mK ls i; omega
 have hb:paB=aE 3 (ae az (aa 3) (bf (gw (ae az (aa 4) (fC (.int 1))) (fCB aF (ab (aa 0) ag))) paC paE)):=rfl
 have e:ae az (aa 3) (bf (gw (ae az (aa 4) (fC (.int 1))) (fCB aF (ab (aa 0) ag))) paC paE) [some (.d (aD ls)),u,v,some (.d (.list ps)),some (.d (.int i)),c5,c6] T=some (.d (.list (ps++prs ls i)),T):=by
  rw [BI]
  have e1:aa 3 [some (.d (aD ls)),u,v,some (.d (.list ps)),some (.d (.int i)),c5,c6] T=some (W.d (.list ps),T):=rfl
  have e2:bf (gw (ae az (aa 4) (fC (.int 1))) (fCB aF (ab (aa 0) ag))) paC paE [some (.d (aD ls)),u,v,some (.d (.list ps)),some (.d (.int i)),c5,c6] T=some (.d (.list (prs ls i)),T):=by
   rw [zY,rg,dh,c]
   rfl
  generalize bf (gw (ae az (aa 4) (fC (.int 1))) (fCB aF (ab (aa 0) ag))) paC paE=g at e2 ⊢
  rw [e1,dh]
  simp [e2,zz]
 rw [hb,sM,e]
 rfl
theorem qK {D:Dc} (hD:DOk D) {ls:List Ln} (hg:∀ l∈ls,GL D l) (h5:ls.length≤5) (u v c5 c6:Option W) (T:Tp):∀ (ds:List Nat) (ps:List PyData) (c4:Option W),(∀ i∈ds,i < ls.length)→ps.length + 5 * ds.length≤100 →
  ∃ c4',forL 4 paB (cH ds) [some (.d (aD ls)),u,v,some (.d (.list ps)),c4,c5,c6] T=some ((.nx,[some (.d (aD ls)),u,v,some (.d (.list (ps++(ds.map (prs ls)).flatten))),c4',c5,c6]),T)
 | [],ps,c4,_,_=>⟨c4,by simp [cH,forL]⟩
 | i::ds,ps,c4,h,hl=>by
  have hl':ps.length + 5 * (ds.length + 1)≤100:=hl
  have st:=zt hD hg h5 (h i List.mem_cons_self) ps (by omega) u v c5 c6 T
  have:=mK ls i
  obtain ⟨c4',e⟩:=qK hD hg h5 u v c5 c6 T ds (ps++prs ls i) (some (.d (.int i))) (fun x hx=>h x (List.mem_cons_of_mem _ hx)) (by rw [List.length_append]; omega)
  refine ⟨c4',?_⟩
  have go:forL 4 paB (cH (i::ds)) [some (.d (aD ls)),u,v,some (.d (.list ps)),c4,c5,c6] T=forL 4 paB (cH ds) [some (.d (aD ls)),u,v,some (.d (.list (ps++prs ls i))),some (.d (.int i)),c5,c6] T:=by
   generalize paB=g at st ⊢
   show bnd (g [some (.d (aD ls)),u,v,some (.d (.list ps)),some (.d (.int i)),c5,c6] T) _=_
   rw [st]
   rfl
  rw [go,e]
  simp
def du (ls:List Ln):List PyData:=((List.range ls.length).map (prs ls)).flatten
theorem allP_mem {ls:List Ln} {x:PyData}:x∈du ls↔∃ i j,i < j∧j < ls.length∧cV ls i j=true∧x=prD i j:=by
 unfold du
 rw [List.mem_flatten]
 constructor
 ·rintro ⟨l,hl,hx⟩
  obtain ⟨i,hi,rfl⟩:=List.mem_map.mp hl
  obtain ⟨j,hj,rfl⟩:=List.mem_map.mp hx
  obtain ⟨h1,h2⟩:=List.mem_filter.mp hj
  obtain ⟨h3,h4⟩:=lat_mem.mp h1
  exact ⟨i,j,h3,h4,h2,rfl⟩
 ·rintro ⟨i,j,h1,h2,h3,rfl⟩
  exact ⟨prs ls i,List.mem_map.mpr ⟨i,List.mem_range.mpr (by omega),rfl⟩,List.mem_map.mpr ⟨j,List.mem_filter.mpr ⟨lat_mem.mpr ⟨h1,h2⟩,h3⟩,rfl⟩⟩
theorem sV {D:Dc} (hD:DOk D) {ls:List Ln} (hg:∀ l∈ls,GL D l) (h5:ls.length≤5) (d:Dc) (x:PyData) (T:Tp):∃ c4,dH [.d (aD ls),.d (.dict d),.d x] T=dS (paR [some (.d (aD ls)),some (.d (.dict d)),some (.d x),some (.d (.list (du ls))),c4,none,none] T):=by
 obtain ⟨c4,e⟩:=qK hD hg h5 (some (.d (.dict d))) (some (.d x)) none none T (List.range ls.length) [] none (fun i hi=>List.mem_range.mp hi) (by simp; omega)
 refine ⟨c4,?_⟩
 have z:ls.length≤sizeLine:=by rw [sz]; omega
 have rg:cD (ls.length:Int)=true:=eT (by omega) (by omega)
 rw [List.nil_append] at e
 rw [BX]
 generalize paB=g at e ⊢
 generalize paR=r
 rw [← lT] at e
 unfold aD at e ⊢
 unfold du
 simp [z,rg,e]
theorem tq (i j:Nat):SeqAt.shaped (prD i j)=true:=by simp [SeqAt.shaped,prD,PyData.canLay0,PyData.canLayAll0,PyData.depth,PyData.depthAll]
theorem BK (i j:Nat):PyData.eqv (prD i j) (prD i j)=true:=by simp [prD,PyData.eqv,PyData.eqvAll]
theorem yz {D:Dc} (hD:DOk D) {ls:List Ln} (hg:∀ l∈ls,GL D l) (h5:ls.length≤5) {i j:Nat} (h1:i < j) (h2:j < ls.length) (h3:cV ls i j=true) (T:Tp):dH [.d (aD ls),.d (.dict D),.d (.tuple [.str "odds",.int i,.int j])] T=some (.bool true,T):=by
 obtain ⟨c4,e⟩:=sV hD hg h5 D (.tuple [.str "odds",.int i,.int j]) T
 rw [e]
 have mem:prD i j∈du ls:=allP_mem.mpr ⟨i,j,h1,h2,h3,rfl⟩
 have sh:(du ls).all SeqAt.shaped=true:=List.all_eq_true.mpr fun x hx=>by
  obtain ⟨i,j,_,_,_,rfl⟩:=allP_mem.mp hx
  exact tq i j
 have ig:je (.tuple [.int i,.int j]) (.list (du ls))=some (.bool true):=by
  show (if SeqAt.shaped (prD i j)=true∧(du ls).all SeqAt.shaped=true then some (PyData.bool ((du ls).any fun y=>PyData.eqv y (prD i j))) else none)=_
  rw [if_pos ⟨tq i j,sh⟩]
  have:((du ls).any fun y=>PyData.eqv y (prD i j))=true:=List.any_eq_true.mpr ⟨prD i j,mem,BK i j⟩
  rw [this]
 have pos:0 < (du ls).length:=List.length_pos_of_mem mem
 have zl:(du ls).length≤sizeLine:=by
  have:(du ls).length≤25:=by
   unfold du
   have:∀ ds:List Nat,(ds.map (prs ls)).flatten.length≤5 * ds.length:=fun ds=>by
    induction ds with
    | nil=>simp
    | cons d ds ih=>
     have:=mK ls d
     rw [List.map_cons,List.flatten_cons,List.length_append,List.length_cons]
     omega
   have q:=this (List.range ls.length)
   rw [List.length_range] at q
   omega
  rw [sz]
  omega
 have sl:bv [PyData.str "odds",.int i,.int j] (some 1) none=[.int i,.int j]:=rfl
 have al:dv [.list [.bool true,.bool true]]=some (.bool true):=rfl
 generalize du ls=P at ig pos zl ⊢
 simp [paR,isi_tt,cu,sD,zl,pos,sl,bh,al,at3,ig,cT]
def paG:FE:=(ar fA (ab (ae ixD (aa 3) (fC (.int 1))) (ab (aa 0) (ab (aa 2) ag))))
theorem A8:paR=(ak (fIf (bE (bF (aR (fUn (bi .tup) (aa 2)))) (au (ae ltD (fCB aF (ab (aa 2) ag)) (fC (.int 2))))) (av (fC (.bool false))) aC) (ak (fIf (au (ae gtD (fCB aF (ab (aa 3) ag)) (fC (.int 0)))) (ak (aE 5 (bI (ae eqD (fCB aF (ab (aa 2) ag)) (fC (.int 3))) (fCB dv (ab (bf (br (fSl (aa 2) (fP (fC (.int 1))) bL)) a6 (bI (fUn (bi .int) (aa 0)) (gy (fUn (bi .bl) (aa 0))))) ag)))) (av (bI (aa 5) (bI (ae eqD (ae ixD (aa 2) (fC (.int 0))) (fC (.str "odds"))) (ae je (fSl (aa 2) (fP (fC (.int 1))) bL) (aa 3)))))) aC) (ak (fIf (bE (au (ae neD (fCB aF (ab (aa 2) ag)) (fC (.int 2)))) (au (ae neD (ae ixD (aa 2) (fC (.int 0))) (fC (.str "recipe"))))) (av (fC (.bool false))) aC) (ak (aE 6 (ar (dG 25) (ab (ae ixD (aa 2) (fC (.int 1))) (ab (fC (.int 0)) ag)))) (ak (fIf (bE (au (ae gtD (ae ixD (aa 6) (fC (.int 0))) (fC (.int 60)))) (au (ae gtD (ae ixD (aa 6) (fC (.int 1))) (fC (.int 20))))) (av (fC (.bool false))) aC) (av (fCB dv (ab (bf (br (aa 0)) a6 paG) ag)))))))):=rfl
theorem rJ {D:Dc} (hD:DOk D) {ls:List Ln} (hg:∀ l∈ls,GL D l) (h5:ls.length≤5) (no:∀ i j,i < j→j < ls.length→cV ls i j=false) {R:PyData} {s d:Nat} (hz:SZ R 0 s d) (hs:s≤60) (hd:d≤20) (hr:∀ l∈ls,RT D d R l []) (T:Tp) :
  dH [.d (aD ls),.d (.dict D),.d (.tuple [.str "recipe",R])] T=some (.bool true,T):=by
 obtain ⟨c4,e⟩:=sV hD hg h5 D (.tuple [.str "recipe",R]) T
 rw [e]
 have nil:du ls=[]:=List.eq_nil_iff_forall_not_mem.mpr fun x hx=>by
  obtain ⟨i,j,h1,h2,h3,_⟩:=allP_mem.mp hx
  rw [no i j h1 h2] at h3
  cases h3
 have z:=hz 25 T (by omega)
 have z':dG 25 [.d R,.d (.int 0)] T=some (.tuple [.int s,.int d],T):=z
 have hs':¬ (60:Int) < (s:Int):=by omega
 have hd':¬ (20:Int) < (d:Int):=by omega
 have zl:ls.length≤sizeLine:=by rw [sz]; omega
 have rt:∀ l∈ls,fA [.d R,.d l.d,.d (.dict D)] T=some (.bool true,T):=fun l hl=>Am (hr l hl) (by omega) T
 have c:∀ ρ:Rho,ρ[1]? = some (some (.d (.dict D)))→ρ[2]? = some (some (.d (.tuple [.str "recipe",R])))→bh a6 (ar fA (ab (ae ixD (aa 3) (fC (.int 1))) (ab (aa 0) (ab (aa 2) ag)))) ρ (ls.map Ln.d) T=some ((ls.map Ln.d).map fun _=>.bool true,T):=fun ρ h1 h2=>gc fun x hx=>by
  obtain ⟨l,hl,rfl⟩:=List.mem_map.mp hx
  have v2:∀ d T,aa 2 (d::ρ) T=some (W.d (.dict D),T):=fun d T=>by
   show (match ρ[1]? with | some (some w)=>some (w,T) | _=>none)=_
   rw [h1]
  have v3:∀ d T,aa 3 (d::ρ) T=some (W.d (.tuple [.str "recipe",R]),T):=fun d T=>by
   show (match ρ[2]? with | some (some w)=>some (w,T) | _=>none)=_
   rw [h2]
  generalize aa 2=g2 at v2 ⊢
  generalize aa 3=g3 at v3 ⊢
  simp [v2,v3,aY,rt l hl]
 have al:dv [.list ((ls.map Ln.d).map fun _=>.bool true)]=some (.bool true):=by
  rw [BJ (fun _=>true)]
  simp
 have cc:∀ x y w,bh a6 paG [some (.d (.list (ls.map Ln.d))),some (.d (.dict D)),some (.d (.tuple [.str "recipe",R])),some (.d (.list [])),x,y,w] (ls.map Ln.d) T=some ((ls.map Ln.d).map fun _=>.bool true,T):=fun x y w=>c _ rfl rfl
 rw [nil,A8]
 unfold aD
 have zx:(ls.map Ln.d).length≤sizeLine:=by rw [List.length_map]; exact zl
 generalize ls.map Ln.d=xs at cc al zx ⊢
 generalize paG=g at cc ⊢
 simp [isi_tt,aY,z',hs',hd',zx,cT,cc,al]
theorem wc {ls:List Ln} (no:∀ i j,i < j→j < ls.length→cV ls i j=false) {a b:Ln} (ha:a∈ls) (hb:b∈ls):fM a b=false:=by
 obtain ⟨i,hi,ei⟩:=List.getElem_of_mem ha
 obtain ⟨j,hj,ej⟩:=List.getElem_of_mem hb
 have ei':ls[i]? = some a:=by rw [List.getElem?_eq_getElem hi,ei]
 have ej':ls[j]? = some b:=by rw [List.getElem?_eq_getElem hj,ej]
 rcases Nat.lt_trichotomy i j with h | h | h
 ·have:=no i j h hj
  unfold cV at this
  rw [ei',ej'] at this
  exact this
 ·subst h
  rw [ei'] at ej'
  cases ej'
  exact l9 _ _
 ·have:=no j i h hi
  unfold cV at this
  rw [ei',ej'] at this
  have this:fM b a=false:=this
  unfold fM at this ⊢
  rw [wR]
  exact this
theorem ye {x:PyData} {i j:Nat} {T:Tp} (h:fw [.d x] T=some (.tuple [.int i,.int j],T)):dI [.d x] T=some (.tuple [.str "odds",.int i,.int j],T):=by
 have e:iU (.tuple [.int i,.int j]) .none=some (.bool true):=rfl
 simp [dI,h,e,aY]
theorem qX {x R:PyData} {T:Tp} (h:fw [.d x] T=some (.none,T)) (h2:eM 25 [.d x,.d (.int 0)] T=some (R,T)):dI [.d x] T=some (.tuple [.str "recipe",R],T):=by
 have e:iU .none .none=some (.bool false):=rfl
 simp [dI,h,e,h2]
theorem tf {D:Dc} (hD:DOk D) {ls:List Ln} (hg:∀ l∈ls,GL D l) (h5:ls.length≤5) (T:Tp):∃ x,dI [.d (aD ls)] T=some (x,T)∧dH [.d (aD ls),.d (.dict D),.d x] T=some (.bool true,T):=by
 rcases Aq hD hg h5 T with ⟨i,j,h1,h2,h3,e⟩ | ⟨no,e⟩
 ·exact ⟨_,ye e,yz hD hg h5 h1 h2 h3 T⟩
 ·cases ls with
  | nil=>exact ⟨_,qX e (yX _ 0 T),rJ hD hg h5 no (mH sy (by omega)) (by omega) (by omega) (fun l hl=>by cases hl) T⟩
  | cons l t=>
   obtain ⟨R,s,d,eR,zR,_,bs,bd,rt⟩:=Cp hD 3 0 rfl (l::t) 25 ⟨hg,fun _ _=>Nat.zero_le _,fun _ _ _ _=>rfl,fun a ha b hb=>wc no ha hb,h5⟩ (by simp) (by decide)
   exact ⟨_,qX e (eR T),rJ hD hg h5 no zR (by omega) (by omega) rt T⟩
theorem zJ {w:Str} (h:w∈menu):Nm w:=by
 have:(menu.all nmK)=true:=by decide +kernel
 exact iq (by have:=p9 h; omega) (menu_lo h) (List.all_eq_true.mp this w h)
theorem nT {w:Str} (h:w∈fwL):Nm w:=by
 simp only [fwL,List.mem_cons,List.not_mem_nil,or_false] at h
 rcases h with rfl | rfl | rfl
 ·exact iq (by decide) (cx (by decide +kernel)) (by decide +kernel)
 ·exact iq (by decide) (cx (by decide +kernel)) (by decide +kernel)
 ·exact iq (by decide) (cx (by decide +kernel)) (by decide +kernel)
theorem zI:Nm "name":=iq (by decide) (cx (by decide +kernel)) (by decide +kernel)
theorem qO {n:Str} (h:Tl (vaD (.str n))) (hb:nmB (.str n)=some (.bool true)):Nm n:=by
 generalize hx:vaD (.str n)=x at h
 cases h with
 | @va v hv=>
  cases rQ hx
  cases hv with
  | str hl ho=>
   obtain ⟨b,h1,_⟩:=mF (n:=0) (v:=.str n) (.str hl ho)
   have h2:=kI h1
   rw [hb] at h2
   cases h2
   exact ⟨ho,h1⟩
 | fa _=>exact (nN hx).elim
theorem B4 {v:PyData} (h:Tv (vaD v)):aZ v=true:=by
 generalize hx:vaD v=x at h
 cases h with
 | va h=>cases rQ hx; exact h
 | fa _=>exact (nN hx).elim
theorem nQ {w:Str} (h:Tv (faD w)):w∈fwL:=by
 generalize hx:faD w=x at h
 cases h with
 | va _=>exact (nN hx.symm).elim
 | fa h=>cases BG hx; exact h
theorem iP {k:Nat} {e:PyData} (h:EXp k e) {got:List PyData} (hk:got.length=k) (hg:∀ v∈got,v∈allV) {r:PyData} (ht:tld e got=some r):Tl r∧Tv r:=by
 obtain ⟨r',h1,h2⟩:=pQ h hk hg
 rw [gk h2] at ht
 cases ht
 exact h1
theorem xx {gd:Dc} (hgd:∀ n v,aL gd n=some v→v∈allV) {h k:Nat} {r:PyData} (hc:RC h k r):∀ {got:List PyData} {m:List SS} {en:SS},got.length=k→(∀ v∈got,v∈allV)→Run gd r got m en →
  (∀ p∈m,Nm p.1∧∃ v,aL gd p.1=some v∧p.2=stp 24 v)∧GE en:=by
 have nil:∀ {m:List SS},m=[]→∀ p∈m,Nm p.1∧∃ v,aL gd p.1=some v∧p.2=stp 24 v:=fun {m} z p hp=>by rw [z] at hp; cases hp
 induction hc with
 | @say h k e he=>
  intro got m en hk hg hr
  obtain ⟨hm,⟨v,ht,rfl⟩ | ⟨w,ht,rfl⟩⟩:=zO hr
  ·exact ⟨nil hm,.made (B4 (iP he hk hg ht).2)⟩
  ·exact ⟨nil hm,.fails (nT (nQ (iP he hk hg ht).2))⟩
 | @fail h k w hw=>
  intro got m en hk hg hr
  obtain ⟨hm,rfl⟩:=yd hr
  exact ⟨nil hm,.fails (zJ hw)⟩
 | @want h k e r he hr0 ih=>
  intro got m en hk hg hr
  rcases yb hr with ⟨w,ht,hm,rfl⟩ | ⟨v,ht,hn,hm,rfl⟩ | ⟨n,ht,hn,hkk,hm,rfl⟩ | ⟨n,v,m',ht,hn,hkk,hrr,rfl⟩
  ·exact ⟨nil hm,.fails (nT (nQ (iP he hk hg ht).2))⟩
  ·exact ⟨nil hm,.fails zI⟩
  ·exact ⟨nil hm,.wants (qO (iP he hk hg ht).1 hn)⟩
  ·obtain ⟨h1,h2⟩:=ih (got:=got++[v]) (by simp [hk]) (fun x hx=>by
    rcases List.mem_append.mp hx with z | z
    ·exact hg x z
    ·simp at z; rw [z]; exact hgd n v hkk) hrr
   refine ⟨fun p hp=>?_,h2⟩
   rcases List.mem_cons.mp hp with z | z
   ·subst z
    exact ⟨qO (iP he hk hg ht).1 hn,v,hkk,rfl⟩
   ·exact h1 p z
 | @when h k e p q he hp hq ihp ihq=>
  intro got m en hk hg hr
  rcases ya hr with ⟨w,ht,hm,rfl⟩ | ⟨v,b,ht,hb,hrr⟩
  ·exact ⟨nil hm,.fails (nT (nQ (iP he hk hg ht).2))⟩
  ·cases b with
   | true=>exact ihq hk hg hrr
   | false=>exact ihp hk hg hrr
def AllOk (D:Dc):Prop:=∀ p∈D,∃ v,aZ v=true∧p=(.str (stp 24 v),v)
theorem mP {s:Str} {v:PyData}:∀ {D:Dc},aL D s=some v→(PyData.str s,v)∈D
 | [],h=>by simp [aL] at h
 | (k,x)::r,h=>by
  cases k with
  | str k=>
   by_cases z:k=s
   ·subst z
    have:aL ((.str k,x)::r) k=some x:=if_pos rfl
    rw [this] at h
    cases h
    exact List.mem_cons_self
   ·have:aL ((.str k,x)::r) s=aL r s:=if_neg z
    rw [this] at h
    exact List.mem_cons_of_mem _ (mP h)
  | _=>exact List.mem_cons_of_mem _ (mP h)
theorem AllOk.dok {D:Dc} (h:AllOk D):DOk D:=⟨fun s v hk=>by
 obtain ⟨w,h1,h2⟩:=h _ (mP hk)
 injection h2 with h2 h3
 injection h2 with h2
 subst h3
 exact ⟨h1,h2⟩⟩
theorem qT (s:Str) (x:PyData):∀ (D:Dc) (t:Str),aL (bX D s x) t=if t=s then (aL D s).map (fun _=>x) else aL D t
 | [],t=>by simp [bX,aL]
 | (k,d)::r,t=>by
  have ih:=qT s x r t
  cases k with
  | str k=>
   by_cases z:k=s
   ·subst z
    have e1:bX ((.str k,d)::r) k x=(.str k,x)::bX r k x:=if_pos rfl
    rw [e1]
    by_cases y:t=k
    ·subst y
     simp [aL]
    ·have y':¬ k=t:=fun q=>y q.symm
     simp [aL,y,y',ih]
   ·have e1:bX ((.str k,d)::r) s x=(.str k,d)::bX r s x:=if_neg z
    rw [e1]
    by_cases y:t=s
    ·subst y
     simp [aL,z,ih]
    ·by_cases w:k=t
     ·simp [aL,w,y]
     ·simp [aL,w,y,ih]
  | _=>
   show aL (bX r s x) t=_
   rw [ih]
   rfl
theorem qU (s:Str) (x:PyData):∀ (D:Dc) (t:Str),aL (D++[(.str s,x)]) t=if (aL D t).isSome then aL D t else if t=s then some x else none
 | [],t=>by
  by_cases y:t=s
  ·subst y; simp [aL]
  ·have y':¬ s=t:=fun q=>y q.symm
   simp [aL,y,y']
 | (k,d)::r,t=>by
  have ih:=qU s x r t
  cases k with
  | str k=>
   by_cases z:k=t
   ·simp [aL,z]
   ·simp [aL,z,ih]
  | _=>exact ih
theorem jm (s:Str) (x:PyData) (D:Dc) (t:Str):aL (putN D s x) t=if t=s then some x else aL D t:=by
 unfold putN
 by_cases h:(aL D s).isSome=true
 ·rw [if_pos h,qT]
  by_cases y:t=s
  ·rw [if_pos y,if_pos y]
   obtain ⟨v,hv⟩:=Option.isSome_iff_exists.mp h
   rw [hv]
   rfl
  ·rw [if_neg y,if_neg y]
 ·rw [if_neg h,qU]
  by_cases y:t=s
  ·subst y
   rw [if_neg h,if_pos rfl,if_pos rfl]
  ·rw [if_neg y,if_neg y]
   cases hk:aL D t <;> simp
theorem AllOk.put {D:Dc} (h:AllOk D) {v:PyData} (hv:aZ v=true):AllOk (putN D (stp 24 v) v):=by
 unfold putN
 split
 ·have:∀ D:Dc,AllOk D→AllOk (bX D (stp 24 v) v):=by
   intro D
   induction D with
   | nil=>intro _ p hp; cases hp
   | cons q r ih=>
    intro hD p hp
    obtain ⟨w,h1,rfl⟩:=hD q List.mem_cons_self
    have ih':=ih fun p hp=>hD p (List.mem_cons_of_mem _ hp)
    have e:bX ((.str (stp 24 w),w)::r) (stp 24 v) v=if stp 24 w=stp 24 v then (.str (stp 24 w),v)::bX r (stp 24 v) v else (.str (stp 24 w),w)::bX r (stp 24 v) v:=rfl
    rw [e] at hp
    split at hp
    ·rename_i he
     rcases List.mem_cons.mp hp with z | z
     ·exact ⟨v,hv,by rw [z,he]⟩
     ·exact ih' p z
    ·rcases List.mem_cons.mp hp with z | z
     ·exact ⟨w,h1,z⟩
     ·exact ih' p z
  exact this D h
 ·intro p hp
  rcases List.mem_append.mp hp with z | z
  ·exact h p z
  ·simp at z
   exact ⟨v,hv,z⟩
def Has (D:Dc) (s:Str):Prop:=∃ v,aL D s=some v
theorem Has.put {D:Dc} {s t:Str} {x:PyData} (h:Has D t):Has (putN D s x) t:=by
 unfold Has
 rw [jm]
 by_cases y:t=s
 ·rw [if_pos y]; exact ⟨x,rfl⟩
 ·rw [if_neg y]; exact h
theorem rS:∀ {es ds:Dc},AllOk es→AllOk ds→∃ ds',jO ds es=some ds'∧AllOk ds'∧(∀ s,Has ds s→Has ds' s)∧(∀ s,Has es s→Has ds' s)
 | [],ds,_,h=>⟨ds,rfl,h,fun s q=>q,fun s q=>by obtain ⟨v,q⟩:=q; cases q⟩
 | p::es,ds,h1,h2=>by
  obtain ⟨v,hv,rfl⟩:=h1 p List.mem_cons_self
  obtain ⟨ds',e,a,b,c⟩:=rS (es:=es) (ds:=putN ds (stp 24 v) v) (fun p hp=>h1 p (List.mem_cons_of_mem _ hp)) (h2.put hv)
  refine ⟨ds',e,a,fun s q=>b s q.put,fun s q=>?_⟩
  by_cases z:stp 24 v=s
  ·exact b s ⟨v,by rw [jm,if_pos z.symm]⟩
  ·obtain ⟨w,q⟩:=q
   have:aL ((.str (stp 24 v),v)::es) s=aL es s:=if_neg z
   rw [this] at q
   exact c s ⟨w,q⟩
def AllIn (ds:Dc):Prop:=∀ p∈ds,p.2∈allV
theorem kK {n:Str} {v:PyData}:∀ {ds:Dc},AllIn ds→aL ds n=some v→v∈allV
 | [],_,h=>by simp [aL] at h
 | (k,x)::r,a,h=>by
  have a1:=a (k,x) List.mem_cons_self
  have a2:AllIn r:=fun p hp=>a p (List.mem_cons_of_mem _ hp)
  cases k with
  | str k=>
   unfold aL at h
   split at h
   ·cases h; exact a1
   ·exact kK a2 h
  | _=>exact kK a2 h
theorem sf {s:Str} {x:PyData} (hx:x∈allV):∀ {ds:Dc},AllIn ds→AllIn (bX ds s x)
 | [],_=>fun p hp=>by cases hp
 | (k,y)::r,a=>by
  have a1:=a (k,y) List.mem_cons_self
  have a2:AllIn (bX r s x):=sf hx fun p hp=>a p (List.mem_cons_of_mem _ hp)
  have key:∀ q:PyData×PyData,q.2∈allV→AllIn (q::bX r s x):=fun q hq p hp=>by
   rcases List.mem_cons.mp hp with z | z
   ·subst z; exact hq
   ·exact a2 p z
  cases k with
  | str k=>
   unfold bX
   split
   ·exact key _ hx
   ·exact key _ a1
  | _=>exact key _ a1
theorem y3 {s:Str} {x:PyData} {ds:Dc} (hx:x∈allV) (a:AllIn ds):AllIn (putN ds s x):=by
 unfold putN
 split
 ·exact sf hx a
 ·intro p hp
  rcases List.mem_append.mp hp with z | z
  ·exact a p z
  ·simp at z; subst z; exact hx
theorem qH (s:Str) (x:PyData):∀ ds:Dc,(bX ds s x).length=ds.length
 | []=>rfl
 | (k,y)::r=>by
  have ih:=qH s x r
  cases k with
  | str k=>
   unfold bX
   split <;> simp [ih]
  | _=>exact congrArg (· + 1) ih
theorem p5 (s:Str) (x:PyData) (ds:Dc):(putN ds s x).length≤ds.length + 1:=by
 unfold putN
 split
 ·rw [qH]; omega
 ·simp
@[simp] theorem E9 {i:Nat} {fk fv:FE} {ρ:Rho} {T:Tp}:gQ i fk fv ρ T=bnd (fv ρ T) fun w T1=>kX i fk ρ w T1 ρ[i]?:=rfl
@[simp] theorem Eu {i:Nat} {fk:FE} {ρ:Rho} {w:D.W} {T:Tp} {ds:Dc}:kX i fk ρ w T (some (some (.loc (.dict ds))))=bnd (fk ρ T) (kY i ρ ds w):=rfl
@[simp] theorem Ew {i:Nat} {ρ:Rho} {T:Tp} {ds:Dc} {x:PyData} {s:Str}:kY i ρ ds (.d x) (.d (.str s)) T=if ds.length≤1000 then some ((.nx,ρ.set i (some (.loc (.dict (putN ds s x))))),T) else none:=rfl
@[simp] theorem Fo {f:FE} {ρ:Rho} {T:Tp}:i6 f ρ T=k7 T (f (eh ρ) []):=rfl
@[simp] theorem Ei:eh []=[]:=rfl
@[simp] theorem Ef {r:Rho}:eh (none::r)=none::eh r:=rfl
@[simp] theorem Eh {x:PyData} {r:Rho}:eh (some (.d x)::r)=some (.d x)::eh r:=rfl
@[simp] theorem Eg {x:PyData} {r:Rho}:eh (some (.loc x)::r)=some (.d x)::eh r:=rfl
def Cov (g D:Dc):Prop:=∀ n v,aL g n=some v→Has D (stp 24 v)
def dgB:FS:=(fIf (au (ae gtD (ar aU (ab (aa 0) (ab (ae az (ae az (ae az (aa 1) (fC (.int 30))) (ae bo (fC (.int 20)) (aa 6))) (ae bo (fC (.int 2)) (aa 8))) (ab (fC (.int 4)) ag)))) (fC (.int 0)))) (ak (gQ 7 (ae ixD (aa 2) (aa 8)) (ar eC (ab (aa 0) (ab (ae az (ae az (ae az (aa 1) (fC (.int 31))) (ae bo (fC (.int 20)) (aa 6))) (ae bo (fC (.int 2)) (aa 8))) (ab (aa 2) ag))))) (gQ 4 (ar (bN 25) (ab (ae ixA (aa 7) (ae ixD (aa 2) (aa 8))) ag)) (ae ixA (aa 7) (ae ixD (aa 2) (aa 8))))) aC)
theorem nZ (ns:List Int) (k j:Int) (xs:List Str) (N:Nms xs) (r ln:W) (T:Tp) (hk:0≤k) (hk':k≤1000) (hj:0≤j) (hj':j≤100) (hl:ns.length≤63):∀ (ds:List PyData),(∀ d∈ds,∃ i:Int,d=.int i∧0≤i∧i < xs.length)→∀ (g D:Dc) (a:Option W),AllIn g→AllOk D→Cov g D→g.length + ds.length≤1000→D.length + ds.length≤1000 →
  ∃ g' D' a',forL 8 dgB ds [some (.d (aS ns)),some (.d (.int k)),some (.d (.list (xs.map .str))),some r,some (.loc (.dict D)),some ln,some (.d (.int j)),some (.loc (.dict g)),a] T=some ((.nx,[some (.d (aS ns)),some (.d (.int k)),some (.d (.list (xs.map .str))),some r,some (.loc (.dict D')),some ln,some (.d (.int j)),some (.loc (.dict g')),a']),T)∧AllIn g'∧AllOk D'∧Cov g' D'∧(∀ s,Has D s→Has D' s)∧D'.length≤D.length + ds.length
 | [],_,g,D,a,hg,hD,hc,_,_=>⟨g,D,a,rfl,hg,hD,hc,fun s q=>q,by simp⟩
 | d::ds,h,g,D,a,hg,hD,hc,hz,hz2=>by
  have n1:=N.most
  obtain ⟨i,rfl,h0,h1⟩:=h d List.mem_cons_self
  obtain ⟨r1,e1,a1,b1⟩:=bZ ns (k + 30 + 20 * j + 2 * i) 4 T
  obtain ⟨v,e2,hv⟩:=L_value ns (k + 31 + 20 * j + 2 * i) xs N T
  obtain ⟨y,f1,f2⟩:=ij (xs:=xs.map PyData.str) (i:=i) h0 (by simpa using h1)
  obtain ⟨x,hx,rfl⟩:=List.mem_map.mp f2
  have hm:(-18446744073709551616 < i∧i < 18446744073709551616):=by omega
  have hm2:(-18446744073709551616 < j∧j < 18446744073709551616):=by omega
  have zl:g.length≤1000:=by simp at hz; omega
  have zl2:D.length≤1000:=by simp at hz2; omega
  by_cases hr:0 < r1
  ·have kx:aL (putN g x v) x=some v:=by rw [jm,if_pos rfl]
   have st:∀ T,bN 25 [.d v] T=some (.str (stp 24 v),T):=fun T=>lA (mZ hv) T
   have l1:=p5 x v g
   have l2:=p5 (stp 24 v) v D
   obtain ⟨g',D',a',e,q1,q2,q3,q4,q5⟩:=nZ ns k j xs N r ln T hk hk' hj hj' hl ds (fun x hx=>h x (List.mem_cons_of_mem _ hx)) (putN g x v) (putN D (stp 24 v) v) (some (.d (.int i))) (y3 hv hg) (hD.put (mZ hv)) (fun n w hn=>by
    rw [jm] at hn
    by_cases z:n=x
    ·rw [if_pos z] at hn
     cases hn
     exact ⟨v,by rw [jm,if_pos rfl]⟩
    ·rw [if_neg z] at hn
     exact (hc n w hn).put) (by simp at hz; omega) (by simp at hz2; omega)
   refine ⟨g',D',a',?_,q1,q2,q3,fun s q=>q4 s q.put,by simp; omega⟩
   have eb:dgB [some (.d (aS ns)),some (.d (.int k)),some (.d (.list (xs.map .str))),some r,some (.loc (.dict D)),some ln,some (.d (.int j)),some (.loc (.dict g)),some (.d (.int i))] T=some ((.nx,[some (.d (aS ns)),some (.d (.int k)),some (.d (.list (xs.map .str))),some r,some (.loc (.dict (putN D (stp 24 v) v))),some ln,some (.d (.int j)),some (.loc (.dict (putN g x v))),some (.d (.int i))]),T):=by
    have vw:∀ (T:Tp) (ds:Dc) (y:PyData),op2 ixA T (.loc (.dict ds)) (.d y)=mkD T (ixA (.dict ds) y):=fun _ _ _=>rfl
    simp [dgB,e1,hr,e2,f1,zl,zl2,vw,kx,st]
   unfold forL
   simp [eb,e]
  ·obtain ⟨g',D',a',e,q1,q2,q3,q4,q5⟩:=nZ ns k j xs N r ln T hk hk' hj hj' hl ds (fun x hx=>h x (List.mem_cons_of_mem _ hx)) g D (some (.d (.int i))) hg hD hc (by simp at hz; omega) (by simp at hz2; omega)
   refine ⟨g',D',a',?_,q1,q2,q3,q4,by simp; omega⟩
   have eb:dgB [some (.d (aS ns)),some (.d (.int k)),some (.d (.list (xs.map .str))),some r,some (.loc (.dict D)),some ln,some (.d (.int j)),some (.loc (.dict g)),some (.d (.int i))] T=some ((.nx,[some (.d (aS ns)),some (.d (.int k)),some (.d (.list (xs.map .str))),some r,some (.loc (.dict D)),some ln,some (.d (.int j)),some (.loc (.dict g)),some (.d (.int i))]),T):=by
    simp [dgB,e1,hr]
   unfold forL
   simp [eb,e]
theorem B7 (n:Str) (m:List SS) (en:SS):bM (lnD n m en)=true:=by
 have h:∀ m:List SS,cX (rdD m)=true:=fun m=>by
  induction m with
  | nil=>simp [rdD,cX]
  | cons p m ih=>
   unfold rdD at ih ⊢
   rw [List.map_cons]
   simp [cX,bM,enD,ih]
 simp [lnD,bM,cX,enD,h]
theorem GL.up {D D':Dc} {l:Ln} (h:GL D l) (u:∀ s,Has D s→Has D' s):GL D' l:=⟨fun p hp=>⟨(h.rd p hp).1,u _ (h.rd p hp).2⟩,h.en,h.le,h.lo⟩
def dgA:FS:=(cj 5 (i6 (ae az (ao .tuple (ab (fC (.str "x")) ag)) (fSl (ar gH (ab (aa 3) (ab (aa 7) ag))) bL (fP (fC (.int 2)))))))
def dgO:FS:=(ak (gP 7) (ak (cI 8 (cG (fCB aF (ab (aa 2) ag))) (fIf (au (ae gtD (ar aU (ab (aa 0) (ab (ae az (ae az (ae az (aa 1) (fC (.int 30))) (ae bo (fC (.int 20)) (aa 6))) (ae bo (fC (.int 2)) (aa 8))) (ab (fC (.int 4)) ag)))) (fC (.int 0)))) (ak (gQ 7 (ae ixD (aa 2) (aa 8)) (ar eC (ab (aa 0) (ab (ae az (ae az (ae az (aa 1) (fC (.int 31))) (ae bo (fC (.int 20)) (aa 6))) (ae bo (fC (.int 2)) (aa 8))) (ab (aa 2) ag))))) (gQ 4 (ar (bN 25) (ab (ae ixA (aa 7) (ae ixD (aa 2) (aa 8))) ag)) (ae ixA (aa 7) (ae ixD (aa 2) (aa 8))))) aC)) (cj 5 (i6 (ae az (ao .tuple (ab (fC (.str "x")) ag)) (fSl (ar gH (ab (aa 3) (ab (aa 7) ag))) bL (fP (fC (.int 2)))))))))
theorem BQ:dgO=ak (gP 7) (ak (cI 8 (cG (fCB aF (ab (aa 2) ag))) dgB) dgA):=rfl
theorem DG:Lo "x":=cx (by decide +kernel)
theorem Ab (ns:List Int) (k j:Int) (xs:List Str) (N:Nms xs) {r:PyData} (hr:RC 3 0 r) (T:Tp) (hk:0≤k) (hk':k≤1000) (hj:0≤j) (hj':j≤100) (hl:ns.length≤63) (D:Dc) (ls:List Ln) (a b:Option W) (hD:AllOk D) (hz:D.length≤900) (hz2:ls.length≤100) :
  ∃ D' l a' b',dgO [some (.d (aS ns)),some (.d (.int k)),some (.d (.list (xs.map .str))),some (.d r),some (.loc (.dict D)),some (.loc (aD ls)),some (.d (.int j)),a,b] T=some ((.nx,[some (.d (aS ns)),some (.d (.int k)),some (.d (.list (xs.map .str))),some (.d r),some (.loc (.dict D')),some (.loc (aD (ls++[l]))),some (.d (.int j)),a',b']),T)∧AllOk D'∧GL D' l∧(∀ s,Has D s→Has D' s)∧D'.length≤D.length + 7:=by
 have n1:=N.most
 obtain ⟨g,D',b',e,q1,q2,q3,q4,q5⟩:=nZ ns k j xs N (.d r) (.loc (aD ls)) T hk hk' hj hj' hl (cb 0 xs.length) (fun d hd=>by
  obtain ⟨i,rfl,h1,h2⟩:=iL hd
  exact ⟨i,rfl,h1,by omega⟩) [] D b (fun p hp=>by cases hp) hD (fun n v hn=>by cases hn) (by rw [eE]; simp; omega) (by rw [eE]; omega)
 rw [eE] at q5
 obtain ⟨m,en,x,h1,h2,h3,h4,e2⟩:=Dg (fun n v hk=>kK q1 hk) hr (by decide) []
 obtain ⟨g1,g2⟩:=xx (fun n v hk=>kK q1 hk) hr rfl (fun v hv=>by cases hv) h1
 refine ⟨D',⟨Str.ofString "x",m,en⟩,some (.loc (.dict g)),b',?_,q2,⟨fun p hp=>?_,g2,h4,DG⟩,q4,by omega⟩
 ·have rg:cD (xs.length:Int)=true:=eT (by omega) (by omega)
  have zx:xs.length≤sizeLine:=by rw [sz]; omega
  have sE:∀ {i:Nat} {ρ:Rho} {T:Tp},gP i ρ T=some ((.nx,ρ.set i (some (.loc (.dict [])))),T):=rfl
  have ct:bv [PyData.tuple (rdD m),enD en,x] none (some 2)=[.tuple (rdD m),enD en]:=rfl
  have z1:(1:Nat) + 2≤sizeLine:=by decide
  have zl:(ls.map Ln.d).length < sizeLine:=by rw [sz,List.length_map]; omega
  have lnn:PyData.tuple [.str "x",.tuple (rdD m),enD en]=lnD "x" m en:=rfl
  have tb:=B7 "x" m en
  have lk:∀ T,k7 T (some (.d (lnD "x" m en),[]))=some (.d (lnD "x" m en),T):=fun T=>if_pos tb
  have ea:dgA [some (.d (aS ns)),some (.d (.int k)),some (.d (.list (xs.map .str))),some (.d r),some (.loc (.dict D')),some (.loc (aD ls)),some (.d (.int j)),some (.loc (.dict g)),b'] T=some ((.nx,[some (.d (aS ns)),some (.d (.int k)),some (.d (.list (xs.map .str))),some (.d r),some (.loc (.dict D')),some (.loc (aD (ls++[⟨Str.ofString "x",m,en⟩]))),some (.d (.int j)),some (.loc (.dict g)),b']),T):=by
   unfold fin at e2
   unfold aD
   have la:(ls++[(⟨Str.ofString "x",m,en⟩:Ln)]).map Ln.d=ls.map Ln.d++[lnD "x" m en]:=by rw [List.map_append]; rfl
   rw [la]
   generalize ls.map Ln.d=L at zl ⊢
   simp [dgA,e2,ct,z1,zl,lnn,lk]
  rw [BQ]
  generalize dgB=gB at e ⊢
  generalize dgA=gA at ea ⊢
  simp [sE,zx,rg,e,ea]
 ·obtain ⟨p1,v,p2,p3⟩:=g1 p hp
  exact ⟨p1,by rw [p3]; exact q3 _ v p2⟩
theorem rc (ns:List Int) (k:Int) (xs:List Str) (N:Nms xs) {r:PyData} (hr:RC 3 0 r) (T:Tp) (hk:0≤k) (hk':k≤1000) (hl:ns.length≤63):∀ (ds:List PyData),(∀ d∈ds,∃ i:Int,d=.int i∧0≤i∧i < 100)→∀ (D:Dc) (ls:List Ln) (c a b:Option W),AllOk D→(∀ l∈ls,GL D l)→D.length + 7 * ds.length≤900→ls.length + ds.length≤100 →
  ∃ D' ls' c' a' b',forL 6 dgO ds [some (.d (aS ns)),some (.d (.int k)),some (.d (.list (xs.map .str))),some (.d r),some (.loc (.dict D)),some (.loc (aD ls)),c,a,b] T=some ((.nx,[some (.d (aS ns)),some (.d (.int k)),some (.d (.list (xs.map .str))),some (.d r),some (.loc (.dict D')),some (.loc (aD ls')),c',a',b']),T)∧AllOk D'∧(∀ l∈ls',GL D' l)∧ls'.length=ls.length + ds.length∧D'.length≤D.length + 7 * ds.length
 | [],_,D,ls,c,a,b,hD,hg,_,_=>⟨D,ls,c,a,b,rfl,hD,hg,rfl,by simp⟩
 | d::ds,h,D,ls,c,a,b,hD,hg,hz,hz2=>by
  obtain ⟨i,rfl,h0,h1⟩:=h d List.mem_cons_self
  have hz':D.length + 7 * (ds.length + 1)≤900:=hz
  have hz2':ls.length + (ds.length + 1)≤100:=hz2
  obtain ⟨D1,l,a1,b1,e1,q1,q2,q3,q4⟩:=Ab ns k i xs N hr T hk hk' h0 (by omega) hl D ls a b hD (by omega) (by omega)
  obtain ⟨D',ls',c',a',b',e,p1,p2,p3,p4⟩:=rc ns k xs N hr T hk hk' hl ds (fun x hx=>h x (List.mem_cons_of_mem _ hx)) D1 (ls++[l]) (some (.d (.int i))) a1 b1 q1 (fun y hy=>by
   rcases List.mem_append.mp hy with z | z
   ·exact (hg y z).up q3
   ·simp at z; rw [z]; exact q2) (by omega) (by simp; omega)
  refine ⟨D',ls',c',a',b',?_,p1,p2,by rw [p3]; simp; omega,by simp; omega⟩
  generalize dgO=g at e1 e ⊢
  unfold forL
  simp [e1,e]
theorem yH (ns:List Int) (hl:ns.length≤63) (T:Tp):∃ D ls,eP [.d (aS ns),.d (.int 200)] T=some (.tuple [aD ls,.dict D],T)∧AllOk D∧(∀ l∈ls,GL D l)∧ls.length≤4∧D.length≤100:=by
 obtain ⟨xs,en,N⟩:=Ao ns 200 T (by omega) (by omega) hl
 obtain ⟨r,er,hr⟩:=yE ns 210 xs N T
 obtain ⟨m,em,am,bm⟩:=bZ ns 205 4 T
 have rg:cD (1 + m)=true:=eT (by omega) (by omega)
 obtain ⟨D,ls,c',a',b',e,p1,p2,p3,p4⟩:=rc ns 200 xs N hr T (by omega) (by omega) hl (cb 0 (1 + m).toNat) (fun d hd=>by
  obtain ⟨i,rfl,h1,h2⟩:=iL hd
  exact ⟨i,rfl,h1,by omega⟩) [] [] none none none (fun p hp=>by cases hp) (fun l hl=>by cases hl) (by rw [eE]; simp; omega) (by rw [eE]; simp; omega)
 rw [eE] at p3 p4
 refine ⟨D,ls,?_,p1,p2,by rw [p3]; simp; omega,by simp at p4; omega⟩
 have dm:eP=jK 9 (ak (aE 2 (ar gY (ab (aa 0) (ab (aa 1) ag)))) (ak (aE 3 (ar gX (ab (aa 0) (ab (ae az (aa 1) (fC (.int 10))) (ab (aa 2) (ab (fC (.int 8)) ag)))))) (ak (gP 4) (ak (cF 5 ag) (ak (cI 6 (cG (ae az (fC (.int 1)) (ar aU (ab (aa 0) (ab (ae az (aa 1) (fC (.int 5))) (ab (fC (.int 4)) ag)))))) dgO) (jA 5 4)))))):=rfl
 have sE:∀ {i:Nat} {ρ:Rho} {T:Tp},gP i ρ T=some ((.nx,ρ.set i (some (.loc (.dict [])))),T):=rfl
 have eO:∀ (a b c d e f g:Option W) (x y:PyData) (T:Tp),jA 5 4 [a,b,c,d,some (.loc x),some (.loc y),e,f,g] T=some ((.ro (.tuple [y,x]),[a,b,c,d,some (.loc x),some (.loc y),e,f,g]),T):=fun _ _ _ _ _ _ _ _ _ _=>rfl
 have l0:aD []=.list []:=rfl
 rw [l0] at e
 rw [dm]
 generalize dgO=g at e ⊢
 unfold jK
 simp [en,er,em,sE,rg,e,eO,sJ]
def st5:List Str:=["1","'a","()","'","(1)"]
def DL0:List (Str×PyData):=[(Str.ofString "1",.int 1),(Str.ofString "'a",.str "a"),(Str.ofString "()",.tuple []),(Str.ofString "'",.str ""),(Str.ofString "(1)",.tuple [.int 1])]
def DD0:Dc:=dj DL0
theorem ok0:AllOk DD0:=by
 intro p hp
 simp only [DD0,dj,DL0,List.map_cons,List.map_nil,List.mem_cons,List.not_mem_nil,or_false] at hp
 rcases hp with rfl | rfl | rfl | rfl | rfl
 ·exact ⟨.int 1,by decide +kernel,by rw [show stp 24 (.int 1)=Str.ofString "1" by decide +kernel]⟩
 ·exact ⟨.str "a",by decide +kernel,by rw [show stp 24 (.str "a")=Str.ofString "'a" by decide +kernel]⟩
 ·exact ⟨.tuple [],by decide +kernel,by rw [show stp 24 (.tuple [])=Str.ofString "()" by decide +kernel]⟩
 ·exact ⟨.str "",by decide +kernel,by rw [show stp 24 (.str "")=Str.ofString "'" by decide +kernel]⟩
 ·exact ⟨.tuple [.int 1],by decide +kernel,by rw [show stp 24 (.tuple [.int 1])=Str.ofString "(1)" by decide +kernel]⟩
theorem uk {s:Str} (h:s∈st5):Has DD0 s:=by
 have a1:Str.ofString "1"≠Str.ofString "'a":=by decide
 have a2:Str.ofString "1"≠Str.ofString "()":=by decide
 have a3:Str.ofString "1"≠Str.ofString "'":=by decide
 have a4:Str.ofString "1"≠Str.ofString "(1)":=by decide
 have b2:Str.ofString "'a"≠Str.ofString "()":=by decide
 have b3:Str.ofString "'a"≠Str.ofString "'":=by decide
 have b4:Str.ofString "'a"≠Str.ofString "(1)":=by decide
 have c3:Str.ofString "()"≠Str.ofString "'":=by decide
 have c4:Str.ofString "()"≠Str.ofString "(1)":=by decide
 have d4:Str.ofString "'"≠Str.ofString "(1)":=by decide
 simp only [st5,List.mem_cons,List.not_mem_nil,or_false] at h
 unfold Has DD0 dj DL0
 rcases h with rfl | rfl | rfl | rfl | rfl
 ·exact ⟨.int 1,by simp [aL]⟩
 ·exact ⟨.str "a",by simp [aL,a1]⟩
 ·exact ⟨.tuple [],by simp [aL,a2,b2]⟩
 ·exact ⟨.str "",by simp [aL,a3,b3,c3]⟩
 ·exact ⟨.tuple [.int 1],by simp [aL,a4,b4,c4,d4]⟩
def Any (l:Ln):Prop:=∀ D,(∀ s∈st5,Has D s)→GL D l
theorem lI {w:Str} (h:w∈nmL):Nm w:=by
 simp only [nmL,List.mem_cons,List.not_mem_nil,or_false] at h
 rcases h with rfl | rfl | rfl <;> exact iq (by decide) (cx (by decide +kernel)) (by decide +kernel)
theorem DR {e:SS} (h:e∈iw):GE e:=by
 have na:=lI (w:=Str.ofString "a") (by simp [nmL])
 have nb:=lI (w:=Str.ofString "b") (by simp [nmL])
 have nab:=lI (w:=Str.ofString "ab") (by simp [nmL])
 simp only [iw,List.mem_cons,List.not_mem_nil,or_false] at h
 rcases h with rfl | rfl | rfl | rfl | rfl | rfl | rfl
 ·rw [show Str.ofString "1" = stp 24 (.int 1) by decide +kernel]
  exact .made (by decide +kernel)
 ·rw [show Str.ofString "'" = stp 24 (.str "") by decide +kernel]
  exact .made (by decide +kernel)
 ·exact .fails na
 ·exact .fails nab
 ·exact .wants na
 ·exact .wants nb
 ·exact .wants nab
theorem Dw {s:Str} (h:s∈stL):s∈st5:=by
 simp only [stL,List.mem_cons,List.not_mem_nil,or_false] at h
 rcases h with rfl | rfl | rfl <;> simp [st5]
theorem sU {n:Str} {r:List SS} {e:SS} (hn:Lo n) (hr:∀ p∈r,p.1∈nmL∧p.2∈st5) (he:e∈iw) (h3:r.length≤3):Any ⟨n,r,e⟩:=fun D hD=>
 ⟨fun p hp=>⟨lI (hr p hp).1,hD _ (hr p hp).2⟩,DR he,h3,hn⟩
theorem m4 (ns:List Int) (k:Int) (T:Tp) (hk:0≤k:=by omega) (hk':k≤80000:=by omega) (hl:ns.length≤63:=by omega):∃ l:Ln,cS [.d (aS ns),.d (.int k)] T=some (l.d,T)∧Any l∧Lo l.n∧l.e∈iw:=by
 obtain ⟨n,r,e,h1,h2,h3⟩:=B0 ns k T
 exact ⟨⟨n,r,e⟩,h1,sU h2.nm (fun p hp=>⟨(h2.rd p hp).1,Dw (h2.rd p hp).2⟩) h2.en h3,h2.nm,h2.en⟩
theorem sA {P:Ln→Prop}:∀ {ys:List PyData},(∀ y∈ys,∃ l:Ln,y=l.d∧P l)→∃ ls:List Ln,ys=ls.map Ln.d∧∀ l∈ls,P l
 | [],_=>⟨[],rfl,fun l hl=>by cases hl⟩
 | y::ys,h=>by
  obtain ⟨l,rfl,p⟩:=h y List.mem_cons_self
  obtain ⟨ls,rfl,q⟩:=sA (ys:=ys) fun y hy=>h y (List.mem_cons_of_mem _ hy)
  exact ⟨l::ls,rfl,fun x hx=>by
   rcases List.mem_cons.mp hx with z | z
   ·rw [z]; exact p
   ·exact q x z⟩
theorem in5 {r:Int} (h0:0≤r) (h1:r < 5):r=0∨r=1∨r=2∨r=3∨r=4:=by omega
def jb:List PyData:=[.str "1",.str "'a",.str "()",.str "'",.str "(1)"]
theorem at5 {r:Int} (h0:0≤r) (h1:r < 5):∃ s,atI jb r=some (.str s)∧s∈st5:=by rcases in5 h0 h1 with rfl | rfl | rfl | rfl | rfl <;> exact ⟨_,rfl,by simp [st5]⟩
def wdB:FS:=(ak (aE 5 (ar cS (ab (aa 0) (ab (ae az (aa 1) (ae bo (fC (.int 20)) (aa 4))) ag)))) (ak (cF 6 (ab (ao .tuple (ab (fC (.str "a")) (ab (ae ixD (aa 2) (ae dq (ae az (ar aU (ab (aa 0) (ab (ae az (aa 1) (fC (.int 15))) (ab (fC (.int 5)) ag)))) (aa 4)) (fC (.int 5)))) ag))) ag)) (ak (cj 6 (ao .tuple (ab (fC (.str "b")) (ab (ae ixD (aa 2) (ar aU (ab (aa 0) (ab (ae az (ae az (aa 1) (fC (.int 16))) (ae bo (fC (.int 20)) (aa 4))) (ab (fC (.int 5)) ag))))) ag)))) (ak (cj 6 (ao .tuple (ab (fC (.str "ab")) (ab (ae ixD (aa 2) (ar aU (ab (aa 0) (ab (ae az (ae az (aa 1) (fC (.int 17))) (ae bo (fC (.int 20)) (aa 4))) (ab (fC (.int 5)) ag))))) ag)))) (cj 3 (ao .tuple (ab (ae ixD (aa 5) (fC (.int 0))) (ab (fCB ck (ab (fSl (aa 6) bL (fP (ae az (fC (.int 1)) (ar aU (ab (aa 0) (ab (ae az (ae az (aa 1) (fC (.int 18))) (ae bo (fC (.int 20)) (aa 4))) (ab (fC (.int 3)) ag))))))) ag)) (ab (ae ixD (aa 5) (fC (.int 2))) ag)))))))))
theorem yI (ns:List Int) (k j:Int) (T:Tp) (hk:0≤k) (hk':k≤1000) (hj:0≤j) (hj':j < 5) (hl:ns.length≤63) (ls:List Ln) (hz:ls.length≤100) (a b:Option W) :
  ∃ l a' b',wdB [some (.d (aS ns)),some (.d (.int k)),some (.d (.list jb)),some (.loc (aD ls)),some (.d (.int j)),a,b] T=some ((.nx,[some (.d (aS ns)),some (.d (.int k)),some (.d (.list jb)),some (.loc (aD (ls++[l]))),some (.d (.int j)),a',b']),T)∧Any l:=by
 obtain ⟨l0,e0,_,ln0,le0⟩:=m4 ns (k + 20 * j) T
 obtain ⟨r1,e1,a1,b1⟩:=bZ ns (k + 15) 5 T
 obtain ⟨r2,e2,a2,b2⟩:=bZ ns (k + 16 + 20 * j) 5 T
 obtain ⟨r3,e3,a3,b3⟩:=bZ ns (k + 17 + 20 * j) 5 T
 obtain ⟨r4,e4,a4,b4⟩:=bZ ns (k + 18 + 20 * j) 3 T
 obtain ⟨s1,f1,g1⟩:=at5 (r:=(r1 + j) % 5) (by omega) (by omega)
 obtain ⟨s2,f2,g2⟩:=at5 a2 b2
 obtain ⟨s3,f3,g3⟩:=at5 a3 b3
 let rs:List SS:=[(Str.ofString "a",s1),(Str.ofString "b",s2),(Str.ofString "ab",s3)]
 have hm:(-18446744073709551616 < j∧j < 18446744073709551616):=by omega
 have cr:bv (rdD rs) none (some (1 + r4))=rdD (bv rs none (some (1 + r4))):=BU rs _ _
 have cl:(bv rs none (some (1 + r4))).length≤3:=mW rs _ _
 refine ⟨⟨l0.n,bv rs none (some (1 + r4)),l0.e⟩,some (.d l0.d),some (.loc (.list (rdD rs))),?_,sU ln0 (fun p hp=>?_) le0 cl⟩
 ·have z1:(1:Nat) < sizeLine:=by decide
  have z2:(2:Nat) < sizeLine:=by decide
  have zl:(ls.map Ln.d).length < sizeLine:=by rw [sz,List.length_map]; omega
  have la:(ls++[(⟨l0.n,bv rs none (some (1 + r4)),l0.e⟩:Ln)]).map Ln.d=ls.map Ln.d++[.tuple [.str l0.n,.tuple (rdD (bv rs none (some (1 + r4)))),enD l0.e]]:=by rw [List.map_append]; rfl
  have d0:ixD l0.d (.int 0)=some (.str l0.n):=rfl
  have d2:ixD l0.d (.int 2)=some (enD l0.e):=rfl
  have rr:rdD rs=[.tuple [.str "a",.str s1],.tuple [.str "b",.str s2],.tuple [.str "ab",.str s3]]:=rfl
  unfold aD
  rw [la]
  generalize ls.map Ln.d=L at zl ⊢
  generalize rdD (bv rs none (some (1 + r4)))=C at cr ⊢
  rw [rr] at cr ⊢
  generalize l0.d=x0 at e0 d0 d2 ⊢
  have zc:C.length≤sizeLine:=by rw [sz]; have:=congrArg List.length cr; have h3:=mW [PyData.tuple [.str "a",.str s1],.tuple [.str "b",.str s2],.tuple [.str "ab",.str s3]] none (some (1 + r4)); simp at h3; omega
  have o1:∀ (xs:List PyData) (hi:Int),op1 (fun x=>hU x none (some hi)) T (.loc (.list xs))=mkD T (some (.list (bv xs none (some hi)))):=fun _ _=>rfl
  simp [wdB,o1,e0,e1,e2,e3,e4,f1,f2,f3,z1,z2,zl,cr,d0,d2,hm]
 ·have hp':=rq hp
  simp only [rs,List.mem_cons,List.not_mem_nil,or_false] at hp'
  rcases hp' with rfl | rfl | rfl
  ·exact ⟨by simp [nmL],g1⟩
  ·exact ⟨by simp [nmL],g2⟩
  ·exact ⟨by simp [nmL],g3⟩
theorem qr (ns:List Int) (k:Int) (T:Tp) (hk:0≤k) (hk':k≤1000) (hl:ns.length≤63):∀ (ds:List PyData),(∀ d∈ds,∃ i:Int,d=.int i∧0≤i∧i < 5)→∀ (ls:List Ln) (c a b:Option W),(∀ l∈ls,Any l)→ls.length + ds.length≤100 →
  ∃ ls' c' a' b',forL 4 wdB ds [some (.d (aS ns)),some (.d (.int k)),some (.d (.list jb)),some (.loc (aD ls)),c,a,b] T=some ((.nx,[some (.d (aS ns)),some (.d (.int k)),some (.d (.list jb)),some (.loc (aD ls')),c',a',b']),T)∧(∀ l∈ls',Any l)∧ls'.length=ls.length + ds.length
 | [],_,ls,c,a,b,hg,_=>⟨ls,c,a,b,rfl,hg,rfl⟩
 | d::ds,h,ls,c,a,b,hg,hz=>by
  obtain ⟨i,rfl,h0,h1⟩:=h d List.mem_cons_self
  have hz':ls.length + (ds.length + 1)≤100:=hz
  obtain ⟨l,a1,b1,e1,q1⟩:=yI ns k i T hk hk' h0 h1 hl ls (by omega) a b
  obtain ⟨ls',c',a',b',e,p1,p2⟩:=qr ns k T hk hk' hl ds (fun x hx=>h x (List.mem_cons_of_mem _ hx)) (ls++[l]) (some (.d (.int i))) a1 b1 (fun y hy=>by
   rcases List.mem_append.mp hy with z | z
   ·exact hg y z
   ·simp at z; rw [z]; exact q1) (by simp; omega)
  refine ⟨ls',c',a',b',?_,p1,by rw [p2]; simp; omega⟩
  generalize wdB=g at e1 e ⊢
  unfold forL
  simp [e1,e]
theorem BY (ns:List Int) (hl:ns.length≤63) (T:Tp):∃ ls,g8 [.d (aS ns),.d (.int 400)] T=some (aD ls,T)∧(∀ l∈ls,Any l)∧ls.length=5:=by
 obtain ⟨ls,c',a',b',e,p1,p2⟩:=qr ns 400 T (by omega) (by omega) hl (cb 0 5) (fun d hd=>by
  obtain ⟨i,rfl,h1,h2⟩:=iL hd
  exact ⟨i,rfl,h1,by omega⟩) [] none none none (fun l hl=>by cases hl) (by rw [eE]; simp)
 rw [eE] at p2
 refine ⟨ls,?_,p1,by simpa using p2⟩
 have wm:g8=aX 7 (ak (aE 2 (ao .list (ab (fC (.str "1")) (ab (fC (.str "'a")) (ab (fC (.str "()")) (ab (fC (.str "'")) (ab (fC (.str "(1)")) ag))))))) (ak (cF 3 ag) (ak (cI 4 (cG (fC (.int 5))) wdB) (av (aa 3))))):=rfl
 have rg:cD 5=true:=eT (by omega) (by omega)
 have l0:aD []=.list []:=rfl
 rw [l0] at e
 rw [wm]
 generalize wdB=g at e ⊢
 unfold jb at e
 unfold aD at e ⊢
 simp [rg,e,cT]
def lp1:FS:=(aE 1 (bf (cG (ar aU (ab (aa 0) (ab (fC (.int 0)) (ab (fC (.int 6)) ag))))) a6 (ar cS (ab (aa 1) (ab (ae az (fC (.int 10)) (ae bo (fC (.int 12)) (aa 0))) ag)))))
def lpE:FE:=(ar cS (ab (aa 1) (ab (ae az (fC (.int 10)) (ae bo (fC (.int 12)) (aa 0))) ag)))
def lp2:FS:=(nz 2 (bt "1" (fC (.int 1)) (bt "'a" (fC (.str "a")) (bt "()" (ao .tuple ag) (bt "'" (fC (.str "")) (bt "(1)" (ao .tuple (ab (fC (.int 1)) ag)) gx))))))
def lp3:FS:=(fIf (au (ae eqD (ar aU (ab (aa 0) (ab (fC (.int 4)) (ab (fC (.int 4)) ag)))) (fC (.int 0)))) (aE 1 (ar g8 (ab (aa 0) (ab (fC (.int 400)) ag)))) aC)
def lp4:FS:=(fIf (au (ae eqD (ar aU (ab (aa 0) (ab (fC (.int 1)) (ab (fC (.int 2)) ag)))) (fC (.int 0)))) (ak (gO 1 3 eP (ab (aa 0) (ab (fC (.int 200)) ag))) (gE 3 (ak (iB 2 (aa 3)) (fIf (au (ae eqD (ar aU (ab (aa 0) (ab (fC (.int 2)) (ab (fC (.int 3)) ag)))) (fC (.int 0)))) (iC 1 (ar aU (ab (aa 0) (ab (fC (.int 3)) (ab (ae az (fCB aF (ab (aa 1) ag)) (fC (.int 1))) ag)))) (ar cS (ab (aa 0) (ab (fC (.int 100)) ag)))) aC)))) aC)
def lpT:FS:=(gE 2 (gE 1 (ak (aE 4 (fCB gM (ab (aa 1) ag))) (ak (aE 5 (ar dI (ab (aa 1) ag))) (ak (fIf (bE (au (ae neG (aa 1) (aa 4))) (bF (aR (ar dH (ab (aa 4) (ab (aa 2) (ab (aa 5) ag))))))) (av (fC (.bool false))) aC) (av (ar dH (ab (fSl (aa 4) bL (fP (fC (.int 2)))) (ab (aa 2) (ab (ar dI (ab (fSl (aa 4) bL (fP (fC (.int 2)))) ag)) ag))))))))))
theorem Bp:kZ=aX 6 (ak lp1 (ak lp2 (ak lp3 (ak lp4 lpT)))):=rfl
theorem nJ {n:Nat}:∀ {ds:List PyData},(∀ d∈ds,d.canLay0=true∧d.depth≤n)→PyData.canLayAll0 ds=true∧PyData.depthAll ds≤n
 | [],_=>⟨rfl,by simp [PyData.depthAll]⟩
 | a::r,h=>by
  have h1:=h a List.mem_cons_self
  have h2:=nJ (ds:=r) fun d hd=>h d (List.mem_cons_of_mem _ hd)
  exact ⟨by simp [PyData.canLayAll0,h1.1,h2.1],by simp [PyData.depthAll]; omega⟩
theorem tR {e:SS} (h:OkE e):(enD e).canLay0=true∧(enD e).depth≤1:=by simp [enD,PyData.canLay0,PyData.canLayAll0,PyData.depth,PyData.depthAll,hV h.1,hV h.2]
theorem C8 {D:Dc} (hD:DOk D) {l:Ln} (h:GL D l):l.d.canLay0=true∧l.d.depth≤3:=by
 have h1:=nJ (n:=1) (ds:=rdD l.r) fun d hd=>by
  obtain ⟨p,hp,rfl⟩:=List.mem_map.mp hd
  exact tR (h.okR hD p hp)
 have h2:=tR h.en.ok
 constructor
 ·simp [Ln.d,lnD,PyData.canLay0,PyData.canLayAll0,hV h.lo,h1.1,h2.1]
 ·simp [Ln.d,lnD,PyData.depth,PyData.depthAll]
  omega
theorem ne_self {D:Dc} (hD:DOk D) {ls:List Ln} (hg:∀ l∈ls,GL D l):neG (aD ls) (aD ls)=some (.bool false):=by
 have h1:=nJ (n:=3) (ds:=ls.map Ln.d) fun d hd=>by
  obtain ⟨l,hl,rfl⟩:=List.mem_map.mp hd
  exact C8 hD (hg l hl)
 have c:(aD ls).canLay0=true:=by simp [aD,PyData.canLay0,h1.1]
 have sh:SeqAt.shaped (aD ls)=true:=by
  unfold SeqAt.shaped
  rw [c]
  simp [aD,PyData.depth]
  omega
 unfold neG
 rw [if_pos ⟨sh,sh⟩,SeqAt.eqv_refl _ c]
 rfl
theorem yP {D:Dc} (hD:AllOk D) {ls:List Ln} (hg:∀ l∈ls,GL D l) (h5:ls.length≤5) (s m:Option W) (w:W) (hw:w=.d (aD ls)∨w=.loc (aD ls)) (T:Tp):∃ ρ',lpT [s,some w,some (.loc (.dict D)),m,none,none] T=some ((.rt (.bool true),ρ'),T):=by
 obtain ⟨x,e1,e2⟩:=tf hD.dok hg h5 T
 have hg2:∀ l∈bv ls none (some 2),GL D l:=fun l hl=>hg l (rq hl)
 obtain ⟨x2,e3,e4⟩:=tf hD.dok hg2 (Nat.le_trans (mW _ _ _) h5) T
 have ne:=ne_self hD.dok hg
 have ct:hU (aD ls) none (some 2)=some (aD (bv ls none (some 2))):=by
  unfold aD
  rw [← rC]
  rfl
 refine ⟨[s,some (.d (aD ls)),some (.d (.dict D)),m,some (.d (aD ls)),some (.d x)],?_⟩
 have fz:lpT [s,some w,some (.loc (.dict D)),m,none,none] T=lpT [s,some (.d (aD ls)),some (.d (.dict D)),m,none,none] T:=by
  rcases hw with rfl | rfl <;> rfl
 have ld:gM [aD ls]=some (aD ls):=rfl
 have lpT_is:lpT [s,some (.d (aD ls)),some (.d (.dict D)),m,none,none] T=(ak (aE 4 (fCB gM (ab (aa 1) ag))) (ak (aE 5 (ar dI (ab (aa 1) ag))) (ak (fIf (bE (au (ae neG (aa 1) (aa 4))) (bF (aR (ar dH (ab (aa 4) (ab (aa 2) (ab (aa 5) ag))))))) (av (fC (.bool false))) aC) (av (ar dH (ab (fSl (aa 4) bL (fP (fC (.int 2)))) (ab (aa 2) (ab (ar dI (ab (fSl (aa 4) bL (fP (fC (.int 2)))) ag)) ag)))))))) [s,some (.d (aD ls)),some (.d (.dict D)),m,none,none] T:=rfl
 rw [fz,lpT_is]
 generalize aD (bv ls none (some 2))=y2 at e3 e4 ct
 generalize aD ls=y at e1 e2 ne ct ld ⊢
 simp [ld,e1,ne,e2,ct,e3,e4,cT]
theorem zP (ls:List Ln) (l:Ln) (k:Nat):PyData.list ((ls.map Ln.d).take k++l.d::(ls.map Ln.d).drop k)=aD (ls.take k++l::ls.drop k):=by
 unfold aD
 rw [List.map_append,List.map_cons,List.map_take,List.map_drop]
theorem Ck (ns:List Int) (hl:ns.length≤63) (T:Tp):∃ ls,lp1 [some (.d (aS ns)),none,none,none,none,none] T=some ((.nx,[some (.d (aS ns)),some (.d (aD ls)),none,none,none,none]),T)∧(∀ l∈ls,Any l)∧ls.length≤5:=by
 obtain ⟨m,em,am,bm⟩:=bZ ns 0 6 T
 have rg:cD m=true:=eT (by omega) (by omega)
 obtain ⟨ys,ey,ly,hy⟩:=mE (e:=lpE) (ρ:=[some (.d (aS ns)),none,none,none,none,none]) (T:=T) (Q:=fun y=>∃ l:Ln,y=l.d∧Any l) (ds:=cb 0 m.toNat) fun d hd=>by
  obtain ⟨i,rfl,h1,h2⟩:=iL hd
  obtain ⟨l,e,hA,_,_⟩:=m4 ns (10 + 12 * i) T
  have hm:(-18446744073709551616 < i∧i < 18446744073709551616):=by omega
  exact ⟨l.d,by simp [lpE,e],l,rfl,hA⟩
 obtain ⟨ls,rfl,hA⟩:=sA hy
 rw [eE,List.length_map] at ly
 refine ⟨ls,?_,hA,by omega⟩
 have h1:lp1=aE 1 (bf (cG (ar aU (ab (aa 0) (ab (fC (.int 0)) (ab (fC (.int 6)) ag))))) a6 lpE):=rfl
 rw [h1]
 generalize lpE=g at ey ⊢
 unfold aD
 simp [em,rg,ey]
theorem Cj (a b:Option W) (T:Tp):lp2 [a,b,none,none,none,none] T=some ((.nx,[a,b,some (.loc (.dict DD0)),none,none,none]),T):=by
 have h:okP DL0=true:=by decide +kernel
 show kB 2 [a,b,none,none,none,none] DL0 T=_
 unfold kB
 rw [if_pos h]
 rfl
theorem Ci (ns:List Int) (hl:ns.length≤63) (v:Option W) (ls:List Ln) (hA:∀ l∈ls,Any l) (h5:ls.length≤5) (T:Tp):∃ ls',lp3 [some (.d (aS ns)),some (.d (aD ls)),v,none,none,none] T=some ((.nx,[some (.d (aS ns)),some (.d (aD ls')),v,none,none,none]),T)∧(∀ l∈ls',Any l)∧ls'.length≤5:=by
 obtain ⟨m,em,am,bm⟩:=bZ ns 4 4 T
 obtain ⟨lw,ew,hw,l5⟩:=BY ns hl T
 by_cases h:m=0
 ·subst h
  exact ⟨lw,by simp [lp3,em,ew],hw,by omega⟩
 ·exact ⟨ls,by simp [lp3,em,h],hA,h5⟩
theorem Cg (ns:List Int) (hl:ns.length≤63) (ls:List Ln) (hA:∀ l∈ls,Any l) (h5:ls.length≤5) (T:Tp):∃ ls' D w mo,(w=.d (aD ls')∨w=.loc (aD ls'))∧lp4 [some (.d (aS ns)),some (.d (aD ls)),some (.loc (.dict DD0)),none,none,none] T=some ((.nx,[some (.d (aS ns)),some w,some (.loc (.dict D)),mo,none,none]),T)∧AllOk D∧(∀ l∈ls',GL D l)∧ls'.length≤5:=by
 obtain ⟨m,em,am,bm⟩:=bZ ns 1 2 T
 by_cases h:m=0
 ·subst h
  obtain ⟨D1,l1,ed,ok1,g1,n1,n2⟩:=yH ns hl T
  obtain ⟨D,eu,okD,u0,u1⟩:=rS ok1 ok0
  have hgl:∀ l∈l1,GL D l:=fun l hl=>(g1 l hl).up u1
  have zd:DD0.length + D1.length≤1000:=by have:DD0.length=5:=rfl; omega
  obtain ⟨m2,e2,a2,b2⟩:=bZ ns 2 3 T
  have unp:gO 1 3 eP (ab (aa 0) (ab (fC (.int 200)) ag)) [some (.d (aS ns)),some (.d (aD ls)),some (.loc (.dict DD0)),none,none,none] T=some ((.nx,[some (.d (aS ns)),some (.loc (aD l1)),some (.loc (.dict DD0)),some (.loc (.dict D1)),none,none]),T):=by
   unfold gO
   simp [ed,nP]
  have up:iB 2 (aa 3) [some (.d (aS ns)),some (.loc (aD l1)),some (.loc (.dict DD0)),some (.d (.dict D1)),none,none] T=some ((.nx,[some (.d (aS ns)),some (.loc (aD l1)),some (.loc (.dict D)),some (.d (.dict D1)),none,none]),T):=by
   show (if DD0.length + D1.length≤1000 then og 2 _ T (jO DD0 D1) else none)=_
   rw [if_pos zd,eu]
   rfl
  have base:∀ g,ak (gO 1 3 eP (ab (aa 0) (ab (fC (.int 200)) ag))) (gE 3 (ak (iB 2 (aa 3)) g)) [some (.d (aS ns)),some (.d (aD ls)),some (.loc (.dict DD0)),none,none,none] T=g [some (.d (aS ns)),some (.loc (aD l1)),some (.loc (.dict D)),some (.d (.dict D1)),none,none] T:=fun g=>by
   show bnd (gO 1 3 eP (ab (aa 0) (ab (fC (.int 200)) ag)) [some (.d (aS ns)),some (.d (aD ls)),some (.loc (.dict DD0)),none,none,none] T) _=_
   rw [unp,dh]
   show bnd (iB 2 (aa 3) [some (.d (aS ns)),some (.loc (aD l1)),some (.loc (.dict DD0)),some (.d (.dict D1)),none,none] T) _=_
   rw [up,dh]
  have t1:(au (ae eqD (ar aU (ab (aa 0) (ab (fC (.int 1)) (ab (fC (.int 2)) ag)))) (fC (.int 0)))) [some (.d (aS ns)),some (.d (aD ls)),some (.loc (.dict DD0)),none,none,none] T=some (true,T):=by simp [em]
  have go:lp4 [some (.d (aS ns)),some (.d (aD ls)),some (.loc (.dict DD0)),none,none,none] T=fIf (au (ae eqD (ar aU (ab (aa 0) (ab (fC (.int 2)) (ab (fC (.int 3)) ag)))) (fC (.int 0)))) (iC 1 (ar aU (ab (aa 0) (ab (fC (.int 3)) (ab (ae az (fCB aF (ab (aa 1) ag)) (fC (.int 1))) ag)))) (ar cS (ab (aa 0) (ab (fC (.int 100)) ag)))) aC [some (.d (aS ns)),some (.loc (aD l1)),some (.loc (.dict D)),some (.d (.dict D1)),none,none] T:=by
   have hp:lp4=fIf (au (ae eqD (ar aU (ab (aa 0) (ab (fC (.int 1)) (ab (fC (.int 2)) ag)))) (fC (.int 0)))) (ak (gO 1 3 eP (ab (aa 0) (ab (fC (.int 200)) ag))) (gE 3 (ak (iB 2 (aa 3)) (fIf (au (ae eqD (ar aU (ab (aa 0) (ab (fC (.int 2)) (ab (fC (.int 3)) ag)))) (fC (.int 0)))) (iC 1 (ar aU (ab (aa 0) (ab (fC (.int 3)) (ab (ae az (fCB aF (ab (aa 1) ag)) (fC (.int 1))) ag)))) (ar cS (ab (aa 0) (ab (fC (.int 100)) ag)))) aC)))) aC:=rfl
   rw [hp,nW,t1,dh,nE,if_pos rfl,base]
  have t2:(au (ae eqD (ar aU (ab (aa 0) (ab (fC (.int 2)) (ab (fC (.int 3)) ag)))) (fC (.int 0)))) [some (.d (aS ns)),some (.loc (aD l1)),some (.loc (.dict D)),some (.d (.dict D1)),none,none] T=some (decide (m2=0),T):=by simp [e2]
  by_cases h2:m2=0
  ·subst h2
   obtain ⟨m3,e3,a3,b3⟩:=bZ ns 3 (l1.length + 1) T
   obtain ⟨l,el,hl1,_,_⟩:=m4 ns 100 T
   have hin:0≤m3∧m3≤((l1.map Ln.d).length:Int)∧(l1.map Ln.d).length≤1000:=by rw [List.length_map]; omega
   refine ⟨l1.take m3.toNat++l::l1.drop m3.toNat,D,_,some (.d (.dict D1)),.inr rfl,?_,okD,fun y hy=>?_,?_⟩
   ·rw [← zP]
    have ins:iC 1 (ar aU (ab (aa 0) (ab (fC (.int 3)) (ab (ae az (fCB aF (ab (aa 1) ag)) (fC (.int 1))) ag)))) (ar cS (ab (aa 0) (ab (fC (.int 100)) ag))) [some (.d (aS ns)),some (.loc (aD l1)),some (.loc (.dict D)),some (.d (.dict D1)),none,none] T=some ((.nx,[some (.d (aS ns)),some (.loc (.list ((l1.map Ln.d).take m3.toNat++l.d::(l1.map Ln.d).drop m3.toNat))),some (.loc (.dict D)),some (.d (.dict D1)),none,none]),T):=by
     have zl:(l1.map Ln.d).length≤sizeLine:=by rw [sz,List.length_map]; omega
     have e3':aU [.d (aS ns),.d (.int 3),.d (.int (((l1.map Ln.d).length:Int) + 1))] T=some (.int m3,T):=by rw [List.length_map]; exact e3
     unfold iC aD
     generalize l1.map Ln.d=L at zl e3' hin ⊢
     generalize l.d=x at el ⊢
     have ik:lJ 1 [some (.d (aS ns)),some (.loc (.list L)),some (.loc (.dict D)),some (.d (.dict D1)),none,none] (.d (.int m3)) (.d x) T (some (some (.loc (.list L))))=some ((.nx,[some (.d (aS ns)),some (.loc (.list (L.take m3.toNat++x::L.drop m3.toNat))),some (.loc (.dict D)),some (.d (.dict D1)),none,none]),T):=if_pos hin
     have vl:∀ T,view T (.loc (.list L))=some (.list L):=fun _=>rfl
     simp [zl,e3',el,ik]
    rw [go,nW,t2,dh,nE,if_pos (by simp)]
    exact ins
   ·rcases List.mem_append.mp hy with z | z
    ·exact hgl y (List.mem_of_mem_take z)
    ·rcases List.mem_cons.mp z with z | z
     ·rw [z]; exact hl1 D fun s hs=>u0 s (uk hs)
     ·exact hgl y (List.mem_of_mem_drop z)
   ·simp only [List.length_append,List.length_take,List.length_cons,List.length_drop]
    omega
  ·refine ⟨l1,D,_,some (.d (.dict D1)),.inr rfl,?_,okD,hgl,by omega⟩
   rw [go,nW,t2,dh,nE,if_neg (by simp [h2])]
   rfl
 ·refine ⟨ls,DD0,_,none,.inl rfl,by simp [lp4,em,h],ok0,fun l hl=>hA l hl DD0 fun s hs=>uk hs,h5⟩
theorem x8 (ns:List Int) (hl:ns.length≤63):∃ T',kZ [.d (aS ns)] []=some (.bool true,T'):=by
 obtain ⟨l1,e1,h1,n1⟩:=Ck ns hl []
 have e2:=Cj (some (.d (aS ns))) (some (.d (aD l1))) []
 obtain ⟨l3,e3,h3,n3⟩:=Ci ns hl (some (.loc (.dict DD0))) l1 h1 n1 []
 obtain ⟨l4,D,w,mo,hw,e4,okD,h4,n4⟩:=Cg ns hl l3 h3 n3 []
 obtain ⟨ρ',e5⟩:=yP okD h4 n4 (some (.d (aS ns))) mo w hw []
 refine ⟨[],?_⟩
 rw [Bp]
 generalize lp1=g1 at e1 ⊢
 generalize lp2=g2 at e2 ⊢
 generalize lp3=g3 at e3 ⊢
 generalize lp4=g4 at e4 ⊢
 generalize lpT=g5 at e5 ⊢
 simp [e1,e2,e3,e4,e5]
def top (i:Nat):Stmt:=PySem.Challenge.pw_redo_k75_honest_by_lines.main.body.getD i (.Pass ⟨0,0,0,0⟩)
structure Bi (K:Frag) (mg:Str→Option Value):Prop where
 b_abs:mg "abs" = none
 b_all:mg "all" = none
 b_bool:mg "bool" = none
 b_int:mg "int" = none
 b_isinstance:mg "isinstance" = none
 b_len:mg "len" = none
 b_list:mg "list" = none
 b_max:mg "max" = none
 b_min:mg "min" = none
 b_range:mg "range" = none
 b_str:mg "str" = none
 b_sum:mg "sum" = none
 b_tuple:mg "tuple" = none
 b_zip:mg "zip" = none
 g_ANY:uv K mg "ANY" ["fail","any"]
 c_FIGURES:∃ t,mg "FIGURES" = some (.str "0123456789" t)
 c_MOST_FIGURES:∃ t,mg "MOST_FIGURES" = some (.int 19 t)
 c_MOST_PARTS:∃ t,mg "MOST_PARTS" = some (.int 8 t)
 c_MOST_ROWS:∃ t,mg "MOST_ROWS" = some (.int 4 t)
 c_MOST_SIGNS:∃ t,mg "MOST_SIGNS" = some (.int 20 t)
 c_MOST_VALUES:∃ t,mg "MOST_VALUES" = some (.int 40 t)
 c_TEXT_SIGNS:∃ t,mg "TEXT_SIGNS" = some (.str "abcdefghijklmnopqrstuvwxyz0123456789-" t)
variable {P:Program} {w:World} {K:Frag} {mg:Str→Option Value} {base:Heap} {f:Addr} {fd:FuncData}
theorem rm {j k:Nat} {A:Around} (r:Room k A) (h:j≤k:=by omega):Room j A:=r.mono h
theorem vD:FnScope ["thing"] ["thing"] (aN (top 6)):=⟨rfl,rfl,rfl,by decide +kernel,rfl,by decide +kernel,by decide +kernel⟩
theorem vJ (B:Bi K mg) (F:Fun K "is_whole" "is_whole" (top 6) f fd)  : FnOk P w K mg base CX0 1 f fd ["thing"] (spM K 1 (jj)):=dfn F vD fun _ _ _ _ _ _ hr=>(aA (aH (dQ (bS .int B.b_isinstance (ah 0) B.b_int boot_int) (fi (kQ (bS .bl B.b_isinstance (ah 0) B.b_bool boot_bool))))))
theorem vG:FnScope ["text","signs"] ["text","signs"] (aN (top 7)):=⟨rfl,rfl,rfl,by decide +kernel,rfl,by decide +kernel,by decide +kernel⟩
theorem vM (B:Bi K mg) (F:Fun K "has_only" "has_only" (top 7) f fd)  : FnOk P w K mg base CX0 1 f fd ["text","signs"] (spM K 2 (fB)):=dfn F vG fun _ _ _ _ _ _ hr=>(aA (aH (aW ja rfl B.b_all boot_all (af (df (osc:=aN (top 7)) (N:=["text","signs"]) (N':=["text","signs"]) (x:="sign") ⟨rfl,by decide +kernel,by decide +kernel,rfl,by decide +kernel,by decide +kernel,by decide +kernel,by decide +kernel,rfl,by decide +kernel⟩ (cB (ah 0)) (fun C s0 H0 ex=>(cm uh (ah 0) (ah 2))) (fun C s0 H0 ex=>cN)) aj))))
theorem u7:FnScope ["thing"] ["thing"] (aN (top 8)):=⟨rfl,rfl,rfl,by decide +kernel,rfl,by decide +kernel,by decide +kernel⟩
theorem vh (B:Bi K mg) (F:Fun K "is_single" "is_single" (top 8) f fd) (Qbj:Fn P w K mg base "is_whole" ["thing"] 1 (spM K 1 jj)) (Qam:Fn P w K mg base "has_only" ["text","signs"] 1 (spM K 2 fB)):FnOk P w K mg base CX0 2 f fd ["thing"] (spM K 1 (g7)):=dfn F u7 fun _ _ _ _ _ _ hr=>(ay (aP (bw (aJ Qbj (rm hr) rfl (af (ah 0) aj) (ap aI))) (aA (aH (cm eL (aW Da rfl B.b_abs boot_abs (af (ah 0) aj)) (aG jH ai ai)))) aV) (aA (aH (dQ (bS .str B.b_isinstance (ah 0) B.b_str boot_str) (dQ (cm eL (aW ba rfl B.b_len boot_len (af (ah 0) aj)) (iN rfl B.c_MOST_SIGNS)) (fi (aJ Qam (rm hr) rfl (af (ah 0) (af (qh rfl B.c_TEXT_SIGNS) aj)) (ap (ap aI)))))))))
theorem vF:FnScope ["thing","rows_left"] ["thing","rows_left"] (aN (top 9)):=⟨rfl,rfl,rfl,by decide +kernel,rfl,by decide +kernel,by decide +kernel⟩
theorem vL (n:Nat) (B:Bi K mg) (F:Fun K "is_built" "is_built" (top 9) f fd) (Qbc:Fn P w K mg base "is_single" ["thing"] 2 (spM K 1 g7)) (Qap:Fn P w K mg base "is_built" ["thing","rows_left"] (2 + n) (spM K 2 (dZ n))):FnOk P w K mg base CX0 (2 + n + 1) f fd ["thing","rows_left"] (spM K 2 (dZ (n + 1))):=dfn F vF fun _ _ _ _ _ _ hr=>(ay (aP (cW (bw (bS .tup B.b_isinstance (ah 0) B.b_tuple boot_tuple))) (aA (aH (aJ Qbc (rm hr) rfl (af (ah 0) aj) (ap aI)))) aV) (ay (aP (cA (cY (aK bb (ah 1) ai) (d8 (aK fT (aW ba rfl B.b_len boot_len (af (ah 0) aj)) (iN rfl B.c_MOST_PARTS))))) (aA (aH dE)) aV) (aA (aH (aW ja rfl B.b_all boot_all (af (df (osc:=aN (top 9)) (N:=["thing","rows_left"]) (N':=["thing","rows_left"]) (x:="part") ⟨rfl,by decide +kernel,by decide +kernel,rfl,by decide +kernel,by decide +kernel,by decide +kernel,by decide +kernel,rfl,by decide +kernel⟩ (cB (ah 0)) (fun C s0 H0 ex=>(aJ Qap (rm hr) rfl (af (ah 0) (af (aG tE (ah 2) ai) aj)) (ap (ap aI)))) (fun C s0 H0 ex=>cN)) aj))))))
theorem v7:FnScope ["value"] ["value"] (aN (top 11)):=⟨rfl,rfl,rfl,by decide +kernel,rfl,by decide +kernel,by decide +kernel⟩
theorem wa (n:Nat) (B:Bi K mg) (F:Fun K "many_of" "many_of" (top 11) f fd) (Qat:Fn P w K mg base "many_of" ["value"] (0 + n) (spM K 1 (fD n))):FnOk P w K mg base CX0 (0 + n + 1) f fd ["value"] (spM K 1 (fD (n + 1))):=dfn F v7 fun _ _ _ _ _ _ hr=>(ay (aP (cW (bw (bS .tup B.b_isinstance (ah 0) B.b_tuple boot_tuple))) (aA (aH ai)) aV) (aA (aH (aG aQ ai (aW n8 rfl B.b_sum boot_sum (af (df (osc:=aN (top 11)) (N:=["value"]) (N':=["value"]) (x:="part") ⟨rfl,by decide +kernel,by decide +kernel,rfl,by decide +kernel,by decide +kernel,by decide +kernel,by decide +kernel,rfl,by decide +kernel⟩ (cB (ah 0)) (fun C s0 H0 ex=>(aJ Qat (rm hr) rfl (af (ah 0) aj) (ap aI))) (fun C s0 H0 ex=>cN)) aj))))))
theorem vE:FnScope ["thing"] ["thing"] (aN (top 10)):=⟨rfl,rfl,rfl,by decide +kernel,rfl,by decide +kernel,by decide +kernel⟩
theorem vK (B:Bi K mg) (F:Fun K "is_value" "is_value" (top 10) f fd) (Qap:Fn P w K mg base "is_built" ["thing","rows_left"] 27 (spM K 2 (dZ 25))) (Qat:Fn P w K mg base "many_of" ["value"] 25 (spM K 1 (fD 25))):FnOk P w K mg base CX0 28 f fd ["thing"] (spM K 1 (g9)):=dfn F vE fun _ _ _ _ _ _ hr=>(aA (aH (dQ (aJ Qap (rm hr) rfl (af (ah 0) (af (iN rfl B.c_MOST_ROWS) aj)) (ap (ap aI))) (fi (cm eL (aJ Qat (rm hr) rfl (af (ah 0) aj) (ap aI)) (iN rfl B.c_MOST_VALUES))))))
theorem uO:FnScope ["text"] ["text"] (aN (top 21)):=⟨rfl,rfl,rfl,by decide +kernel,rfl,by decide +kernel,by decide +kernel⟩
theorem uR (B:Bi K mg) (F:Fun K "is_figures" "is_figures" (top 21) f fd) (Qam:Fn P w K mg base "has_only" ["text","signs"] 1 (spM K 2 fB)):FnOk P w K mg base CX0 2 f fd ["text"] (spM K 1 (fu)):=dfn F uO fun _ _ _ _ _ _ hr=>(ay (aP (cA (cY (aK bb (ah 0) aq) (d8 (cW (bw (aJ Qam (rm hr) rfl (af (ah 0) (af (qh rfl B.c_FIGURES) aj)) (ap (ap aI)))))))) (aA (aH dE)) aV) (aA (aH (C6 (cm bb (ah 0) aq) (fi (kQ (mi (ah 0) aq)))))))
theorem sc_number_by:FnScope ["word","figures"] ["word"] (aN (top 20)):=⟨rfl,rfl,rfl,by decide +kernel,rfl,by decide +kernel,by decide +kernel⟩
theorem vg (B:Bi K mg) (F:Fun K "number_by" "number_by" (top 20) f fd) (Qax:Fn P w K mg base "is_figures" ["text"] 2 (spM K 1 fu)):FnOk P w K mg base CX0 3 f fd ["word"] (spM K 1 (g6)):=dfn F sc_number_by fun _ _ _ _ _ _ hr=>(ay (aT (i:=1) sc_number_by.nd (di (bw (mi (ah 0) aq)) (dD (ah 0) (cJ ai) eW) (ah 0))) (ay (aP (cA (cY (aK bb (ah 0) aq) (cY (aK fT (aW ba rfl B.b_len boot_len (af (ah 1) aj)) (iN rfl B.c_MOST_FIGURES)) (d8 (cW (bw (aJ Qax (rm hr) rfl (af (ah 1) aj) (ap aI)))))))) (aA (aH cC)) aV) (aA (aH (de lr rfl B.b_int boot_int (af (ah 0) aj))))))
theorem u6:FnScope ["word"] ["word"] (aN (top 19)):=⟨rfl,rfl,rfl,by decide +kernel,rfl,by decide +kernel,by decide +kernel⟩
theorem vd (B:Bi K mg) (F:Fun K "single_by" "single_by" (top 19) f fd) (Qbd:Fn P w K mg base "number_by" ["word"] 3 (spM K 1 g6)):FnOk P w K mg base CX0 4 f fd ["word"] (spM K 1 (gZ)):=dfn F u6 fun _ _ _ _ _ _ hr=>(ay (aP (bw (mi (ah 0) aq)) (aA (aH (dD (ah 0) (cJ ai) eW))) aV) (aA (aH (aJ Qbd (rm hr) rfl (af (ah 0) aj) (ap aI)))))
theorem sc_single_at:FnScope ["text","at","behind","single"] ["text","at"] (aN (top 18)):=⟨rfl,rfl,rfl,by decide +kernel,rfl,by decide +kernel,by decide +kernel⟩
theorem ve (B:Bi K mg) (F:Fun K "single_at" "single_at" (top 18) f fd) (Qbe:Fn P w K mg base "single_by" ["word"] 4 (spM K 1 gZ)):FnOk P w K mg base CX0 5 f fd ["text","at"] (spM K 2 (gG)):=dfn F sc_single_at fun _ _ _ _ _ _ hr=>(ay (aT (i:=2) sc_single_at.nd (ah 1)) (ay (jn 100000 (cA (fK (aK eK (ah 2) (aW ba rfl B.b_len boot_len (af (ah 0) aj))) (gi (aK mN (aw ax (ah 0) (ah 2)) aq)))) (aA (aT (i:=2) sc_single_at.nd (aG aQ (ah 2) ai)))) (ay (aT (i:=3) sc_single_at.nd (aJ Qbe (rm hr) rfl (af (dD (ah 0) (cJ (ah 1)) (cJ (ah 2))) aj) (ap aI))) (aA (aH (di (aK lH (ah 3) cC) cC (aB (af (ah 3) (af (ah 2) aj)))))))))
theorem sc_row_at:FnScope ["text","at","rows_left","parts","found","sign"] ["text","at","rows_left"] (aN (top 17)):=⟨rfl,rfl,rfl,by decide +kernel,rfl,by decide +kernel,by decide +kernel⟩
theorem vC:FnScope ["text","at","rows_left"] ["text","at","rows_left"] (aN (top 16)):=⟨rfl,rfl,rfl,by decide +kernel,rfl,by decide +kernel,by decide +kernel⟩
theorem wO (n:Nat) (B:Bi K mg) (F:Fun K "row_at" "row_at" (top 17) f fd) (Qaq:Fn P w K mg base "value_at" ["text","at","rows_left"] (5 + n) (spM K 3 (dw n))):FnOk P w K mg base CX0 (5 + n + 1) f fd ["text","at","rows_left"] (spM K 3 (gI (n + 1))):=dfn F sc_row_at fun _ _ _ _ _ _ hr=>(ay (aP (aK bb (dD (ah 0) (cJ (ah 1)) (cJ (aG aQ (ah 1) ai))) aq) (aA (aH (aB (af (aB aj) (af (aG aQ (ah 1) ai) aj))))) aV) (ay (fF (i:=3) sc_row_at.nd aj) (aA (jn 100000 (bw dE) (ay (aT (i:=4) sc_row_at.nd (aJ Qaq (rm hr) rfl (af (ah 0) (af (ah 1) (af (ah 2) aj))) (ap (ap (ap aI))))) (ay (aP (aK lH (ah 4) cC) (aA (aH cC)) aV) (ay (fh (i:=3) (by exact (aw ax (ah 4) ai))) (ay (aT (i:=1) sc_row_at.nd (aG aQ (aw ax (ah 4) ai) ai)) (ay (aT (i:=5) sc_row_at.nd (dD (ah 0) (cJ (aw ax (ah 4) ai)) (cJ (ah 1)))) (ay (aP (aK bb (ah 5) aq) (aA (aH (aB (af (de fH rfl B.b_tuple boot_tuple (af (ah 3) aj)) (af (ah 1) aj))))) aV) (aA (aP (aK fS (ah 5) aq) (aA (aH cC)) aV))))))))))))
theorem vI (n:Nat) (B:Bi K mg) (F:Fun K "value_at" "value_at" (top 16) f fd) (Qbf:Fn P w K mg base "single_at" ["text","at"] 5 (spM K 2 gG)) (Qbn:Fn P w K mg base "row_at" ["text","at","rows_left"] (5 + n) (spM K 3 (gI n))):FnOk P w K mg base CX0 (5 + n + 1) f fd ["text","at","rows_left"] (spM K 3 (dw (n + 1))):=dfn F vC fun _ _ _ _ _ _ hr=>(ay (aP (aK fS (dD (ah 0) (cJ (ah 1)) (cJ (aG aQ (ah 1) ai))) aq) (aA (aH (aJ Qbf (rm hr) rfl (af (ah 0) (af (ah 1) aj)) (ap (ap aI))))) aV) (ay (aP (aK bb (ah 2) ai) (aA (aH cC)) aV) (aA (aH (aJ Qbn (rm hr) rfl (af (ah 0) (af (aG aQ (ah 1) ai) (af (aG tE (ah 2) ai) aj))) (ap (ap (ap aI))))))))
theorem sc_value_by:FnScope ["text","found"] ["text"] (aN (top 15)):=⟨rfl,rfl,rfl,by decide +kernel,rfl,by decide +kernel,by decide +kernel⟩
theorem vH (B:Bi K mg) (F:Fun K "value_by" "value_by" (top 15) f fd) (Qaq:Fn P w K mg base "value_at" ["text","at","rows_left"] 30 (spM K 3 (dw 25))) (Qbk:Fn P w K mg base "is_value" ["thing"] 28 (spM K 1 g9)):FnOk P w K mg base CX0 31 f fd ["text"] (spM K 1 (eS)):=dfn F sc_value_by fun _ _ _ _ _ _ hr=>(ay (aT (i:=1) sc_value_by.nd (aJ Qaq (rm hr) rfl (af (ah 0) (af ai (af (iN rfl B.c_MOST_ROWS) aj))) (ap (ap (ap aI))))) (ay (aP (cA (cY (aK lH (ah 1) cC) (d8 (aK eK (aw ax (ah 1) ai) (aW ba rfl B.b_len boot_len (af (ah 0) aj)))))) (aA (aH cC)) aV) (aA (aH (di (bw (aJ Qbk (rm hr) rfl (af (aw ax (ah 1) ai) aj) (ap aI))) (aw ax (ah 1) ai) cC)))))
theorem sc_many_alike:FnScope ["reads","others","many"] ["reads","others"] (aN (top 24)):=⟨rfl,rfl,rfl,by decide +kernel,rfl,by decide +kernel,by decide +kernel⟩
theorem uQ (B:Bi K mg) (F:Fun K "many_alike" "many_alike" (top 24) f fd)  : FnOk P w K mg base CX0 1 f fd ["reads","others"] (spM K 2 (iE)):=dfn F sc_many_alike fun _ _ _ _ _ _ hr=>(ay (aT (i:=2) sc_many_alike.nd ai) (ay (jn 100000 (cA (fK (aK eK (ah 2) (aW tS rfl B.b_min boot_min (af (aW ba rfl B.b_len boot_len (af (ah 0) aj)) (af (aW ba rfl B.b_len boot_len (af (ah 1) aj)) aj)))) (gi (aK (iW hr) (aw ax (ah 0) (ah 2)) (aw ax (ah 1) (ah 2)))))) (aA (aT (i:=2) sc_many_alike.nd (aG aQ (ah 2) ai)))) (aA (aH (ah 2)))))
theorem v6:FnScope ["line","many"] ["line","many"] (aN (top 25)):=⟨rfl,rfl,rfl,by decide +kernel,rfl,by decide +kernel,by decide +kernel⟩
theorem v9 (B:Bi K mg) (F:Fun K "next_at" "next_at" (top 25) f fd)  : FnOk P w K mg base CX0 1 f fd ["line","many"] (spM K 2 (dJ)):=dfn F v6 fun _ _ _ _ _ _ hr=>(aA (aH (di (aK eK (ah 1) (aW ba rfl B.b_len boot_len (af (aw ax (ah 0) ai) aj))) (aB (af aq (af (aw ax (aw ax (aw ax (ah 0) ai) (ah 1)) ai) aj))) (aw ax (ah 0) ai))))
theorem sc_at_odds:FnScope ["one","other","many"] ["one","other"] (aN (top 23)):=⟨rfl,rfl,rfl,by decide +kernel,rfl,by decide +kernel,by decide +kernel⟩
theorem wb (B:Bi K mg) (F:Fun K "at_odds" "at_odds" (top 23) f fd) (Qay:Fn P w K mg base "many_alike" ["reads","others"] 1 (spM K 2 iE)) (Qak:Fn P w K mg base "next_at" ["line","many"] 1 (spM K 2 dJ)):FnOk P w K mg base CX0 2 f fd ["one","other"] (spM K 2 (gb)):=dfn F sc_at_odds fun _ _ _ _ _ _ hr=>(ay (aT (i:=2) sc_at_odds.nd (aJ Qay (rm hr) rfl (af (aw ax (ah 0) ai) (af (aw ax (ah 1) ai) aj)) (ap (ap aI)))) (aA (aH (cm (jI hr) (aJ Qak (rm hr) rfl (af (ah 0) (af (ah 2) aj)) (ap (ap aI))) (aJ Qak (rm hr) rfl (af (ah 1) (af (ah 2) aj)) (ap (ap aI)))))))
theorem sc_first_odds:FnScope ["lines","j","i"] ["lines"] (aN (top 29)):=⟨rfl,rfl,rfl,by decide +kernel,rfl,by decide +kernel,by decide +kernel⟩
theorem uS (B:Bi K mg) (F:Fun K "first_odds" "first_odds" (top 29) f fd) (Qbm:Fn P w K mg base "at_odds" ["one","other"] 2 (spM K 2 gb)):FnOk P w K mg base CX0 3 f fd ["lines"] (spM K 1 (fw)):=dfn F sc_first_odds fun _ _ _ _ _ _ hr=>(ay (gn (i:=1) sc_first_odds.nd (gj rfl B.b_range (aW ba rfl B.b_len boot_len (af (ah 0) aj))) (aA (gn (i:=2) sc_first_odds.nd (gj rfl B.b_range (ah 1)) (aA (aP (bw (aJ Qbm (rm hr) rfl (af (aw ax (ah 0) (ah 2)) (af (aw ax (ah 0) (ah 1)) aj)) (ap (ap aI)))) (aA (aH (aB (af (ah 2) (af (ah 1) aj))))) aV))))) (aA (aH cC)))
theorem sc_parted_along:FnScope ["lines","number","stamp","others","alike"] ["lines","number"] (aN (top 31)):=⟨rfl,rfl,rfl,by decide +kernel,rfl,by decide +kernel,by decide +kernel⟩
theorem sc_recipe_along:FnScope ["lines","got","step"] ["lines","got"] (aN (top 30)):=⟨rfl,rfl,rfl,by decide +kernel,rfl,by decide +kernel,by decide +kernel⟩
theorem uG (n:Nat) (B:Bi K mg) (F:Fun K "parted_along" "parted_along" (top 31) f fd) (Qai:Fn P w K mg base "recipe_along" ["lines","got"] (31 + n) (spM K 2 (eM n))) (Qan:Fn P w K mg base "parted_along" ["lines","number"] (31 + n) (spM K 2 (eN n))) (Qao:Fn P w K mg base "value_by" ["text"] 31 (spM K 1 eS)):FnOk P w K mg base CX0 (31 + n + 1) f fd ["lines","number"] (spM K 2 (eN (n + 1))):=dfn F sc_parted_along fun _ _ _ _ _ _ hr=>(ay (aP (aK bb (aW ba rfl B.b_len boot_len (af (ah 0) aj)) ai) (aA (aH (qg (ss:=["fail","any"]) rfl B.g_ANY))) aV) (ay (aT (i:=2) sc_parted_along.nd (aw ax (aw ax (aw ax (aw ax (ah 0) ai) ai) (ah 1)) ai)) (ay (jq (i:=3) (osc:=aN (top 31)) (N:=["lines","number","stamp","others","alike"]) (N':=["lines","number","stamp","others","alike"]) (x:="line") ⟨rfl,by decide +kernel,by decide +kernel,rfl,by decide +kernel,by decide +kernel,by decide +kernel,by decide +kernel,rfl,by decide +kernel⟩ sc_parted_along.nd (cB (ah 0)) (fun C s0 H0 ex=>(ah 0)) (fun C s0 H0 ex=>km rfl (aK fS (aw ax (aw ax (aw ax (ah 0) ai) (ah 2)) ai) (ah 3)))) (ay (aT (i:=4) sc_parted_along.nd (aJ Qai (rm hr) rfl (af (df (osc:=aN (top 31)) (N:=["lines","number","stamp","others","alike"]) (N':=["lines","number","stamp","others","alike"]) (x:="line") ⟨rfl,by decide +kernel,by decide +kernel,rfl,by decide +kernel,by decide +kernel,by decide +kernel,by decide +kernel,rfl,by decide +kernel⟩ (cB (ah 0)) (fun C s0 H0 ex=>(ah 0)) (fun C s0 H0 ex=>km rfl (aK bb (aw ax (aw ax (aw ax (ah 0) ai) (ah 2)) ai) (ah 3)))) (af (aG aQ (ah 1) ai) aj)) (ap (ap aI)))) (ay (aP (aK bb (aW ba rfl B.b_len boot_len (af (ah 3) aj)) ai) (aA (aH (ah 4))) aV) (aA (aH (aB (af aq (af (aB (af aq (af (aB (af aq (af (ah 1) aj))) (af (aB (af aq (af (aJ Qao (rm hr) rfl (af (ah 2) aj) (ap aI)) aj))) aj)))) (af (ah 4) (af (aJ Qan (rm hr) rfl (af (ah 3) (af (ah 1) aj)) (ap (ap aI))) aj))))))))))))
theorem uF (n:Nat) (B:Bi K mg) (F:Fun K "recipe_along" "recipe_along" (top 30) f fd) (Qak:Fn P w K mg base "next_at" ["line","many"] 1 (spM K 2 dJ)) (Qao:Fn P w K mg base "value_by" ["text"] 31 (spM K 1 eS)) (Qan:Fn P w K mg base "parted_along" ["lines","number"] (31 + n) (spM K 2 (eN n))):FnOk P w K mg base CX0 (31 + n + 1) f fd ["lines","got"] (spM K 2 (eM (n + 1))):=dfn F sc_recipe_along fun _ _ _ _ _ _ hr=>(ay (aP (aK bb (aW ba rfl B.b_len boot_len (af (ah 0) aj)) ai) (aA (aH (qg (ss:=["fail","any"]) rfl B.g_ANY))) aV) (ay (aT (i:=2) sc_recipe_along.nd (aJ Qak (rm hr) rfl (af (aw ax (ah 0) ai) (af (ah 1) aj)) (ap (ap aI)))) (ay (aP (aK bb (aw ax (ah 2) ai) aq) (aA (aH (aB (af aq (af (aB (af aq (af (aJ Qao (rm hr) rfl (af (aw ax (ah 2) ai) aj) (ap aI)) aj))) aj))))) aV) (ay (aP (aK bb (aw ax (ah 2) ai) aq) (aA (aH (aB (af aq (af (aw ax (ah 2) ai) aj))))) aV) (aA (aH (aB (af aq (af (aB (af aq (af (aw ax (ah 2) ai) aj))) (af (aJ Qan (rm hr) rfl (af (df (osc:=aN (top 30)) (N:=["lines","got","step"]) (N':=["lines","got","step"]) (x:="line") ⟨rfl,by decide +kernel,by decide +kernel,rfl,by decide +kernel,by decide +kernel,by decide +kernel,by decide +kernel,rfl,by decide +kernel⟩ (cB (ah 0)) (fun C s0 H0 ex=>(ah 0)) (fun C s0 H0 ex=>km rfl (aK fT (aW ba rfl B.b_len boot_len (af (aw ax (ah 0) ai) aj)) (ah 2)))) (af (ah 1) aj)) (ap (ap aI))) aj))))))))))
theorem sc_honest_by:FnScope ["lines","odds"] ["lines"] (aN (top 28)):=⟨rfl,rfl,rfl,by decide +kernel,rfl,by decide +kernel,by decide +kernel⟩
theorem vi (B:Bi K mg) (F:Fun K "honest_by" "honest_by" (top 28) f fd) (Qaz:Fn P w K mg base "first_odds" ["lines"] 3 (spM K 1 fw)) (Qai:Fn P w K mg base "recipe_along" ["lines","got"] 56 (spM K 2 (eM 25))):FnOk P w K mg base CX0 57 f fd ["lines"] (spM K 1 (dI)):=dfn F sc_honest_by fun _ _ _ _ _ _ hr=>(ay (aT (i:=1) sc_honest_by.nd (aJ Qaz (rm hr) rfl (af (ah 0) aj) (ap aI))) (ay (aP (aK zF (ah 1) cC) (aA (aH (aB (af aq (af (aw ax (ah 1) ai) (af (aw ax (ah 1) ai) aj)))))) aV) (aA (aH (aB (af aq (af (aJ Qai (rm hr) rfl (af (ah 0) (af ai aj)) (ap (ap aI))) aj)))))))
theorem sc__law_draw:FnScope ["_law_script","_law_k","_law_many","_law_cell","_law_left","_law_mixed"] ["_law_script","_law_k","_law_many"] (aN (top 33)):=⟨rfl,rfl,rfl,by decide +kernel,rfl,by decide +kernel,by decide +kernel⟩
theorem vq (B:Bi K mg) (F:Fun K "_law_draw" "_law_draw" (top 33) f fd)  : FnOk P w K mg base CX0 1 f fd ["_law_script","_law_k","_law_many"] (spM K 3 (aU)):=dfn F sc__law_draw fun _ _ _ _ _ _ hr=>(ay (aT (i:=3) sc__law_draw.nd ai) (ay (aP (aK fT (aW ba rfl B.b_len boot_len (af (ah 0) aj)) ai) (ay (aT (i:=3) sc__law_draw.nd (aw ax (ah 0) (aG gL (ah 1) (aW ba rfl B.b_len boot_len (af (ah 0) aj))))) (ay (aT (i:=4) sc__law_draw.nd (aG CM (ah 3) (aG cQ ai (aW tS rfl B.b_min boot_min (af ai (af (aG nr (ah 1) (aW ba rfl B.b_len boot_len (af (ah 0) aj))) aj)))))) (aA (aP (cA (fK (aK DB (ah 3) (aG jH ai ai)) (gi (aK fT (ah 4) ai)))) (aA (aH (aG gL (ah 4) (ah 2)))) aV)))) aV) (ay (aT (i:=5) sc__law_draw.nd (aG gL (aG cQ (aG aQ (aG aQ (aG aQ (aG gL (ah 3) ai) (aG cQ (aG cQ ai (ah 1)) (ah 1))) (aG cQ ai (ah 1))) ai) ai) ai)) (aA (aH (aG gL (aG nr (aG gL (aG cQ (aG nr (ah 5) ai) ai) ai) ai) (ah 2)))))))
theorem uP:FnScope ["_law_value_here"] ["_law_value_here"] (aN (top 34)):=⟨rfl,rfl,rfl,by decide +kernel,rfl,by decide +kernel,by decide +kernel⟩
theorem uV (n:Nat) (B:Bi K mg) (F:Fun K "_law_stamp" "_law_stamp" (top 34) f fd) (Qab:Fn P w K mg base "_law_stamp" ["_law_value_here"] (0 + n) (spM K 1 (bN n))):FnOk P w K mg base CX0 (0 + n + 1) f fd ["_law_value_here"] (spM K 1 (bN (n + 1))):=dfn F uP fun _ _ _ _ _ _ hr=>(ay (aP (bw (bS .int B.b_isinstance (ah 0) B.b_int boot_int)) (aA (aH (de C9 rfl B.b_str boot_str (af (ah 0) aj)))) aV) (ay (aP (bw (bS .str B.b_isinstance (ah 0) B.b_str boot_str)) (aA (aH (aG aQ aq (ah 0)))) aV) (aA (aH (aG aQ (aG aQ aq (Ae aq (df (osc:=aN (top 34)) (N:=["_law_value_here"]) (N':=["_law_value_here"]) (x:="_law_part") ⟨rfl,by decide +kernel,by decide +kernel,rfl,by decide +kernel,by decide +kernel,by decide +kernel,by decide +kernel,rfl,by decide +kernel⟩ (cB (ah 0)) (fun C s0 H0 ex=>(aJ Qab (rm hr) rfl (af (ah 0) aj) (ap aI))) (fun C s0 H0 ex=>cN)))) aq)))))
theorem sc__law_names:FnScope ["_law_script","_law_k","_law_menu","_law_first","_law_step"] ["_law_script","_law_k"] (aN (top 35)):=⟨rfl,rfl,rfl,by decide +kernel,rfl,by decide +kernel,by decide +kernel⟩
theorem uY (B:Bi K mg) (F:Fun K "_law_names" "_law_names" (top 35) f fd) (Qaa:Fn P w K mg base "_law_draw" ["_law_script","_law_k","_law_many"] 1 (spM K 3 aU)):FnOk P w K mg base CX0 2 f fd ["_law_script","_law_k"] (spM K 2 (gY)):=dfn F sc__law_names fun _ _ _ _ _ _ hr=>(ay (aT (i:=2) sc__law_names.nd (cK (af aq (af aq (af aq (af aq (af aq (af aq (af aq (af aq (af aq (af aq (af aq (af aq aj)))))))))))))) (ay (aT (i:=3) sc__law_names.nd (aJ Qaa (rm hr) rfl (af (ah 0) (af (ah 1) (af ai aj))) (ap (ap (ap aI))))) (ay (aT (i:=4) sc__law_names.nd (aw ax (cK (af ai (af ai (af ai (af ai aj))))) (aJ Qaa (rm hr) rfl (af (ah 0) (af (aG aQ (ah 1) ai) (af ai aj))) (ap (ap (ap aI)))))) (aA (aH (df (osc:=aN (top 35)) (N:=["_law_script","_law_k","_law_menu","_law_first","_law_step"]) (N':=["_law_script","_law_k","_law_menu","_law_first","_law_step"]) (x:="_law_j") ⟨rfl,by decide +kernel,by decide +kernel,rfl,by decide +kernel,by decide +kernel,by decide +kernel,by decide +kernel,rfl,by decide +kernel⟩ (gj rfl B.b_range (aG aQ ai (aJ Qaa (rm hr) rfl (af (ah 0) (af (aG aQ (ah 1) ai) (af ai aj))) (ap (ap (ap aI)))))) (fun C s0 H0 ex=>(aw ax (ah 3) (aG gL (aG aQ (ah 4) (aG cQ (ah 5) (ah 0))) ai))) (fun C s0 H0 ex=>cN)))))))
theorem sc__law_value:FnScope ["_law_script","_law_k","_law_names_here","_law_some"] ["_law_script","_law_k","_law_names_here"] (aN (top 36)):=⟨rfl,rfl,rfl,by decide +kernel,rfl,by decide +kernel,by decide +kernel⟩
theorem uT (B:Bi K mg) (F:Fun K "_law_value" "_law_value" (top 36) f fd) (Qaa:Fn P w K mg base "_law_draw" ["_law_script","_law_k","_law_many"] 1 (spM K 3 aU)):FnOk P w K mg base CX0 2 f fd ["_law_script","_law_k","_law_names_here"] (spM K 3 (eC)):=dfn F sc__law_value fun _ _ _ _ _ _ hr=>(ay (aT (i:=3) sc__law_value.nd (aG aQ (cK (af ai (af ai (af ai (af (nI ai) (af aq (af aq (af aq (af (aB aj) (af (aB (af ai (af aq aj))) (af (aB (af aq (af (aB (af ai aj)) aj))) (af (aG jH ai ai) (af ai (af ai aj)))))))))))))) (ah 2))) (aA (aH (aw ax (ah 3) (aJ Qaa (rm hr) rfl (af (ah 0) (af (ah 1) (af (aW ba rfl B.b_len boot_len (af (ah 3) aj)) aj))) (ap (ap (ap aI))))))))
theorem sc__law_expr:FnScope ["_law_script","_law_k","_law_names_here","_law_got","_law_value_here","_law_some"] ["_law_script","_law_k","_law_names_here"] (aN (top 37)):=⟨rfl,rfl,rfl,by decide +kernel,rfl,by decide +kernel,by decide +kernel⟩
theorem vp (B:Bi K mg) (F:Fun K "_law_expr" "_law_expr" (top 37) f fd) (Qae:Fn P w K mg base "_law_value" ["_law_script","_law_k","_law_names_here"] 2 (spM K 3 eC)) (Qaa:Fn P w K mg base "_law_draw" ["_law_script","_law_k","_law_many"] 1 (spM K 3 aU)):FnOk P w K mg base CX0 3 f fd ["_law_script","_law_k","_law_names_here"] (spM K 3 (iG)):=dfn F sc__law_expr fun _ _ _ _ _ _ hr=>(ay (aT (i:=3) sc__law_expr.nd (aB (af aq (af ai aj)))) (ay (aT (i:=4) sc__law_expr.nd (aB (af aq (af (aJ Qae (rm hr) rfl (af (ah 0) (af (aG aQ (ah 1) ai) (af (ah 2) aj))) (ap (ap (ap aI)))) aj)))) (ay (aT (i:=5) sc__law_expr.nd (cK (af (ah 3) (af (aB (af aq (af (ah 3) (af (aB (af aq (af ai aj))) aj)))) (af (aB (af aq (af (ah 3) (af (aB (af aq (af aq aj))) aj)))) (af (aB (af aq (af (ah 3) aj))) (af (aB (af aq (af (ah 3) (af (ah 4) aj)))) aj))))))) (ay (aT (i:=5) sc__law_expr.nd (aG aQ (ah 5) (cK (af (aB (af aq (af (aB (af (ah 3) (af (ah 4) aj))) aj))) (af (aB (af aq (af (ah 3) (af (aB (af aq (af ai aj))) aj)))) (af (aB (af aq (af (ah 3) (af (aB (af aq (af ai aj))) aj)))) (af (aB (af aq (af (ah 3) aj))) (af (ah 3) aj)))))))) (aA (aH (aw ax (ah 5) (aJ Qaa (rm hr) rfl (af (ah 0) (af (ah 1) (af ai aj))) (ap (ap (ap aI)))))))))))
theorem sc__law_recipe:FnScope ["_law_script","_law_k","_law_names_here","_law_ways","_law_one","_law_other","_law_say","_law_expr_here","_law_two","_law_both","_law_later","_law_some"] ["_law_script","_law_k","_law_names_here","_law_ways"] (aN (top 38)):=⟨rfl,rfl,rfl,by decide +kernel,rfl,by decide +kernel,by decide +kernel⟩
theorem uJ (B:Bi K mg) (F:Fun K "_law_recipe" "_law_recipe" (top 38) f fd) (Qaa:Fn P w K mg base "_law_draw" ["_law_script","_law_k","_law_many"] 1 (spM K 3 aU)) (Qae:Fn P w K mg base "_law_value" ["_law_script","_law_k","_law_names_here"] 2 (spM K 3 eC)) (Qbg:Fn P w K mg base "_law_expr" ["_law_script","_law_k","_law_names_here"] 3 (spM K 3 iG)):FnOk P w K mg base CX0 4 f fd ["_law_script","_law_k","_law_names_here","_law_ways"] (spM K 4 (gX)):=dfn F sc__law_recipe fun _ _ _ _ _ _ hr=>(ay (aT (i:=4) sc__law_recipe.nd (aB (af aq (af (aw ax (ah 2) (aJ Qaa (rm hr) rfl (af (ah 0) (af (ah 1) (af (aW ba rfl B.b_len boot_len (af (ah 2) aj)) aj))) (ap (ap (ap aI))))) aj)))) (ay (aT (i:=5) sc__law_recipe.nd (aB (af aq (af (aw ax (ah 2) (aJ Qaa (rm hr) rfl (af (ah 0) (af (aG aQ (ah 1) ai) (af (aW ba rfl B.b_len boot_len (af (ah 2) aj)) aj))) (ap (ap (ap aI))))) aj)))) (ay (aT (i:=6) sc__law_recipe.nd (aB (af aq (af (aB (af aq (af (aJ Qae (rm hr) rfl (af (ah 0) (af (aG aQ (ah 1) ai) (af (ah 2) aj))) (ap (ap (ap aI)))) aj))) aj)))) (ay (aT (i:=7) sc__law_recipe.nd (aJ Qbg (rm hr) rfl (af (ah 0) (af (aG aQ (ah 1) ai) (af (ah 2) aj))) (ap (ap (ap aI))))) (ay (aT (i:=8) sc__law_recipe.nd (cK (af (aB (af aq (af (aB (af (aB (af aq (af ai aj))) (af (aB (af aq (af ai aj))) aj))) aj))) (af (aB (af aq (af (aB (af aq (af ai aj))) (af (aB (af aq (af ai aj))) aj)))) (af (aB (af aq (af (aB (af aq (af ai aj))) (af (aB (af aq (af ai aj))) aj)))) aj))))) (ay (aT (i:=9) sc__law_recipe.nd (aB (af aq (af (aw ax (ah 8) (aJ Qaa (rm hr) rfl (af (ah 0) (af (aG aQ (ah 1) ai) (af ai aj))) (ap (ap (ap aI))))) aj)))) (ay (aT (i:=10) sc__law_recipe.nd (aB (af aq (af (ah 5) (af (aB (af aq (af (aB (af aq (af ai aj))) aj))) aj))))) (ay (aT (i:=11) sc__law_recipe.nd (cK (af (ah 6) (af (aB (af aq (af (ah 4) (af (aB (af aq (af (ah 7) aj))) aj)))) (af (aB (af aq (af (ah 4) (af (aB (af aq (af (ah 5) (af (ah 9) aj)))) aj)))) (af (aB (af aq (af (ah 4) (af (aB (af aq (af (ah 7) aj))) aj)))) aj)))))) (ay (aT (i:=11) sc__law_recipe.nd (aG aQ (ah 11) (cK (af (aB (af aq (af (ah 4) (af (aB (af aq (af (ah 7) (af (ah 10) (af (ah 6) aj))))) aj)))) (af (aB (af aq (af (ah 4) (af (aB (af aq (af (aB (af aq (af ai aj))) (af (aB (af aq (af (aB (af aq (af ai aj))) aj))) aj)))) aj)))) aj))))) (ay (aT (i:=11) sc__law_recipe.nd (aG aQ (ah 11) (cK (af (aB (af aq (af (aw ax (ah 2) (aJ Qaa (rm hr) rfl (af (ah 0) (af (aG aQ (ah 1) ai) (af (aW ba rfl B.b_len boot_len (af (ah 2) aj)) aj))) (ap (ap (ap aI))))) aj))) (af (aB (af aq (af (ah 4) (af (aB (af aq (af (ah 4) (af (ah 9) aj)))) aj)))) aj))))) (ay (aT (i:=11) sc__law_recipe.nd (aG aQ (ah 11) (cK (af (aB (af aq (af (ah 4) (af (aB (af aq (af (ah 7) aj))) aj)))) (af (aB (af aq (af (ah 4) (af (aB (af aq (af (ah 7) (af (ah 10) (af (ah 6) aj))))) aj)))) aj))))) (ay (aT (i:=11) sc__law_recipe.nd (aG aQ (ah 11) (cK (af (aB (af aq (af (ah 4) (af (aB (af aq (af (ah 5) (af (ah 9) aj)))) aj)))) (af (aB (af aq (af (ah 4) (af (aB (af aq (af (ah 5) (af (ah 9) aj)))) aj)))) aj))))) (aA (aH (aw ax (ah 11) (aJ Qaa (rm hr) rfl (af (ah 0) (af (aG aQ (ah 1) ai) (af (ah 3) aj))) (ap (ap (ap aI)))))))))))))))))))
theorem u9:FnScope ["_law_value_here","_law_deep"] ["_law_value_here","_law_deep"] (aN (top 39)):=⟨rfl,rfl,rfl,by decide +kernel,rfl,by decide +kernel,by decide +kernel⟩
theorem vn (n:Nat) (B:Bi K mg) (F:Fun K "_law_fits" "_law_fits" (top 39) f fd) (Qaj:Fn P w K mg base "_law_fits" ["_law_value_here","_law_deep"] (0 + n) (spM K 2 (bV n))):FnOk P w K mg base CX0 (0 + n + 1) f fd ["_law_value_here","_law_deep"] (spM K 2 (bV (n + 1))):=dfn F u9 fun _ _ _ _ _ _ hr=>(ay (aP (bw (bS .tup B.b_isinstance (ah 0) B.b_tuple boot_tuple)) (aA (aH (dQ (cm eK (ah 1) ai) (dQ (cm eL (aW ba rfl B.b_len boot_len (af (ah 0) aj)) ai) (fi (aW ja rfl B.b_all boot_all (af (df (osc:=aN (top 39)) (N:=["_law_value_here","_law_deep"]) (N':=["_law_value_here","_law_deep"]) (x:="_law_part") ⟨rfl,by decide +kernel,by decide +kernel,rfl,by decide +kernel,by decide +kernel,by decide +kernel,by decide +kernel,rfl,by decide +kernel⟩ (cB (ah 0)) (fun C s0 H0 ex=>(aJ Qaj (rm hr) rfl (af (ah 0) (af (aG aQ (ah 2) ai) aj)) (ap (ap aI)))) (fun C s0 H0 ex=>cN)) aj))))))) aV) (ay (aP (bw (bS .str B.b_isinstance (ah 0) B.b_str boot_str)) (aA (aH (cm eL (aW ba rfl B.b_len boot_len (af (ah 0) aj)) ai))) aV) (aA (aH (qi eL eL (nI (aG jH ai ai)) (ah 0) (aG jH ai ai))))))
theorem sc__law_of_two:FnScope ["_law_word","_law_one","_law_other","_law_kinds"] ["_law_word","_law_one","_law_other"] (aN (top 40)):=⟨rfl,rfl,rfl,by decide +kernel,rfl,by decide +kernel,by decide +kernel⟩
theorem uK (B:Bi K mg) (F:Fun K "_law_of_two" "_law_of_two" (top 40) f fd) (Qab:Fn P w K mg base "_law_stamp" ["_law_value_here"] 25 (spM K 1 (bN 25))):FnOk P w K mg base CX0 26 f fd ["_law_word","_law_one","_law_other"] (spM K 3 (bj)):=dfn F sc__law_of_two fun _ _ _ _ _ _ hr=>(ay (aT (i:=3) sc__law_of_two.nd (cK (af (bS .int B.b_isinstance (ah 1) B.b_int boot_int) (af (bS .int B.b_isinstance (ah 2) B.b_int boot_int) aj)))) (ay (aP (aK bb (ah 0) aq) (aA (aH (de lr rfl B.b_int boot_int (af (cm bb (aJ Qab (rm hr) rfl (af (ah 1) aj) (ap aI)) (aJ Qab (rm hr) rfl (af (ah 2) aj) (ap aI))) aj)))) aV) (ay (aP (aK bb (ah 0) aq) (ay (aP (cA (cY (cW (bw (bS .tup B.b_isinstance (ah 1) B.b_tuple boot_tuple))) (d8 (cW (bw (aw ax (ah 3) ai)))))) (aA (aH cC)) aV) (aA (aH (di (mC eL eK ai (ah 2) (aW ba rfl B.b_len boot_len (af (ah 1) aj))) (aw ax (ah 1) (ah 2)) (aB aj))))) aV) (ay (aP (aK bb (ah 0) aq) (ay (aP (cA (cY (bw (aw ax (ah 3) ai)) (cY (bw (aw ax (ah 3) ai)) (d8 (aK fS (bS .str B.b_isinstance (ah 1) B.b_str boot_str) (bS .str B.b_isinstance (ah 2) B.b_str boot_str)))))) (aA (aH cC)) aV) (aA (aH (aG aQ (ah 1) (ah 2))))) aV) (ay (aP (aK (jI hr) (ah 3) (cK (af dE (af dE aj)))) (aA (aH cC)) aV) (aA (aH (di (aK bb (ah 0) aq) (aG aQ (ah 1) (ah 2)) (de lr rfl B.b_int boot_int (af (cm eK (ah 1) (ah 2)) aj))))))))))
theorem sc__law_told:FnScope ["_law_expr_here","_law_got","_law_parts","_law_part","_law_values","_law_found"] ["_law_expr_here","_law_got"] (aN (top 41)):=⟨rfl,rfl,rfl,by decide +kernel,rfl,by decide +kernel,by decide +kernel⟩
theorem vk (n:Nat) (B:Bi K mg) (F:Fun K "_law_told" "_law_told" (top 41) f fd) (Qad:Fn P w K mg base "_law_told" ["_law_expr_here","_law_got"] (26 + n) (spM K 2 (bq n))) (Qaj:Fn P w K mg base "_law_fits" ["_law_value_here","_law_deep"] 25 (spM K 2 (bV 25))) (Qau:Fn P w K mg base "_law_of_two" ["_law_word","_law_one","_law_other"] 26 (spM K 3 bj)):FnOk P w K mg base CX0 (26 + n + 1) f fd ["_law_expr_here","_law_got"] (spM K 2 (bq (n + 1))):=dfn F sc__law_told fun _ _ _ _ _ _ hr=>(ay (aP (aK bb (aw ax (ah 0) ai) aq) (aA (aH (aB (af aq (af (aw ax (ah 0) ai) aj))))) aV) (ay (aP (aK bb (aw ax (ah 0) ai) aq) (aA (aH (aB (af aq (af (aw ax (ah 1) (aw ax (ah 0) ai)) aj))))) aV) (ay (jq (i:=2) (osc:=aN (top 41)) (N:=["_law_expr_here","_law_got","_law_parts","_law_part","_law_values","_law_found"]) (N':=["_law_expr_here","_law_got","_law_parts",".3.","_law_values","_law_found"]) (x:="_law_part") ⟨rfl,by decide +kernel,by decide +kernel,rfl,by decide +kernel,by decide +kernel,by decide +kernel,by decide +kernel,rfl,by decide +kernel⟩ sc__law_told.nd (cB (di (aK bb (aw ax (ah 0) ai) aq) (aw ax (ah 0) ai) (dD (ah 0) (cJ ai) eW))) (fun C s0 H0 ex=>(aJ Qad (rm hr) rfl (af (ah 0) (af (ah 2) aj)) (ap (ap aI)))) (fun C s0 H0 ex=>cN)) (ay (gn (i:=3) sc__law_told.nd (cB (ah 2)) (aA (aP (aK bb (aw ax (ah 3) ai) aq) (aA (aH (ah 3))) aV))) (ay (jq (i:=4) (osc:=aN (top 41)) (N:=["_law_expr_here","_law_got","_law_parts","_law_part","_law_values","_law_found"]) (N':=["_law_expr_here","_law_got","_law_parts",".3.","_law_values","_law_found"]) (x:="_law_part") ⟨rfl,by decide +kernel,by decide +kernel,rfl,by decide +kernel,by decide +kernel,by decide +kernel,by decide +kernel,rfl,by decide +kernel⟩ sc__law_told.nd (cB (ah 2)) (fun C s0 H0 ex=>(aw ax (ah 0) ai)) (fun C s0 H0 ex=>cN)) (ay (aP (aK bb (aw ax (ah 0) ai) aq) (aA (aH (di (bw (aJ Qaj (rm hr) rfl (af (de fH rfl B.b_tuple boot_tuple (af (ah 4) aj)) (af ai aj)) (ap (ap aI)))) (aB (af aq (af (de fH rfl B.b_tuple boot_tuple (af (ah 4) aj)) aj))) (aB (af aq (af aq aj)))))) aV) (ay (aP (aK bb (aw ax (ah 0) ai) aq) (aA (aH (di (bw (bS .int B.b_isinstance (aw ax (ah 4) ai) B.b_int boot_int)) (aB (af aq (af aq aj))) (aB (af aq (af (aW ba rfl B.b_len boot_len (af (aw ax (ah 4) ai) aj)) aj)))))) aV) (ay (aT (i:=5) sc__law_told.nd (aJ Qau (rm hr) rfl (af (aw ax (ah 0) ai) (af (aw ax (ah 4) ai) (af (aw ax (ah 4) ai) aj))) (ap (ap (ap aI))))) (ay (aP (aK lH (ah 5) cC) (aA (aH (aB (af aq (af aq aj))))) aV) (ay (aP (cA (fK (aK bb (aw ax (ah 0) ai) aq) (gi (cW (mC eL eK ai (aw ax (ah 4) ai) (aW ba rfl B.b_len boot_len (af (aw ax (ah 4) ai) aj))))))) (aA (aH (aB (af aq (af aq aj))))) aV) (aA (aH (di (bw (aJ Qaj (rm hr) rfl (af (ah 5) (af ai aj)) (ap (ap aI)))) (aB (af aq (af (ah 5) aj))) (aB (af aq (af aq aj))))))))))))))))
theorem uE:FnScope ["_law_thing"] ["_law_thing"] (aN (top 42)):=⟨rfl,rfl,rfl,by decide +kernel,rfl,by decide +kernel,by decide +kernel⟩
theorem uH (B:Bi K mg) (F:Fun K "_law_is_name" "_law_is_name" (top 42) f fd)  : FnOk P w K mg base CX0 1 f fd ["_law_thing"] (spM K 1 (bP)):=dfn F uE fun _ _ _ _ _ _ hr=>(ay (aP (cA (cY (cW (bw (bS .str B.b_isinstance (ah 0) B.b_str boot_str))) (d8 (cW (mC eL eL ai (aW ba rfl B.b_len boot_len (af (ah 0) aj)) ai))))) (aA (aH dE)) aV) (aA (aH (aW ja rfl B.b_all boot_all (af (df (osc:=aN (top 42)) (N:=["_law_thing"]) (N':=["_law_thing"]) (x:="_law_sign") ⟨rfl,by decide +kernel,by decide +kernel,rfl,by decide +kernel,by decide +kernel,by decide +kernel,by decide +kernel,rfl,by decide +kernel⟩ (cB (ah 0)) (fun C s0 H0 ex=>(cm uh (ah 0) aq)) (fun C s0 H0 ex=>cN)) aj)))))
theorem sc__law_run:FnScope ["_law_recipe_here","_law_good","_law_got","_law_reads","_law_value_here"] ["_law_recipe_here","_law_good"] (aN (top 43)):=⟨rfl,rfl,rfl,by decide +kernel,rfl,by decide +kernel,by decide +kernel⟩
theorem vN (B:Bi K mg) (F:Fun K "_law_run" "_law_run" (top 43) f fd) (Qad:Fn P w K mg base "_law_told" ["_law_expr_here","_law_got"] 51 (spM K 2 (bq 25))) (Qac:Fn P w K mg base "_law_is_name" ["_law_thing"] 1 (spM K 1 bP)) (Qab:Fn P w K mg base "_law_stamp" ["_law_value_here"] 25 (spM K 1 (bN 25))):FnOk P w K mg base CX0 52 f fd ["_law_recipe_here","_law_good"] (spM K 2 (gH)):=dfn F sc__law_run fun _ _ _ _ _ _ hr=>(ay (fF (i:=2) sc__law_run.nd aj) (ay (fF (i:=3) sc__law_run.nd aj) (ay (jn 100000 (aK mN (aw ax (ah 0) ai) (aB (af aq (af aq aj)))) (ay (aT (i:=4) sc__law_run.nd (kb Qad (rm hr) rfl (af (aw ax (ah 0) ai) (af (ah 2) aj)) (ap (ap aI)))) (ay (aP (aK bb (aw ax (ah 4) ai) aq) (aA (aH (aB (af (de fH rfl B.b_tuple boot_tuple (af (ah 3) aj)) (af (ah 4) (af cC aj)))))) aV) (aA (aP (aK bb (aw ax (ah 0) ai) aq) (aA (aT (i:=0) sc__law_run.nd (di (aK (tF hr) (aw ax (ah 4) ai) (aB (af ai (af aq (af (aB aj) aj))))) (aw ax (ah 0) ai) (aw ax (ah 0) ai)))) (aA (aP (cW (bw (aJ Qac (rm hr) rfl (af (aw ax (ah 4) ai) aj) (ap aI)))) (aA (aH (aB (af (de fH rfl B.b_tuple boot_tuple (af (ah 3) aj)) (af (aB (af aq (af aq aj))) (af cC aj)))))) (aA (aP (aK (xY hr) (aw ax (ah 4) ai) (ah 1)) (aA (aH (aB (af (de fH rfl B.b_tuple boot_tuple (af (ah 3) aj)) (af (aB (af aq (af (aw ax (ah 4) ai) aj))) (af cC aj)))))) (ay (fh (i:=2) (by exact (aw (kT hr) (ah 1) (aw ax (ah 4) ai)))) (ay (aP (aK bb (aw ax (ah 0) ai) aq) (aA (fh (i:=3) (by exact (aB (af (aw ax (ah 4) ai) (af (aJ Qab (rm hr) rfl (af (aw ax (ah 2) (nI ai)) aj) (ap aI)) aj)))))) aV) (aA (aT (i:=0) sc__law_run.nd (aw ax (ah 0) ai)))))))))))))) (ay (aT (i:=4) sc__law_run.nd (aB (af aq (af (aw ax (ah 0) ai) aj)))) (ay (aP (aK bb (aw ax (ah 0) ai) aq) (aA (aT (i:=4) sc__law_run.nd (kb Qad (rm hr) rfl (af (aw ax (ah 0) ai) (af (ah 2) aj)) (ap (ap aI))))) aV) (ay (aP (aK bb (aw ax (ah 4) ai) aq) (aA (aH (aB (af (de fH rfl B.b_tuple boot_tuple (af (ah 3) aj)) (af (ah 4) (af cC aj)))))) aV) (aA (aH (aB (af (de fH rfl B.b_tuple boot_tuple (af (ah 3) aj)) (af (aB (af aq (af (aJ Qab (rm hr) rfl (af (aw ax (ah 4) ai) aj) (ap aI)) aj))) (af (aw ax (ah 4) ai) aj))))))))))))
theorem sc__law_one_line:FnScope ["_law_script","_law_k","_law_reads","_law_j","_law_name","_law_ends"] ["_law_script","_law_k"] (aN (top 44)):=⟨rfl,rfl,rfl,by decide +kernel,rfl,by decide +kernel,by decide +kernel⟩
theorem uC (B:Bi K mg) (F:Fun K "_law_one_line" "_law_one_line" (top 44) f fd) (Qaa:Fn P w K mg base "_law_draw" ["_law_script","_law_k","_law_many"] 1 (spM K 3 aU)):FnOk P w K mg base CX0 2 f fd ["_law_script","_law_k"] (spM K 2 (cS)):=dfn F sc__law_one_line fun _ _ _ _ _ _ hr=>(ay (fF (i:=2) sc__law_one_line.nd aj) (ay (gn (i:=3) sc__law_one_line.nd (gj rfl B.b_range (aJ Qaa (rm hr) rfl (af (ah 0) (af (ah 1) (af ai aj))) (ap (ap (ap aI))))) (ay (aT (i:=4) sc__law_one_line.nd (aw ax (cK (af aq (af aq (af aq (af aq aj))))) (aJ Qaa (rm hr) rfl (af (ah 0) (af (aG aQ (aG aQ (ah 1) ai) (aG cQ ai (ah 3))) (af ai aj))) (ap (ap (ap aI)))))) (aA (fh (i:=2) (by exact (aB (af (ah 4) (af (aw ax (cK (af aq (af aq (af aq aj)))) (aJ Qaa (rm hr) rfl (af (ah 0) (af (aG aQ (aG aQ (ah 1) ai) (aG cQ ai (ah 3))) (af ai aj))) (ap (ap (ap aI))))) aj)))))))) (ay (fF (i:=5) sc__law_one_line.nd (af (aB (af aq (af aq aj))) (af (aB (af aq (af aq aj))) (af (aB (af aq (af aq aj))) (af (aB (af aq (af aq aj))) (af (aB (af aq (af aq aj))) (af (aB (af aq (af aq aj))) aj))))))) (ay (fh (i:=5) (by exact (aB (af aq (af aq aj))))) (aA (aH (aB (af (aw ax (cK (af aq (af aq (af aq aj)))) (aJ Qaa (rm hr) rfl (af (ah 0) (af (aG aQ (ah 1) ai) (af ai aj))) (ap (ap (ap aI))))) (af (de fH rfl B.b_tuple boot_tuple (af (ah 2) aj)) (af (aw ax (ah 5) (aJ Qaa (rm hr) rfl (af (ah 0) (af (aG aQ (ah 1) ai) (af ai aj))) (ap (ap (ap aI))))) aj))))))))))
theorem sc__law_steps:FnScope ["_law_line","_law_steps_here"] ["_law_line"] (aN (top 45)):=⟨rfl,rfl,rfl,by decide +kernel,rfl,by decide +kernel,by decide +kernel⟩
theorem uU (B:Bi K mg) (F:Fun K "_law_steps" "_law_steps" (top 45) f fd)  : FnOk P w K mg base CX0 1 f fd ["_law_line"] (spM K 1 (f7)):=dfn F sc__law_steps fun _ _ _ _ _ _ hr=>(ay (yo (i:=1) sc__law_steps.nd (osc:=aN (top 45)) (N:=["_law_line","_law_steps_here"]) (N':=["_law_line","_law_steps_here"]) (x:="_law_name") (y:="_law_stamp_here") ⟨rfl,by decide +kernel,by decide +kernel,by decide +kernel,by decide +kernel,by decide +kernel,by decide +kernel,by decide +kernel,rfl,by decide +kernel⟩ (cB (aw ax (ah 0) ai)) (fun C s0 H0 ex=>(aB (af (aB (af aq (af (ah 0) aj))) (af (ah 1) aj)))) (fun C s0 H0 ex=>cN)) (aA (aH (aG aQ (ah 1) (cK (af (aB (af (aw ax (ah 0) ai) (af cC aj))) aj))))))
theorem sc__law_odds:FnScope ["_law_one","_law_other","_law_mine","_law_its"] ["_law_one","_law_other"] (aN (top 46)):=⟨rfl,rfl,rfl,by decide +kernel,rfl,by decide +kernel,by decide +kernel⟩
theorem vm (B:Bi K mg) (F:Fun K "_law_odds" "_law_odds" (top 46) f fd) (Qar:Fn P w K mg base "_law_steps" ["_law_line"] 1 (spM K 1 f7)):FnOk P w K mg base CX0 2 f fd ["_law_one","_law_other"] (spM K 2 (f9)):=dfn F sc__law_odds fun _ _ _ _ _ _ hr=>(ay (z8 (i:=2) (j:=3) B.b_zip sc__law_odds.nd (aJ Qar (rm hr) rfl (af (ah 0) aj) (ap aI)) (aJ Qar (rm hr) rfl (af (ah 1) aj) (ap aI)) (ay (aP (aK (jI hr) (aw ax (ah 2) ai) (aw ax (ah 3) ai)) (aA (aH dE)) aV) (aA (aP (aK (jI hr) (aw ax (ah 2) ai) (aw ax (ah 3) ai)) (aA (aH dE)) aV)))) (aA (aH dE)))
theorem sc__law_sizes:FnScope ["_law_thing","_law_many","_law_bad","_law_fine","_law_parts","_law_sizes_here"] ["_law_thing","_law_many"] (aN (top 47)):=⟨rfl,rfl,rfl,by decide +kernel,rfl,by decide +kernel,by decide +kernel⟩
theorem uW (n:Nat) (B:Bi K mg) (F:Fun K "_law_sizes" "_law_sizes" (top 47) f fd) (Qal:Fn P w K mg base "_law_sizes" ["_law_thing","_law_many"] (0 + n) (spM K 2 (dY n))):FnOk P w K mg base CX0 (0 + n + 1) f fd ["_law_thing","_law_many"] (spM K 2 (dY (n + 1))):=dfn F sc__law_sizes fun _ _ _ _ _ _ hr=>(ay (aT (i:=2) sc__law_sizes.nd (aB (af ai (af ai aj)))) (ay (aP (cA (cY (cW (bw (bS .tup B.b_isinstance (ah 0) B.b_tuple boot_tuple))) (cY (aK eK (aW ba rfl B.b_len boot_len (af (ah 0) aj)) ai) (d8 (cW (bw (bS .str B.b_isinstance (aw ax (ah 0) ai) B.b_str boot_str))))))) (aA (aH (ah 2))) aV) (ay (aP (cA (fK (aK bb (aw ax (ah 0) ai) aq) (gi (aK bb (aW ba rfl B.b_len boot_len (af (ah 0) aj)) ai)))) (aA (aH (di (cA (fK (bw (xg B.b_isinstance (aw ax (ah 0) ai) B.b_int B.b_str B.b_tuple)) (gi (cW (bw (bS .bl B.b_isinstance (aw ax (ah 0) ai) B.b_bool boot_bool)))))) (aB (af ai (af ai aj))) (ah 2)))) aV) (ay (aP (cA (fK (aK bb (aw ax (ah 0) ai) aq) (gi (aK bb (aW ba rfl B.b_len boot_len (af (ah 0) aj)) ai)))) (ay (aT (i:=3) sc__law_sizes.nd (dQ (bS .int B.b_isinstance (aw ax (ah 0) ai) B.b_int boot_int) (dQ (kQ (bS .bl B.b_isinstance (aw ax (ah 0) ai) B.b_bool boot_bool)) (fi (qi eL eK ai (aw ax (ah 0) ai) (ah 1)))))) (aA (aH (di (bw (ah 3)) (aB (af ai (af ai aj))) (ah 2))))) aV) (ay (aT (i:=4) sc__law_sizes.nd (dD (ah 0) (cJ ai) eW)) (ay (aP (cA (fK (aK bb (aw ax (ah 0) ai) aq) (fK (aK bb (aW ba rfl B.b_len boot_len (af (ah 0) aj)) ai) (gi (bw (bS .tup B.b_isinstance (aw ax (ah 0) ai) B.b_tuple boot_tuple)))))) (aA (aT (i:=4) sc__law_sizes.nd (aw ax (ah 0) ai))) (aA (aP (aK fS (aW ba rfl B.b_len boot_len (af (ah 0) aj)) (rn hr (rp (dN ai (dN ai (dN ai (dN ai (dN ai (dN ai nG))))))) (aw ax (ah 0) ai) ai)) (aA (aH (ah 2))) aV))) (ay (jq (i:=5) (osc:=aN (top 47)) (N:=["_law_thing","_law_many","_law_bad","_law_fine","_law_parts","_law_sizes_here"]) (N':=["_law_thing","_law_many","_law_bad","_law_fine","_law_parts","_law_sizes_here"]) (x:="_law_part") ⟨rfl,by decide +kernel,by decide +kernel,rfl,by decide +kernel,by decide +kernel,by decide +kernel,by decide +kernel,rfl,by decide +kernel⟩ sc__law_sizes.nd (cB (ah 4)) (fun C s0 H0 ex=>(aJ Qal (rm hr) rfl (af (ah 0) (af (ah 2) aj)) (ap (ap aI)))) (fun C s0 H0 ex=>cN)) (aA (aH (aB (af (aG aQ ai (aW n8 rfl B.b_sum boot_sum (af (df (osc:=aN (top 47)) (N:=["_law_thing","_law_many","_law_bad","_law_fine","_law_parts","_law_sizes_here"]) (N':=["_law_thing","_law_many","_law_bad","_law_fine","_law_parts","_law_sizes_here"]) (x:="_law_size") ⟨rfl,by decide +kernel,by decide +kernel,rfl,by decide +kernel,by decide +kernel,by decide +kernel,by decide +kernel,rfl,by decide +kernel⟩ (cB (ah 5)) (fun C s0 H0 ex=>(aw ax (ah 0) ai)) (fun C s0 H0 ex=>cN)) aj))) (af (aG aQ ai (Ac B.b_max (df (osc:=aN (top 47)) (N:=["_law_thing","_law_many","_law_bad","_law_fine","_law_parts","_law_sizes_here"]) (N':=["_law_thing","_law_many","_law_bad","_law_fine","_law_parts","_law_sizes_here"]) (x:="_law_size") ⟨rfl,by decide +kernel,by decide +kernel,rfl,by decide +kernel,by decide +kernel,by decide +kernel,by decide +kernel,rfl,by decide +kernel⟩ (cB (ah 5)) (fun C s0 H0 ex=>(aw ax (ah 0) ai)) (fun C s0 H0 ex=>cN)) ai)) aj))))))))))))
theorem sc__law_recipe_sizes:FnScope ["_law_thing","_law_many","_law_bad","_law_sizes_here","_law_part"] ["_law_thing","_law_many"] (aN (top 48)):=⟨rfl,rfl,rfl,by decide +kernel,rfl,by decide +kernel,by decide +kernel⟩
theorem uy (n:Nat) (B:Bi K mg) (F:Fun K "_law_recipe_sizes" "_law_recipe_sizes" (top 48) f fd) (Qac:Fn P w K mg base "_law_is_name" ["_law_thing"] 1 (spM K 1 bP)) (Qal:Fn P w K mg base "_law_sizes" ["_law_thing","_law_many"] 25 (spM K 2 (dY 25))) (Qag:Fn P w K mg base "_law_recipe_sizes" ["_law_thing","_law_many"] (25 + n) (spM K 2 (dG n))):FnOk P w K mg base CX0 (25 + n + 1) f fd ["_law_thing","_law_many"] (spM K 2 (dG (n + 1))):=dfn F sc__law_recipe_sizes fun _ _ _ _ _ _ hr=>(ay (aT (i:=2) sc__law_recipe_sizes.nd (aB (af ai (af ai aj)))) (ay (aP (cA (cY (cW (bw (bS .tup B.b_isinstance (ah 0) B.b_tuple boot_tuple))) (cY (aK eK (aW ba rfl B.b_len boot_len (af (ah 0) aj)) ai) (d8 (aK fT (ah 1) ai))))) (aA (aH (ah 2))) aV) (ay (aP (aK bb (aw ax (ah 0) ai) aq) (aA (aH (di (cA (fK (aK bb (aW ba rfl B.b_len boot_len (af (ah 0) aj)) ai) (gi (bw (aJ Qac (rm hr) rfl (af (aw ax (ah 0) ai) aj) (ap aI)))))) (aB (af ai (af ai aj))) (ah 2)))) aV) (ay (aP (aK fS (aW ba rfl B.b_len boot_len (af (ah 0) aj)) (rn hr (rp (dN ai (dN ai (dN ai nG)))) (aw ax (ah 0) ai) ai)) (aA (aH (ah 2))) aV) (ay (fF (i:=3) sc__law_recipe_sizes.nd (af (aJ Qal (rm hr) rfl (af (aw ax (ah 0) ai) (af (ah 1) aj)) (ap (ap aI))) aj)) (ay (gn (i:=4) sc__law_recipe_sizes.nd (cB (dD (ah 0) (cJ ai) eW)) (aA (fh (i:=3) (by exact (aJ Qag (rm hr) rfl (af (ah 4) (af (aG aQ (ah 1) (de lr rfl B.b_int boot_int (af (cm bb (aw ax (ah 0) ai) aq) aj))) aj)) (ap (ap aI))))))) (aA (aH (aB (af (aG aQ ai (aW n8 rfl B.b_sum boot_sum (af (df (osc:=aN (top 48)) (N:=["_law_thing","_law_many","_law_bad","_law_sizes_here","_law_part"]) (N':=["_law_thing","_law_many","_law_bad","_law_sizes_here","_law_part"]) (x:="_law_size") ⟨rfl,by decide +kernel,by decide +kernel,rfl,by decide +kernel,by decide +kernel,by decide +kernel,by decide +kernel,rfl,by decide +kernel⟩ (cB (ah 3)) (fun C s0 H0 ex=>(aw ax (ah 0) ai)) (fun C s0 H0 ex=>cN)) aj))) (af (aG aQ ai (aW BV rfl B.b_max boot_max (af (df (osc:=aN (top 48)) (N:=["_law_thing","_law_many","_law_bad","_law_sizes_here","_law_part"]) (N':=["_law_thing","_law_many","_law_bad","_law_sizes_here","_law_part"]) (x:="_law_size") ⟨rfl,by decide +kernel,by decide +kernel,rfl,by decide +kernel,by decide +kernel,by decide +kernel,by decide +kernel,rfl,by decide +kernel⟩ (cB (ah 3)) (fun C s0 H0 ex=>(aw ax (ah 0) ai)) (fun C s0 H0 ex=>cN)) aj))) aj)))))))))))
theorem sc__law_right:FnScope ["_law_recipe_here","_law_line","_law_values","_law_got","_law_value_here"] ["_law_recipe_here","_law_line","_law_values"] (aN (top 49)):=⟨rfl,rfl,rfl,by decide +kernel,rfl,by decide +kernel,by decide +kernel⟩
theorem uX (B:Bi K mg) (F:Fun K "_law_right" "_law_right" (top 49) f fd) (Qad:Fn P w K mg base "_law_told" ["_law_expr_here","_law_got"] 51 (spM K 2 (bq 25))) (Qac:Fn P w K mg base "_law_is_name" ["_law_thing"] 1 (spM K 1 bP)) (Qab:Fn P w K mg base "_law_stamp" ["_law_value_here"] 25 (spM K 1 (bN 25))):FnOk P w K mg base CX0 52 f fd ["_law_recipe_here","_law_line","_law_values"] (spM K 3 (fA)):=dfn F sc__law_right fun _ _ _ _ _ _ hr=>(ay (fF (i:=3) sc__law_right.nd aj) (ay (jn 100000 (aK mN (aw ax (ah 0) ai) (aB (af aq (af aq aj)))) (ay (aT (i:=4) sc__law_right.nd (kb Qad (rm hr) rfl (af (aw ax (ah 0) ai) (af (ah 3) aj)) (ap (ap aI)))) (ay (aP (aK bb (aw ax (ah 4) ai) aq) (aA (aH (dQ (cm bb (aW ba rfl B.b_len boot_len (af (ah 3) aj)) (aW ba rfl B.b_len boot_len (af (aw ax (ah 1) ai) aj))) (fi (cm (iW hr) (aw ax (ah 1) ai) (ah 4)))))) aV) (aA (aP (aK bb (aw ax (ah 0) ai) aq) (aA (aT (i:=0) sc__law_right.nd (di (aK (tF hr) (aw ax (ah 4) ai) (aB (af ai (af aq (af (aB aj) aj))))) (aw ax (ah 0) ai) (aw ax (ah 0) ai)))) (aA (aP (cW (bw (aJ Qac (rm hr) rfl (af (aw ax (ah 4) ai) aj) (ap aI)))) (aA (aH (dQ (cm bb (aW ba rfl B.b_len boot_len (af (ah 3) aj)) (aW ba rfl B.b_len boot_len (af (aw ax (ah 1) ai) aj))) (fi (cm (iW hr) (aw ax (ah 1) ai) (aB (af aq (af aq aj)))))))) (aA (aP (aK bb (aW ba rfl B.b_len boot_len (af (ah 3) aj)) (aW ba rfl B.b_len boot_len (af (aw ax (ah 1) ai) aj))) (aA (aH (cm (iW hr) (aw ax (ah 1) ai) (aB (af aq (af (aw ax (ah 4) ai) aj)))))) (aA (aP (aK fS (aw ax (aw ax (aw ax (ah 1) ai) (aW ba rfl B.b_len boot_len (af (ah 3) aj))) ai) (aw ax (ah 4) ai)) (aA (aH dE)) (ay (fh (i:=3) (by exact (aw (kT hr) (ah 2) (aw ax (aw ax (aw ax (ah 1) ai) (aW ba rfl B.b_len boot_len (af (ah 3) aj))) ai)))) (aA (aT (i:=0) sc__law_right.nd (aw ax (ah 0) ai))))))))))))))) (ay (aP (aK fS (aW ba rfl B.b_len boot_len (af (ah 3) aj)) (aW ba rfl B.b_len boot_len (af (aw ax (ah 1) ai) aj))) (aA (aH dE)) aV) (ay (aP (aK bb (aw ax (ah 0) ai) aq) (aA (aH (cm (iW hr) (aw ax (ah 1) ai) (aB (af aq (af (aw ax (ah 0) ai) aj)))))) aV) (ay (aT (i:=4) sc__law_right.nd (kb Qad (rm hr) rfl (af (aw ax (ah 0) ai) (af (ah 3) aj)) (ap (ap aI)))) (aA (aH (cm (iW hr) (aw ax (ah 1) ai) (di (aK bb (aw ax (ah 4) ai) aq) (ah 4) (aB (af aq (af (aJ Qab (rm hr) rfl (af (aw ax (ah 4) ai) aj) (ap aI)) aj))))))))))))
theorem sc__law_doings:FnScope ["_law_script","_law_k","_law_names_here","_law_recipe_here","_law_values","_law_lines","_law_j","_law_good","_law_i"] ["_law_script","_law_k"] (aN (top 50)):=⟨rfl,rfl,rfl,by decide +kernel,rfl,by decide +kernel,by decide +kernel⟩
theorem uL (B:Bi K mg) (F:Fun K "_law_doings" "_law_doings" (top 50) f fd) (Qba:Fn P w K mg base "_law_names" ["_law_script","_law_k"] 2 (spM K 2 gY)) (Qav:Fn P w K mg base "_law_recipe" ["_law_script","_law_k","_law_names_here","_law_ways"] 4 (spM K 4 gX)) (Qaa:Fn P w K mg base "_law_draw" ["_law_script","_law_k","_law_many"] 1 (spM K 3 aU)) (Qae:Fn P w K mg base "_law_value" ["_law_script","_law_k","_law_names_here"] 2 (spM K 3 eC)) (Qab:Fn P w K mg base "_law_stamp" ["_law_value_here"] 25 (spM K 1 (bN 25))) (Qbl:Fn P w K mg base "_law_run" ["_law_recipe_here","_law_good"] 52 (spM K 2 gH)):FnOk P w K mg base CX0 53 f fd ["_law_script","_law_k"] (spO K 2 (eP)):=DV F sc__law_doings fun _ _ _ _ _ _ hr=>(ay (aT (i:=2) sc__law_doings.nd (aJ Qba (rm hr) rfl (af (ah 0) (af (ah 1) aj)) (ap (ap aI)))) (ay (aT (i:=3) sc__law_doings.nd (aJ Qav (rm hr) rfl (af (ah 0) (af (aG aQ (ah 1) ai) (af (ah 2) (af ai aj)))) (ap (ap (ap (ap aI)))))) (ay (qY (i:=4) sc__law_doings.nd) (ay (fF (i:=5) sc__law_doings.nd aj) (ay (gn (i:=6) sc__law_doings.nd (gj rfl B.b_range (aG aQ ai (aJ Qaa (rm hr) rfl (af (ah 0) (af (aG aQ (ah 1) ai) (af ai aj))) (ap (ap (ap aI)))))) (ay (qY (i:=7) sc__law_doings.nd) (ay (gn (i:=8) sc__law_doings.nd (gj rfl B.b_range (aW ba rfl B.b_len boot_len (af (ah 2) aj))) (aA (aP (aK fT (aJ Qaa (rm hr) rfl (af (ah 0) (af (aG aQ (aG aQ (aG aQ (ah 1) ai) (aG cQ ai (ah 6))) (aG cQ ai (ah 8))) (af ai aj))) (ap (ap (ap aI)))) ai) (ay (qZ (i:=7) hr (aw ax (ah 2) (ah 8)) (aJ Qae (rm hr) rfl (af (ah 0) (af (aG aQ (aG aQ (aG aQ (ah 1) ai) (aG cQ ai (ah 6))) (aG cQ ai (ah 8))) (af (ah 2) aj))) (ap (ap (ap aI))))) (aA (qZ (i:=4) hr (aJ Qab (rm hr) rfl (af (aw (kT hr) (ah 7) (aw ax (ah 2) (ah 8))) aj) (ap aI)) (aw (kT hr) (ah 7) (aw ax (ah 2) (ah 8)))))) aV))) (aA (fh (i:=5) (by exact (Ad (aG aQ (aB (af aq aj)) (dD (aJ Qbl (rm hr) rfl (af (ah 3) (af (ah 7) aj)) (ap (ap aI))) eW (cJ ai)))))))))) (aA (yp (i:=5) (j:=4))))))))
theorem sc__law_wide:FnScope ["_law_script","_law_k","_law_stamps","_law_lines","_law_j","_law_line","_law_reads"] ["_law_script","_law_k"] (aN (top 51)):=⟨rfl,rfl,rfl,by decide +kernel,rfl,by decide +kernel,by decide +kernel⟩
theorem vj (B:Bi K mg) (F:Fun K "_law_wide" "_law_wide" (top 51) f fd) (Qaf:Fn P w K mg base "_law_one_line" ["_law_script","_law_k"] 2 (spM K 2 cS)) (Qaa:Fn P w K mg base "_law_draw" ["_law_script","_law_k","_law_many"] 1 (spM K 3 aU)):FnOk P w K mg base CX0 3 f fd ["_law_script","_law_k"] (spM K 2 (g8)):=dfn F sc__law_wide fun _ _ _ _ _ _ hr=>(ay (aT (i:=2) sc__law_wide.nd (cK (af aq (af aq (af aq (af aq (af aq aj))))))) (ay (fF (i:=3) sc__law_wide.nd aj) (ay (gn (i:=4) sc__law_wide.nd (gj rfl B.b_range ai) (ay (aT (i:=5) sc__law_wide.nd (aJ Qaf (rm hr) rfl (af (ah 0) (af (aG aQ (ah 1) (aG cQ ai (ah 4))) aj)) (ap (ap aI)))) (ay (fF (i:=6) sc__law_wide.nd (af (aB (af aq (af (aw ax (ah 2) (aG gL (aG aQ (aJ Qaa (rm hr) rfl (af (ah 0) (af (aG aQ (ah 1) ai) (af ai aj))) (ap (ap (ap aI)))) (ah 4)) ai)) aj))) aj)) (ay (fh (i:=6) (by exact (aB (af aq (af (aw ax (ah 2) (aJ Qaa (rm hr) rfl (af (ah 0) (af (aG aQ (aG aQ (ah 1) ai) (aG cQ ai (ah 4))) (af ai aj))) (ap (ap (ap aI))))) aj))))) (ay (fh (i:=6) (by exact (aB (af aq (af (aw ax (ah 2) (aJ Qaa (rm hr) rfl (af (ah 0) (af (aG aQ (aG aQ (ah 1) ai) (aG cQ ai (ah 4))) (af ai aj))) (ap (ap (ap aI))))) aj))))) (aA (fh (i:=3) (by exact (aB (af (aw ax (ah 5) ai) (af (de fH rfl B.b_tuple boot_tuple (af (dD (ah 6) eW (cJ (aG aQ ai (aJ Qaa (rm hr) rfl (af (ah 0) (af (aG aQ (aG aQ (ah 1) ai) (aG cQ ai (ah 4))) (af ai aj))) (ap (ap (ap aI))))))) aj)) (af (aw ax (ah 5) ai) aj)))))))))))) (aA (aH (ah 3))))))
theorem sc__law_answer_right:FnScope ["_law_lines","_law_values","_law_found","_law_pairs","_law_i","_law_fine","_law_sizes_here"] ["_law_lines","_law_values","_law_found"] (aN (top 52)):=⟨rfl,rfl,rfl,by decide +kernel,rfl,by decide +kernel,by decide +kernel⟩
theorem uz (B:Bi K mg) (F:Fun K "_law_answer_right" "_law_answer_right" (top 52) f fd) (Qbh:Fn P w K mg base "_law_odds" ["_law_one","_law_other"] 2 (spM K 2 f9)) (Qag:Fn P w K mg base "_law_recipe_sizes" ["_law_thing","_law_many"] 50 (spM K 2 (dG 25))) (Qbb:Fn P w K mg base "_law_right" ["_law_recipe_here","_law_line","_law_values"] 52 (spM K 3 fA)):FnOk P w K mg base CX0 53 f fd ["_law_lines","_law_values","_law_found"] (spM K 3 (dH)):=dfn F sc__law_answer_right fun _ _ _ _ _ _ hr=>(ay (aT (i:=3) sc__law_answer_right.nd (cK aj)) (ay (gn (i:=4) sc__law_answer_right.nd (gj rfl B.b_range (aW ba rfl B.b_len boot_len (af (ah 0) aj))) (aA (aT (i:=3) sc__law_answer_right.nd (aG aQ (ah 3) (df (osc:=aN (top 52)) (N:=["_law_lines","_law_values","_law_found","_law_pairs","_law_i","_law_fine","_law_sizes_here"]) (N':=["_law_lines","_law_values","_law_found","_law_pairs","_law_i","_law_fine","_law_sizes_here"]) (x:="_law_j") ⟨rfl,by decide +kernel,by decide +kernel,rfl,by decide +kernel,by decide +kernel,by decide +kernel,by decide +kernel,rfl,by decide +kernel⟩ (z9 rfl B.b_range (aG aQ (ah 4) ai) (aW ba rfl B.b_len boot_len (af (ah 0) aj))) (fun C s0 H0 ex=>(aB (af (ah 5) (af (ah 0) aj)))) (fun C s0 H0 ex=>km rfl (bw (aJ Qbh (rm hr) rfl (af (aw ax (ah 1) (ah 5)) (af (aw ax (ah 1) (ah 0)) aj)) (ap (ap aI)))))))))) (ay (aP (cA (cY (cW (bw (bS .tup B.b_isinstance (ah 2) B.b_tuple boot_tuple))) (d8 (aK eK (aW ba rfl B.b_len boot_len (af (ah 2) aj)) ai)))) (aA (aH dE)) aV) (ay (aP (aK fT (aW ba rfl B.b_len boot_len (af (ah 3) aj)) ai) (ay (aT (i:=5) sc__law_answer_right.nd (dQ (cm bb (aW ba rfl B.b_len boot_len (af (ah 2) aj)) ai) (fi (aW ja rfl B.b_all boot_all (af (df (osc:=aN (top 52)) (N:=["_law_lines","_law_values","_law_found","_law_pairs","_law_i","_law_fine","_law_sizes_here"]) (N':=["_law_lines","_law_values","_law_found","_law_pairs","_law_i","_law_fine","_law_sizes_here"]) (x:="_law_at") ⟨rfl,by decide +kernel,by decide +kernel,rfl,by decide +kernel,by decide +kernel,by decide +kernel,by decide +kernel,rfl,by decide +kernel⟩ (cB (dD (ah 2) (cJ ai) eW)) (fun C s0 H0 ex=>(dQ (bS .int B.b_isinstance (ah 0) B.b_int boot_int) (fi (kQ (bS .bl B.b_isinstance (ah 0) B.b_bool boot_bool))))) (fun C s0 H0 ex=>cN)) aj))))) (aA (aH (dQ (ah 5) (dQ (cm bb (aw ax (ah 2) ai) aq) (fi (cm (Bk hr) (dD (ah 2) (cJ ai) eW) (ah 3)))))))) aV) (ay (aP (cA (cY (aK fS (aW ba rfl B.b_len boot_len (af (ah 2) aj)) ai) (d8 (aK fS (aw ax (ah 2) ai) aq)))) (aA (aH dE)) aV) (ay (aT (i:=6) sc__law_answer_right.nd (aJ Qag (rm hr) rfl (af (aw ax (ah 2) ai) (af ai aj)) (ap (ap aI)))) (ay (aP (cA (cY (aK fT (aw ax (ah 6) ai) ai) (d8 (aK fT (aw ax (ah 6) ai) ai)))) (aA (aH dE)) aV) (aA (aH (aW ja rfl B.b_all boot_all (af (df (osc:=aN (top 52)) (N:=["_law_lines","_law_values","_law_found","_law_pairs","_law_i","_law_fine","_law_sizes_here"]) (N':=["_law_lines","_law_values","_law_found","_law_pairs","_law_i","_law_fine","_law_sizes_here"]) (x:="_law_line") ⟨rfl,by decide +kernel,by decide +kernel,rfl,by decide +kernel,by decide +kernel,by decide +kernel,by decide +kernel,rfl,by decide +kernel⟩ (cB (ah 0)) (fun C s0 H0 ex=>(aJ Qbb (rm hr) rfl (af (aw ax (ah 3) ai) (af (ah 0) (af (ah 2) aj))) (ap (ap (ap aI))))) (fun C s0 H0 ex=>cN)) aj)))))))))))
theorem sc_law:FnScope ["_law_script","_law_lines","_law_values","_law_more","_law_kept","_law_found"] ["_law_script"] (aN (top 53)):=⟨rfl,rfl,rfl,by decide +kernel,rfl,by decide +kernel,by decide +kernel⟩
theorem Bh (B:Bi K mg) (F:Fun K "law" "law" (top 53) f fd) (Qaa:Fn P w K mg base "_law_draw" ["_law_script","_law_k","_law_many"] 1 (spM K 3 aU)) (Qaf:Fn P w K mg base "_law_one_line" ["_law_script","_law_k"] 2 (spM K 2 cS)) (Qbi:Fn P w K mg base "_law_wide" ["_law_script","_law_k"] 3 (spM K 2 g8)) (Qaw:Fn P w K mg base "_law_doings" ["_law_script","_law_k"] 53 (spO K 2 eP)) (Qas:Fn P w K mg base "honest_by" ["lines"] 57 (spM K 1 dI)) (Qah:Fn P w K mg base "_law_answer_right" ["_law_lines","_law_values","_law_found"] 53 (spM K 3 dH)):FnOk P w K mg base CX0 58 f fd ["_law_script"] (spM K 1 (kZ)):=dfn F sc_law fun _ _ _ _ _ _ hr=>(ay (jq (i:=1) (osc:=aN (top 53)) (N:=["_law_script","_law_lines","_law_values","_law_more","_law_kept","_law_found"]) (N':=["_law_script","_law_lines","_law_values","_law_more","_law_kept","_law_found"]) (x:="_law_j") ⟨rfl,by decide +kernel,by decide +kernel,rfl,by decide +kernel,by decide +kernel,by decide +kernel,by decide +kernel,rfl,by decide +kernel⟩ sc_law.nd (gj rfl B.b_range (aJ Qaa (rm hr) rfl (af (ah 0) (af ai (af ai aj))) (ap (ap (ap aI))))) (fun C s0 H0 ex=>(aJ Qaf (rm hr) rfl (af (ah 1) (af (aG aQ ai (aG cQ ai (ah 0))) aj)) (ap (ap aI)))) (fun C s0 H0 ex=>cN)) (ay (yn (i:=2) sc_law.nd (dN ai (dN aq (dN (aB aj) (dN aq (dN (aB (af ai aj)) nG)))))) (ay (aP (aK bb (aJ Qaa (rm hr) rfl (af (ah 0) (af ai (af ai aj))) (ap (ap (ap aI)))) ai) (aA (aT (i:=1) sc_law.nd (aJ Qbi (rm hr) rfl (af (ah 0) (af ai aj)) (ap (ap aI))))) aV) (ay (aP (aK bb (aJ Qaa (rm hr) rfl (af (ah 0) (af ai (af ai aj))) (ap (ap (ap aI)))) ai) (ay (z7 (i:=1) (j:=3) Qaw (rm hr) rfl sc_law.nd (af (ah 0) (af ai aj)) (ap (ap aI))) (mU 3 (ay (BN (i:=2) (by exact (ah 3))) (aA (aP (aK bb (aJ Qaa (rm hr) rfl (af (ah 0) (af ai (af ai aj))) (ap (ap (ap aI)))) ai) (aA (BO (i:=1) (by exact (aJ Qaa (rm hr) rfl (af (ah 0) (af ai (af (aG aQ (aW ba rfl B.b_len boot_len (af (ah 1) aj)) ai) aj))) (ap (ap (ap aI))))) (by exact (aJ Qaf (rm hr) rfl (af (ah 0) (af ai aj)) (ap (ap aI)))))) aV))))) aV) (mU 2 (mU 1 (ay (aT (i:=4) sc_law.nd (de BW rfl B.b_list boot_list (af (ah 1) aj))) (ay (aT (i:=5) sc_law.nd (aJ Qas (rm hr) rfl (af (ah 1) aj) (ap aI))) (ay (aP (cA (cY (aK (jI hr) (ah 1) (ah 4)) (d8 (cW (bw (aJ Qah (rm hr) rfl (af (ah 4) (af (ah 2) (af (ah 5) aj))) (ap (ap (ap aI))))))))) (aA (aH dE)) aV) (aA (aH (aJ Qah (rm hr) rfl (af (dD (ah 4) eW (cJ ai)) (af (ah 2) (af (aJ Qas (rm hr) rfl (af (dD (ah 4) eW (cJ ai)) aj) (ap aI)) aj))) (ap (ap (ap aI)))))))))))))))
theorem dF {α:Type} {us:List α} (h:us.length=1):∃ a,us=[a]:=List.length_eq_one_iff.mp h
theorem bU {α:Type}:∀ {us:List α},us.length=2→∃ a b,us=[a,b]
 | [a,b],_=>⟨a,b,rfl⟩
theorem fW {α:Type}:∀ {us:List α},us.length=3→∃ a b c,us=[a,b,c]
 | [a,b,c],_=>⟨a,b,c,rfl⟩
theorem DH {α:Type}:∀ {us:List α},us.length=4→∃ a b c d,us=[a,b,c,d]
 | [a,b,c,d],_=>⟨a,b,c,d,rfl⟩
theorem all_mk {l:PySem.W.OpenLaw} {w:World} {K:Frag} {h:Heap} {mg:Str→Option Value} {fa:Addr} (X:K.In h) (G:h.Ns mainGlobals mg) (hfa:mg "law" = some (.ref fa)) (d_is_whole:Df K "is_whole" (top 6)) (d_has_only:Df K "has_only" (top 7)) (d_is_single:Df K "is_single" (top 8)) (d_is_built:Df K "is_built" (top 9)) (d_many_of:Df K "many_of" (top 11)) (d_is_value:Df K "is_value" (top 10)) (d_is_figures:Df K "is_figures" (top 21)) (d_number_by:Df K "number_by" (top 20)) (d_single_by:Df K "single_by" (top 19)) (d_single_at:Df K "single_at" (top 18)) (d_row_at:Df K "row_at" (top 17)) (d_value_at:Df K "value_at" (top 16)) (d_value_by:Df K "value_by" (top 15)) (d_many_alike:Df K "many_alike" (top 24)) (d_next_at:Df K "next_at" (top 25)) (d_at_odds:Df K "at_odds" (top 23)) (d_first_odds:Df K "first_odds" (top 29)) (d_parted_along:Df K "parted_along" (top 31)) (d_recipe_along:Df K "recipe_along" (top 30)) (d_honest_by:Df K "honest_by" (top 28)) (d__law_draw:Df K "_law_draw" (top 33)) (d__law_stamp:Df K "_law_stamp" (top 34)) (d__law_names:Df K "_law_names" (top 35)) (d__law_value:Df K "_law_value" (top 36)) (d__law_expr:Df K "_law_expr" (top 37)) (d__law_recipe:Df K "_law_recipe" (top 38)) (d__law_fits:Df K "_law_fits" (top 39)) (d__law_of_two:Df K "_law_of_two" (top 40)) (d__law_told:Df K "_law_told" (top 41)) (d__law_is_name:Df K "_law_is_name" (top 42)) (d__law_run:Df K "_law_run" (top 43)) (d__law_one_line:Df K "_law_one_line" (top 44)) (d__law_steps:Df K "_law_steps" (top 45)) (d__law_odds:Df K "_law_odds" (top 46)) (d__law_sizes:Df K "_law_sizes" (top 47)) (d__law_recipe_sizes:Df K "_law_recipe_sizes" (top 48)) (d__law_right:Df K "_law_right" (top 49)) (d__law_doings:Df K "_law_doings" (top 50)) (d__law_wide:Df K "_law_wide" (top 51)) (d__law_answer_right:Df K "_law_answer_right" (top 52)) (d_law:Df K "law" (top 53)) (Qbt:PySem.W.nsIn K mainGlobals "abs" = some none) (Qbu:PySem.W.nsIn K mainGlobals "all" = some none) (Qbr:PySem.W.nsIn K mainGlobals "bool" = some none) (Qbv:PySem.W.nsIn K mainGlobals "int" = some none) (Qbo:PySem.W.nsIn K mainGlobals "isinstance" = some none) (Qbw:PySem.W.nsIn K mainGlobals "len" = some none) (Qbs:PySem.W.nsIn K mainGlobals "list" = some none) (Qbx:PySem.W.nsIn K mainGlobals "max" = some none) (Qby:PySem.W.nsIn K mainGlobals "min" = some none) (Qbp:PySem.W.nsIn K mainGlobals "range" = some none) (Qbz:PySem.W.nsIn K mainGlobals "str" = some none) (Qca:PySem.W.nsIn K mainGlobals "sum" = some none) (Qbq:PySem.W.nsIn K mainGlobals "tuple" = some none) (Qcb:PySem.W.nsIn K mainGlobals "zip" = some none) {t_FIGURES:Tok} (y_FIGURES:PySem.W.nsIn K mainGlobals "FIGURES" = some (some (.str "0123456789" t_FIGURES))) {t_MOST_FIGURES:Tok} (y_MOST_FIGURES:PySem.W.nsIn K mainGlobals "MOST_FIGURES" = some (some (.int 19 t_MOST_FIGURES))) {t_MOST_PARTS:Tok} (y_MOST_PARTS:PySem.W.nsIn K mainGlobals "MOST_PARTS" = some (some (.int 8 t_MOST_PARTS))) {t_MOST_ROWS:Tok} (y_MOST_ROWS:PySem.W.nsIn K mainGlobals "MOST_ROWS" = some (some (.int 4 t_MOST_ROWS))) {t_MOST_SIGNS:Tok} (y_MOST_SIGNS:PySem.W.nsIn K mainGlobals "MOST_SIGNS" = some (some (.int 20 t_MOST_SIGNS))) {t_MOST_VALUES:Tok} (y_MOST_VALUES:PySem.W.nsIn K mainGlobals "MOST_VALUES" = some (some (.int 40 t_MOST_VALUES))) {t_TEXT_SIGNS:Tok} (y_TEXT_SIGNS:PySem.W.nsIn K mainGlobals "TEXT_SIGNS" = some (some (.str "abcdefghijklmnopqrstuvwxyz0123456789-" t_TEXT_SIGNS))) {a_ANY:Addr} {o_ANY:Obj} (u_ANY:PySem.W.nsIn K mainGlobals "ANY" = some (some (.ref a_ANY))) (l_ANY:K.lookup a_ANY=some o_ANY) (v_ANY:oh o_ANY ["fail","any"]=true)
  (hm:∀ ns:List Int,ns.length≤63→∃ T',kZ [.d (aS ns)] []=some (.bool true,T')) :
  ∃ fd:FuncData,(∀ (s:Shared) (v:Value),BindsTo s fd ⟨[v],[]⟩ [("_law_script",v)])∧∀ base:Heap,K.In base→base.Ns mainGlobals mg→FnOk l.prog w K mg base CX0 58 fa fd ["_law_script"] (kU K):=by
 have B:Bi K mg:=⟨PySem.W.mg_none_of X G Qbt,PySem.W.mg_none_of X G Qbu,PySem.W.mg_none_of X G Qbr,PySem.W.mg_none_of X G Qbv,PySem.W.mg_none_of X G Qbo,PySem.W.mg_none_of X G Qbw,PySem.W.mg_none_of X G Qbs,PySem.W.mg_none_of X G Qbx,PySem.W.mg_none_of X G Qby,PySem.W.mg_none_of X G Qbp,PySem.W.mg_none_of X G Qbz,PySem.W.mg_none_of X G Qca,PySem.W.mg_none_of X G Qbq,PySem.W.mg_none_of X G Qcb,⟨_,PySem.W.mg_of X G u_ANY,wu l_ANY v_ANY⟩,⟨_,PySem.W.mg_of X G y_FIGURES⟩,⟨_,PySem.W.mg_of X G y_MOST_FIGURES⟩,⟨_,PySem.W.mg_of X G y_MOST_PARTS⟩,⟨_,PySem.W.mg_of X G y_MOST_ROWS⟩,⟨_,PySem.W.mg_of X G y_MOST_SIGNS⟩,⟨_,PySem.W.mg_of X G y_MOST_VALUES⟩,⟨_,PySem.W.mg_of X G y_TEXT_SIGNS⟩⟩
 obtain ⟨f0,oc,od,an,sl,kV,dc,pm,cd,ct,a,lk,c,kp⟩:=d_law.ex
 have e:=hfa.symm.trans (PySem.W.mg_of X G a)
 cases e
 have FL:=sH (st:=top 53) lk c kp
 refine ⟨PySem.W.fnOf "law" "law" (fG (top 53)) (d3 (top 53)) (aN (top 53)) .none kV dc pm an cd ct,fun s v=>.of_eq rfl,fun base _ _=>?_⟩
 have Qbj:Fn l.prog w K mg base "is_whole" ["thing"] 1 (spM K 1 jj):=d_is_whole.fn X G (fun _ _ _ _ _ _ _ h=>by obtain ⟨_,rfl⟩:=dF h; rfl) fun f fd F=>vJ B F
 have Qam:Fn l.prog w K mg base "has_only" ["text","signs"] 1 (spM K 2 fB):=d_has_only.fn X G (fun _ _ _ _ _ _ _ h=>by obtain ⟨_,_,rfl⟩:=bU h; rfl) fun f fd F=>vM B F
 have Qbc:Fn l.prog w K mg base "is_single" ["thing"] 2 (spM K 1 g7):=d_is_single.fn X G (fun _ _ _ _ _ _ _ h=>by obtain ⟨_,rfl⟩:=dF h; rfl) fun f fd F=>vh B F Qbj Qam
 have R_is_built:∀ n:Nat,Fn l.prog w K mg base "is_built" ["thing","rows_left"] (2 + n) (spM K 2 (dZ n)):=by
  intro n
  induction n with
  | zero=>exact d_is_built.fn X G (fun _ _ _ _ _ _ _ h=>by obtain ⟨_,_,rfl⟩:=bU h; rfl) fun f fd F=>eV
  | succ n ih=>exact d_is_built.fn X G (fun _ _ _ _ _ _ _ h=>by obtain ⟨_,_,rfl⟩:=bU h; rfl) fun f fd F=>vL n B F Qbc ih
 have Qap:=R_is_built 25
 have R_many_of:∀ n:Nat,Fn l.prog w K mg base "many_of" ["value"] (0 + n) (spM K 1 (fD n)):=by
  intro n
  induction n with
  | zero=>exact d_many_of.fn X G (fun _ _ _ _ _ _ _ h=>by obtain ⟨_,rfl⟩:=dF h; rfl) fun f fd F=>eV
  | succ n ih=>exact d_many_of.fn X G (fun _ _ _ _ _ _ _ h=>by obtain ⟨_,rfl⟩:=dF h; rfl) fun f fd F=>wa n B F ih
 have Qat:=R_many_of 25
 have Qbk:Fn l.prog w K mg base "is_value" ["thing"] 28 (spM K 1 g9):=d_is_value.fn X G (fun _ _ _ _ _ _ _ h=>by obtain ⟨_,rfl⟩:=dF h; rfl) fun f fd F=>vK B F Qap Qat
 have Qax:Fn l.prog w K mg base "is_figures" ["text"] 2 (spM K 1 fu):=d_is_figures.fn X G (fun _ _ _ _ _ _ _ h=>by obtain ⟨_,rfl⟩:=dF h; rfl) fun f fd F=>uR B F Qam
 have Qbd:Fn l.prog w K mg base "number_by" ["word"] 3 (spM K 1 g6):=d_number_by.fn X G (fun _ _ _ _ _ _ _ h=>by obtain ⟨_,rfl⟩:=dF h; rfl) fun f fd F=>vg B F Qax
 have Qbe:Fn l.prog w K mg base "single_by" ["word"] 4 (spM K 1 gZ):=d_single_by.fn X G (fun _ _ _ _ _ _ _ h=>by obtain ⟨_,rfl⟩:=dF h; rfl) fun f fd F=>vd B F Qbd
 have Qbf:Fn l.prog w K mg base "single_at" ["text","at"] 5 (spM K 2 gG):=d_single_at.fn X G (fun _ _ _ _ _ _ _ h=>by obtain ⟨_,_,rfl⟩:=bU h; rfl) fun f fd F=>ve B F Qbe
 have R_row_at:∀ n:Nat,Fn l.prog w K mg base "row_at" ["text","at","rows_left"] (5 + n) (spM K 3 (gI n))∧Fn l.prog w K mg base "value_at" ["text","at","rows_left"] (5 + n) (spM K 3 (dw n)):=by
  intro n
  induction n with
  | zero=>exact ⟨d_row_at.fn X G (fun _ _ _ _ _ _ _ h=>by obtain ⟨_,_,_,rfl⟩:=fW h; rfl) fun f fd F=>eV,d_value_at.fn X G (fun _ _ _ _ _ _ _ h=>by obtain ⟨_,_,_,rfl⟩:=fW h; rfl) fun f fd F=>eV⟩
  | succ n ih=>exact ⟨d_row_at.fn X G (fun _ _ _ _ _ _ _ h=>by obtain ⟨_,_,_,rfl⟩:=fW h; rfl) fun f fd F=>wO n B F ih.2,d_value_at.fn X G (fun _ _ _ _ _ _ _ h=>by obtain ⟨_,_,_,rfl⟩:=fW h; rfl) fun f fd F=>vI n B F Qbf ih.1⟩
 have Qbn:=(R_row_at 25).1
 have Qaq:=(R_row_at 25).2
 have Qao:Fn l.prog w K mg base "value_by" ["text"] 31 (spM K 1 eS):=d_value_by.fn X G (fun _ _ _ _ _ _ _ h=>by obtain ⟨_,rfl⟩:=dF h; rfl) fun f fd F=>vH B F Qaq Qbk
 have Qay:Fn l.prog w K mg base "many_alike" ["reads","others"] 1 (spM K 2 iE):=d_many_alike.fn X G (fun _ _ _ _ _ _ _ h=>by obtain ⟨_,_,rfl⟩:=bU h; rfl) fun f fd F=>uQ B F
 have Qak:Fn l.prog w K mg base "next_at" ["line","many"] 1 (spM K 2 dJ):=d_next_at.fn X G (fun _ _ _ _ _ _ _ h=>by obtain ⟨_,_,rfl⟩:=bU h; rfl) fun f fd F=>v9 B F
 have Qbm:Fn l.prog w K mg base "at_odds" ["one","other"] 2 (spM K 2 gb):=d_at_odds.fn X G (fun _ _ _ _ _ _ _ h=>by obtain ⟨_,_,rfl⟩:=bU h; rfl) fun f fd F=>wb B F Qay Qak
 have Qaz:Fn l.prog w K mg base "first_odds" ["lines"] 3 (spM K 1 fw):=d_first_odds.fn X G (fun _ _ _ _ _ _ _ h=>by obtain ⟨_,rfl⟩:=dF h; rfl) fun f fd F=>uS B F Qbm
 have R_parted_along:∀ n:Nat,Fn l.prog w K mg base "parted_along" ["lines","number"] (31 + n) (spM K 2 (eN n))∧Fn l.prog w K mg base "recipe_along" ["lines","got"] (31 + n) (spM K 2 (eM n)):=by
  intro n
  induction n with
  | zero=>exact ⟨d_parted_along.fn X G (fun _ _ _ _ _ _ _ h=>by obtain ⟨_,_,rfl⟩:=bU h; rfl) fun f fd F=>eV,d_recipe_along.fn X G (fun _ _ _ _ _ _ _ h=>by obtain ⟨_,_,rfl⟩:=bU h; rfl) fun f fd F=>eV⟩
  | succ n ih=>exact ⟨d_parted_along.fn X G (fun _ _ _ _ _ _ _ h=>by obtain ⟨_,_,rfl⟩:=bU h; rfl) fun f fd F=>uG n B F ih.2 ih.1 Qao,d_recipe_along.fn X G (fun _ _ _ _ _ _ _ h=>by obtain ⟨_,_,rfl⟩:=bU h; rfl) fun f fd F=>uF n B F Qak Qao ih.1⟩
 have Qan:=(R_parted_along 25).1
 have Qai:=(R_parted_along 25).2
 have Qas:Fn l.prog w K mg base "honest_by" ["lines"] 57 (spM K 1 dI):=d_honest_by.fn X G (fun _ _ _ _ _ _ _ h=>by obtain ⟨_,rfl⟩:=dF h; rfl) fun f fd F=>vi B F Qaz Qai
 have Qaa:Fn l.prog w K mg base "_law_draw" ["_law_script","_law_k","_law_many"] 1 (spM K 3 aU):=d__law_draw.fn X G (fun _ _ _ _ _ _ _ h=>by obtain ⟨_,_,_,rfl⟩:=fW h; rfl) fun f fd F=>vq B F
 have R__law_stamp:∀ n:Nat,Fn l.prog w K mg base "_law_stamp" ["_law_value_here"] (0 + n) (spM K 1 (bN n)):=by
  intro n
  induction n with
  | zero=>exact d__law_stamp.fn X G (fun _ _ _ _ _ _ _ h=>by obtain ⟨_,rfl⟩:=dF h; rfl) fun f fd F=>eV
  | succ n ih=>exact d__law_stamp.fn X G (fun _ _ _ _ _ _ _ h=>by obtain ⟨_,rfl⟩:=dF h; rfl) fun f fd F=>uV n B F ih
 have Qab:=R__law_stamp 25
 have Qba:Fn l.prog w K mg base "_law_names" ["_law_script","_law_k"] 2 (spM K 2 gY):=d__law_names.fn X G (fun _ _ _ _ _ _ _ h=>by obtain ⟨_,_,rfl⟩:=bU h; rfl) fun f fd F=>uY B F Qaa
 have Qae:Fn l.prog w K mg base "_law_value" ["_law_script","_law_k","_law_names_here"] 2 (spM K 3 eC):=d__law_value.fn X G (fun _ _ _ _ _ _ _ h=>by obtain ⟨_,_,_,rfl⟩:=fW h; rfl) fun f fd F=>uT B F Qaa
 have Qbg:Fn l.prog w K mg base "_law_expr" ["_law_script","_law_k","_law_names_here"] 3 (spM K 3 iG):=d__law_expr.fn X G (fun _ _ _ _ _ _ _ h=>by obtain ⟨_,_,_,rfl⟩:=fW h; rfl) fun f fd F=>vp B F Qae Qaa
 have Qav:Fn l.prog w K mg base "_law_recipe" ["_law_script","_law_k","_law_names_here","_law_ways"] 4 (spM K 4 gX):=d__law_recipe.fn X G (fun _ _ _ _ _ _ _ h=>by obtain ⟨_,_,_,_,rfl⟩:=DH h; rfl) fun f fd F=>uJ B F Qaa Qae Qbg
 have R__law_fits:∀ n:Nat,Fn l.prog w K mg base "_law_fits" ["_law_value_here","_law_deep"] (0 + n) (spM K 2 (bV n)):=by
  intro n
  induction n with
  | zero=>exact d__law_fits.fn X G (fun _ _ _ _ _ _ _ h=>by obtain ⟨_,_,rfl⟩:=bU h; rfl) fun f fd F=>eV
  | succ n ih=>exact d__law_fits.fn X G (fun _ _ _ _ _ _ _ h=>by obtain ⟨_,_,rfl⟩:=bU h; rfl) fun f fd F=>vn n B F ih
 have Qaj:=R__law_fits 25
 have Qau:Fn l.prog w K mg base "_law_of_two" ["_law_word","_law_one","_law_other"] 26 (spM K 3 bj):=d__law_of_two.fn X G (fun _ _ _ _ _ _ _ h=>by obtain ⟨_,_,_,rfl⟩:=fW h; rfl) fun f fd F=>uK B F Qab
 have R__law_told:∀ n:Nat,Fn l.prog w K mg base "_law_told" ["_law_expr_here","_law_got"] (26 + n) (spM K 2 (bq n)):=by
  intro n
  induction n with
  | zero=>exact d__law_told.fn X G (fun _ _ _ _ _ _ _ h=>by obtain ⟨_,_,rfl⟩:=bU h; rfl) fun f fd F=>eV
  | succ n ih=>exact d__law_told.fn X G (fun _ _ _ _ _ _ _ h=>by obtain ⟨_,_,rfl⟩:=bU h; rfl) fun f fd F=>vk n B F ih Qaj Qau
 have Qad:=R__law_told 25
 have Qac:Fn l.prog w K mg base "_law_is_name" ["_law_thing"] 1 (spM K 1 bP):=d__law_is_name.fn X G (fun _ _ _ _ _ _ _ h=>by obtain ⟨_,rfl⟩:=dF h; rfl) fun f fd F=>uH B F
 have Qbl:Fn l.prog w K mg base "_law_run" ["_law_recipe_here","_law_good"] 52 (spM K 2 gH):=d__law_run.fn X G (fun _ _ _ _ _ _ _ h=>by obtain ⟨_,_,rfl⟩:=bU h; rfl) fun f fd F=>vN B F Qad Qac Qab
 have Qaf:Fn l.prog w K mg base "_law_one_line" ["_law_script","_law_k"] 2 (spM K 2 cS):=d__law_one_line.fn X G (fun _ _ _ _ _ _ _ h=>by obtain ⟨_,_,rfl⟩:=bU h; rfl) fun f fd F=>uC B F Qaa
 have Qar:Fn l.prog w K mg base "_law_steps" ["_law_line"] 1 (spM K 1 f7):=d__law_steps.fn X G (fun _ _ _ _ _ _ _ h=>by obtain ⟨_,rfl⟩:=dF h; rfl) fun f fd F=>uU B F
 have Qbh:Fn l.prog w K mg base "_law_odds" ["_law_one","_law_other"] 2 (spM K 2 f9):=d__law_odds.fn X G (fun _ _ _ _ _ _ _ h=>by obtain ⟨_,_,rfl⟩:=bU h; rfl) fun f fd F=>vm B F Qar
 have R__law_sizes:∀ n:Nat,Fn l.prog w K mg base "_law_sizes" ["_law_thing","_law_many"] (0 + n) (spM K 2 (dY n)):=by
  intro n
  induction n with
  | zero=>exact d__law_sizes.fn X G (fun _ _ _ _ _ _ _ h=>by obtain ⟨_,_,rfl⟩:=bU h; rfl) fun f fd F=>eV
  | succ n ih=>exact d__law_sizes.fn X G (fun _ _ _ _ _ _ _ h=>by obtain ⟨_,_,rfl⟩:=bU h; rfl) fun f fd F=>uW n B F ih
 have Qal:=R__law_sizes 25
 have R__law_recipe_sizes:∀ n:Nat,Fn l.prog w K mg base "_law_recipe_sizes" ["_law_thing","_law_many"] (25 + n) (spM K 2 (dG n)):=by
  intro n
  induction n with
  | zero=>exact d__law_recipe_sizes.fn X G (fun _ _ _ _ _ _ _ h=>by obtain ⟨_,_,rfl⟩:=bU h; rfl) fun f fd F=>eV
  | succ n ih=>exact d__law_recipe_sizes.fn X G (fun _ _ _ _ _ _ _ h=>by obtain ⟨_,_,rfl⟩:=bU h; rfl) fun f fd F=>uy n B F Qac Qal ih
 have Qag:=R__law_recipe_sizes 25
 have Qbb:Fn l.prog w K mg base "_law_right" ["_law_recipe_here","_law_line","_law_values"] 52 (spM K 3 fA):=d__law_right.fn X G (fun _ _ _ _ _ _ _ h=>by obtain ⟨_,_,_,rfl⟩:=fW h; rfl) fun f fd F=>uX B F Qad Qac Qab
 have Qaw:Fn l.prog w K mg base "_law_doings" ["_law_script","_law_k"] 53 (spO K 2 eP):=d__law_doings.fn X G (fun _ _ _ _ _ _ _ h=>by obtain ⟨_,_,rfl⟩:=bU h; rfl) fun f fd F=>uL B F Qba Qav Qaa Qae Qab Qbl
 have Qbi:Fn l.prog w K mg base "_law_wide" ["_law_script","_law_k"] 3 (spM K 2 g8):=d__law_wide.fn X G (fun _ _ _ _ _ _ _ h=>by obtain ⟨_,_,rfl⟩:=bU h; rfl) fun f fd F=>vj B F Qaf Qaa
 have Qah:Fn l.prog w K mg base "_law_answer_right" ["_law_lines","_law_values","_law_found"] 53 (spM K 3 dH):=d__law_answer_right.fn X G (fun _ _ _ _ _ _ _ h=>by obtain ⟨_,_,_,rfl⟩:=fW h; rfl) fun f fd F=>uz B F Qbh Qag Qbb
 exact yi (Bh B FL Qaa Qaf Qbi Qaw Qas Qah) (w6 hm)
theorem walk {l:PySem.W.OpenLaw} {q:Program} {loose:List Str} {XP:(Str→Option Value)→Heap→Prop} {YP:World→Heap→Prop} {d:DefRec} {K:Params→Frag} (hn:l.most=some 63) (hdf:d.params.defaults=[])
  (hY:∀ (w:World) (h:Heap),YP w h→(K w.params).In h)
  (F:∀ (w:World) (mg:Str→Option Value) (fa:Addr) (h:Heap),(K w.params).In h→h.Ns mainGlobals mg→mg d.name=some (.ref fa) →
   ∃ fd:FuncData,(∀ (s:Shared) (u:Value),BindsTo s fd ⟨[u],[]⟩ [("_law_script",u)])∧∀ base:Heap,(K w.params).In base→base.Ns mainGlobals mg→FnOk l.prog w (K w.params) mg base CX0 58 fa fd ["_law_script"] (kU (K w.params))) :
  PySem.W.WalkO q loose XP YP l.row.toRowW d [] (fun f vs=>PySem.call f vs):=L2.yJ (n:=63) (k:=58) (x:="_law_script") (CX:=fun _=>CX0) (sp:=fun w=>kU (K w.params)) hn (by decide) hdf ⟨rfl,by decide,by decide,rfl⟩ hY F (fun _ _ a ns hl _ hS=>⟨a,ns,rfl,hS,hl,fun _=>rfl⟩) fun _ _ _ _ _ z=>z
open PySem PySem.Spec PySem.Calls PySem.W PyProof.Rows PySem.W.X PySem.W.ZRun
theorem walkZ {q:Program} {loose:List Str} {XP:(Str→Option Value)→Heap→Prop} {K:Params→Frag} {r:RowW} {d:DefRec} {kwd:List (Str×Expr)}
  {w:World} {s₀ s₁:Shared} {mg mb:Str→Option Value} {a:Addr} {o:Obj} {pm cd doc dV kV:Value} {args:List WData} {vals:List Value} {as:List Addr}
  (KX:(K w.params).In s₁.heap) (GR:Ground q loose r.records XP w s₀ mg mb s₁.heap) (ho:s₁.heap.get? a=some o)
  (hd:o.data=.func { docDef d.name d.params d.body d.scope pm cd doc with defaults:=dV,kwdefaults:=kV }) (hcd:s₁.heap.CodeRec cd d.name) (hD:Dflts mg s₁.heap d.params kwd dV kV) (hmg:mg d.name=some (.ref a)) (hg:s₁.gens = #[])
  (hpre:r.claim.pre args=true) (hlay:WData.layableAll args=true) (hrd:ReadsAllW r.records (classAt s₀.heap) s₁.heap vals args as) (hwl:WellAll w.params s₁.heap vals args) (hlo:∀ a∈as,(a == sysModules)=false)
  (W:PySem.W.WalkO q loose XP (fun w h=>(K w.params).In h) r d kwd fun f vs=>PySem.call f vs) :
  wpAny (model r.prog w) callerA (PySem.call (.ref a) vals) (fun v s'=>GoodWG r.claim (classAt s₀.heap) (ExcName.means s₀.heap) args s₁ (.ok (.ret v)) s')
    (fun e s'=>GoodWG r.claim (classAt s₀.heap) (ExcName.means s₀.heap) args s₁ (.error e) s') s₁:=W w s₀ s₁ mg mb GR KX a o pm cd doc dV kV ho hd hcd hD hmg hg args vals as hpre hlay hrd hwl hlo
end G
def PySem.W.Fast.tw9673604389625413111:Unit:=()
def PySem.W.Fast.tw11622139066936279037:Unit:=()
def PySem.W.Fast.tw2647884135454355742:PySem.Program:=PySem.Challenge.pw_redo_k75_honest_by_lines
theorem PySem.W.Fast.te2647884135454355742:PySem.Challenge.pw_redo_k75_honest_by_lines=PySem.W.Fast.tw2647884135454355742:=rfl
def PySem.W.Fast.tw3271776213718556026:Unit:=()
def PySem.W.Fast.tw16438421774919190511:Unit:=()
def PySem.W.Fast.tw15993104768421427786:Unit:=()
def PySem.W.Fast.tw9026705728708339933:Unit:=()
def PySem.W.Fast.tw886115692078166982:Unit:=()
def PySem.W.Fast.tw1436526376527539633:Unit:=()
def PySem.W.Fast.tw7846999211484448150:Unit:=()
def PySem.W.Fast.tw11946730341257761692:Unit:=()
def PySem.W.Fast.tw909780602371106065:Unit:=()
def PySem.W.Fast.tw1950740626302464062:Unit:=()
def PySem.W.Fast.tw7615194881233641883:Unit:=()
def PySem.W.Fast.tw1924188341531114270:Unit:=()
def PySem.W.Fast.tw12601205316977123401:Unit:=()
def PySem.W.Fast.tw17114747407418812587:Unit:=()
open PySem PySem.W PyProof.Rows PySem.W.X PySem.W.ZRun
set_option maxRecDepth 100000 in
set_option maxHeartbeats 0 in
theorem PySem.Challenge.cw_redo_k75_honest_by_lines_holds : PySem.Challenge.rw_redo_k75_honest_by_lines.Holds := by
 w_on; o_law; z_head; (case hw=>w_witness2)
 k_fill
 intro w s₀ s₁ mg mb GR y fa o pm cd doc dV kV ho hd hcd hD hmg hg args vals as L hpre hlay hrd hwl hlo
 z_open y L KX ZH ZN ZT
 clear ZH ZN ZT
 refine G.walkZ KX GR ho hd hcd hD hmg hg hpre hlay hrd hwl hlo ?W
 clear KX GR ho hd hcd hD hmg hg hpre hlay hrd hwl hlo L y
 refine G.walk (l:=PySem.Challenge.rw_redo_k75_honest_by_lines) rfl rfl (fun w h Y=>Y) ?F
 case F=>
  intro w mg fa h KX GG hmg
  refine' G.all_mk KX GG hmg ?_ ?_ ?_ ?_ ?_ ?_ ?_ ?_ ?_ ?_ ?_ ?_ ?_ ?_ ?_ ?_ ?_ ?_ ?_ ?_ ?_ ?_ ?_ ?_ ?_ ?_ ?_ ?_ ?_ ?_ ?_ ?_ ?_ ?_ ?_ ?_ ?_ ?_ ?_ ?_ ?_ ?_ ?_ ?_ ?_ ?_ ?_ ?_ ?_ ?_ ?_ ?_ ?_ ?_ ?_ ?_ ?_ ?_ ?_ ?_ ?_ ?_ ?_ ?_ ?_ G.x8
  any_goals first | (refine' D.C4 ?a ?l ?c ?k; (case a=>k_is); (case l=>k_is); (case c=>k_is); (case k=>k_is)) | (refine' D.BR ?a ?l ?c ?k ?n; (case a=>k_is); (case l=>k_is); (case c=>k_is); (case k=>k_is); (case n=>k_is)) | k_is
  all_goals first | rfl | decide +kernel
