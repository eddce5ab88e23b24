import PyProof.Rows.All
import Wide.All
import OpenK.AllK
import Wide.FinOn
import Lean
import PyProof.EqAt
import PyProof.EqKinds
import PyProof.TupleCall
import PySem.Challenge.RW_redo_k46_books_told_again
set_option Elab.async false
set_option linter.all false
set_option maxRecDepth 100000
namespace L2
open PySem PySem.Spec PyProof.Rows
noncomputable abbrev Key:=Sum Int Str
noncomputable def keyIs:Key→Value→Bool
 | .inl k,v=>Value.isInt k v
 | .inr x,v=>Value.isStrOf x v
noncomputable def keyH (w:World):Key→Int
 | .inl k=>hashInt k
 | .inr x=>hashStr w x
theorem keyIs_shape:∀ {k:Key} {v:Value},keyIs k v=true→(∃ i t,k=Sum.inl i∧v=Value.int i t)∨(∃ x t,k=Sum.inr x∧v=Value.str x t)
 | .inl i,v,h=>by
  obtain ⟨t,e⟩:=Value.isInt_shape (k:=i) (v:=v) h
  exact .inl ⟨i,t,rfl,e⟩
 | .inr x,v,h=>by
  obtain ⟨t,e⟩:=Value.isStrOf_shape (x:=x) (v:=v) h
  exact .inr ⟨x,t,rfl,e⟩
theorem keyIs_int (i:Int) (t:Tok):keyIs (.inl i) (.int i t)=true:=by simp [keyIs,Value.isInt]
theorem keyIs_str (x:Str) (t:Tok):keyIs (.inr x) (.str x t)=true:=by simp [keyIs,Value.isStrOf]
theorem key_ll (a b:Int):decide ((Sum.inl a:Key)=Sum.inl b)=(a == b):=by
 by_cases e:a=b
 ·subst e; simp
 ·have h:¬ (Sum.inl a:Key)=Sum.inl b:=fun q=>e (Sum.inl.inj q)
  rw [decide_eq_false h]
  exact (beq_eq_false_iff_ne.mpr e).symm
theorem key_rr (a b:Str):decide ((Sum.inr a:Key)=Sum.inr b)=decide (a=b):=by
 by_cases e:a=b
 ·subst e; simp
 ·have h:¬ (Sum.inr a:Key)=Sum.inr b:=fun q=>e (Sum.inr.inj q)
  rw [decide_eq_false h,decide_eq_false e]
theorem key_lr (a:Int) (b:Str):decide ((Sum.inl a:Key)=Sum.inr b)=false:=decide_eq_false (fun q=>nomatch q)
theorem key_rl (a:Str) (b:Int):decide ((Sum.inr a:Key)=Sum.inl b)=false:=decide_eq_false (fun q=>nomatch q)
noncomputable def mixKind (prog:Program) (w:World):PySem.KeyKind prog w Key where
 is:=keyIs
 hash:=keyH w
 inj:=fun v a b ha hb=>by
  rcases keyIs_shape ha with ⟨i,t,rfl,rfl⟩ | ⟨x,t,rfl,rfl⟩
  ·rcases keyIs_shape hb with ⟨j,u,rfl,e⟩ | ⟨y,u,rfl,e⟩
   ·injection e with e1 _; rw [e1]
   ·exact nomatch e
  ·rcases keyIs_shape hb with ⟨j,u,rfl,e⟩ | ⟨y,u,rfl,e⟩
   ·exact nomatch e
   ·injection e with e1 _; rw [e1]
 byValue:=fun k v h=>by
  rcases keyIs_shape h with ⟨i,t,rfl,rfl⟩ | ⟨x,t,rfl,rfl⟩ <;> rfl
 pyHash:=fun hv h=>by
  rcases keyIs_shape hv with ⟨i,t,rfl,rfl⟩ | ⟨x,t,rfl,rfl⟩
  ·exact wpAny_pyHash_int h
  ·exact wpAny_pyHash_str h
 eqBool:=fun hu hv h=>by
  rcases keyIs_shape hu with ⟨i,t,rfl,rfl⟩ | ⟨x,t,rfl,rfl⟩
  ·rcases keyIs_shape hv with ⟨j,u,rfl,rfl⟩ | ⟨y,u,rfl,rfl⟩
   ·rw [key_ll] at h; exact wpAny_eqBool_int h
   ·rw [key_lr] at h; exact SeqAt.EqAt.int_str i t y u _ _ _ _ h
  ·rcases keyIs_shape hv with ⟨j,u,rfl,rfl⟩ | ⟨y,u,rfl,rfl⟩
   ·rw [key_rl] at h; exact SeqAt.EqAt.str_int x t j u _ _ _ _ h
   ·rw [key_rr] at h; exact wpAny_eqBool_str h
 «strs»:=fun k x t v h=>by
  rcases keyIs_shape h with ⟨i,u,rfl,e⟩ | ⟨y,u,rfl,e⟩
  ·exact nomatch e
  ·injection e with e1 _
   subst e1
   cases v <;> rfl
theorem mixKind_int (prog:Program) (w:World) (i:Int) (t:Tok):(mixKind prog w).is (.inl i) (.int i t)=true:=keyIs_int i t
theorem mixKind_str (prog:Program) (w:World) (x:Str) (t:Tok):(mixKind prog w).is (.inr x) (.str x t)=true:=keyIs_str x t
end L2
namespace L2
open PySem PySem.Spec PyProof.Rows
inductive V where
 | non | bl (b:Bool) | int (i:Int) | str (x:Str) | byt (b:Array UInt8) | flt (b:UInt64) | ref (a:Addr) | ty (n:String)
 deriving DecidableEq
noncomputable def RelV:V→Value→Prop
 | .non,u=>u=Value.none
 | .bl b,u=>u=Value.bool b
 | .int i,u=>∃ t,u=Value.int i t
 | .str x,u=>∃ t,u=Value.str x t
 | .byt b,u=>∃ t,u=Value.bytes b t
 | .flt b,u=>∃ t,u=Value.float b t
 | .ref a,u=>u=Value.ref a
 | .ty n,u=>u=Value.type n
noncomputable abbrev Vals:List V→List Value→Prop:=Paired RelV
theorem Vals.length {xs:List V} {us:List Value} (r:Vals xs us):xs.length=us.length:=Paired.length r
theorem Vals.get:∀ {xs:List V} {us:List Value} {i:Nat} {x:V},Vals xs us→xs[i]? = some x→∃ u,us[i]? = some u∧RelV x u
 | _,_,_,_,.nil,e=>by simp at e
 | _,_,0,_,.cons r _,e=>by simp at e; subst e; exact ⟨_,rfl,r⟩
 | _,_,i + 1,x,.cons _ t,e=>by
  obtain ⟨u,h1,h2⟩:=Vals.get (i:=i) (x:=x) t (by simpa using e)
  exact ⟨u,by simpa using h1,h2⟩
theorem Vals.set {x:V} {u:Value} (r:RelV x u):∀ {xs:List V} {us:List Value} (i:Nat),Vals xs us→Vals (xs.set i x) (us.set i u)
 | _,_,_,.nil=>.nil
 | _,_,0,.cons _ t=>.cons r t
 | _,_,i + 1,.cons q t=>.cons q (Vals.set r i t)
theorem Vals.append:∀ {xs ys:List V} {us ws:List Value},Vals xs us→Vals ys ws→Vals (xs++ys) (us++ws)
 | _,_,_,_,.nil,s=>s
 | _,_,_,_,.cons r t,s=>.cons r (Vals.append t s)
theorem Vals.take:∀ {xs:List V} {us:List Value} (n:Nat),Vals xs us→Vals (xs.take n) (us.take n)
 | _,_,0,_=>.nil
 | _,_,_ + 1,.nil=>.nil
 | _,_,n + 1,.cons r t=>.cons r (Vals.take n t)
theorem Vals.drop:∀ {xs:List V} {us:List Value} (n:Nat),Vals xs us→Vals (xs.drop n) (us.drop n)
 | _,_,0,r=>r
 | _,_,_ + 1,.nil=>.nil
 | _,_,n + 1,.cons _ t=>Vals.drop n t
theorem Vals.none_of:∀ {xs:List V} {us:List Value} {i:Nat},Vals xs us→xs[i]? = none→us[i]? = none:=fun {xs us i} r e=>by
 have h1:=r.length
 have h2:xs.length≤i:=List.getElem?_eq_none_iff.mp e
 exact List.getElem?_eq_none_iff.mpr (by omega)
noncomputable def RelO:Option V→Option Value→Prop
 | some v,some u=>RelV v u
 | none,none=>True
 | _,_=>False
noncomputable def KV {κ:Type}:List (κ×V)→List (κ×Value)→Prop:=Paired fun (p:κ×V) (q:κ×Value)=>p.1=q.1∧RelV p.2 q.2
noncomputable def kV:Key→V
 | .inl i=>.int i
 | .inr x=>.str x
inductive HO where
  | lst (xs:List V)
  | tup (xs:List V)
  | dK (kvs:List (Key×V)) | dT (kvs:List (List Key×V))
  | set (S:Int→Bool) (n:Nat)
  | ins (C dx:Addr) (fs:List (Str×V))
  | own (x:Addr)
  | xd (fs:List (Str×V))
  | met (f x:Addr)
  | rng (lo hi:Int)
  | frz (o:Obj) (u:HO)
  | tbl (ps:Array Value)
  | ext (φ:Heap→Prop)
noncomputable abbrev Hp:=Addr→Option HO
noncomputable def upd (H:Hp) (a:Addr) (o:HO):Hp:=fun b=>if b=a then some o else H b
theorem upd_same {H:Hp} {a:Addr} {o:HO}:upd H a o a=some o:=by unfold upd; rw [if_pos rfl]
theorem upd_ne {H:Hp} {a b:Addr} {o:HO} (h:b≠a):upd H a o b=H b:=by unfold upd; rw [if_neg h]
theorem upd_upd {H:Hp} {a:Addr} {o u:HO}:upd (upd H a o) a u=upd H a u:=by
 funext b; unfold upd; split <;> rfl
theorem ne_of {H:Hp} {a b:Addr} {o u:HO} (h:H a=some o) (h':H b=some u) (d:o≠u):a≠b:=by
 intro e; subst e; rw [h] at h'; exact d (Option.some.inj h')
theorem ne_of_none {H:Hp} {a b:Addr} {o:HO} (h:H a=some o) (h':H b=none):a≠b:=by
 intro e; subst e; rw [h] at h'; cases h'
section
variable (P:Program) (w:World)
noncomputable def ObjOk (H:Hp) (h:Heap) (a:Addr):HO→Prop
 | .lst xs=>xs.length≤sizeLine∧∃ (its:List Value) (n:Nat),Vals xs its∧h.get? a=some { cls:=.type "list",data:=.seq its.toArray n }
 | .tup xs=>xs.length≤sizeLine∧∃ its:List Value,Vals xs its∧IsTup h a its.toArray
 | .dK kvs=>kvs.length≤sizeLine∧(a == sysModules)=false∧∃ vs,KV kvs vs∧h.DictOf (mixKind P w) a vs
 | .dT kvs=>kvs.length≤sizeLine∧(a == sysModules)=false∧∃ xs:List (List Key×Addr×Value),
   Paired (fun (p:List Key×V) (q:List Key×Addr×Value)=>p.1=q.1∧H q.2.1=some (.tup (p.1.map kV))∧RelV p.2 q.2.2) kvs xs ∧
   ∃ o es ep,h.get? a=some o∧o.ExactDict∧o.data=.dict es ep∧es.toList=xs.map (entryOfKey (tupleKind (mixKind P w)))∧(xs.map (·.1)).Nodup
 | .set S n=>h.SetOf (intKind P w) a S n
 | .ins C dx fs=>H dx=some (.own a)∧fs.length≤1000∧dx≠a∧h.get? a=some (PySem.W.instObj C dx) ∧
   ∃ mA,h.Ns1 dx mA∧(∀ f,RelO (fs.lookup f) (mA f))∧PySem.Within mA (fs.map (·.1))
 | .own _=>∃ o,h.get? a=some o
 | .xd fs=>∃ mA,h.Ns1 a mA∧∀ f,RelO (fs.lookup f) (mA f)
 | .rng lo hi=>∃ t u v,h.get? a=some { cls:=.type "range",data:=.fields #[.int lo t,.int hi u,.int 1 v] }
 | .frz o u=>h.get? a=some o∧ObjOk H h a u
 | .tbl ps=>h.get? a=some { cls:=.none,data:=.fields ps }
 | .met f x=>h.get? a=some (PySem.W.methodObj (.ref f) (.ref x))
 | .ext φ=>φ h∧(∃ o,h.get? a=some o)∧∀ h1 h2:Heap,φ h1→(∀ o,h1.get? a=some o→h2.get? a=some o)→φ h2
noncomputable def HOk (H:Hp) (h:Heap):Prop:=∀ a o,H a=some o→ObjOk P w H h a o
end
section
variable {P:Program} {w:World} {H H':Hp} {h h':Heap} {a:Addr} {o:HO}
theorem ObjOk.lt (x:ObjOk P w H h a o):a < h.objs.size:=by
 cases o with
 | lst xs=>obtain ⟨_,_,_,_,e⟩:=x; exact Heap.lt_size e
 | tup xs=>obtain ⟨_,_,_,p⟩:=x; exact p.lt
 | dK kvs=>obtain ⟨_,_,_,_,o,_,_,e,_⟩:=x; exact Heap.lt_size e
 | dT kvs=>obtain ⟨_,_,_,_,o,_,_,e,_⟩:=x; exact Heap.lt_size e
 | set S n=>obtain ⟨o,_,_,_,e,_⟩:=x; exact Heap.lt_size e
 | ins C dx fs=>obtain ⟨_,_,_,e,_⟩:=x; exact Heap.lt_size e
 | own y=>obtain ⟨_,e⟩:=x; exact Heap.lt_size e
 | xd fs=>obtain ⟨_,⟨_,_,_,e,_⟩,_⟩:=x; exact Heap.lt_size e
 | rng lo hi=>obtain ⟨_,_,_,e⟩:=x; exact Heap.lt_size e
 | frz ob u=>obtain ⟨e,_⟩:=x; exact Heap.lt_size e
 | tbl ps=>exact Heap.lt_size (show h.get? a=some _ from x)
 | met f y=>exact Heap.lt_size (show h.get? a=some _ from x)
 | ext φ=>obtain ⟨_,⟨_,e⟩,_⟩:=x; exact Heap.lt_size e
theorem Paired.mapP {α β:Type} {F G:α→β→Prop}:∀ {l₁:List α} {l₂:List β},Paired F l₁ l₂→(∀ a b,F a b→G a b)→Paired G l₁ l₂
 | _,_,.nil,_=>.nil
 | _,_,.cons r t,f=>.cons (f _ _ r) (Paired.mapP t f)
theorem ObjOk.stay (x:ObjOk P w H h a o) (k:∀ b u,(b=a∨H b=some (.own a))→h.get? b=some u→h'.get? b=some u)
  (ho:∀ b,H b=some (.own a)→H' b=some (.own a)) (ht:∀ b xs,H b=some (.tup xs)→H' b=some (.tup xs)):ObjOk P w H' h' a o:=by
 induction o with
 | lst xs=>obtain ⟨z,its,n,r,e⟩:=x; exact ⟨z,its,n,r,k _ _ (.inl rfl) e⟩
 | tup xs=>obtain ⟨z,its,r,ob,e,c⟩:=x; exact ⟨z,its,r,ob,k _ _ (.inl rfl) e,c⟩
 | dK kvs=>obtain ⟨z,y,vs,r,ob,es,ep,e,c⟩:=x; exact ⟨z,y,vs,r,ob,es,ep,k _ _ (.inl rfl) e,c⟩
 | dT kvs=>
  obtain ⟨z,y,xs,r,ob,es,ep,e,c⟩:=x
  exact ⟨z,y,xs,Paired.mapP r fun p q z=>⟨z.1,ht _ _ z.2.1,z.2.2⟩,ob,es,ep,k _ _ (.inl rfl) e,c⟩
 | set S n=>obtain ⟨ob,es,ep,t,e,c⟩:=x; exact ⟨ob,es,ep,t,k _ _ (.inl rfl) e,c⟩
 | ins C dx fs=>
  obtain ⟨d,z,ne,e,mA,⟨od,es,ep,e2,c⟩,r⟩:=x
  exact ⟨ho _ d,z,ne,k _ _ (.inl rfl) e,mA,⟨od,es,ep,k _ _ (.inr d) e2,c⟩,r⟩
 | own y=>obtain ⟨ob,e⟩:=x; exact ⟨ob,k _ _ (.inl rfl) e⟩
 | xd fs=>obtain ⟨mA,⟨od,es,ep,e,c⟩,r⟩:=x; exact ⟨mA,⟨od,es,ep,k _ _ (.inl rfl) e,c⟩,r⟩
 | rng lo hi=>obtain ⟨t,u,v,e⟩:=x; exact ⟨t,u,v,k _ _ (.inl rfl) e⟩
 | frz ob u ih=>obtain ⟨e,q⟩:=x; exact ⟨k _ _ (.inl rfl) e,ih q⟩
 | tbl ps=>
  have e:h.get? a=some { cls:=.none,data:=.fields ps }:=x
  show h'.get? a=some { cls:=.none,data:=.fields ps }
  exact k a _ (.inl rfl) e
 | met f y=>
  have e:h.get? a=some (PySem.W.methodObj (.ref f) (.ref y)):=x
  show h'.get? a=some (PySem.W.methodObj (.ref f) (.ref y))
  exact k a _ (.inl rfl) e
 | ext φ=>obtain ⟨p,⟨o,e⟩,st⟩:=x; exact ⟨st _ _ p fun o q=>k _ _ (.inl rfl) q,⟨o,k _ _ (.inl rfl) e⟩,st⟩
theorem HOk.lt (x:HOk P w H h) (e:H a=some o):a < h.objs.size:=(x a o e).lt
theorem HOk.fresh (x:HOk P w H h) (e:h.objs.size≤a):H a=none:=by
 cases q:H a with
 | none=>rfl
 | some u=>exact absurd (Nat.lt_of_lt_of_le (x.lt q) e) (Nat.lt_irrefl _)
theorem HOk.kept (x:HOk P w H h) (k:∀ b u,h.get? b=some u→h'.get? b=some u):HOk P w H h':=fun a o e=>
 (x a o e).stay (fun b u _ q=>k b u q) (fun _ q=>q) fun _ _ q=>q
theorem HOk.laid (x:HOk P w H h) (k:∀ b u,h.get? b=some u→h'.get? b=some u) (hp:h.objs.size≤a) (new:ObjOk P w (upd H a o) h' a o):HOk P w (upd H a o) h':=fun b u e=>by
 have hn:=x.fresh hp
 by_cases hb:b=a
 ·subst hb; rw [upd_same] at e; cases e; exact new
 ·rw [upd_ne hb] at e
  exact (x b u e).stay (fun c v _ q=>k c v q) (fun c q=>by rw [upd_ne (ne_of_none q hn)]; exact q) fun c xs q=>by rw [upd_ne (ne_of_none q hn)]; exact q
end
noncomputable def Rd (H:Hp) (a:Addr) (u:HO):Prop:=H a=some u∨∃ o,H a=some (.frz o u)
theorem Rd.of {H:Hp} {a:Addr} {u:HO} (h:H a=some u):Rd H a u:=.inl h
theorem Rd.ok {P:Program} {w:World} {H:Hp} {h:Heap} {a:Addr} {u:HO} (r:Rd H a u) (x:HOk P w H h):ObjOk P w H h a u:=by
 rcases r with r | ⟨o,r⟩
 ·exact x a u r
 ·obtain ⟨_,q⟩:=x a _ r
  exact q
noncomputable def Mut:Option HO→Prop
 | some (.lst _)=>True
 | some (.dK _)=>True
 | some (.dT _)=>True
 | some (.set _ _)=>True
 | some (.ins _ _ _)=>True
 | some (.ext _)=>True
 | _=>False
section
variable {P:Program} {w:World} {H:Hp} {h h':Heap} {x e:Addr} {o':HO}
theorem HOk.write (ok:HOk P w H h) (mu:Mut (H x)) (he:e=x∨H e=some (.own x)) (k:∀ b u,b≠e→h.get? b=some u→h'.get? b=some u) (heo:∃ u,h'.get? e=some u)
  (new:ObjOk P w (upd H x o') h' x o'):HOk P w (upd H x o') h':=fun b u q=>by
 have nown:∀ c y,H c=some (.own y)→c≠x:=fun c y r z=>by subst z; rw [r] at mu; exact mu
 have ntup:∀ c xs,H c=some (.tup xs)→c≠x:=fun c xs r z=>by subst z; rw [r] at mu; exact mu
 by_cases hb:b=x
 ·subst hb; rw [upd_same] at q; cases q; exact new
 ·rw [upd_ne hb] at q
  by_cases hbe:b=e
  ·have q':H b=some (.own x):=by
    rcases he with z | z
    ·exact absurd (hbe.trans z) hb
    ·rw [hbe]; exact z
   rw [q] at q'; cases q'
   obtain ⟨v,hv⟩:=heo
   exact ⟨v,by rw [hbe]; exact hv⟩
  ·refine (ok b u q).stay (fun c v hc r=>k c v ?_ r) (fun c r=>by rw [upd_ne (nown c b r)]; exact r) fun c xs r=>by rw [upd_ne (ntup c xs r)]; exact r
   rcases hc with rfl | hc
   ·exact hbe
   ·rintro rfl
    rcases he with z | z
    ·exact nown c b hc z
    ·rw [hc] at z; cases z; exact hb rfl
end
structure Un (fs ex:List Addr) (H H':Hp) (h h':Heap):Prop where
 keep:∀ b o,h.get? b=some o→H b=none→b∉fs→b∉ex→h'.get? b=some o
 slot:∀ b o,h.get? b=some o→H b=none→b∈fs→b∉ex→∃ sl,h'.get? b=some { o with slots:=sl }
 free:∀ b o,h.get? b=some o→H b=none→b∉ex→H' b=none
 there:∀ b o,h.get? b=some o→b∉ex→∃ o',h'.get? b=some o'
 tups:∀ b xs,H b=some (.tup xs)→H' b=some (.tup xs)
 frzs:∀ b o u,H b=some (.frz o u)→H' b=some (.frz o u)
 tbls:∀ b ps,H b=some (.tbl ps)→∃ more,H' b=some (.tbl (ps++more))
section
variable {fs fs' ex ex':List Addr} {H H1 H2:Hp} {h h1 h2 h':Heap} {a x e:Addr} {o:HO}
theorem Un.any (u:Un fs ex H H1 h h1) {b:Addr} {ob:Obj} (q:h.get? b=some ob) (n:H b=none) (hx:b∉ex):∃ sl,h1.get? b=some { ob with slots:=sl }:=by
 by_cases hb:b∈fs
 ·exact u.slot b ob q n hb hx
 ·exact ⟨ob.slots,u.keep b ob q n hb hx⟩
theorem Un.trans (a:Un fs ex H H1 h h1) (b:Un fs ex H1 H2 h1 h2):Un fs ex H H2 h h2 where
 keep:=fun c ob q n hc hx=>b.keep c ob (a.keep c ob q n hc hx) (a.free c ob q n hx) hc hx
 slot:=fun c ob q n hc hx=>by
  obtain ⟨sl,e1⟩:=a.slot c ob q n hc hx
  obtain ⟨sl',e2⟩:=b.slot c _ e1 (a.free c ob q n hx) hc hx
  exact ⟨sl',e2⟩
 free:=fun c ob q n hx=>by
  obtain ⟨o',e1⟩:=a.there c ob q hx
  exact b.free c o' e1 (a.free c ob q n hx) hx
 there:=fun c ob q hx=>by
  obtain ⟨o',e1⟩:=a.there c ob q hx
  exact b.there c o' e1 hx
 tups:=fun c xs q=>b.tups c xs (a.tups c xs q)
 frzs:=fun c ob xs q=>b.frzs c ob xs (a.frzs c ob xs q)
 tbls:=fun c ps q=>by
  obtain ⟨m1,e1⟩:=a.tbls c ps q
  obtain ⟨m2,e2⟩:=b.tbls c _ e1
  exact ⟨m1++m2,by rw [e2,Array.append_assoc]⟩
theorem Un.kept (k:∀ b u,h.get? b=some u→h'.get? b=some u):Un fs ex H H h h':=
 ⟨fun b ob q _ _ _=>k b ob q,fun b ob q _ _ _=>⟨ob.slots,k b ob q⟩,fun _ _ _ n _=>n,fun b ob q _=>⟨ob,k b ob q⟩,fun _ _ q=>q,fun _ _ _ q=>q,fun _ ps q=>⟨#[],by rw [q]; simp⟩⟩
theorem Un.refl:Un fs ex H H h h:=Un.kept fun _ _ q=>q
theorem Un.laid (k:∀ b u,h.get? b=some u→h'.get? b=some u) (hp:h.objs.size≤a) (hn:H a=none):Un fs ex H (upd H a o) h h' where
 keep:=fun b u q _ _ _=>k b u q
 slot:=fun b u q _ _ _=>⟨u.slots,k b u q⟩
 free:=fun b u q n _=>by rw [upd_ne (Nat.ne_of_lt (Nat.lt_of_lt_of_le (Heap.lt_size q) hp))]; exact n
 there:=fun b u q _=>⟨u,k b u q⟩
 tups:=fun b xs q=>by rw [upd_ne (ne_of_none q hn)]; exact q
 frzs:=fun b u xs q=>by rw [upd_ne (ne_of_none q hn)]; exact q
 tbls:=fun b ps q=>⟨#[],by rw [upd_ne (ne_of_none q hn),q]; simp⟩
theorem Un.write (mu:Mut (H x)) (he:e=x∨H e=some (.own x)) (k:∀ b u,b≠e→h.get? b=some u→h'.get? b=some u) (heo:∃ u,h'.get? e=some u):Un fs ex H (upd H x o) h h':=by
 have hx:∀ b,H b=none→b≠x:=fun b n z=>by subst z; rw [n] at mu; exact mu
 have hb:∀ b,H b=none→b≠e:=fun b n z=>by
  subst z
  rcases he with r | r
  ·exact hx b n r
  ·rw [n] at r; cases r
 have hm:∀ b u,H b=some u→¬ Mut (some u)→b≠x:=fun b u q nm z=>by subst z; rw [q] at mu; exact nm mu
 refine ⟨fun b u q n _ _=>k b u (hb b n) q,fun b u q n _ _=>⟨u.slots,k b u (hb b n) q⟩,fun b u q n _=>by rw [upd_ne (hx b n)]; exact n,fun b u q _=>?_,
  fun b xs q=>by rw [upd_ne (hm b _ q fun z=>z)]; exact q,fun b u xs q=>by rw [upd_ne (hm b _ q fun z=>z)]; exact q,fun b ps q=>⟨#[],by rw [upd_ne (hm b _ q fun z=>z),q]; simp⟩⟩
 by_cases hbe:b=e
 ·subst hbe; exact heo
 ·exact ⟨u,k b u hbe q⟩
theorem Un.mono (u:Un fs ex H H1 h h1) (hs:∀ b∈fs,b∈fs') (hx:∀ b∈ex,b∈ex'):Un fs' ex' H H1 h h1:=
 ⟨fun b ob q n hb he=>u.keep b ob q n (fun z=>hb (hs b z)) fun z=>he (hx b z),fun _ _ q n _ he=>u.any q n fun z=>he (hx _ z),fun b ob q n he=>u.free b ob q n fun z=>he (hx b z),fun b ob q he=>u.there b ob q fun z=>he (hx b z),u.tups,u.frzs,u.tbls⟩
end
noncomputable def trk (h:Heap) (H:Hp):List Addr:=(List.range h.objs.size).filter fun a=>(H a).isSome
noncomputable def hidT (h:Heap) (H:Hp):Heap:=PySem.W.hideAll h (trk h H)
theorem hidT_size (h:Heap) (H:Hp):(hidT h H).objs.size=h.objs.size:=PySem.W.hideAll_size _ _
theorem hidT_get {h:Heap} {H:Hp} {b:Addr} {o:Obj} (e:h.get? b=some o) (n:H b=none):(hidT h H).get? b=some o:=
 PySem.W.hideAll_get _ e fun hm=>by
  have q:(H b).isSome=true:=(List.mem_filter.mp hm).2
  rw [n] at q; simp at q
theorem of_hidT {h:Heap} {H:Hp} {b:Addr} {o:Obj} (e:(hidT h H).get? b=some o):h.get? b=some o∧H b=none:=by
 have e':h.get? b=some o:=PySem.W.of_hideAll (trk h H) e
 refine ⟨e',?_⟩
 cases q:H b with
 | none=>rfl
 | some x=>
  have hm:b∈trk h H:=List.mem_filter.mpr ⟨List.mem_range.mpr (Heap.lt_size e'),by simp [q]⟩
  have z:(hidT h H).get? b=none:=PySem.W.hideAll_none (trk h H) hm
  rw [z] at e; cases e
noncomputable def allNews (g h:Heap) (L:Addr):List (Addr×Obj):=(List.range h.objs.size).filterMap fun a=>if a=L∨(g.get? a).isSome=true then none else (h.get? a).map fun o=>(a,o)
noncomputable def rest (g h:Heap) (L d:Addr):List (Addr×Obj):=(allNews g h L).filter fun p=>decide (p.1≠d)
end L2
namespace L2
open PySem PySem.Spec PyProof.Rows
structure Mod (K:PySem.W.Frag) (mg:Str→Option Value) (base:Heap):Prop where
 kin:K.In base
 glob:base.Ns mainGlobals mg
 blt:∃ mb,base.Ns builtinsNs mb∧∀ x:Str,x≠"__name__"→mb x=bootBuiltins x
 nolimit:base.NoLimit
structure Cx where
 prog:Program
 w:World
 K:PySem.W.Frag
 mg:Str→Option Value
 base:Heap
 A:Around
 N:List Str
 s₀:Shared
 H₀:Hp
 env:Env
 outer:List Env
 stack:List Env
 ex:List Addr
 fn:Str→Bool
 calm:Bool
 pn:List (Addr×Obj)
 xe:Value→Shared→Prop
noncomputable def frs (l:List Env):List Addr:=l.filterMap (·.frame)
noncomputable abbrev Cx.fs (X:Cx):List Addr:=frs X.outer
noncomputable def Vis (sc:Scope) (x:Str):Prop:=sc.names.lookup x=some .local∨sc.names.lookup x=some .cell∨sc.names.lookup x=some .free
noncomputable def Loc (sc:Scope) (x:Str):Prop:=sc.names.lookup x=some .local∨sc.names.lookup x=some .cell
noncomputable def Look (env:Env) (h:Heap) (m:Str→Option Value) (x:Str) (u:Value):Prop:=
 (env.kindOf x=some .local∧m x=some u)∨((env.kindOf x=some .cell∨env.kindOf x=some .free)∧∃ c,env.cells.lookup x=some c∧h.IsCell c (some u))
structure Cx.Ok (X:Cx):Prop where
 mod:Mod X.K X.mg X.base
 kind:X.env.scope.kind=.function
 glob:X.env.globals=mainGlobals
 blt:X.env.builtins=builtinsNs
 above:X.s₀.heap.objs.size≤X.env.locals
 inj:∀ x y c,X.env.cells.lookup x=some c→X.env.cells.lookup y=some c→x=y
 has:∀ x,(X.env.kindOf x=some .cell∨X.env.kindOf x=some .free)→∃ c,X.env.cells.lookup x=some c
 cab:∀ x c,X.fn x=true→X.env.cells.lookup x=some c→X.s₀.heap.objs.size≤c
 hd:X.calm=true→X.A.handled=none
 frames:X.A.frames=some X.stack
 stk:X.stack=X.outer∨(X.stack=X.env::X.outer∧X.env.frame=some X.env.locals)
 exf:∀ b∈X.ex,b≠X.env.locals∧∀ x c,X.env.cells.lookup x=some c→c≠b
 bs:∀ b o,X.base.get? b=some o→X.s₀.heap.get? b=some o∧X.H₀ b=none
 bsz:X.base.objs.size≤X.s₀.heap.objs.size
 noex:∀ b o,X.base.get? b=some o→b∉X.ex
 exfs:∀ b∈X.ex,b∉X.fs
 funs:X.s₀.heap.FunFrames X.base X.outer
 frf:∀ b∈X.fs,X.H₀ b=none
structure Inv (X:Cx) (pins:List (Addr×Obj)) (σ:List (Option V)) (H:Hp) (s:Shared):Prop where
 ok:X.Ok
 os:s.os=X.s₀.os
 bare:AllBare s.gens
 base:Un X.fs X.ex X.H₀ H X.s₀.heap s.heap
 loc:∃ m,s.heap.Ns X.env.locals m∧∀ (i:Nat) (x:Str) (v:V),X.N[i]? = some x→σ[i]? = some (some v)→Vis X.env.scope x→∃ u,RelV v u∧Look X.env s.heap m x u
 cell:∀ x c,X.env.cells.lookup x=some c→∃ v,s.heap.IsCell c v
 free:H X.env.locals=none
 freeC:∀ x c,X.env.cells.lookup x=some c→H c=none
 pin:∀ p∈X.pn++pins,s.heap.get? p.1=some p.2∧H p.1=none∧p.1≠X.env.locals∧p.1∉X.fs∧∀ v,p.2.data≠.cell v
 hok:HOk X.prog X.w H s.heap
 len:σ.length=X.N.length
section
variable {X:Cx} {pins:List (Addr×Obj)} {σ:List (Option V)} {H H':Hp} {s:Shared} {h':Heap}
theorem Cx.Ok.nofr (ok:X.Ok) {b:Addr} {o:Obj} (e:X.base.get? b=some o):b∉X.fs:=fun hb=>by
 have:=(ok.funs.mem hb).1
 rw [e] at this; cases this
theorem Inv.bs (I:Inv X pins σ H s):∀ b o,X.base.get? b=some o→s.heap.get? b=some o∧H b=none:=fun b o e=>
 ⟨I.base.keep b o (I.ok.bs b o e).1 (I.ok.bs b o e).2 (I.ok.nofr e) (I.ok.noex b o e),I.base.free b o (I.ok.bs b o e).1 (I.ok.bs b o e).2 (I.ok.noex b o e)⟩
theorem Inv.bk (I:Inv X pins σ H s):∀ b o,X.base.get? b=some o→s.heap.get? b=some o:=fun b o e=>(I.bs b o e).1
theorem Inv.mod (I:Inv X pins σ H s):Mod X.K X.mg X.base:=I.ok.mod
theorem Inv.kIn (I:Inv X pins σ H s):X.K.In s.heap:=I.ok.mod.kin.keeps I.bk
theorem Inv.nolimit (I:Inv X pins σ H s):s.heap.NoLimit:=I.ok.mod.nolimit.keeps I.bk
theorem Inv.fr (I:Inv X pins σ H s):∃ m,Fr X.base X.env.locals s.heap m:=
 let ⟨m,hn,_⟩:=I.loc
 ⟨m,hn,I.bk,Nat.le_trans I.ok.bsz I.ok.above⟩
theorem Inv.lt (I:Inv X pins σ H s):X.env.locals < s.heap.objs.size:=let ⟨_,hn,_⟩:=I.loc; hn.lt
theorem Inv.sz (I:Inv X pins σ H s):X.s₀.heap.objs.size≤s.heap.objs.size:=Nat.le_trans I.ok.above (Nat.le_of_lt I.lt)
theorem Inv.nofs (I:Inv X pins σ H s) {a:Addr} (h:s.heap.objs.size≤a):a∉X.fs:=fun hb=>by
 obtain ⟨_,o,ho,_⟩:=I.ok.funs.mem hb
 exact absurd (Nat.lt_of_lt_of_le (Heap.lt_size ho) (Nat.le_trans I.sz h)) (Nat.lt_irrefl _)
theorem Inv.cne (I:Inv X pins σ H s):∀ x c,X.env.cells.lookup x=some c→c≠X.env.locals:=fun x c e z=>by
 obtain ⟨v,o,ho,hd⟩:=I.cell x c e
 obtain ⟨m,⟨o',es,ep,ho',hd',_⟩,_⟩:=I.loc
 rw [z,ho'] at ho; cases ho; rw [hd'] at hd; cases hd
theorem Inv.funs (I:Inv X pins σ H s):s.heap.FunFrames X.base X.outer:=by
 have all:∀ (l:List Env),(∀ b∈frs l,b∈X.fs)→X.s₀.heap.FunFrames X.base l→s.heap.FunFrames X.base l:=by
  intro l
  induction l with
  | nil=>intro _ _; trivial
  | cons env r ih=>
   intro hs hl
   obtain ⟨hk,⟨L,o,hf,hn,ho,hd⟩,hr⟩:=hl
   have hL:L∈X.fs:=hs L (by unfold frs; rw [List.filterMap_cons,hf]; exact List.mem_cons_self)
   obtain ⟨sl,e⟩:=I.base.slot L o ho (I.ok.frf L hL) hL fun z=>I.ok.exfs L z hL
   exact ⟨hk,⟨L,_,hf,hn,e,hd⟩,ih (fun b hb=>hs b (by unfold frs; rw [List.filterMap_cons,hf]; exact List.mem_cons_of_mem _ hb)) hr⟩
 exact all X.outer (fun _ hb=>hb) I.ok.funs
theorem Inv.stack (I:Inv X pins σ H s):s.heap.FunFrames X.base X.stack:=by
 rcases I.ok.stk with e | ⟨e,hf⟩
 ·rw [e]; exact I.funs
 ·rw [e]
  obtain ⟨m,hn,_⟩:=I.loc
  refine .cons (by rw [I.ok.kind]; decide) hf hn ?_ I.funs
  exact Heap.get?_none_of_le (Nat.le_trans I.ok.bsz I.ok.above)
theorem Inv.stkSub (I:Inv X pins σ H s):∀ b∈frs X.stack,b∈X.env.locals::X.fs:=fun b hb=>by
 rcases I.ok.stk with e | ⟨e,hf⟩
 ·rw [e] at hb; exact List.mem_cons_of_mem _ hb
 ·rw [e] at hb
  unfold frs at hb
  rw [List.filterMap_cons,hf] at hb
  exact hb
theorem Inv.stkFree (I:Inv X pins σ H s):∀ b∈frs X.stack,H b=none:=fun b hb=>by
 rcases List.mem_cons.mp (I.stkSub b hb) with e | hb
 ·rw [e]; exact I.free
 ·obtain ⟨_,o,ho,_⟩:=I.ok.funs.mem hb
  exact I.base.free b o ho (I.ok.frf b hb) fun z=>I.ok.exfs b z hb
theorem Inv.step {g':Array GenState} {t':Nat} {d':Drawn} {ch:List Addr} (I:Inv X pins σ H s)
  (hch:∀ b∈ch,(b∈X.ex∨X.s₀.heap.objs.size≤b)∧b≠X.env.locals∧(∀ x c,X.env.cells.lookup x=some c→c≠b)∧∀ p∈X.pn++pins,p.1≠b)
  (keep:∀ b o,b≠X.env.locals→b∉X.fs→b∉ch→s.heap.get? b=some o→H b=none→h'.get? b=some o)
  (slot:∀ b o,b≠X.env.locals→b∈X.fs→b∉ch→s.heap.get? b=some o→H b=none→∃ sl,h'.get? b=some { o with slots:=sl }) (free:∀ b o,b∉ch→s.heap.get? b=some o→H b=none→H' b=none)
  (there:∀ b o,b∉ch→s.heap.get? b=some o→∃ o',h'.get? b=some o')
  (tups:∀ b xs,H b=some (.tup xs)→H' b=some (.tup xs)) (frzs:∀ b o u,H b=some (.frz o u)→H' b=some (.frz o u)) (tbls:∀ b ps,H b=some (.tbl ps)→∃ more,H' b=some (.tbl (ps++more)))
  (ns:∀ m,s.heap.Ns X.env.locals m→h'.Ns X.env.locals m) (hok:HOk X.prog X.w H' h') (hg:AllBare g') :
  Inv X pins σ H' { s with heap:=h',gens:=g',drawn:=d',toks:=t' }:=by
 have neL:∀ b o,X.s₀.heap.get? b=some o→b≠X.env.locals:=fun b o e=>Nat.ne_of_lt (Nat.lt_of_lt_of_le (Heap.lt_size e) I.ok.above)
 have neC:∀ b o,X.s₀.heap.get? b=some o→b∉X.ex→b∉ch:=fun b o e hx hb=>by
  rcases (hch b hb).1 with z | z
  ·exact hx z
  ·exact absurd (Nat.lt_of_lt_of_le (Heap.lt_size e) z) (Nat.lt_irrefl _)
 have cellK:∀ x c,X.env.cells.lookup x=some c→∀ v,s.heap.IsCell c v→h'.IsCell c v:=fun x c e v ⟨o,ho,hd⟩=>by
  have nch:c∉ch:=fun z=>(hch c z).2.2.1 x c e rfl
  by_cases hc:c∈X.fs
  ·obtain ⟨sl,q⟩:=slot c o (I.cne x c e) hc nch ho (I.freeC x c e)
   exact ⟨_,q,hd⟩
  ·exact ⟨o,keep c o (I.cne x c e) hc nch ho (I.freeC x c e),hd⟩
 refine ⟨I.ok,I.os,hg,⟨fun b o e n hb hx=>?_,fun b o e n hb hx=>?_,fun b o e n hx=>?_,fun b o e hx=>?_,fun b xs e=>tups b xs (I.base.tups b xs e),fun b o xs e=>frzs b o xs (I.base.frzs b o xs e),fun b ps e=>?_⟩,?_,fun x c e=>?_,?_,fun x c e=>?_,fun p hp=>?_,hok,I.len⟩
 ·exact keep b o (neL b o e) hb (neC b o e hx) (I.base.keep b o e n hb hx) (I.base.free b o e n hx)
 ·obtain ⟨sl,e1⟩:=I.base.slot b o e n hb hx
  obtain ⟨sl',e2⟩:=slot b _ (neL b o e) hb (neC b o e hx) e1 (I.base.free b o e n hx)
  exact ⟨sl',e2⟩
 ·obtain ⟨o',e1⟩:=I.base.there b o e hx
  exact free b o' (neC b o e hx) e1 (I.base.free b o e n hx)
 ·obtain ⟨o',e1⟩:=I.base.there b o e hx
  exact there b o' (neC b o e hx) e1
 ·obtain ⟨m1,e1⟩:=I.base.tbls b ps e
  obtain ⟨m2,e2⟩:=tbls b _ e1
  exact ⟨m1++m2,by rw [e2,Array.append_assoc]⟩
 ·obtain ⟨m,hn,hl⟩:=I.loc
  refine ⟨m,ns m hn,fun i x v e1 e2 e3=>?_⟩
  obtain ⟨u,r,l⟩:=hl i x v e1 e2 e3
  refine ⟨u,r,?_⟩
  rcases l with l | ⟨k,c,e,z⟩
  ·exact .inl l
  ·exact .inr ⟨k,c,e,cellK x c e _ z⟩
 ·obtain ⟨v,z⟩:=I.cell x c e
  exact ⟨v,cellK x c e v z⟩
 ·obtain ⟨m,⟨o,_,_,ho,_⟩,_⟩:=I.loc
  exact free _ o (fun z=>(hch _ z).2.1 rfl) ho I.free
 ·obtain ⟨v,o,ho,hd⟩:=I.cell x c e
  exact free c o (fun z=>(hch c z).2.2.1 x c e rfl) ho (I.freeC x c e)
 ·obtain ⟨e,n,ne,nf,d⟩:=I.pin p hp
  have nch:p.1∉ch:=fun z=>(hch p.1 z).2.2.2 p hp rfl
  exact ⟨keep p.1 p.2 ne nf nch e n,free p.1 p.2 nch e n,ne,nf,d⟩
theorem Inv.un {t':Nat} (I:Inv X pins σ H s) (u:Un X.fs [] H H' s.heap h') (hok:HOk X.prog X.w H' h'):Inv X pins σ H' { s with heap:=h',toks:=t' }:=by
 obtain ⟨m,⟨o,es,ep,ho,r⟩,_⟩:=id I.loc
 obtain ⟨sl,hL⟩:=u.any ho I.free (by simp)
 exact I.step (g':=s.gens) (d':=s.drawn) (ch:=[]) (fun _ z=>nomatch z) (fun b o _ hb _ e n=>u.keep b o e n hb (by simp)) (fun b o _ hb _ e n=>u.slot b o e n hb (by simp)) (fun b o _ e n=>u.free b o e n (by simp)) (fun b o _ e=>u.there b o e (by simp)) u.tups u.frzs u.tbls (fun m' hm=>by
  obtain ⟨o',es',ep',ho',r'⟩:=hm
  rw [ho] at ho'; cases ho'
  exact ⟨_,es',ep',hL,r'⟩) hok I.bare
theorem Inv.call {g':Array GenState} {t':Nat} {d':Drawn} {ch:List Addr} (I:Inv X pins σ H s) (u:Un (frs X.stack) ch H H' s.heap h') (hok:HOk X.prog X.w H' h') (hg:AllBare g')
  (hch:∀ b∈ch,(b∈X.ex∨X.s₀.heap.objs.size≤b)∧b≠X.env.locals∧(∀ x c,X.env.cells.lookup x=some c→c≠b)∧∀ p∈X.pn++pins,p.1≠b) :
  Inv X pins σ H' { s with heap:=h',gens:=g',drawn:=d',toks:=t' }:=by
 obtain ⟨m,⟨o,es,ep,ho,r⟩,_⟩:=id I.loc
 obtain ⟨sl,hL⟩:=u.any ho I.free fun z=>(hch _ z).2.1 rfl
 exact I.step (ch:=ch) hch (fun b o hL hb hc e n=>u.keep b o e n (fun z=>(List.mem_cons.mp (I.stkSub b z)).elim hL hb) hc) (fun b o _ _ hc e n=>u.any e n hc) (fun b o hc e n=>u.free b o e n hc) (fun b o hc e=>u.there b o e hc) u.tups u.frzs u.tbls (fun m' hm=>by
  obtain ⟨o',es',ep',ho',r'⟩:=hm
  rw [ho] at ho'; cases ho'
  exact ⟨_,es',ep',hL,r'⟩) hok hg
theorem Inv.turned {t':Nat} {it:Addr} (I:Inv X pins σ H s) (k:∀ b o,b≠it→s.heap.get? b=some o→h'.get? b=some o) (hn:H it=none) (hL:it≠X.env.locals)
  (h1:it∈X.ex∨X.s₀.heap.objs.size≤it) (h2:∀ x c,X.env.cells.lookup x=some c→c≠it) (h3:∀ p∈X.pn++pins,p.1≠it):Inv X pins σ H { s with heap:=h',toks:=t' }:=by
 have nit:∀ b u,H b=some u→b≠it:=fun b u e z=>by rw [z,hn] at e; cases e
 refine I.step (g':=s.gens) (d':=s.drawn) (ch:=[it]) (fun b hb=>?_) (fun b o _ _ hc e _=>k b o (fun z=>hc (by simp [z])) e) (fun b o _ _ hc e _=>⟨o.slots,k b o (fun z=>hc (by simp [z])) e⟩) (fun _ _ _ _ n=>n)
  (fun b o hc e=>⟨o,k b o (fun z=>hc (by simp [z])) e⟩) (fun _ _ e=>e) (fun _ _ _ e=>e) (fun b ps e=>⟨#[],by rw [e]; simp⟩) (fun m hm=>?_) (fun b u e=>?_) I.bare
 ·have e:b=it:=by simpa using hb
  subst e
  exact ⟨h1,hL,h2,h3⟩
 ·obtain ⟨o,es,ep,ho,r⟩:=hm
  exact ⟨o,es,ep,k _ o (Ne.symm hL) ho,r⟩
 ·refine (I.hok b u e).stay (fun c v hc q=>k c v ?_ q) (fun _ q=>q) fun _ _ q=>q
  rcases hc with z | z
  ·rw [z]; exact nit b u e
  ·exact nit c _ z
theorem Inv.tok (I:Inv X pins σ H s) (t:Nat):Inv X pins σ H { s with toks:=t }:=I.un (h':=s.heap) (t':=t) Un.refl I.hok
theorem Inv.kept {t':Nat} (I:Inv X pins σ H s) (k:∀ b u,s.heap.get? b=some u→h'.get? b=some u):Inv X pins σ H { s with heap:=h',toks:=t' }:=I.un (Un.kept k) (I.hok.kept k)
theorem Inv.laid {a:Addr} {o:HO} {t':Nat} (I:Inv X pins σ H s) (k:∀ b u,s.heap.get? b=some u→h'.get? b=some u) (hp:s.heap.objs.size≤a) (new:ObjOk X.prog X.w (upd H a o) h' a o) :
  Inv X pins σ (upd H a o) { s with heap:=h',toks:=t' }:=I.un (Un.laid k hp (I.hok.fresh hp)) (I.hok.laid k hp new)
theorem Inv.write {x e:Addr} {o:HO} {t':Nat} (I:Inv X pins σ H s) (mu:Mut (H x)) (he:e=x∨H e=some (.own x)) (k:∀ b u,b≠e→s.heap.get? b=some u→h'.get? b=some u) (heo:∃ u,h'.get? e=some u)
  (new:ObjOk X.prog X.w (upd H x o) h' x o):Inv X pins σ (upd H x o) { s with heap:=h',toks:=t' }:=I.un (Un.write mu he k heo) (I.hok.write mu he k heo new)
theorem Inv.pins_of {pins':List (Addr×Obj)} (I:Inv X pins σ H s) (h:∀ p∈pins',s.heap.get? p.1=some p.2∧H p.1=none∧p.1≠X.env.locals∧p.1∉X.fs∧∀ v,p.2.data≠.cell v):Inv X pins' σ H s:=
 ⟨I.ok,I.os,I.bare,I.base,I.loc,I.cell,I.free,I.freeC,fun p hp=>(List.mem_append.mp hp).elim (fun z=>I.pin p (List.mem_append_left _ z)) (h p),I.hok,I.len⟩
theorem nodup_ix {N:List Str} (hN:N.Nodup) {i j:Nat} {x:Str} (a:N[i]? = some x) (b:N[j]? = some x):i=j:=by
 obtain ⟨h1,e1⟩:=List.getElem?_eq_some_iff.mp a
 obtain ⟨h2,e2⟩:=List.getElem?_eq_some_iff.mp b
 exact (List.getElem_inj hN).mp (e1.trans e2.symm)
theorem store_ok2 {M:Model} {A:Around} {E:Value→Shared→Prop} {i:Nat} {x:Str} {v:V} {u:Value} {Q:Unit→Shared→Prop} (I:Inv X pins σ H s) (hN:X.N.Nodup) (hi:X.N[i]? = some x) (hx:Loc X.env.scope x) (r:RelV v u)
  (h:∀ s',Inv X pins (σ.set i (some v)) H s'→(∃ a,Heap.SameBut a s.heap s'.heap∧(a=X.env.locals∨X.env.cells.lookup x=some a))→Q () s') (hf:X.fn x=true∨X.env.scope.names.lookup x=some .local:=by first | exact .inl rfl | exact .inr rfl | assumption):wpAny M A (storeName X.env x u) Q E s:=by
 obtain ⟨m,hn,hl⟩:=id I.loc
 have hcls:(X.env.scope.kind == .class || (X.env.scope.kind == .module && X.env.locals != X.env.globals))=false:=by rw [I.ok.kind]; rfl
 have hiσ:i < σ.length:=by rw [I.len]; exact (List.getElem?_eq_some_iff.mp hi).1
 have cne:=I.cne
 have tracked:∀ {a:Addr} {h':Heap},(∃ o,s.heap.get? a=some o∧H a=none)→Heap.SameBut a s.heap h'→HOk X.prog X.w H h':=fun {a h'} ha hs b ob e=>by
  obtain ⟨_,_,hfree⟩:=ha
  refine (I.hok b ob e).stay (fun c w' hc q=>(hs.2 c ?_).trans q) (fun _ q=>q) fun _ _ q=>q
  rintro rfl
  rcases hc with rfl | hc
  ·rw [hfree] at e; cases e
  ·rw [hfree] at hc; cases hc
 rcases hx with hk | hk
 ·refine wpAny_storeName_local hk hn (fun h' hn' hs=>?_) hcls
  obtain ⟨oL,_,_,hoL,_⟩:=id hn
  refine h _ ⟨I.ok,I.os,I.bare,⟨fun b o e n hb hx=>?_,fun b o e n hb hx=>?_,I.base.free,fun b o e hx=>?_,I.base.tups,I.base.frzs,I.base.tbls⟩,⟨_,hn',fun j y v' e1 e2 e3=>?_⟩,fun y c e=>?_,I.free,I.freeC,fun p hp=>?_,tracked ⟨oL,hoL,I.free⟩ hs,by simpa using I.len⟩ ⟨_,hs,.inl rfl⟩
  ·exact (hs.2 b (Nat.ne_of_lt (Nat.lt_of_lt_of_le (Heap.lt_size e) I.ok.above))).trans (I.base.keep b o e n hb hx)
  ·obtain ⟨sl,e1⟩:=I.base.slot b o e n hb hx
   exact ⟨sl,(hs.2 b (Nat.ne_of_lt (Nat.lt_of_lt_of_le (Heap.lt_size e) I.ok.above))).trans e1⟩
  ·obtain ⟨o',e1⟩:=I.base.there b o e hx
   exact ⟨o',(hs.2 b (Nat.ne_of_lt (Nat.lt_of_lt_of_le (Heap.lt_size e) I.ok.above))).trans e1⟩
  ·by_cases hj:j=i
   ·subst hj
    rw [hi] at e1; cases e1
    rw [List.getElem?_set_self hiσ] at e2
    cases e2
    exact ⟨u,r,.inl ⟨hk,by simp⟩⟩
   ·rw [List.getElem?_set_ne (Ne.symm hj)] at e2
    obtain ⟨u',r',q⟩:=hl j y v' e1 e2 e3
    refine ⟨u',r',?_⟩
    rcases q with ⟨k,e⟩ | ⟨k,c,e,z⟩
    ·refine .inl ⟨k,?_⟩
     have:y≠x:=fun e=>hj (nodup_ix hN e1 (e ▸ hi))
     simp [this,e]
    ·exact .inr ⟨k,c,e,z.sameBut hs (cne y c e)⟩
  ·obtain ⟨w',z⟩:=I.cell y c e
   exact ⟨w',z.sameBut hs (cne y c e)⟩
  ·obtain ⟨e,n,ne,nf,d⟩:=I.pin p hp
   exact ⟨(hs.2 p.1 ne).trans e,n,ne,nf,d⟩
 ·have hfn:X.fn x=true:=by
   rcases hf with z | z
   ·exact z
   ·rw [z] at hk; cases hk
  obtain ⟨c,hc⟩:=I.ok.has x (.inl hk)
  obtain ⟨w',z⟩:=I.cell x c hc
  refine wpAny_storeName_cell I.ok.kind hk hc z (fun h' hc' hs=>?_)
  obtain ⟨oc,hoc,hocd⟩:=id z
  refine h { s with heap:=h' } ⟨I.ok,I.os,I.bare,⟨fun b o e n hb hx=>?_,fun b o e n hb hx=>?_,I.base.free,fun b o e hx=>?_,I.base.tups,I.base.frzs,I.base.tbls⟩,⟨m,hn.sameBut hs (Ne.symm (cne x c hc)),fun j y v' e1 e2 e3=>?_⟩,fun y c' e=>?_,I.free,I.freeC,fun p hp=>?_,tracked ⟨oc,hoc,I.freeC x c hc⟩ hs,by simpa using I.len⟩ ⟨c,hs,.inr hc⟩
  ·exact (hs.2 b (Nat.ne_of_lt (Nat.lt_of_lt_of_le (Heap.lt_size e) (I.ok.cab x c hfn hc)))).trans (I.base.keep b o e n hb hx)
  ·obtain ⟨sl,e1⟩:=I.base.slot b o e n hb hx
   exact ⟨sl,(hs.2 b (Nat.ne_of_lt (Nat.lt_of_lt_of_le (Heap.lt_size e) (I.ok.cab x c hfn hc)))).trans e1⟩
  ·obtain ⟨o',e1⟩:=I.base.there b o e hx
   exact ⟨o',(hs.2 b (Nat.ne_of_lt (Nat.lt_of_lt_of_le (Heap.lt_size e) (I.ok.cab x c hfn hc)))).trans e1⟩
  ·by_cases hj:j=i
   ·subst hj
    rw [hi] at e1; cases e1
    rw [List.getElem?_set_self hiσ] at e2
    cases e2
    exact ⟨u,r,.inr ⟨.inl hk,c,hc,hc'⟩⟩
   ·rw [List.getElem?_set_ne (Ne.symm hj)] at e2
    obtain ⟨u',r',q⟩:=hl j y v' e1 e2 e3
    refine ⟨u',r',?_⟩
    rcases q with q | ⟨k,c',e,z'⟩
    ·exact .inl q
    ·refine .inr ⟨k,c',e,z'.sameBut hs ?_⟩
     rintro rfl
     exact hj (nodup_ix hN e1 (I.ok.inj _ _ _ e hc ▸ hi))
  ·by_cases hcc:c'=c
   ·subst hcc; exact ⟨_,hc'⟩
   ·obtain ⟨w2,z2⟩:=I.cell y c' e
    exact ⟨w2,z2.sameBut hs hcc⟩
  ·obtain ⟨e,n,ne,nf,d⟩:=I.pin p hp
   refine ⟨(hs.2 p.1 ?_).trans e,n,ne,nf,d⟩
   intro q
   rw [q,hoc] at e
   have q':oc=p.2:=Option.some.inj e
   exact d w' (by rw [← q']; exact hocd)
theorem store_ok {M:Model} {A:Around} {E:Value→Shared→Prop} {i:Nat} {x:Str} {v:V} {u:Value} {Q:Unit→Shared→Prop} (I:Inv X pins σ H s) (hN:X.N.Nodup) (hi:X.N[i]? = some x) (hx:Loc X.env.scope x) (r:RelV v u)
  (h:∀ s',Inv X pins (σ.set i (some v)) H s'→Q () s') (hf:X.fn x=true∨X.env.scope.names.lookup x=some .local:=by first | exact .inl rfl | exact .inr rfl | assumption):wpAny M A (storeName X.env x u) Q E s:=
 store_ok2 I hN hi hx r (fun s' I' _=>h s' I') hf
theorem Inv.call' {s':Shared} {ch:List Addr} (I:Inv X pins σ H s) (ho:s'.os=s.os) (u:Un (frs X.stack) ch H H' s.heap s'.heap) (hok:HOk X.prog X.w H' s'.heap) (hg:AllBare s'.gens)
  (hch:∀ b∈ch,(b∈X.ex∨X.s₀.heap.objs.size≤b)∧b≠X.env.locals∧(∀ x c,X.env.cells.lookup x=some c→c≠b)∧∀ p∈X.pn++pins,p.1≠b):Inv X pins σ H' s':=by
 obtain ⟨h',g',d',t',o'⟩:=s'
 have e:o'=s.os:=ho
 subst e
 exact I.call (g':=g') (t':=t') (d':=d') u hok hg hch
end
noncomputable abbrev XK:=Value→Option Addr→Hp→Prop
noncomputable abbrev St:=List (Option V)
noncomputable abbrev VK:=V→Hp→Prop
noncomputable abbrev TE:=St→Hp→VK→Prop
noncomputable abbrev TT:=St→Hp→(Bool→Hp→Prop)→Prop
noncomputable abbrev TA:=St→Hp→(List V→Hp→Prop)→Prop
structure Ends where
 nx:St→Hp→Prop
 rt:VK
 bk:St→Hp→Prop:=fun _ _=>False
 ct:St→Hp→Prop:=fun _ _=>False
noncomputable abbrev TS:=Ends→St→Hp→Prop
noncomputable def EP (X:Cx) (pins:List (Addr×Obj)) (σ:St) (Q:VK) (u:Value) (s':Shared):Prop:=∃ v H',Inv X pins σ H' s'∧RelV v u∧Q v H'
noncomputable def TP (X:Cx) (pins:List (Addr×Obj)) (σ:St) (Q:Bool→Hp→Prop) (b:Bool) (s':Shared):Prop:=∃ H',Inv X pins σ H' s'∧Q b H'
noncomputable def AP (X:Cx) (pins:List (Addr×Obj)) (σ:St) (Q:List V→Hp→Prop) (us:List Value) (s':Shared):Prop:=∃ vs H',Inv X pins σ H' s'∧Vals vs us∧Q vs H'
noncomputable def SP (X:Cx) (pins:List (Addr×Obj)) (D:Ends) (f:Flow) (s':Shared):Prop:=
 match f with
 | .next=>∃ σ' H',Inv X pins σ' H' s'∧D.nx σ' H'
 | .brk=>∃ σ' H',Inv X pins σ' H' s'∧D.bk σ' H'
 | .cont=>∃ σ' H',Inv X pins σ' H' s'∧D.ct σ' H'
 | .ret u=>∃ v σ' H',Inv X pins σ' H' s'∧RelV v u∧D.rt v H'
noncomputable def PE (X:Cx) (e:Expr) (t:TE):Prop:=
 ∀ (pins:List (Addr×Obj)) (s:Shared) (σ:St) (H:Hp) (Q:VK),Inv X pins σ H s→t σ H Q→wpAny (model X.prog X.w) X.A (eval e X.env) (EP X pins σ Q) X.xe s
noncomputable def PT (X:Cx) (e:Expr) (t:TT):Prop:=
 ∀ (pins:List (Addr×Obj)) (s:Shared) (σ:St) (H:Hp) (Q:Bool→Hp→Prop),Inv X pins σ H s→t σ H Q→wpAny (model X.prog X.w) X.A (isTrue e X.env (eval e X.env)) (TP X pins σ Q) X.xe s
noncomputable def PW (X:Cx) (e:Expr) (t:TT):Prop:=
 ∀ (whole:Sem Value) (pins:List (Addr×Obj)) (s:Shared) (σ:St) (H:Hp) (Q:Bool→Hp→Prop),Inv X pins σ H s→t σ H Q→wpAny (model X.prog X.w) X.A (isTrue e X.env whole) (TP X pins σ Q) X.xe s
theorem PW.pt {X:Cx} {e:Expr} {t:TT} (h:PW X e t):PT X e t:=h _
noncomputable def PA (X:Cx) (es:List Expr) (t:TA):Prop:=
 ∀ (pos:Pos) (pins:List (Addr×Obj)) (s:Shared) (σ:St) (H:Hp) (Q:List V→Hp→Prop),Inv X pins σ H s→t σ H Q→wpAny (model X.prog X.w) X.A (spliced (backTo pos (starEach es X.env))) (AP X pins σ Q) X.xe s
noncomputable def PS (X:Cx) (st:Stmt) (t:TS):Prop:=
 ∀ (pins:List (Addr×Obj)) (s:Shared) (σ:St) (H:Hp) (D:Ends),Inv X pins σ H s→t D σ H→wpAny (model X.prog X.w) X.A (exec st X.env) (SP X pins D) X.xe s
noncomputable def PSs (X:Cx) (st:List Stmt) (t:TS):Prop:=
 ∀ (pins:List (Addr×Obj)) (s:Shared) (σ:St) (H:Hp) (D:Ends),Inv X pins σ H s→t D σ H→wpAny (model X.prog X.w) X.A (execs st X.env) (SP X pins D) X.xe s
theorem thn {α:Type} {t:Sem α} {Q Q':α→Shared→Prop} {M:Model} {A:Around} {E:Value→Shared→Prop} {s:Shared} (h:wpAny M A t Q E s) (hQ:∀ a s,Q a s→Q' a s):wpAny M A t Q' E s:=wpAny_mono h hQ fun _ _ x=>x
end L2
namespace L2
open PySem PySem.Spec PyProof.Rows
section
variable {X:Cx}
noncomputable def tVar (i:Nat):TE:=fun σ H Q=>∃ v,σ[i]? = some (some v)∧Q v H
noncomputable def tC (v:V):TE:=fun _ H Q=>Q v H
theorem pe_var {i:Nat} {x:Str} {pos:Pos} (hN:X.N[i]? = some x) (hv:Vis X.env.scope x) (hd:(x == ("__debug__" : Str))=false:=by decide) (hcd:(x == ("__classdict__" : Str))=false:=by decide):PE X (.Name x pos) (tVar i):=by
 intro pins s σ H Q I h
 obtain ⟨v,e,h⟩:=h
 obtain ⟨m,hn,hl⟩:=I.loc
 obtain ⟨u,r,l⟩:=hl i x v hN e hv
 have fin:EP X pins σ Q u s:=⟨v,H,I,r,h⟩
 rcases l with ⟨hk,hm⟩ | ⟨hk,c,hc,hcell⟩
 ·exact wpAny_Name (wpAny_loadName_local I.ok.kind hk hn hm fin) hd
 ·rcases hk with hk | hk
  ·exact wpAny_Name (wpAny_loadName_cell I.ok.kind hk hc hcell fin) hd
  ·exact wpAny_Name (wpAny_loadName_free I.ok.kind hk hc hcell fin hcd) hd
theorem pe_int {i j pos}:PE X (.Constant (.int i) j pos) (tC (.int i)):=fun _ _ _ H _ I h=>wpAny_Constant_int ⟨.int i,H,I.tok _,⟨_,rfl⟩,h⟩
theorem pe_bl {b j pos}:PE X (.Constant (.bool b) j pos) (tC (.bl b)):=fun _ _ _ H _ I h=>Constant_bool ⟨.bl b,H,I,rfl,h⟩
theorem pe_non {j pos}:PE X (.Constant .none j pos) (tC .non):=fun _ _ _ H _ I h=>Constant_none ⟨.non,H,I,rfl,h⟩
theorem pe_str {x j pos}:PE X (.Constant (.str x) j pos) (tC (.str x)):=fun _ _ _ H _ I h=>Calls.Constant_str ⟨.str x,H,I.tok _,⟨_,rfl⟩,h⟩
noncomputable def Gl (X:Cx) (x:Str):Prop:=X.env.kindOf x=some .globalImplicit
theorem ld_glob {E:Value→Shared→Prop} {pins:List (Addr×Obj)} {s:Shared} {σ:St} {H:Hp} {x:Str} {u:Value} {pos:Pos} {Q:Value→Shared→Prop} (I:Inv X pins σ H s) (hg:Gl X x) (hm:X.mg x=some u) (h:Q u s)
  (hd:(x == ("__debug__" : Str))=false:=by decide):wpAny (model X.prog X.w) X.A (eval (.Name x pos) X.env) Q E s:=
 Calls.Name_function_global I.ok.kind hg (Calls.loadGlobal_global (by rw [I.ok.glob]; exact I.mod.glob.keeps I.bk) hm h) hd
theorem ld_blt {E:Value→Shared→Prop} {pins:List (Addr×Obj)} {s:Shared} {σ:St} {H:Hp} {x:Str} {u:Value} {pos:Pos} {Q:Value→Shared→Prop} (I:Inv X pins σ H s) (hg:Gl X x) (hm:X.mg x=none) (hv:bootBuiltins x=some u) (h:Q u s)
  (hn:x≠"__name__":=by decide) (hd:(x == ("__debug__" : Str))=false:=by decide):wpAny (model X.prog X.w) X.A (eval (.Name x pos) X.env) Q E s:=by
 obtain ⟨mb,h1,h2⟩:=I.mod.blt
 exact Calls.Name_function_global I.ok.kind hg (Calls.loadGlobal_builtin (by rw [I.ok.glob]; exact I.mod.glob.keeps I.bk) hm (by rw [I.ok.blt]; exact h1.keeps I.bk) ((h2 x hn).trans hv) h) hd
theorem pe_glob {x:Str} {v:V} {u:Value} {pos:Pos} (hg:Gl X x) (hm:X.mg x=some u) (r:RelV v u) (hd:(x == ("__debug__" : Str))=false:=by decide):PE X (.Name x pos) (tC v):=
 fun _ _ _ H _ I h=>ld_glob I hg hm ⟨v,H,I,r,h⟩ hd
theorem pe_bltn {x:Str} {v:V} {u:Value} {pos:Pos} (hg:Gl X x) (hm:X.mg x=none) (hv:bootBuiltins x=some u) (r:RelV v u) (hn:x≠"__name__":=by decide) (hd:(x == ("__debug__" : Str))=false:=by decide):PE X (.Name x pos) (tC v):=
 fun _ _ _ H _ I h=>ld_blt I hg hm hv ⟨v,H,I,r,h⟩ hn hd
variable {a b:Expr} {ta tb:TE} {pos:Pos}
variable {tA tB':TT} {rest:List Expr}
noncomputable def tAnd (t u:TT):TT:=fun σ H Q=>t σ H fun c H1=>if c=true then u σ H1 Q else Q false H1
noncomputable def tOr (t u:TT):TT:=fun σ H Q=>t σ H fun c H1=>if c=true then Q true H1 else u σ H1 Q
noncomputable def tNot (t:TT):TT:=fun σ H Q=>t σ H fun c H1=>Q (!c) H1
theorem pw_and1 (ha:PT X a tA):PW X (.BoolOp .And [a] pos) tA:=by
 intro wh pins s σ H Q I h
 refine isTrue_and (thn (ha pins s σ H Q I h) fun c s1 e=>?_)
 cases c with
 | true=>exact isTrue_and_nil e
 | false=>exact e
theorem pw_or1 (ha:PT X a tA):PW X (.BoolOp .Or [a] pos) tA:=by
 intro wh pins s σ H Q I h
 refine isTrue_or (thn (ha pins s σ H Q I h) fun c s1 e=>?_)
 cases c with
 | false=>exact isTrue_or_nil e
 | true=>exact e
theorem pw_and (ha:PT X a tA) (hb:PW X (.BoolOp .And (b::rest) pos) tB'):PW X (.BoolOp .And (a::b::rest) pos) (tAnd tA tB'):=by
 intro wh pins s σ H Q I h
 refine isTrue_and (thn (ha pins s σ H _ I h) fun c s1 ⟨H1,I1,q1⟩=>?_)
 cases c with
 | true=>exact hb wh pins s1 σ H1 Q I1 q1
 | false=>exact ⟨H1,I1,q1⟩
theorem pw_or (ha:PT X a tA) (hb:PW X (.BoolOp .Or (b::rest) pos) tB'):PW X (.BoolOp .Or (a::b::rest) pos) (tOr tA tB'):=by
 intro wh pins s σ H Q I h
 refine isTrue_or (thn (ha pins s σ H _ I h) fun c s1 ⟨H1,I1,q1⟩=>?_)
 cases c with
 | true=>exact ⟨H1,I1,q1⟩
 | false=>exact hb wh pins s1 σ H1 Q I1 q1
theorem pt_not (ha:PT X a tA):PT X (.UnaryOp .Not a pos) (tNot tA):=by
 intro pins s σ H Q I h
 exact isTrue_not (ha pins s σ H (fun c H1=>Q (!c) H1) I h)
noncomputable def tAndV (ta tb:TE):TE:=fun σ H Q=>ta σ H fun x H1=>∃ c,x=.bl c∧if c=true then tb σ H1 Q else Q (.bl false) H1
noncomputable def tOrV (ta tb:TE):TE:=fun σ H Q=>ta σ H fun x H1=>∃ c,x=.bl c∧if c=true then Q (.bl true) H1 else tb σ H1 Q
noncomputable def tNotV (ta:TE):TE:=fun σ H Q=>ta σ H fun x H1=>∃ c,x=.bl c∧Q (.bl (!c)) H1
theorem pe_one {op} {t:TE} (h:PE X a t):PE X (.BoolOp op [a] pos) t:=fun pins s σ H Q I hw=>BoolOp_one (h pins s σ H Q I hw)
theorem pe_and (ha:PE X a ta) (hb:PE X (.BoolOp .And (b::rest) pos) tb):PE X (.BoolOp .And (a::b::rest) pos) (tAndV ta tb):=by
 intro pins s σ H Q I h
 refine BoolOp_and (thn (ha pins s σ H _ I h) fun v s1 ⟨x,H1,I1,r1,q1⟩=>?_)
 obtain ⟨c,rfl,q1⟩:=q1
 cases r1
 refine wpAny_truthy_bool ?_
 cases c with
 | true=>exact hb pins s1 σ H1 Q I1 q1
 | false=>exact ⟨.bl false,H1,I1,rfl,q1⟩
theorem pe_or (ha:PE X a ta) (hb:PE X (.BoolOp .Or (b::rest) pos) tb):PE X (.BoolOp .Or (a::b::rest) pos) (tOrV ta tb):=by
 intro pins s σ H Q I h
 refine BoolOp_or (thn (ha pins s σ H _ I h) fun v s1 ⟨x,H1,I1,r1,q1⟩=>?_)
 obtain ⟨c,rfl,q1⟩:=q1
 cases r1
 refine wpAny_truthy_bool ?_
 cases c with
 | false=>exact hb pins s1 σ H1 Q I1 q1
 | true=>exact ⟨.bl true,H1,I1,rfl,q1⟩
theorem pe_not (ha:PE X a ta):PE X (.UnaryOp .Not a pos) (tNotV ta):=by
 intro pins s σ H Q I h
 refine UnaryOp_ (thn (ha pins s σ H _ I h) fun v s1 ⟨x,H1,I1,r1,q1⟩=>?_)
 obtain ⟨c,rfl,q1⟩:=q1
 cases r1
 exact not_of (wpAny_truthy_bool ⟨.bl (!c),H1,I1,rfl,q1⟩)
noncomputable def tIf (t:TT) (ta tb:TE):TE:=fun σ H Q=>t σ H fun c H1=>if c=true then ta σ H1 Q else tb σ H1 Q
theorem pe_ifExp {c:Expr} (hc:PT X c tA) (ha:PE X a ta) (hb:PE X b tb):PE X (.IfExp c a b pos) (tIf tA ta tb):=by
 intro pins s σ H Q I h
 refine wpAny_IfExp (thn (hc pins s σ H _ I h) fun d s1 ⟨H1,I1,q1⟩=>?_)
 cases d with
 | true=>exact ha pins s1 σ H1 Q I1 q1
 | false=>exact hb pins s1 σ H1 Q I1 q1
end
end L2
namespace L2
open PySem PySem.Spec PyProof.Rows
noncomputable def SqL (K:PySem.W.Frag) (H:Hp) (a:Addr) (xs:List V):Prop:=
 Rd H a (.lst xs) ∨
  ∃ (o:Obj) (its:Array Value) (n:Nat),K.lookup a=some o∧o.cls=.type "list"∧o.dict=none∧o.data=.seq its n∧its.size≤sizeLine∧Vals xs its.toList
noncomputable def SqT (K:PySem.W.Frag) (H:Hp) (a:Addr) (xs:List V):Prop:=
 Rd H a (.tup xs) ∨
  ∃ (o:Obj) (its:Array Value) (n:Nat),K.lookup a=some o∧o.cls=.type "tuple"∧o.data=.seq its n∧its.size≤sizeLine∧Vals xs its.toList
noncomputable def absV:Value→Option V
 | .none=>some .non
 | .bool b=>some (.bl b)
 | .int i _=>some (.int i)
 | .str x _=>some (.str x)
 | .bytes b _=>some (.byt b)
 | .float b _=>some (.flt b)
 | .ref a=>some (.ref a)
 | .type n=>some (.ty n)
 | _=>none
theorem RelV.abs {x:V} {u:Value} (r:RelV x u):absV u=some x:=by
 cases x with
 | non=>cases r; rfl
 | bl _=>cases r; rfl
 | int _=>obtain ⟨t,rfl⟩:=r; rfl
 | str _=>obtain ⟨t,rfl⟩:=r; rfl
 | byt _=>obtain ⟨t,rfl⟩:=r; rfl
 | flt _=>obtain ⟨t,rfl⟩:=r; rfl
 | ref _=>cases r; rfl
 | ty _=>cases r; rfl
theorem RelV.inj {x y:V} {u:Value} (r:RelV x u) (q:RelV y u):x=y:=Option.some.inj (r.abs.symm.trans q.abs)
theorem Vals.inj:∀ {xs ys:List V} {us:List Value},Vals xs us→Vals ys us→xs=ys
 | _,_,_,.nil,.nil=>rfl
 | _,_,_,.cons r t,.cons r' t'=>by rw [r.inj r',Vals.inj t t']
section
variable {X:Cx} {pins:List (Addr×Obj)} {σ:St} {H:Hp} {s:Shared} {a:Addr} {xs ys:List V}
theorem SqL.of {K:PySem.W.Frag} (h:H a=some (.lst xs)):SqL K H a xs:=.inl (.inl h)
theorem SqT.of {K:PySem.W.Frag} (h:H a=some (.tup xs)):SqT K H a xs:=.inl (.inl h)
theorem Inv.list (I:Inv X pins σ H s) (h:SqL X.K H a xs):∃ its:List Value,Vals xs its∧PlainL s.heap a its.toArray∧xs.length≤sizeLine:=by
 rcases h with h | ⟨o,its,n,hk,hc,hd,hs,hz,r⟩
 ·obtain ⟨z,its,n,r,e⟩:=h.ok I.hok
  exact ⟨its,r,⟨_,n,e,rfl,rfl,rfl⟩,z⟩
 ·refine ⟨its.toList,r,⟨o,n,I.kIn a o hk,hc,hd,by simpa using hs⟩,?_⟩
  have e:=r.length
  simp only [Array.length_toList] at e
  omega
theorem Inv.tuple (I:Inv X pins σ H s) (h:SqT X.K H a xs):∃ its:List Value,Vals xs its∧IsTup s.heap a its.toArray∧xs.length≤sizeLine:=by
 rcases h with h | ⟨o,its,n,hk,hc,hs,hz,r⟩
 ·obtain ⟨z,its,r,p⟩:=h.ok I.hok
  exact ⟨its,r,p,z⟩
 ·refine ⟨its.toList,r,⟨o,I.kIn a o hk,hc,n,by simpa using hs⟩,?_⟩
  have e:=r.length
  simp only [Array.length_toList] at e
  omega
theorem Inv.list_inj (I:Inv X pins σ H s) (h:SqL X.K H a xs) (h':SqL X.K H a ys):xs=ys:=by
 obtain ⟨its,r,⟨o,n,e,_,_,d⟩,_⟩:=I.list h
 obtain ⟨its',r',⟨o',n',e',_,_,d'⟩,_⟩:=I.list h'
 rw [e] at e'; cases e'
 rw [d] at d'
 injection d' with d1 _
 have:its=its':=by simpa using congrArg Array.toList d1
 subst this
 exact r.inj r'
theorem Inv.tuple_inj (I:Inv X pins σ H s) (h:SqT X.K H a xs) (h':SqT X.K H a ys):xs=ys:=by
 obtain ⟨its,r,⟨o,e,_,n,d⟩,_⟩:=I.tuple h
 obtain ⟨its',r',⟨o',e',_,n',d'⟩,_⟩:=I.tuple h'
 rw [e] at e'; cases e'
 rw [d] at d'
 injection d' with d1 _
 have:its=its':=by simpa using congrArg Array.toList d1
 subst this
 exact r.inj r'
end
noncomputable abbrev Cx.wish (X:Cx) (E:Value→Shared→Prop):Cx:={ X with xe:=E }
noncomputable abbrev Cx.nox (X:Cx):Cx:=X.wish fun _ _=>False
theorem Cx.Ok.wish {X:Cx} (ok:X.Ok) (E:Value→Shared→Prop):(X.wish E).Ok:=
 ⟨ok.mod,ok.kind,ok.glob,ok.blt,ok.above,ok.inj,ok.has,ok.cab,ok.hd,ok.frames,ok.stk,ok.exf,ok.bs,ok.bsz,ok.noex,ok.exfs,ok.funs,ok.frf⟩
theorem Cx.Ok.unwish {X:Cx} {E:Value→Shared→Prop} (ok:(X.wish E).Ok):X.Ok:=
 ⟨ok.mod,ok.kind,ok.glob,ok.blt,ok.above,ok.inj,ok.has,ok.cab,ok.hd,ok.frames,ok.stk,ok.exf,ok.bs,ok.bsz,ok.noex,ok.exfs,ok.funs,ok.frf⟩
section
variable {X:Cx} {pins:List (Addr×Obj)} {σ:St} {H:Hp} {s:Shared} {E:Value→Shared→Prop}
theorem Inv.wish (I:Inv X pins σ H s) (E:Value→Shared→Prop):Inv (X.wish E) pins σ H s:=⟨I.ok.wish E,I.os,I.bare,I.base,I.loc,I.cell,I.free,I.freeC,I.pin,I.hok,I.len⟩
theorem Inv.unwish (I:Inv (X.wish E) pins σ H s):Inv X pins σ H s:=⟨I.ok.unwish,I.os,I.bare,I.base,I.loc,I.cell,I.free,I.freeC,I.pin,I.hok,I.len⟩
theorem SP.unwish {D:Ends} {f:Flow} {s':Shared} (h:SP (X.wish E) pins D f s'):SP X pins D f s':=by
 cases f with
 | next=>obtain ⟨σ',H',I,q⟩:=h; exact ⟨σ',H',I.unwish,q⟩
 | brk=>obtain ⟨σ',H',I,q⟩:=h; exact ⟨σ',H',I.unwish,q⟩
 | cont=>obtain ⟨σ',H',I,q⟩:=h; exact ⟨σ',H',I.unwish,q⟩
 | ret u=>obtain ⟨v,σ',H',I,r,q⟩:=h; exact ⟨v,σ',H',I.unwish,r,q⟩
theorem PE.nox {e:Expr} {t:TE} (h:PE X.nox e t):PE X e t:=fun pins s σ H Q I hw=>
 wpAny_mono (h pins s σ H Q (I.wish _) hw) (fun _ _ ⟨v,H',I',r,q⟩=>⟨v,H',I'.unwish,r,q⟩) fun _ _ z=>False.elim z
theorem PT.nox {e:Expr} {t:TT} (h:PT X.nox e t):PT X e t:=fun pins s σ H Q I hw=>
 wpAny_mono (h pins s σ H Q (I.wish _) hw) (fun _ _ ⟨H',I',q⟩=>⟨H',I'.unwish,q⟩) fun _ _ z=>False.elim z
theorem PSs.nox {st:List Stmt} {t:TS} (h:PSs X.nox st t):PSs X st t:=fun pins s σ H D I hw=>
 wpAny_mono (h pins s σ H D (I.wish _) hw) (fun _ _ q=>q.unwish) fun _ _ z=>False.elim z
end
section
variable {X:Cx} {st:Stmt} {rest:List Stmt} {t u:TS} {e:Expr} {te:TE} {pos:Pos}
noncomputable def tNext:TS:=fun D σ H=>D.nx σ H
noncomputable def tSeq (t u:TS):TS:=fun D σ H=>t { D with nx:=u D } σ H
theorem pss_nil:PSs X [] tNext:=fun _ _ σ H _ I h=>wpAny_execs_nil ⟨σ,H,I,h⟩
theorem pss_cons (h1:PS X st t) (h2:PSs X rest u):PSs X (st::rest) (tSeq t u):=by
 intro pins s σ H D I h
 refine wpAny_execs_cons (thn (h1 pins s σ H { D with nx:=u D } I h) fun f s1 q=>?_)
 cases f with
 | next=>
  obtain ⟨σ',H',I',q⟩:=q
  exact h2 pins s1 σ' H' D I' q
 | ret v=>exact q
 | brk=>exact q
 | cont=>exact q
theorem pss_one (h1:PS X st t):PSs X [st] t:=by
 intro pins s σ H D I h
 refine wpAny_execs_cons (thn (h1 pins s σ H D I h) fun f s1 q=>?_)
 cases f with
 | next=>exact wpAny_execs_nil q
 | ret v=>exact q
 | brk=>exact q
 | cont=>exact q
theorem Inv.quiet {pins:List (Addr×Obj)} {σ:St} {H:Hp} {s:Shared} (I:Inv X pins σ H s):interactive X.env=false:=by simp [interactive,I.ok.kind]
noncomputable def tDrop (te:TE):TS:=fun D σ H=>te σ H fun _ H1=>D.nx σ H1
theorem ps_expr (he:PE X e te) (hs:swapsWith e none pos.line X.env=pure false:=by rfl):PS X (.Expr e pos) (tDrop te):=by
 intro pins s σ H D I h
 exact wpAny_Expr_any (thn (he pins s σ H _ I h) fun v s1 ⟨x,H1,I1,r1,q1⟩=>⟨σ,H1,I1,q1⟩) I.quiet hs
noncomputable def tRet (te:TE):TS:=fun D σ H=>te σ H D.rt
theorem ps_ret (he:PE X e te):PS X (.Return (some e) pos) (tRet te):=by
 intro pins s σ H D I h
 exact wpAny_Return_some (thn (he pins s σ H _ I h) fun v s1 ⟨x,H1,I1,r1,q1⟩=>⟨x,σ,H1,I1,r1,q1⟩)
noncomputable def tIfS (c:TT) (t u:TS):TS:=fun D σ H=>c σ H fun b H1=>if b=true then t D σ H1 else u D σ H1
theorem ps_if {c:Expr} {a b:List Stmt} {tc:TT} (hc:PT X c tc) (ha:PSs X a t) (hb:PSs X b u):PS X (.If c a b pos) (tIfS tc t u):=by
 intro pins s σ H D I h
 refine wpAny_If (thn (hc pins s σ H _ I h) fun d s1 ⟨H1,I1,q1⟩=>?_)
 cases d with
 | true=>exact ha pins s1 σ H1 D I1 q1
 | false=>exact hb pins s1 σ H1 D I1 q1
end
noncomputable abbrev TG:=V→St→Hp→(St→Hp→Prop)→Prop
noncomputable abbrev TGs:=List V→St→Hp→(St→Hp→Prop)→Prop
noncomputable def PG (X:Cx) (target:Expr) (t:TG):Prop:=
 ∀ (pins:List (Addr×Obj)) (s:Shared) (σ:St) (H:Hp) (v:V) (u:Value) (Q:St→Hp→Prop),Inv X pins σ H s→RelV v u→t v σ H Q →
  wpAny (model X.prog X.w) X.A (assign target X.env u) (fun _ s'=>∃ σ' H',Inv X pins σ' H' s'∧Q σ' H') X.xe s
noncomputable def PGs (X:Cx) (ts:List Expr) (t:TGs):Prop:=
 ∀ (pins:List (Addr×Obj)) (s:Shared) (σ:St) (H:Hp) (vs:List V) (us:List Value) (Q:St→Hp→Prop),Inv X pins σ H s→Vals vs us→t vs σ H Q →
  wpAny (model X.prog X.w) X.A (assignInOrder ((assignEach ts X.env).map (·.2)) us) (fun _ s'=>∃ σ' H',Inv X pins σ' H' s'∧Q σ' H') X.xe s
noncomputable abbrev TSet:=V→V→V→Hp→(Hp→Prop)→Prop
noncomputable def PSet (X:Cx) (t:TSet):Prop:=
 ∀ (pins:List (Addr×Obj)) (s:Shared) (σ:St) (H:Hp) (o i v:V) (ov iv u:Value) (Q:Hp→Prop),Inv X pins σ H s→RelV o ov→RelV i iv→RelV v u→t o i v H Q →
  wpAny (model X.prog X.w) X.A (setItem ov iv u) (fun _ s'=>∃ H',Inv X pins σ H' s'∧Q H') X.xe s
section
variable {X:Cx} {pos:Pos}
noncomputable def gName (i:Nat):TG:=fun v σ H Q=>Q (σ.set i (some v)) H
theorem pg_name {i:Nat} {x:Str} (hN:X.N.Nodup) (hi:X.N[i]? = some x) (hx:Loc X.env.scope x) (hf:X.fn x=true∨X.env.scope.names.lookup x=some .local:=by first | exact .inl rfl | exact .inr rfl | assumption):PG X (.Name x pos) (gName i):=by
 intro pins s σ H v u Q I r h
 exact wpAny_assign_Name (store_ok I hN hi hx r (fun s' I'=>⟨_,H,I',h⟩) hf)
noncomputable def gNil:TGs:=fun vs σ H Q=>vs=[]∧Q σ H
noncomputable def gCons (t:TG) (u:TGs):TGs:=fun vs σ H Q=>∃ v r,vs=v::r∧t v σ H fun σ' H'=>u r σ' H' Q
theorem pgs_nil:PGs X [] gNil:=by
 intro pins s σ H vs us Q I r h
 obtain ⟨e,h⟩:=h
 subst e
 cases r
 exact assignInOrder_nil ⟨σ,H,I,h⟩
theorem pgs_cons {e:Expr} {es:List Expr} {t:TG} {u:TGs} (h1:PG X e t) (h2:PGs X es u)
  (hs:(assignEach (e::es) X.env).map (·.2)=assign e X.env::(assignEach es X.env).map (·.2):=by rfl):PGs X (e::es) (gCons t u):=by
 intro pins s σ H vs us Q I r h
 obtain ⟨v,vr,e1,h⟩:=h
 subst e1
 cases r with
 | cons r rr=>
  rw [hs]
  refine assignInOrder_cons (thn (h1 pins s σ H _ _ _ I r h) fun _ s1 ⟨σ1,H1,I1,q1⟩=>?_)
  exact h2 pins s1 σ1 H1 _ _ Q I1 rr q1
noncomputable def gTup (K:PySem.W.Frag) (n:Nat) (t:TGs):TG:=fun v σ H Q=>∃ a xs,v=.ref a∧SqT K H a xs∧xs.length=n∧t xs σ H Q
theorem pg_tup {es:List Expr} {k:Nat} {t:TGs} {n:Nat} (hc:X.calm=true) (h:PGs X es t)
  (hn:(assignEach es X.env).length=n:=by rfl) (hst:(assignEach es X.env).findIdx? (·.1)=none:=by rfl):PG X (.Tuple es k pos) (gTup X.K n t):=by
 intro pins s σ H v u Q I r hw
 obtain ⟨a,xs,e1,hq,hl,hw⟩:=hw
 subst e1
 cases r
 obtain ⟨its,rv,ht,hz⟩:=I.tuple hq
 refine assign_Tuple_tuple (I.ok.hd hc) ht (by simp [hn,← hl,rv.length]) hst fun h' hx=>?_
 have I1:Inv X pins σ H { s with heap:=h' }:=I.kept (t':=s.toks) fun b o e=>hx b o (Nat.ne_of_lt (Heap.lt_size e)) e
 exact h pins _ σ H xs _ Q I1 (by simpa using rv) hw
noncomputable def gSub (to ti:TE) (t:TSet):TG:=fun v σ H Q=>to σ H fun o H1=>ti σ H1 fun i H2=>t o i v H2 fun H3=>Q σ H3
theorem pg_sub {o i:Expr} {to ti:TE} {t:TSet} (ho:PE X o to) (hi:PE X i ti) (hs:PSet X t)
  (ha:∀ v,assign (.Subscript o i pos) X.env v=(do
   let ov ← holding [v] (eval o X.env)
   let iv ← holding [v,ov] (eval i X.env)
   standAt pos
   holding [v,ov,iv] (setItem ov iv v)
   release [v,ov,iv] []):=by intro _; rfl):PG X (.Subscript o i pos) (gSub to ti t):=by
 intro pins s σ H v u Q I r h
 rw [ha]
 refine wpAny_bind (wpAny_holding (thn (ho pins s σ H _ I h) fun ov s1 ⟨x,H1,I1,r1,q1⟩=>?_))
 refine wpAny_bind (wpAny_holding (thn (hi pins s1 σ H1 _ I1 q1) fun iv s2 ⟨y,H2,I2,r2,q2⟩=>?_))
 refine wpAny_bind (wpAny_standAt (wpAny_bind (wpAny_holding (thn (hs pins s2 σ H2 x y v ov iv u _ I2 r1 r2 r q2) fun _ s3 ⟨H3,I3,q3⟩=>?_))))
 exact wpAny_release ⟨σ,H3,I3,q3⟩
noncomputable def tAsg (te:TE) (g:TG):TS:=fun D σ H=>te σ H fun x H1=>g x σ H1 D.nx
theorem ps_asg {tg e:Expr} {te:TE} {g:TG} (he:PE X e te) (hg:PG X tg g) (hs:swapsWithSole [tg] e pos.line X.env=pure false:=by rfl) (hw:swappedStores [tg] e X.env=pure none:=by rfl)
  (h1:(assignEach [tg] X.env).map (·.2)=[assign tg X.env]:=by rfl):PS X (.Assign [tg] e pos) (tAsg te g):=by
 intro pins s σ H D I h
 refine wpAny_Assign_stores (thn (he pins s σ H _ I h) fun v s1 ⟨x,H1,I1,r1,q1⟩=>?_) hs hw
 rw [h1]
 exact thn (hg pins s1 σ H1 x v _ I1 r1 q1) fun _ s2 q=>q
theorem ps_set {i:Nat} {x:Str} {e:Expr} {te:TE} {pos':Pos} (hN:X.N.Nodup) (hi:X.N[i]? = some x) (hx:Loc X.env.scope x) (he:PE X e te) (hs:swapsWith e (some (.Name x pos')) pos.line X.env=pure false:=by rfl) (hf:X.fn x=true∨X.env.scope.names.lookup x=some .local:=by first | exact .inl rfl | exact .inr rfl | assumption) :
  PS X (.Assign [.Name x pos'] e pos) (tAsg te (gName i)):=by
 intro pins s σ H D I h
 refine wpAny_Assign_Name (thn (he pins s σ H _ I h) fun v s1 ⟨y,H1,I1,r1,q1⟩=>?_) hs
 exact store_ok I1 hN hi hx r1 (fun s2 I2=>⟨_,H1,I2,q1⟩) hf
end
section
variable {X:Cx} {pos:Pos}
end
structure It where
 go:Nat→Hp→Prop
 yld:Nat→Hp→V→Hp→Prop
 stop:Nat→Hp→Prop
noncomputable def FpOk (X:Cx) (pins:List (Addr×Obj)) (H:Hp) (b:Addr):Prop:=
 H b=none∧b≠X.env.locals∧b∉X.fs∧(b∈X.ex∨X.s₀.heap.objs.size≤b)∧(∀ x c,X.env.cells.lookup x=some c→c≠b)∧∀ p∈X.pn++pins,p.1≠b
theorem Inv.fpOk {X:Cx} {pins:List (Addr×Obj)} {σ:St} {H H':Hp} {s:Shared} {b:Addr} (I:Inv X pins σ H s) (hb:s.heap.objs.size≤b) (hn:H' b=none):FpOk X pins H' b:=by
 refine ⟨hn,Nat.ne_of_gt (Nat.lt_of_lt_of_le I.lt hb),I.nofs hb,.inr (Nat.le_trans I.sz hb),fun x c e z=>?_,fun p hp z=>?_⟩
 ·obtain ⟨v,q⟩:=I.cell x c e
  exact absurd (Nat.lt_of_lt_of_le q.lt (by rw [z]; exact hb)) (Nat.lt_irrefl _)
 ·exact absurd (Nat.lt_of_lt_of_le (Heap.lt_size (I.pin p hp).1) (by rw [z]; exact hb)) (Nat.lt_irrefl _)
structure Turn (P:Program) (w:World) (K:PySem.W.Frag) (tg:Expr) (J:It) (fp:List Addr) (it:Addr) (tn:Nat→Heap→Prop):Prop where
 mem:it∈fp
 obj:∀ i h,tn i h→∀ b∈fp,∃ o,h.get? b=some o∧∀ v,o.data≠.cell v
 keep:∀ i h h',tn i h→(∀ b∈fp,∀ o,h.get? b=some o→h'.get? b=some o)→tn i h'
 item:∀ (X:Cx),X.prog=P→X.w=w→X.K=K→X.calm=true→∀ (i:Nat) (pins:List (Addr×Obj)) (s:Shared) (σ:St) (H:Hp) (E:Value→Shared→Prop),Inv X pins σ H s→(∀ b∈fp,FpOk X pins H b)→tn i s.heap→J.go i H →
  wpAny (model P w) X.A (pyNext (.ref it)) (fun r s1=>∃ u,r=some u ∧
   wpAny (model P w) X.A (letOwnedTupleGo tg (.ref it) u) (fun _ s2=>∃ x H',Inv X pins σ H' s2∧RelV x u∧J.yld i H x H'∧tn (i + 1) s2.heap∧∀ b∈fp,H' b=none) E s1) E s
 done:∀ (X:Cx),X.prog=P→X.w=w→X.K=K→X.calm=true→∀ (i:Nat) (pins:List (Addr×Obj)) (s:Shared) (σ:St) (H:Hp) (E:Value→Shared→Prop),Inv X pins σ H s→(∀ b∈fp,FpOk X pins H b)→tn i s.heap→J.stop i H →
  wpAny (model P w) X.A (pyNext (.ref it)) (fun r s1=>r=none∧Inv X pins σ H s1) E s
 self:∀ (A:Around) (i:Nat) (s:Shared) (Q:Value→Shared→Prop) (E:Value→Shared→Prop),tn i s.heap→Q (.ref it) s→wpAny (model P w) A (pyIter (.ref it)) Q E s
noncomputable abbrev TI:=St→Hp→(It→Hp→Prop)→Prop
noncomputable def PIE (X:Cx) (pins:List (Addr×Obj)) (σ:St) (tg:Expr) (R:It→Hp→Prop) (itv:Value) (s2:Shared):Prop:=
 ∃ (it:Addr) (fp:List Addr) (tn:Nat→Heap→Prop) (J:It) (H':Hp),itv=.ref it∧Inv X pins σ H' s2∧Turn X.prog X.w X.K tg J fp it tn∧tn 0 s2.heap∧(∀ b∈fp,FpOk X pins H' b)∧R J H'
noncomputable def PI (X:Cx) (tg iter:Expr) (wi:TI):Prop:=
 ∀ (pins:List (Addr×Obj)) (s:Shared) (σ:St) (H:Hp) (R:It→Hp→Prop),Inv X pins σ H s→wi σ H R →
  wpAny (model X.prog X.w) X.A (eval iter X.env) (fun v s1=>wpAny (model X.prog X.w) X.A (pyIter v) (PIE X pins σ tg R) X.xe s1) X.xe s
theorem go_of {M:Model} {A:Around} {E:Value→Shared→Prop} {s:Shared} {tg:Expr} {it:Addr} {u:Value} {o:Obj} {n:String} {vs:Array Value} {Q:Unit→Shared→Prop} (ho:s.heap.get? it=some o) (hc:o.cls=.type n) (hd:o.data=.fields vs)
  (hn:["enumerate","zip","dict_itemiterator","dict_reverseitemiterator","odict_iterator","itertools.zip_longest","itertools.pairwise"].contains n=false) (hQ:Q () s):wpAny M A (letOwnedTupleGo tg (.ref it) u) Q E s:=by
 unfold letOwnedTupleGo
 cases tg <;> first
  | exact wpAny_pure hQ
  | (cases u <;> first
    | exact wpAny_pure hQ
    | (refine wpAny_bind (wpAny_load ho ?_)
       rw [hc,hd]
       show wpAny M A (if (["enumerate","zip","dict_itemiterator","dict_reverseitemiterator","odict_iterator","itertools.zip_longest","itertools.pairwise"].contains n && vs[0]? == some (rawInt _))=true then _ else _) Q E s
       rw [if_neg (by intro h; rw [hn,Bool.false_and] at h; cases h)]
       exact wpAny_pure hQ))
noncomputable def Itl (K:PySem.W.Frag) (a:Addr):It:=
 ⟨fun i H=>∃ xs x,SqL K H a xs∧xs[i]? = some x,fun i H x H'=>H'=H∧∀ xs,SqL K H a xs→xs[i]? = some x,fun i H=>∃ xs,SqL K H a xs∧xs.length≤i⟩
noncomputable def Itt (K:PySem.W.Frag) (a:Addr):It:=
 ⟨fun i H=>∃ xs x,SqT K H a xs∧xs[i]? = some x,fun i H x H'=>H'=H∧∀ xs,SqT K H a xs→xs[i]? = some x,fun i H=>∃ xs,SqT K H a xs∧xs.length≤i⟩
noncomputable def Itr (lo:Int) (n:Nat):It:=⟨fun i _=>i < n,fun i H x H'=>H'=H∧x=.int (lo + i),fun i _=>n≤i⟩
theorem turn_list {P:Program} {w:World} {K:PySem.W.Frag} {tg:Expr} (a it:Addr):Turn P w K tg (Itl K a) [it] it (fun i h=>h.IsListIter it a i) where
 mem:=by simp
 obj:=fun i h st b hb=>by
  have e:b=it:=by simpa using hb
  subst e
  obtain ⟨o,e,c,d⟩:=st
  exact ⟨o,e,fun v z=>by rw [d] at z; cases z⟩
 keep:=fun i h h' st k=>st.at fun o e=>k it (by simp) o e
 item:=by
  intro X hP hw hK hc i pins s σ H E I hf st hg
  subst hP hw hK
  obtain ⟨xs,x,hq,hx⟩:=hg
  obtain ⟨its,rv,p,hz⟩:=I.list hq
  obtain ⟨u,hu,ru⟩:=rv.get hx
  obtain ⟨f0,f1,f2,f3,f4,f5⟩:=hf it (by simp)
  refine wpAny_pyNext_list_item st p.isList (x:=u) (by simpa using hu) fun h' st' sb=>?_
  have I1:Inv X pins σ H { s with heap:=h' }:=I.turned (t':=s.toks) (fun b o hb e=>(sb.2 b hb).trans e) f0 f1 f3 f4 f5
  obtain ⟨o,e,c,d⟩:=id st'
  exact ⟨u,rfl,go_of (s:={ s with heap:=h' }) e c d (by decide) ⟨x,H,I1,ru,⟨rfl,fun ys hy=>by rw [I.list_inj hy hq]; exact hx⟩,st',fun b hb=>(hf b hb).1⟩⟩
 done:=by
  intro X hP hw hK hc i pins s σ H E I hf st hg
  subst hP hw hK
  obtain ⟨xs,hq,hx⟩:=hg
  obtain ⟨its,rv,p,hz⟩:=I.list hq
  obtain ⟨f0,f1,f2,f3,f4,f5⟩:=hf it (by simp)
  have hl:=rv.length
  exact wpAny_pyNext_list_end (I.ok.hd hc) st p.isList (by simp; omega) fun h' eb=>⟨rfl,I.turned (t':=s.toks) (fun b o hb e=>eb b o hb e) f0 f1 f3 f4 f5⟩
 self:=fun _ _ _ _ _ st h=>wpAny_pyIter_listiter st h
theorem turn_tuple {P:Program} {w:World} {K:PySem.W.Frag} {tg:Expr} (a it:Addr):Turn P w K tg (Itt K a) [it] it (fun i h=>h.IsTupleIter it a i) where
 mem:=by simp
 obj:=fun i h st b hb=>by
  have e:b=it:=by simpa using hb
  subst e
  obtain ⟨o,e,c,d⟩:=st
  exact ⟨o,e,fun v z=>by rw [d] at z; cases z⟩
 keep:=fun i h h' st k=>st.at fun o e=>k it (by simp) o e
 item:=by
  intro X hP hw hK hc i pins s σ H E I hf st hg
  subst hP hw hK
  obtain ⟨xs,x,hq,hx⟩:=hg
  obtain ⟨its,rv,p,hz⟩:=I.tuple hq
  obtain ⟨u,hu,ru⟩:=rv.get hx
  obtain ⟨f0,f1,f2,f3,f4,f5⟩:=hf it (by simp)
  refine wpAny_pyNext_tuple_item st (show s.heap.IsTuple a its.toArray from p) (x:=u) (by simpa using hu) fun h' st' sb=>?_
  have I1:Inv X pins σ H { s with heap:=h' }:=I.turned (t':=s.toks) (fun b o hb e=>(sb.2 b hb).trans e) f0 f1 f3 f4 f5
  obtain ⟨o,e,c,d⟩:=id st'
  exact ⟨u,rfl,go_of (s:={ s with heap:=h' }) e c d (by decide) ⟨x,H,I1,ru,⟨rfl,fun ys hy=>by rw [I.tuple_inj hy hq]; exact hx⟩,st',fun b hb=>(hf b hb).1⟩⟩
 done:=by
  intro X hP hw hK hc i pins s σ H E I hf st hg
  subst hP hw hK
  obtain ⟨xs,hq,hx⟩:=hg
  obtain ⟨its,rv,p,hz⟩:=I.tuple hq
  obtain ⟨f0,f1,f2,f3,f4,f5⟩:=hf it (by simp)
  have hl:=rv.length
  exact wpAny_pyNext_tuple_end (I.ok.hd hc) st (show s.heap.IsTuple a its.toArray from p) (by simp; omega) fun h' eb=>⟨rfl,I.turned (t':=s.toks) (fun b o hb e=>eb b o hb e) f0 f1 f3 f4 f5⟩
 self:=fun _ _ _ _ _ st h=>wpAny_pyIter_tupleiter st h
theorem turn_range {P:Program} {w:World} {K:PySem.W.Frag} {tg:Expr} (it:Addr) (lo:Int) (n:Nat):Turn P w K tg (Itr lo n) [it] it (fun i h=>IsRangeIter h it (lo + (i:Nat) * 1) ((n:Int) - (i:Nat)) 1) where
 mem:=by simp
 obj:=fun i h st b hb=>by
  have e:b=it:=by simpa using hb
  subst e
  exact ⟨_,st,fun v z=>by
   have z':Data.fields _=Data.cell v:=z
   cases z'⟩
 keep:=fun i h h' st k=>k it (by simp) _ st
 item:=by
  intro X hP hw hK hc i pins s σ H E I hf st hg
  subst hP hw hK
  obtain ⟨f0,f1,f2,f3,f4,f5⟩:=hf it (by simp)
  have W:=Walks.range (prog:=X.prog) (w:=X.w) (I.ok.hd hc) it lo 1 n
  refine W.item i s _ _ hg st fun v h' tk hv st' kk=>?_
  obtain ⟨t,rfl⟩:=hv
  have I1:Inv X pins σ H { s with heap:=h',toks:=tk }:=I.turned (fun b o hb e=>kk b o (by simpa using hb) e) f0 f1 f3 f4 f5
  refine ⟨_,rfl,go_of (s:={ s with heap:=h',toks:=tk }) (n:="range_iterator") st' rfl rfl (by decide) ⟨.int (lo + i),H,I1,⟨t,?_⟩,⟨rfl,rfl⟩,st',fun b hb=>(hf b hb).1⟩⟩
  rw [Int.mul_one]
 done:=by
  intro X hP hw hK hc i pins s σ H E I hf st hg
  subst hP hw hK
  obtain ⟨f0,f1,f2,f3,f4,f5⟩:=hf it (by simp)
  exact wpAny_pyNext_range_end (I.ok.hd hc) st (by have:n≤i:=hg; omega) fun h' eb=>⟨rfl,I.turned (t':=s.toks) (fun b o hb e=>eb b o hb e) f0 f1 f3 f4 f5⟩
 self:=fun _ _ _ _ _ st h=>wpAny_pyIter_rangeiter st h
end L2
namespace L2
open PySem PySem.Spec PyProof.Rows
section
variable {X:Cx} {tg:Expr}
theorem range_it {pins:List (Addr×Obj)} {σ:St} {H:Hp} {s:Shared} {R:It→Hp→Prop} {E:Value→Shared→Prop} {lo hi:Int} {t u v:Tok} {tk:Nat} (I:Inv X pins σ H s) (h1 : -(2 ^ 62)≤lo) (h2:lo < 2 ^ 62) (h3 : -(2 ^ 62)≤hi) (h4:hi < 2 ^ 62)
  (q:R (Itr lo (hi - lo).toNat) H):wpAny (model X.prog X.w) X.A (pyIter (.ref s.heap.objs.size)) (PIE X pins σ tg R) E { s with heap:=s.heap.push { cls:=.type "range",data:=.fields #[.int lo t,.int hi u,.int 1 v] },toks:=tk }:=by
 refine wpAny_pyIter_range (IsRange.new ..) (small_one h1 h2 h3 h4) ?_
 have I1:Inv X pins σ H { s with heap:=s.heap.push { cls:=.type "range",data:=.fields #[.int lo t,.int hi u,.int 1 v] },toks:=tk }:=I.kept fun b o e=>Heap.get?_push_of_some _ e
 refine ⟨(s.heap.push { cls:=.type "range",data:=.fields #[.int lo t,.int hi u,.int 1 v] }).objs.size,[(s.heap.push { cls:=.type "range",data:=.fields #[.int lo t,.int hi u,.int 1 v] }).objs.size],_,_,H,rfl,
  I1.kept (t':=tk) fun b o e=>Heap.get?_push_of_some _ e,turn_range _ lo (hi - lo).toNat,?_,fun b hb=>?_,q⟩
 ·have e1:lo + ((0:Nat):Int) * 1=lo:=by simp
  have e2:(((hi - lo).toNat:Nat):Int) - ((0:Nat):Int)=Builtin.Range.rangeSize lo hi 1:=by rw [rangeSize_one]; split <;> omega
  show IsRangeIter _ _ (lo + ((0:Nat):Int) * 1) ((((hi - lo).toNat:Nat):Int) - ((0:Nat):Int)) 1
  rw [e1,e2]
  exact Heap.get?_push_size _ rfl
 ·have e:b=(s.heap.push { cls:=.type "range",data:=.fields #[.int lo t,.int hi u,.int 1 v] }).objs.size:=by simpa using hb
  subst e
  exact I1.fpOk (Nat.le_refl _) (I1.hok.fresh (Nat.le_refl _))
noncomputable def iRng1 (ta:TA):TI:=fun σ H R=>ta σ H fun vs H1=>∃ j:Int,vs=[.int j]∧-(2 ^ 62)≤j∧j < 2 ^ 62∧R (Itr 0 j.toNat) H1
theorem pi_range1 {a:Expr} {ta:TA} {p pos:Pos} (hg:Gl X "range") (hm:X.mg "range" = none) (ha:PA X [a] ta) (hs:starEach [a] X.env=[(false,eval a X.env)]:=by rfl):PI X tg (.Call (.Name "range" p) [a] [] pos) (iRng1 ta):=by
 intro pins s σ H R I h
 refine Call_ (ld_blt I hg hm boot_range (PyProof.Rows.callWith_type1 (thn (ha pos pins s σ H _ I h) fun us s1 ⟨vs,H1,I1,r1,q1⟩=>?_) hs rfl))
 obtain ⟨j,e,q1,q2,q⟩:=q1
 subst e
 cases r1 with
 | cons r rr=>
  cases rr
  obtain ⟨t,rfl⟩:=r
  exact call_range_1 (range_it I1 (by omega) (by omega) q1 q2 (by simpa using q))
noncomputable def tFor (wi:TI) (g:TG) (tb:TS):TS:=fun D σ H=>wi σ H fun J H1=>∃ W:Nat→Nat→St→Hp→Prop,(∃ m,W 0 m σ H1)∧∀ i m σ H,W i m σ H →
 (J.stop i H∧D.nx σ H)∨(J.go i H∧∃ N:St→Hp→Prop,(∀ σ' H',N σ' H'→∃ m',m' < m∧W (i + 1) m' σ' H')∧∀ x H',J.yld i H x H'→g x σ H' fun σ2 H2=>tb { D with nx:=N,ct:=N,bk:=D.nx } σ2 H2)
noncomputable def pinsAt (fp:List Addr) (h:Heap):List (Addr×Obj):=fp.filterMap fun b=>(h.get? b).map fun o=>(b,o)
theorem mem_pinsAt {fp:List Addr} {h:Heap} {b:Addr} {o:Obj} (hb:b∈fp) (e:h.get? b=some o):(b,o)∈pinsAt fp h:=List.mem_filterMap.mpr ⟨b,hb,by rw [e]; rfl⟩
theorem of_pinsAt {fp:List Addr} {h:Heap} {p:Addr×Obj} (hp:p∈pinsAt fp h):p.1∈fp∧h.get? p.1=some p.2:=by
 obtain ⟨b,hb,e⟩:=List.mem_filterMap.mp hp
 cases q:h.get? b with
 | none=>rw [q] at e; cases e
 | some o=>
  rw [q] at e
  have e':(b,o)=p:=Option.some.inj e
  subst e'
  exact ⟨hb,q⟩
theorem Inv.pinned {pins:List (Addr×Obj)} {σ:St} {H:Hp} {s:Shared} {fp:List Addr} (I:Inv X pins σ H s) (hf:∀ b∈fp,FpOk X pins H b) (ho:∀ b∈fp,∃ o,s.heap.get? b=some o∧∀ v,o.data≠.cell v):Inv X (pins++pinsAt fp s.heap) σ H s:=
 I.pins_of fun p hp=>(List.mem_append.mp hp).elim (fun z=>I.pin p (List.mem_append_right _ z)) fun z=>by
  obtain ⟨hb,e⟩:=of_pinsAt z
  obtain ⟨f0,f1,f2,_⟩:=hf p.1 hb
  obtain ⟨o,e',d⟩:=ho p.1 hb
  rw [e] at e'; cases e'
  exact ⟨e,f0,f1,f2,d⟩
theorem Inv.unpinned {pins pl:List (Addr×Obj)} {σ:St} {H:Hp} {s:Shared} (I:Inv X (pins++pl) σ H s):Inv X pins σ H s:=I.pins_of fun p hp=>I.pin p (List.mem_append_right _ (List.mem_append_left _ hp))
theorem ps_for {iter:Expr} {body:List Stmt} {wi:TI} {g:TG} {tb:TS} {pos:Pos} (hp:PassesOwn (model X.prog X.w) X.A X.env X.xe) (hc:X.calm=true) (hi:PI X tg iter wi) (hg:PG X tg g) (hb:PSs X body tb)
  (hs:∀ x,foldedSetIterable iter X.env x=pure x:=by intro _; rfl):PS X (.For tg iter body [] pos) (tFor wi g tb):=by
 intro pins s σ H D I h
 refine wpAny_For (thn (hi pins s σ H _ I h) fun v s1 h1=>thn h1 fun itv s2 h2=>?_) hs
 obtain ⟨it,fp,tn,J,H2,e,I2,T,st2,f2,W,⟨m0,w0⟩,turn⟩:=h2
 subst e
 have stat:∀ {H':Hp},(∀ b∈fp,H' b=none)→∀ b∈fp,FpOk X pins H' b:=fun hn b hb=>⟨hn b hb,(f2 b hb).2⟩
 refine codeAny_forLoop_any (fun n s'=>∃ i σ' H',Inv X pins σ' H' s'∧tn i s'.heap∧(∀ b∈fp,H' b=none)∧W i n σ' H') ?_ m0 ⟨0,σ,H2,I2,st2,fun b hb=>(f2 b hb).1,w0⟩
 rintro n s3 ⟨i,σ3,H3,I3,st3,fr3,w3⟩
 rcases turn i n σ3 H3 w3 with ⟨stop,qn⟩ | ⟨go,N,hN,step⟩
 ·refine wpAny_passesOwn hp (thn (T.done X rfl rfl rfl hc i pins s3 σ3 H3 X.xe I3 (stat fr3) st3 stop) fun r s4 ⟨hr,I4⟩=>?_)
  subst hr
  exact wpAny_execs_nil ⟨σ3,H3,I4,qn⟩
 ·refine wpAny_passesOwn hp (thn (T.item X rfl rfl rfl hc i pins s3 σ3 H3 X.xe I3 (stat fr3) st3 go) fun r s4 ⟨u,hr,h4⟩=>?_)
  subst hr
  refine wpAny_passesOwn hp (thn h4 fun _ s5 ⟨x,H5,I5,r5,y5,st5,fr5⟩=>?_)
  have I5':=I5.pinned (stat fr5) (T.obj _ _ st5)
  refine wpAny_passesOwn hp (thn (hg _ s5 σ3 H5 x u _ I5' r5 (step x H5 y5)) fun _ s6 ⟨σ6,H6,I6,q6⟩=>?_)
  refine wpAny_passesOwn hp (thn (hb _ s6 σ6 H6 _ I6 q6) fun f s7 q7=>?_)
  have again:∀ {σ7:St} {H7:Hp},Inv X (pins++pinsAt fp s5.heap) σ7 H7 s7→N σ7 H7→∃ m,m < n∧∃ i σ' H',Inv X pins σ' H' s7∧tn i s7.heap∧(∀ b∈fp,H' b=none)∧W i m σ' H':=fun {σ7 H7} I7 n7=>by
   obtain ⟨m',hm,w7⟩:=hN σ7 H7 n7
   refine ⟨m',hm,i + 1,σ7,H7,I7.unpinned,T.keep _ _ _ st5 fun b hb o e=>(I7.pin (b,o) (List.mem_append_right _ (List.mem_append_right _ (mem_pinsAt hb e)))).1,fun b hb=>?_,w7⟩
   obtain ⟨o,e,d⟩:=T.obj _ _ st5 b hb
   exact (I7.pin (b,o) (List.mem_append_right _ (List.mem_append_right _ (mem_pinsAt hb e)))).2.1
  cases f with
  | next=>obtain ⟨σ7,H7,I7,n7⟩:=q7; exact again I7 n7
  | cont=>obtain ⟨σ7,H7,I7,n7⟩:=q7; exact again I7 n7
  | brk=>obtain ⟨σ7,H7,I7,q7⟩:=q7; exact ⟨σ7,H7,I7.unpinned,q7⟩
  | ret v=>obtain ⟨x7,σ7,H7,I7,r7,q7⟩:=q7; exact ⟨x7,σ7,H7,I7.unpinned,r7,q7⟩
end
end L2
namespace L2
open PySem PySem.Spec PyProof.Rows
noncomputable abbrev R2:=V→V→Hp→VK→Prop
noncomputable def OpR (X:Cx) (f:Value→Value→Sem Value) (r:R2):Prop:=
 ∀ (pins:List (Addr×Obj)) (s:Shared) (σ:St) (H:Hp) (x y:V) (v u:Value) (Q:VK),Inv X pins σ H s→RelV x v→RelV y u→r x y H Q →
  wpAny (model X.prog X.w) X.A (f v u) (EP X pins σ Q) X.xe s
noncomputable def UnR (X:Cx) (f:Value→Sem Value) (r:V→Hp→VK→Prop):Prop:=
 ∀ (pins:List (Addr×Obj)) (s:Shared) (σ:St) (H:Hp) (x:V) (v:Value) (Q:VK),Inv X pins σ H s→RelV x v→r x H Q →
  wpAny (model X.prog X.w) X.A (f v) (EP X pins σ Q) X.xe s
noncomputable def CallR (X:Cx) (f:Value) (r:List V→Hp→VK→Prop):Prop:=
 ∀ (pins:List (Addr×Obj)) (s:Shared) (σ:St) (H:Hp) (xs:List V) (us:List Value) (Q:VK),Inv X pins σ H s→Vals xs us→r xs H Q →
  wpAny (model X.prog X.w) X.A (call f us) (EP X pins σ Q) X.xe s
noncomputable def TruR (X:Cx) (r:V→Hp→(Bool→Hp→Prop)→Prop):Prop:=
 ∀ (pins:List (Addr×Obj)) (s:Shared) (σ:St) (H:Hp) (x:V) (v:Value) (Q:Bool→Hp→Prop),Inv X pins σ H s→RelV x v→r x H Q →
  wpAny (model X.prog X.w) X.A (truthy v) (TP X pins σ Q) X.xe s
noncomputable def tOp (r:R2) (ta tb:TE):TE:=fun σ H Q=>ta σ H fun x H1=>tb σ H1 fun y H2=>r x y H2 Q
noncomputable def tUn (r:V→Hp→VK→Prop) (ta:TE):TE:=fun σ H Q=>ta σ H fun x H1=>r x H1 Q
noncomputable def rI (C:Int→Int→Prop) (g:Int→Int→V):R2:=fun x y H Q=>∃ i j,x=.int i∧y=.int j∧C i j∧Q (g i j) H
noncomputable def rI0 (g:Int→Int→V):R2:=fun x y H Q=>∃ i j,x=.int i∧y=.int j∧Q (g i j) H
noncomputable def rU (g:Int→V):V→Hp→VK→Prop:=fun x H Q=>∃ i,x=.int i∧Q (g i) H
section
variable {X:Cx} {a b c:Expr} {ta tb tc:TE} {pos:Pos}
theorem binT (ha:PE X a ta) (hb:PE X b tb) {pins:List (Addr×Obj)} {s:Shared} {σ:St} {H:Hp} {R:V→V→Hp→Prop} (I:Inv X pins σ H s)
  (h:ta σ H fun x H1=>tb σ H1 fun y H2=>R x y H2) {Q:Value→Shared→Prop} {f:Value→Value→Sem Value}
  (hf:∀ v u s2 x y H2,Inv X pins σ H2 s2→RelV x v→RelV y u→R x y H2→wpAny (model X.prog X.w) X.A (f v u) Q X.xe s2) :
  wpAny (model X.prog X.w) X.A (eval a X.env) (fun v s₁=>wpAny (model X.prog X.w) X.A (eval b X.env) (fun u s₂=>wpAny (model X.prog X.w) X.A (f v u) Q X.xe s₂) X.xe s₁) X.xe s:=by
 refine thn (ha pins s σ H _ I h) fun v s1 ⟨x,H1,I1,r1,q1⟩=>?_
 refine thn (hb pins s1 σ H1 _ I1 q1) fun u s2 ⟨y,H2,I2,r2,q2⟩=>?_
 exact hf v u s2 x y H2 I2 r1 r2 q2
theorem pe_op {op:Operator} {r:R2} (ho:OpR X (binaryOp op) r) (ha:PE X a ta) (hb:PE X b tb):PE X (.BinOp a op b pos) (tOp r ta tb):=by
 intro pins s σ H Q I h
 exact wpAny_BinOp (binT ha hb I h fun v u s2 x y H2 I2 rx ry q=>ho pins s2 σ H2 x y v u Q I2 rx ry q)
theorem pe_un {op:UnaryOp} {r:V→Hp→VK→Prop} (ho:UnR X (unaryOp op) r) (ha:PE X a ta):PE X (.UnaryOp op a pos) (tUn r ta):=by
 intro pins s σ H Q I h
 exact UnaryOp_ (thn (ha pins s σ H _ I h) fun v s1 ⟨x,H1,I1,r1,q1⟩=>ho pins s1 σ H1 x v Q I1 r1 q1)
theorem opI {f:Value→Value→Sem Value} {C:Int→Int→Prop} {g:Int→Int→Int}
  (rule:∀ (i j:Int) (t u:Tok) (s:Shared) (Q:Value→Shared→Prop) (E:Value→Shared→Prop),C i j→Q (.int (g i j) s.toks) { s with toks:=s.toks + 1 }→wpAny (model X.prog X.w) X.A (f (.int i t) (.int j u)) Q E s) :
  OpR X f (rI C fun i j=>.int (g i j)):=by
 intro pins s σ H x y v u Q I rx ry h
 obtain ⟨i,j,rfl,rfl,hc,q⟩:=h
 obtain ⟨t,rfl⟩:=rx
 obtain ⟨t',rfl⟩:=ry
 exact rule i j t t' s _ _ hc ⟨.int (g i j),H,I.tok _,⟨_,rfl⟩,q⟩
theorem opI0 {f:Value→Value→Sem Value} {g:Int→Int→Int}
  (rule:∀ (i j:Int) (t u:Tok) (s:Shared) (Q:Value→Shared→Prop) (E:Value→Shared→Prop),Q (.int (g i j) s.toks) { s with toks:=s.toks + 1 }→wpAny (model X.prog X.w) X.A (f (.int i t) (.int j u)) Q E s) :
  OpR X f (rI0 fun i j=>.int (g i j)):=by
 intro pins s σ H x y v u Q I rx ry h
 obtain ⟨i,j,rfl,rfl,q⟩:=h
 obtain ⟨t,rfl⟩:=rx
 obtain ⟨t',rfl⟩:=ry
 exact rule i j t t' s _ _ ⟨.int (g i j),H,I.tok _,⟨_,rfl⟩,q⟩
theorem opB0 {f:Value→Value→Sem Value} {g:Int→Int→Bool}
  (rule:∀ (i j:Int) (t u:Tok) (s:Shared) (Q:Value→Shared→Prop) (E:Value→Shared→Prop),Q (.bool (g i j)) s→wpAny (model X.prog X.w) X.A (f (.int i t) (.int j u)) Q E s) :
  OpR X f (rI0 fun i j=>.bl (g i j)):=by
 intro pins s σ H x y v u Q I rx ry h
 obtain ⟨i,j,rfl,rfl,q⟩:=h
 obtain ⟨t,rfl⟩:=rx
 obtain ⟨t',rfl⟩:=ry
 exact rule i j t t' s _ _ ⟨.bl (g i j),H,I,rfl,q⟩
noncomputable def CPow (i j:Int):Prop:=0≤j∧j≤1000000∧i.natAbs < 2 ^ 64
noncomputable def CMul (i j:Int):Prop:=(-(2 ^ 64) < i∧i < 2 ^ 64)∨(-(2 ^ 64) < j∧j < 2 ^ 64)
theorem CMul.ok {i j:Int} (h:CMul i j):IntMulOk i j:=by
 rcases h with ⟨h1,h2⟩ | ⟨h1,h2⟩
 ·exact .of_left (intBits_le_64 h1 h2)
 ·exact .of_right (intBits_le_64 h1 h2)
theorem op_add:OpR X (binaryOp .Add) (rI0 fun i j=>.int (i + j)):=opI0 fun _ _ _ _ _ _ _ q=>add_int q
theorem op_sub:OpR X (binaryOp .Sub) (rI0 fun i j=>.int (i - j)):=opI0 fun _ _ _ _ _ _ _ q=>sub_int q
theorem op_mul:OpR X (binaryOp .Mult) (rI CMul fun i j=>.int (i * j)):=opI fun _ _ _ _ _ _ _ hc q=>mul_int q hc.ok
theorem op_mod:OpR X (binaryOp .Mod) (rI (fun _ j=>0 < j) fun i j=>.int (i % j)):=opI fun i j _ _ _ _ _ hc q=>by
 have h1:(0:Int) < j:=hc
 exact mod_int' (by omega) (by rw [Int.fmod_eq_emod_of_nonneg i (by omega)]; exact q)
theorem op_pow:OpR X (binaryOp .Pow) (rI CPow fun i j=>.int (i ^ j.toNat)):=opI fun _ _ _ _ _ _ _ hc q=>pow_int_small hc.1 hc.2.1 hc.2.2 q
theorem unI {f:Value→Sem Value} {g:Int→Int}
  (rule:∀ (i:Int) (t:Tok) (s:Shared) (Q:Value→Shared→Prop) (E:Value→Shared→Prop),Q (.int (g i) s.toks) { s with toks:=s.toks + 1 }→wpAny (model X.prog X.w) X.A (f (.int i t)) Q E s) :
  UnR X f (rU fun i=>.int (g i)):=by
 intro pins s σ H x v Q I rx h
 obtain ⟨i,rfl,q⟩:=h
 obtain ⟨t,rfl⟩:=rx
 exact rule i t s _ _ ⟨.int (g i),H,I.tok _,⟨_,rfl⟩,q⟩
theorem un_neg:UnR X (unaryOp .USub) (rU fun i=>.int (-i)):=unI fun _ _ _ _ _ q=>neg_int q
end
noncomputable def scal:V→V→Bool
 | .non,.non=>true | .non,.int _=>true | .int _,.non=>true | .non,.bl _=>true | .bl _,.non=>true | .non,.str _=>true | .str _,.non=>true
 | .int _,.int _=>true | .bl _,.bl _=>true | .str _,.str _=>true | .byt _,.byt _=>true
 | .int _,.str _=>true | .str _,.int _=>true | .bl _,.str _=>true | .str _,.bl _=>true
 | _,_=>false
noncomputable def rEq:R2:=fun x y H Q=>scal x y=true∧Q (.bl (decide (x=y))) H
noncomputable def rNe:R2:=fun x y H Q=>scal x y=true∧Q (.bl (!decide (x=y))) H
theorem dec_int {i j:Int}:decide (V.int i=V.int j)=(i == j):=by
 rw [Bool.eq_iff_iff]
 simp
theorem dec_bl {i j:Bool}:decide (V.bl i=V.bl j)=(i == j):=by
 rw [Bool.eq_iff_iff]
 simp
theorem dec_str {i j:Str}:decide (V.str i=V.str j)=(i == j):=by
 rw [Bool.eq_iff_iff]
 simp
theorem dec_byt {i j:Array UInt8}:decide (V.byt i=V.byt j)=(i.toList == j.toList):=by
 rw [Bool.eq_iff_iff]
 cases i
 cases j
 simp
section
variable {X:Cx} {a b c:Expr} {ta tb tc:TE} {pos:Pos}
theorem fin_bl {pins:List (Addr×Obj)} {σ:St} {H:Hp} {s:Shared} {Q:VK} {k k':Bool} (I:Inv X pins σ H s) (q:Q (.bl k) H) (e:k=k'):EP X pins σ Q (.bool k') s:=by
 subst e
 exact ⟨.bl k,H,I,rfl,q⟩
theorem op_eq:OpR X (compareOp .Eq) rEq:=by
 intro pins s σ H x y v u Q I rx ry h
 obtain ⟨hs,q⟩:=h
 cases x with
 | non=>
  cases rx
  cases y with
  | non=>cases ry; exact PySem.EqNone.eq_none_none (fin_bl I q (by simp))
  | bl j=>cases ry; exact PySem.EqNone.eq_none_bool (fin_bl I q (by simp))
  | int j=>obtain ⟨t',rfl⟩:=ry; exact PySem.EqNone.eq_none_int (fin_bl I q (by simp))
  | str j=>obtain ⟨t',rfl⟩:=ry; exact PySem.EqNone.eq_none_str (fin_bl I q (by simp))
  | _=>exact absurd (show false=true from hs) Bool.false_ne_true
 | bl i=>
  cases rx
  cases y with
  | non=>cases ry; exact PySem.EqNone.eq_bool_none (fin_bl I q (by simp))
  | bl j=>cases ry; exact eq_bool (fin_bl I q dec_bl)
  | str j=>obtain ⟨t',rfl⟩:=ry; exact PySem.EqMixed.eq_bool_str (fin_bl I q (by simp))
  | _=>exact absurd (show false=true from hs) Bool.false_ne_true
 | int i=>
  obtain ⟨t,rfl⟩:=rx
  cases y with
  | non=>cases ry; exact PySem.EqNone.eq_int_none (fin_bl I q (by simp))
  | int j=>obtain ⟨t',rfl⟩:=ry; exact eq_int (fin_bl I q dec_int)
  | str j=>obtain ⟨t',rfl⟩:=ry; exact PySem.EqMixed.eq_int_str (fin_bl I q (by simp))
  | _=>exact absurd (show false=true from hs) Bool.false_ne_true
 | str i=>
  obtain ⟨t,rfl⟩:=rx
  cases y with
  | non=>cases ry; exact PySem.EqNone.eq_str_none (fin_bl I q (by simp))
  | bl j=>cases ry; exact PySem.EqMixed.eq_str_bool (fin_bl I q (by simp))
  | int j=>obtain ⟨t',rfl⟩:=ry; exact PySem.EqMixed.eq_str_int (fin_bl I q (by simp))
  | str j=>obtain ⟨t',rfl⟩:=ry; exact eq_str (fin_bl I q dec_str)
  | _=>exact absurd (show false=true from hs) Bool.false_ne_true
 | byt i=>
  obtain ⟨t,rfl⟩:=rx
  cases y with
  | byt j=>obtain ⟨t',rfl⟩:=ry; exact PySem.W.eq_bytes (fin_bl I q dec_byt)
  | _=>exact absurd (show false=true from hs) Bool.false_ne_true
 | _=>cases y <;> exact absurd (show false=true from hs) Bool.false_ne_true
theorem op_ne:OpR X (compareOp .NotEq) rNe:=by
 intro pins s σ H x y v u Q I rx ry h
 obtain ⟨hs,q⟩:=h
 cases x with
 | non=>
  cases rx
  cases y with
  | non=>cases ry; exact PySem.EqNone.ne_none_none (fin_bl I q (by simp))
  | bl j=>cases ry; exact PySem.EqNone.ne_none_bool (fin_bl I q (by simp))
  | int j=>obtain ⟨t',rfl⟩:=ry; exact PySem.EqNone.ne_none_int (fin_bl I q (by simp))
  | str j=>obtain ⟨t',rfl⟩:=ry; exact PySem.EqNone.ne_none_str (fin_bl I q (by simp))
  | _=>exact absurd (show false=true from hs) Bool.false_ne_true
 | bl i=>
  cases rx
  cases y with
  | non=>cases ry; exact PySem.EqNone.ne_bool_none (fin_bl I q (by simp))
  | bl j=>cases ry; exact ne_bool (fin_bl I q (congrArg not dec_bl))
  | str j=>obtain ⟨t',rfl⟩:=ry; exact PySem.EqMixed.ne_bool_str (fin_bl I q (by simp))
  | _=>exact absurd (show false=true from hs) Bool.false_ne_true
 | int i=>
  obtain ⟨t,rfl⟩:=rx
  cases y with
  | non=>cases ry; exact PySem.EqNone.ne_int_none (fin_bl I q (by simp))
  | int j=>obtain ⟨t',rfl⟩:=ry; exact ne_int (fin_bl I q (congrArg not dec_int))
  | str j=>obtain ⟨t',rfl⟩:=ry; exact PySem.EqMixed.ne_int_str (fin_bl I q (by simp))
  | _=>exact absurd (show false=true from hs) Bool.false_ne_true
 | str i=>
  obtain ⟨t,rfl⟩:=rx
  cases y with
  | non=>cases ry; exact PySem.EqNone.ne_str_none (fin_bl I q (by simp))
  | bl j=>cases ry; exact PySem.EqMixed.ne_str_bool (fin_bl I q (by simp))
  | int j=>obtain ⟨t',rfl⟩:=ry; exact PySem.EqMixed.ne_str_int (fin_bl I q (by simp))
  | str j=>obtain ⟨t',rfl⟩:=ry; exact ne_str (fin_bl I q (congrArg not dec_str))
  | _=>exact absurd (show false=true from hs) Bool.false_ne_true
 | byt i=>
  obtain ⟨t,rfl⟩:=rx
  cases y with
  | byt j=>obtain ⟨t',rfl⟩:=ry; exact PySem.W.ne_bytes (fin_bl I q (congrArg not dec_byt))
  | _=>exact absurd (show false=true from hs) Bool.false_ne_true
 | _=>cases y <;> exact absurd (show false=true from hs) Bool.false_ne_true
theorem op_lt:OpR X (compareOp .Lt) (rI0 fun i j=>.bl (decide (i < j))):=opB0 fun _ _ _ _ _ _ _ q=>lt_int q
theorem op_le:OpR X (compareOp .LtE) (rI0 fun i j=>.bl (decide (i≤j))):=opB0 fun _ _ _ _ _ _ _ q=>le_int q
theorem op_gt:OpR X (compareOp .Gt) (rI0 fun i j=>.bl (decide (j < i))):=opB0 fun _ _ _ _ _ _ _ q=>gt_int q
theorem op_ge:OpR X (compareOp .GtE) (rI0 fun i j=>.bl (decide (j≤i))):=opB0 fun _ _ _ _ _ _ _ q=>ge_int q
theorem op_in_str:OpR X (compareOp .In) (fun x y H Q=>∃ i j,x=.str i∧y=.str j∧Q (.bl (!(Builtin.Str.occurrences j i 0 j.length 1).isEmpty)) H):=by
 intro pins s σ H x y v u Q I rx ry h
 obtain ⟨i,j,rfl,rfl,q⟩:=h
 obtain ⟨t,rfl⟩:=rx
 obtain ⟨t',rfl⟩:=ry
 exact in_str (fin_bl I q rfl)
theorem op_notin_str:OpR X (compareOp .NotIn) (fun x y H Q=>∃ i j,x=.str i∧y=.str j∧Q (.bl (!(!(Builtin.Str.occurrences j i 0 j.length 1).isEmpty))) H):=by
 intro pins s σ H x y v u Q I rx ry h
 obtain ⟨i,j,rfl,rfl,q⟩:=h
 obtain ⟨t,rfl⟩:=rx
 obtain ⟨t',rfl⟩:=ry
 exact notIn_str (fin_bl I q rfl)
theorem OpR.or {f:Value→Value→Sem Value} {r r':R2} (h:OpR X f r) (h':OpR X f r'):OpR X f (fun x y H Q=>r x y H Q∨r' x y H Q):=by
 intro pins s σ H x y v u Q I rx ry q
 rcases q with q | q
 ·exact h pins s σ H x y v u Q I rx ry q
 ·exact h' pins s σ H x y v u Q I rx ry q
theorem nomark (b:Expr) {op:CmpOp} (h:op≠.In:=by decide) (h2:op≠.NotIn:=by decide):behindInMarks op b=false:=by
 have e1:(op == CmpOp.In)=false:=by cases op <;> first | rfl | exact absurd rfl h
 have e2:(op == CmpOp.NotIn)=false:=by cases op <;> first | rfl | exact absurd rfl h2
 cases b <;> simp [behindInMarks,e1,e2]
theorem pe_cmpR {op:CmpOp} {r:R2} (ho:OpR X (compareOp op) r) (ha:PE X a ta) (hb:PE X b tb) (hm:behindInMarks op b=false):PE X (.Compare a [op] [b] pos) (tOp r ta tb):=by
 intro pins s σ H Q I h
 exact wpAny_Compare1 (binT ha hb I h fun v u s2 x y H2 I2 rx ry q=>ho pins s2 σ H2 x y v u Q I2 rx ry q) hm
noncomputable def tTest (t:TE):TT:=fun σ H Q=>t σ H fun x H'=>∃ k,x=.bl k∧Q k H'
theorem pt_cmpR {op:CmpOp} {r:R2} (ho:OpR X (compareOp op) r) (ha:PE X a ta) (hb:PE X b tb) (hm:behindInMarks op b=false):PT X (.Compare a [op] [b] pos) (tTest (tOp r ta tb)):=by
 intro pins s σ H Q I h
 refine wpAny_isTrue_Compare1 (thn (ha pins s σ H _ I h) fun v s1 ⟨x,H1,I1,r1,q1⟩=>thn (hb pins s1 σ H1 _ I1 q1) fun u s2 ⟨y,H2,I2,r2,q2⟩=>
  thn (ho pins s2 σ H2 x y v u _ I2 r1 r2 q2) fun c s3 ⟨z,H3,I3,r3,k,e,q3⟩=>?_) hm
 subst e
 cases r3
 exact wpAny_truthy_bool ⟨H3,I3,q3⟩
noncomputable def tChain (r r':R2) (ta tb tc:TE):TE:=fun σ H Q=>ta σ H fun x H1=>tb σ H1 fun y H2=>r x y H2 fun z H3=>∃ k,z=.bl k ∧
 (if k=true then tc σ H3 fun w' H4=>r' y w' H4 Q else Q (.bl false) H3)
theorem pe_chain {op op':CmpOp} {r r':R2} (ho:OpR X (compareOp op) r) (ho':OpR X (compareOp op') r') (ha:PE X a ta) (hb:PE X b tb) (hc:PE X c tc)
  (hm:lastMarks [op,op'] [b,c]=false:=by with_unfolding_all rfl):PE X (.Compare a [op,op'] [b,c] pos) (tChain r r' ta tb tc):=by
 intro pins s σ H Q I h
 refine Compare_chain (thn (ha pins s σ H _ I h) fun v s1 ⟨x,H1,I1,r1,q1⟩=>chain_link (thn (hb pins s1 σ H1 _ I1 q1) fun u s2 ⟨y,H2,I2,r2,q2⟩=>
  thn (ho pins s2 σ H2 x y v u _ I2 r1 r2 q2) fun d s3 ⟨z,H3,I3,r3,k,e,q3⟩=>?_)) hm
 subst e
 cases r3
 refine wpAny_truthy_bool ?_
 cases k with
 | false=>exact ite_ff ⟨.bl false,H3,I3,rfl,q3⟩
 | true=>exact ite_tt (chain_last (thn (hc pins s3 σ H3 _ I3 q3) fun w' s4 ⟨z',H4,I4,r4,q4⟩=>ho' pins s4 σ H4 y z' u w' Q I4 r2 r4 q4))
noncomputable def TruV (K:PySem.W.Frag) (x:V) (H:Hp) (k:Bool):Prop:=
 match x with
 | .non=>k=false
 | .bl b=>k=b
 | .int i=>k=(i != 0)
 | .str y=>y.length≤sizeLine∧k=((y.length:Int) != 0)
 | .byt y=>y.size≤sizeLine∧k=((y.size:Int) != 0)
 | .ref p=>(∃ xs,SqL K H p xs∧k = !xs.isEmpty)∨(∃ xs,SqT K H p xs∧k = !xs.isEmpty)∨∃ kvs,H p=some (.dK kvs)∧k = !kvs.isEmpty
 | _=>False
theorem isEmpty_kv {κ:Type} {kvs:List (κ×V)} {vs:List (κ×Value)} (r:KV kvs vs):(!vs.isEmpty) = !kvs.isEmpty:=by
 cases r <;> rfl
theorem isEmpty_of {xs:List V} {its:List Value} (r:Vals xs its):(!its.toArray.isEmpty) = !xs.isEmpty:=by
 cases r <;> simp
theorem line63:(sizeLine:Nat) < 2 ^ 63:=by rw [sizeLine_eq]; decide
theorem tru_ok:TruR X (fun x H Q=>∃ k,TruV X.K x H k∧Q k H):=by
 intro pins s σ H x v Q I rx h
 obtain ⟨k,e,q⟩:=h
 have hl:=line63
 have hs:sizeLine=16777216:=sizeLine_eq
 cases x with
 | non=>
  cases rx
  have e':k=false:=e
  subst e'
  exact truthy_none ⟨H,I,q⟩
 | bl b=>
  cases rx
  have e':k=b:=e
  subst e'
  exact wpAny_truthy_bool ⟨H,I,q⟩
 | int i=>
  obtain ⟨t,rfl⟩:=rx
  have e':k=(i != 0):=e
  subst e'
  exact PySem.P.truthy_int ⟨H,I,q⟩
 | str y=>
  obtain ⟨t,rfl⟩:=rx
  obtain ⟨hy,e'⟩:y.length≤sizeLine∧k=((y.length:Int) != 0):=e
  subst e'
  exact PySem.P.truthy_str (by omega) ⟨H,I.tok _,q⟩
 | byt y=>
  obtain ⟨t,rfl⟩:=rx
  obtain ⟨hy,e'⟩:y.size≤sizeLine∧k=((y.size:Int) != 0):=e
  subst e'
  exact PySem.W.truthy_bytes (by omega) ⟨H,I.tok _,q⟩
 | ref p=>
  cases rx
  have e':(∃ xs,SqL X.K H p xs∧k = !xs.isEmpty)∨(∃ xs,SqT X.K H p xs∧k = !xs.isEmpty)∨∃ kvs,H p=some (.dK kvs)∧k = !kvs.isEmpty:=e
  rcases e' with ⟨xs,hx,e'⟩ | ⟨xs,hx,e'⟩ | ⟨kvs,hx,e'⟩
  ·subst e'
   obtain ⟨its,r,pl,hz⟩:=I.list hx
   have hlen:=r.length
   exact wpAny_truthy_list pl.isList (by simp only [List.size_toArray]; omega) ⟨H,I.tok _,by rw [isEmpty_of r]; exact q⟩
  ·subst e'
   obtain ⟨its,r,pl,hz⟩:=I.tuple hx
   have hlen:=r.length
   exact truthy_tuple pl (by simp only [List.size_toArray]; omega) ⟨H,I.tok _,by rw [isEmpty_of r]; exact q⟩
  ·subst e'
   obtain ⟨hz,hS,vs,r,m⟩:kvs.length≤sizeLine∧(p == sysModules)=false∧∃ vs,KV kvs vs∧s.heap.DictOf (mixKind X.prog X.w) p vs:=I.hok p _ hx
   have hlen:kvs.length=vs.length:=Paired.length r
   exact wpAny_truthy_dict hS m (by omega) ⟨H,I.tok _,by rw [isEmpty_kv r]; exact q⟩
 | _=>exact (show False from e).elim
theorem pt_truth (ha:PE X a ta) (he:∀ whole,isTrue a X.env whole=(do let v ← whole; standAt a.pos; holding [v] (truthy v))) :
  PT X a (fun σ H Q=>ta σ H fun x H'=>∃ k,TruV X.K x H' k∧Q k H'):=by
 intro pins s σ H Q I h
 exact isTrue_plain (thn (ha pins s σ H _ I h) fun v s1 ⟨x,H1,I1,r1,q1⟩=>tru_ok pins s1 σ H1 x v Q I1 r1 q1) (he _)
theorem op_add_str:OpR X (binaryOp .Add) (fun x y H Q=>∃ i j,x=.str i∧y=.str j∧i.length + j.length≤sizeLine∧Q (.str (i++j)) H):=by
 intro pins s σ H x y v u Q I rx ry h
 obtain ⟨i,j,rfl,rfl,hz,q⟩:=h
 obtain ⟨t,rfl⟩:=rx
 obtain ⟨t',rfl⟩:=ry
 exact add_str (fun t' tk=>⟨.str (i++j),H,I.tok _,⟨_,rfl⟩,q⟩) hz
theorem vals1 {x:V} {us:List Value} (r:Vals [x] us):∃ u,us=[u]∧RelV x u:=by
 cases r with
 | cons r1 r2=>cases r2; exact ⟨_,rfl,r1⟩
theorem vals2 {x y:V} {us:List Value} (r:Vals [x,y] us):∃ u w',us=[u,w']∧RelV x u∧RelV y w':=by
 cases r with
 | cons r1 r2=>
  cases r2 with
  | cons r3 r4=>cases r4; exact ⟨_,_,rfl,r1,r3⟩
theorem call_abs:CallR X (.builtin "abs") (fun xs H Q=>∃ i,xs=[.int i]∧Q (.int (if i < 0 then -i else i)) H):=by
 intro pins s σ H xs us Q I r h
 obtain ⟨i,rfl,q⟩:=h
 obtain ⟨u,rfl,t,rfl⟩:=vals1 r
 exact call_abs_int fun u tk=>⟨.int (if i < 0 then -i else i),H,I.tok _,⟨_,rfl⟩,q⟩
end
end L2
namespace L2
open PySem PySem.Spec PyProof.Rows
structure ObjM (h:Heap) (x dx C:Addr) (mA:Str→Option Value):Prop where
 obj:h.get? x=some (PySem.W.instObj C dx)
 ns:h.Ns1 dx mA
 ne:dx≠x
theorem lookIn_ns {h:Heap} {dx:Addr} {mA:Str→Option Value} (n:h.Ns1 dx mA):∃ od,h.get? dx=some od∧∀ name,PySem.W.lookIn name od=some (mA name):=by
 obtain ⟨o,es,ep,ho,hd,hk,_,hm⟩:=n
 refine ⟨o,ho,fun name=>?_⟩
 have e:=hm name
 unfold nsFind findBy at e
 rw [← Array.find?_toList] at e
 unfold PySem.W.lookIn
 rw [hd]
 dsimp only
 split
 ·rename_i y q
  rw [q] at e
  exact congrArg some e
 ·rename_i q
  rw [q] at e
  have a:es.toList.any (·.refKey)=false:=by
   rw [List.any_eq_false]
   intro y hy
   obtain ⟨z,t,hkey⟩:=hk y (Array.mem_toList_iff.mp hy)
   simp [DictEntry.refKey,hkey]
  have a':¬ es.toList.any (·.refKey)=true:=by rw [a]; exact Bool.false_ne_true
  rw [if_neg a']
  exact congrArg some e
theorem ObjM.look {h:Heap} {x dx C:Addr} {mA:Str→Option Value} (I:ObjM h x dx C mA):∃ od,PySem.W.InstAt h x (PySem.W.instObj C dx) C (some od)∧∀ name,PySem.W.lookIn name od=some (mA name):=
 let ⟨od,ho,hl⟩:=lookIn_ns I.ns
 ⟨od,⟨I.obj,rfl,rfl,ho⟩,hl⟩
section
variable {prog:Program} {w:World} {A:Around} {E:Value→Shared→Prop} {s:Shared} {K:PySem.W.Frag} {x dx C f:Addr} {mA:Str→Option Value} {name:Str} {v:Value}
end
noncomputable def putF (f:Str) (v:V):List (Str×V)→List (Str×V)
 | []=>[(f,v)]
 | (g,x)::r=>if g=f then (g,v)::r else (g,x)::putF f v r
theorem RelO.some_of {v:V} {o:Option Value} (r:RelO (some v) o):∃ u,o=some u∧RelV v u:=by
 cases o with
 | none=>exact (show False from r).elim
 | some u=>exact ⟨u,rfl,r⟩
theorem RelO.none_of {o:Option Value} (r:RelO none o):o=none:=by
 cases o with
 | none=>rfl
 | some u=>exact (show False from r).elim
section
variable {P:Program} {w:World} {H H':Hp} {h h':Heap} {a C dx:Addr} {fs fs':List (Str×V)}
theorem ins_get (hok:HOk P w H h) (e:H a=some (.ins C dx fs)):∃ mA,ObjM h a dx C mA∧(∀ f,RelO (fs.lookup f) (mA f))∧PySem.Within mA (fs.map (·.1))∧fs.length≤1000∧H dx=some (.own a):=by
 obtain ⟨d,z,ne,ob,mA,n,r,q⟩:=(show ObjOk P w H h a (.ins C dx fs) from hok a _ e)
 exact ⟨mA,⟨ob,n,ne⟩,r,q,z,d⟩
end
structure Cls (K:PySem.W.Frag) (C:Addr):Prop where
 pg:PySem.W.plainGet K C Str.empty=true
 hd:PySem.W.hasDictIn K C=true
 po:PySem.W.plainOver K C=true
 sa:PySem.W.findIn K (.ref C) "__setattr__" = some (some (.builtin "object.__setattr__"))
theorem Cls.get {K:PySem.W.Frag} {C:Addr} (c:Cls K C) (f:Str):PySem.W.plainGet K C f=true:=c.pg
structure Con (K:PySem.W.Frag) (C:Addr) (f:Str) (v:V) (u:Value):Prop where
 at_:PySem.W.findIn K (.ref C) f=some (some u)
 rel:RelV v u
 get:PySem.W.specialIn K u "__get__" = some none
 cp:PySem.W.copiedNames.contains f=false
structure Meth (K:PySem.W.Frag) (C:Addr) (m:Str) (f:Addr):Prop where
 at_:PySem.W.findIn K (.ref C) m=some (some (.ref f))
 fn:PySem.W.isFn K (.ref f)=true
 kp:PySem.W.keepIn K (.ref f)=true
section
variable {X:Cx} {pins:List (Addr×Obj)} {σ:St} {H:Hp} {s:Shared} {a C dx:Addr} {fs:List (Str×V)} {f:Str} {v:V} {A:Around} {E:Value→Shared→Prop}
theorem Inv.made (I:Inv X pins σ H s):Inv X pins σ (upd (upd H s.heap.objs.size (.own (s.heap.objs.size + 1))) (s.heap.objs.size + 1) (.ins C s.heap.objs.size []))
  { s with heap:=(s.heap.push PySem.W.emptyDict).push (PySem.W.instObj C s.heap.objs.size) }:=by
 have e1:(s.heap.push PySem.W.emptyDict).get? s.heap.objs.size=some PySem.W.emptyDict:=Heap.get?_push_size s.heap rfl
 have e2:((s.heap.push PySem.W.emptyDict).push (PySem.W.instObj C s.heap.objs.size)).get? (s.heap.objs.size + 1)=some (PySem.W.instObj C s.heap.objs.size):=by
  have:=Heap.get?_push_size (s.heap.push PySem.W.emptyDict) (o:=PySem.W.instObj C s.heap.objs.size) rfl
  rwa [Heap.size_push] at this
 have e3:(s.heap.push PySem.W.emptyDict).Ns s.heap.objs.size (fun _=>none):=⟨PySem.W.emptyDict,#[],_,e1,rfl,(fun e he=>absurd he (by simp)),fun _=>rfl⟩
 have I1:=I.laid (a:=s.heap.objs.size) (o:=.own (s.heap.objs.size + 1)) (h':=s.heap.push PySem.W.emptyDict) (t':=s.toks) (fun b u q=>Heap.get?_push_of_some _ q) (Nat.le_refl _) ⟨_,e1⟩
 refine I1.laid (a:=s.heap.objs.size + 1) (o:=.ins C s.heap.objs.size []) (t':=s.toks) (fun b u q=>Heap.get?_push_of_some _ q) (Nat.le_of_eq (Heap.size_push _ _)) ?_
 have ne:s.heap.objs.size≠s.heap.objs.size + 1:=Nat.ne_of_lt (Nat.lt_succ_self _)
 refine ⟨by rw [upd_ne ne,upd_same],Nat.zero_le _,ne,e2,fun _=>none,(Heap.Ns1.of_empty e3).at fun o q=>Heap.get?_push_of_some _ q,fun _=>True.intro,fun y hy=>absurd rfl hy⟩
end
section
variable {X:Cx} {o e value:Expr} {f:Str} {pos pos' tpos:Pos} {ta tv:TE}
end
section
variable {X:Cx} {pins:List (Addr×Obj)} {σ:St} {H:Hp} {s:Shared} {A:Around} {E:Value→Shared→Prop} {Q:Value→Shared→Prop} {c:Value} {b:Bool}
inductive TyOf (K:PySem.W.Frag) (H:Hp):V→Value→Prop where
 | non:TyOf K H .non (.type "NoneType")
 | bl (x:Bool):TyOf K H (.bl x) (.type "bool")
 | int (i:Int):TyOf K H (.int i) (.type "int")
 | str (x:Str):TyOf K H (.str x) (.type "str")
 | flt (x:UInt64):TyOf K H (.flt x) (.type "float")
 | lst {a:Addr} {xs:List V} (e:H a=some (.lst xs)):TyOf K H (.ref a) (.type "list")
 | frz {a:Addr} {o:Obj} {xs:List V} (e:H a=some (.frz o (.lst xs))):TyOf K H (.ref a) (.type "list")
 | tup {a:Addr} {xs:List V} (e:H a=some (.tup xs)):TyOf K H (.ref a) (.type "tuple")
 | dK {a:Addr} {kvs:List (Key×V)} (e:H a=some (.dK kvs)):TyOf K H (.ref a) (.type "dict")
 | dT {a:Addr} {kvs:List (List Key×V)} (e:H a=some (.dT kvs)):TyOf K H (.ref a) (.type "dict")
 | ins {a C dx:Addr} {fs:List (Str×V)} (e:H a=some (.ins C dx fs)) (cl:Cls K C) (ha:PySem.W.findIn K (.ref C) "__class__" = some (some (.builtin "object.__class__")))
   (hn:PySem.W.specialIn K (.builtin "object.__class__") "__get__" = some (some (.builtin "getset_descriptor.__get__"))) (htk:PySem.W.takesIn K (.builtin "object.__class__")=some true)
   (hm:PySem.W.mroIn K C (.type "object")=some true):TyOf K H (.ref a) (.ref C)
theorem isinst_ok {x:V} {u t:Value} (I:Inv X pins σ H s) (rx:RelV x u) (ty:TyOf X.K H x t) (e:PySem.W.kitOne X.K t c=some b) (h:∀ tk,Q (.bool b) { s with toks:=tk }) :
  wpAny (model X.prog X.w) A (call (.builtin "isinstance") [u,c]) Q E s:=by
 cases ty with
 | non=>cases (show u=Value.none from rx); exact PySem.W.kia_one PySem.W.kitx_none I.kIn True.intro e (fun z=>nomatch z) h
 | bl y=>cases (show u=Value.bool y from rx); exact PySem.W.kia_one PySem.W.kitx_bool I.kIn True.intro e (fun z=>nomatch z) h
 | int i=>obtain ⟨t,q⟩:=(show ∃ t,u=Value.int i t from rx); cases q; exact PySem.W.kia_one PySem.W.kitx_int I.kIn True.intro e (fun z=>nomatch z) h
 | str y=>obtain ⟨t,q⟩:=(show ∃ t,u=Value.str y t from rx); cases q; exact PySem.W.kia_one PySem.W.kitx_str I.kIn True.intro e (fun z=>nomatch z) h
 | flt y=>obtain ⟨t,q⟩:=(show ∃ t,u=Value.float y t from rx); cases q; exact PySem.W.kia_one PySem.W.kitx_float I.kIn True.intro e (fun z=>nomatch z) h
 | @lst a xs ea=>
  cases (show u=Value.ref a from rx)
  obtain ⟨_,_,n,_,h1⟩:=(show ObjOk X.prog X.w H s.heap a (.lst xs) from I.hok a _ ea)
  exact PySem.W.kia_one PySem.W.kitx_list I.kIn ⟨_,h1,rfl⟩ e (fun z=>nomatch z) h
 | @frz a ob xs ea=>
  cases (show u=Value.ref a from rx)
  obtain ⟨_,_,_,n,_,h1⟩:=(show ObjOk X.prog X.w H s.heap a (.frz ob (.lst xs)) from I.hok a _ ea)
  exact PySem.W.kia_one PySem.W.kitx_list I.kIn ⟨_,h1,rfl⟩ e (fun z=>nomatch z) h
 | @tup a xs ea=>
  cases (show u=Value.ref a from rx)
  obtain ⟨_,_,_,p⟩:=(show ObjOk X.prog X.w H s.heap a (.tup xs) from I.hok a _ ea)
  obtain ⟨o,h1,h2,_⟩:=p
  exact PySem.W.kia_one PySem.W.kitx_tuple I.kIn ⟨o,h1,h2⟩ e (fun z=>nomatch z) h
 | @dK a kvs ea=>
  cases (show u=Value.ref a from rx)
  obtain ⟨_,_,vs,_,p⟩:=(show ObjOk X.prog X.w H s.heap a (.dK kvs) from I.hok a _ ea)
  obtain ⟨o,es,ep,h1,h2,_⟩:=p
  exact PySem.W.kia_one PySem.W.kitx_dict I.kIn ⟨o,h1,h2.1⟩ e (fun z=>nomatch z) h
 | @dT a kvs ea=>
  cases (show u=Value.ref a from rx)
  obtain ⟨_,_,xs,_,o,es,ep,h1,h2,_⟩:=(show ObjOk X.prog X.w H s.heap a (.dT kvs) from I.hok a _ ea)
  exact PySem.W.kia_one PySem.W.kitx_dict I.kIn ⟨o,h1,h2.1⟩ e (fun z=>nomatch z) h
 | @ins a C dx fs ea cl ha hn htk hm=>
  cases (show u=Value.ref a from rx)
  obtain ⟨mA,O,_⟩:=ins_get I.hok ea
  obtain ⟨od,J,_⟩:=O.look
  exact PySem.W.kia_one (PySem.W.kitx_own (cl.get _) cl.hd ha hn htk hm) I.kIn J e (fun z=>nomatch z) h
end
end L2
namespace L2
open PySem PySem.Spec PyProof.Rows
structure Room (k:Nat) (A:Around):Prop where
 hd:A.handled=none
 dp:A.depth + 3 * k + 5 < recursionLimit
 un:A.units + 16 * k + 200 < cLine
 gd:A.guards=some []
theorem Room.mono {j k:Nat} {A:Around} (r:Room k A) (h:j≤k):Room j A:=⟨r.hd,by have:=r.dp; omega,by have:=r.un; omega,r.gd⟩
theorem Room.deeper {k:Nat} {A:Around} (r:Room (k + 1) A) (env:Env):Room k (A.deeper env):=
 ⟨r.hd,by have:=r.dp; show A.depth + 1 + 3 * k + 5 < _; omega,by have:=r.un; show A.units + 3 + 16 * k + 200 < _; omega,r.gd⟩
theorem Room.in1 {k:Nat} {A:Around} (r:Room (k + 1) A):Room k A.in1:=
 ⟨r.hd,by have:=r.dp; show A.depth + 3 * k + 5 < _; omega,by have:=r.un; show A.units + 1 + 16 * k + 200 < _; omega,r.gd⟩
theorem Room.depth {k:Nat} {A:Around} (r:Room k A):A.depth < recursionLimit:=by have:=r.dp; omega
theorem Room.units {k:Nat} {A:Around} (r:Room k A):A.units + 64 < cLine:=by have:=r.un; omega
noncomputable def tNil:TA:=fun _ H Q=>Q [] H
noncomputable def tCons (ta:TE) (tr:TA):TA:=fun σ H Q=>ta σ H fun x H1=>tr σ H1 fun xs H2=>Q (x::xs) H2
section
variable {X:Cx} {e:Expr} {es:List Expr} {te:TE} {t:TA} {pos:Pos}
theorem pa_nil:PA X [] tNil:=fun _ _ _ _ H Q I h=>Calls.spliced_nil ⟨[],H,I,.nil,h⟩
theorem pa_cons (ha:PE X e te) (hr:PA X es t) (hs:starEach (e::es) X.env=(false,eval e X.env)::starEach es X.env:=by rfl):PA X (e::es) (tCons te t):=by
 intro pos pins s σ H Q I h
 rw [hs]
 show wpAny _ _ (spliced ((false,eval e X.env)::backTo pos (starEach es X.env))) _ _ s
 refine Calls.spliced_cons (thn (ha pins s σ H _ I h) fun u s1 ⟨x,H1,I1,r1,q1⟩=>?_)
 exact thn (hr pos pins s1 σ H1 _ I1 q1) fun us s2 ⟨xs,H2,I2,r2,q2⟩=>⟨x::xs,H2,I2,.cons r1 r2,q2⟩
noncomputable def tTup (t:TA):TE:=fun σ H Q=>t σ H fun xs H1=>xs.length≤sizeLine∧∀ p,H1 p=none→Q (.ref p) (upd H1 p (.tup xs))
noncomputable def tLst (t:TA):TE:=fun σ H Q=>t σ H fun xs H1=>xs.length≤sizeLine∧∀ p,H1 p=none→Q (.ref p) (upd H1 p (.lst xs))
theorem pe_tup {x1} (h:PA X es t):PE X (.Tuple es x1 pos) (tTup t):=by
 intro pins s σ H Q I hq
 refine wpAny_Tuple_spliced (thn (h pos pins s σ H _ I hq) fun us s1 ⟨xs,H1,I1,r,z,q⟩=>⟨by rw [← r.length]; exact z,?_⟩)
 have hf:H1 s1.heap.objs.size=none:=I1.hok.fresh (Nat.le_refl _)
 refine ⟨.ref s1.heap.objs.size,upd H1 s1.heap.objs.size (.tup xs),I1.laid (t':=s1.toks) (fun b u e=>Heap.get?_push_of_some _ e) (Nat.le_refl _) ?_,rfl,q _ hf⟩
 exact ⟨z,us,r,⟨_,Heap.get?_push_size _ rfl,rfl,_,rfl⟩⟩
theorem pe_lst (h:PA X es t):PE X (.List es pos) (tLst t):=by
 intro pins s σ H Q I hq
 refine wpAny_List_spliced (thn (h pos pins s σ H _ I hq) fun us s1 ⟨xs,H1,I1,r,z,q⟩=>⟨by rw [← r.length]; exact z,?_⟩)
 have hf:H1 s1.heap.objs.size=none:=I1.hok.fresh (Nat.le_refl _)
 refine ⟨.ref s1.heap.objs.size,upd H1 s1.heap.objs.size (.lst xs),I1.laid (t':=s1.toks) (fun b u e=>Heap.get?_push_of_some _ e) (Nat.le_refl _) ?_,rfl,q _ hf⟩
 exact ⟨z,us,0,r,Heap.get?_push_size _ rfl⟩
end
noncomputable abbrev Sp:=List V→Hp→VK→XK→Prop
noncomputable abbrev CXT:=List Env→Hp→Shared→XK→Value→Shared→Prop
structure Env0 (P:Program) (w:World) (K:PySem.W.Frag) (mg:Str→Option Value) (base:Heap) (A:Around) (outer:List Env) (s:Shared) (H:Hp):Prop where
 frames:A.frames=some outer
 mod:Mod K mg base
 bs:∀ b o,base.get? b=some o→s.heap.get? b=some o∧H b=none
 bsz:base.objs.size≤s.heap.objs.size
 funs:s.heap.FunFrames base outer
 frf:∀ b∈frs outer,H b=none
 hok:HOk P w H s.heap
 bare:AllBare s.gens
noncomputable def CE (outer:List Env) (P:Program) (w:World) (H:Hp) (s:Shared) (Q:VK) (u:Value) (s':Shared):Prop:=
 ∃ v H',s'.os=s.os∧AllBare s'.gens∧Un (frs outer) [] H H' s.heap s'.heap∧HOk P w H' s'.heap∧RelV v u∧Q v H'
noncomputable def CR (CX:CXT) (outer:List Env) (P:Program) (w:World) (H:Hp) (s:Shared) (Q:VK) (E:XK) (r:Result) (s':Shared):Prop:=
 match r with
 | .ok (.ret u)=>CE outer P w H s Q u s'
 | .ok _=>False
 | .error e=>CX outer H s E e s'
structure FnOk (P:Program) (w:World) (K:PySem.W.Frag) (mg:Str→Option Value) (base:Heap) (CX:CXT) (k:Nat) (f:Addr) (fd:FuncData) (ps:List Str) (sp:Sp):Prop where
 len:∀ vs H Q E,sp vs H Q E→vs.length=ps.length
 run:∀ (A:Around) (outer:List Env) (s:Shared) (H:Hp) (args:Args) (us:List Value) (vs:List V) (Q:VK) (E:XK),Room k A→Env0 P w K mg base A outer s H→BindsTo s fd args (ps.zip us)→Vals vs us→sp vs H Q E →
  codeAny (model P w) A (.call (.ref f) args) (CR CX outer P w H s Q E) s
theorem FnOk.mono {P:Program} {w:World} {K:PySem.W.Frag} {mg:Str→Option Value} {base:Heap} {CX:CXT} {j k:Nat} {f:Addr} {fd:FuncData} {ps:List Str} {sp:Sp} (F:FnOk P w K mg base CX j f fd ps sp) (h:j≤k) :
  FnOk P w K mg base CX k f fd ps sp:=⟨F.len,fun A outer s H args us vs Q E hr=>F.run A outer s H args us vs Q E (hr.mono h)⟩
theorem FnOk.imp {P:Program} {w:World} {K:PySem.W.Frag} {mg:Str→Option Value} {base:Heap} {CX:CXT} {k:Nat} {f:Addr} {fd:FuncData} {ps:List Str} {sp sp':Sp} (F:FnOk P w K mg base CX k f fd ps sp)
  (h:∀ vs H Q E,sp' vs H Q E→sp vs H Q E):FnOk P w K mg base CX k f fd ps sp':=
 ⟨fun vs H Q E q=>F.len vs H Q E (h _ _ _ _ q),fun A outer s H args us vs Q E hr he hb hv hs=>F.run A outer s H args us vs Q E hr he hb hv (h _ _ _ _ hs)⟩
theorem Env0.in1 {P:Program} {w:World} {K:PySem.W.Frag} {mg:Str→Option Value} {base:Heap} {A:Around} {outer:List Env} {s:Shared} {H:Hp} (e:Env0 P w K mg base A outer s H) :
  Env0 P w K mg base A.in1 outer s H:=⟨e.frames,e.mod,e.bs,e.bsz,e.funs,e.frf,e.hok,e.bare⟩
section
variable {X:Cx} {pins:List (Addr×Obj)} {σ:St} {H:Hp} {s s':Shared}
theorem Inv.env0 (I:Inv X pins σ H s):Env0 X.prog X.w X.K X.mg X.base X.A X.stack s H:=
 ⟨I.ok.frames,I.ok.mod,I.bs,Nat.le_trans I.ok.bsz I.sz,I.stack,I.stkFree,I.hok,I.bare⟩
theorem Inv.after {Q:VK} {u:Value} (I:Inv X pins σ H s) (h:CE X.stack X.prog X.w H s Q u s'):EP X pins σ Q u s':=by
 obtain ⟨v,H',os,bare,un,hok,r,q⟩:=h
 obtain ⟨hh,g,d,t,os'⟩:=s'
 obtain rfl:os'=s.os:=os
 exact ⟨v,H',I.call (h':=hh) (g':=g) (d':=d) (t':=t) (ch:=[]) un hok bare (fun b z=>absurd z (by simp)),r,q⟩
end
noncomputable def tCall (sp:Sp) (dvs:List V) (E:XK) (t:TA):TE:=fun σ H Q=>t σ H fun vs H1=>sp (vs++dvs) H1 Q E
noncomputable def Binds (K:PySem.W.Frag) (fd:FuncData) (ps:List Str) (ds:List Value):Prop:=
 ∀ (s:Shared) (us:List Value),K.In s.heap→(us++ds).length=ps.length→BindsTo s fd ⟨us,[]⟩ (ps.zip (us++ds))
theorem Binds.all {K:PySem.W.Frag} {fd:FuncData} {ps:List Str} (h:∀ us:List Value,us.length=ps.length→bindArgs fd ⟨us,[]⟩=pure (ps.zip us)):Binds K fd ps []:=fun s us _ hl=>by
 rw [List.append_nil] at hl ⊢
 exact .of_eq (h us hl)
noncomputable def Passes (CX:CXT) (X:Cx) (E:XK):Prop:=∀ (pins:List (Addr×Obj)) (σ:St) (H:Hp) (s:Shared) (e:Value) (s':Shared),Inv X pins σ H s→CX X.stack H s E e s'→X.xe e s'
section
variable {X:Cx} {CX:CXT} {k:Nat} {f C:Addr} {fd:FuncData} {ps:List Str} {sp:Sp} {dvs:List V} {ds:List Value} {E:XK} {x m:Str} {p pos apos:Pos} {e o:Expr} {es:List Expr} {ta:TE} {t:TA}
theorem run_fn {pins:List (Addr×Obj)} {σ:St} {H:Hp} {s:Shared} {Q:VK} {us:List Value} {vs:List V} (F:FnOk X.prog X.w X.K X.mg X.base CX k f fd ps sp) (hr:Room k X.A) (hb:Binds X.K fd ps ds) (hd:Vals dvs ds) (hx:Passes CX X E)
  (I:Inv X pins σ H s) (r:Vals vs us) (h:sp (vs++dvs) H Q E):wpAny (model X.prog X.w) X.A (call (.ref f) us) (EP X pins σ Q) X.xe s:=by
 have r2:Vals (vs++dvs) (us++ds):=r.append hd
 have hl:(us++ds).length=ps.length:=by rw [← r2.length]; exact F.len _ _ _ _ h
 refine wpAny_call (codeAny_mono (F.run X.A X.stack s H ⟨us,[]⟩ (us++ds) (vs++dvs) Q E hr I.env0 (hb s us I.kIn hl) r2 h) fun r s' hq=>?_)
 cases r with
 | error e=>exact hx pins σ H s e s' I hq
 | ok fl=>
  cases fl with
  | ret u=>exact I.after hq
  | next=>exact False.elim hq
  | brk=>exact False.elim hq
  | cont=>exact False.elim hq
theorem pe_call (F:FnOk X.prog X.w X.K X.mg X.base CX k f fd ps sp) (hr:Room k X.A) (hg:Gl X x) (hm:X.mg x=some (.ref f)) (hk:PySem.W.keepIn X.K (.ref f)=true) (hb:Binds X.K fd ps ds) (hd:Vals dvs ds) (hx:Passes CX X E)
  (ha:PA X (e::es) t) (hdb:(x == ("__debug__" : Str))=false:=by decide) (he:starEach (e::es) X.env=(false,eval e X.env)::starEach es X.env:=by rfl) (hpl:(backTo pos (starEach es X.env)).any (·.1)=false:=by rfl) :
  PE X (.Call (.Name x p) (e::es) [] pos) (tCall sp dvs E t):=by
 intro pins s σ H Q I h
 refine wpAny_Call_Name_kw (ld_glob I hg hm ?_ hdb)
 refine PySem.W.callWith_K (h₀:=X.base) I.ok.mod.kin hk (thn (ha pos pins s σ H _ I h) fun us s1 ⟨vs,H1,I1,r,q⟩=>⟨I1.kIn,?_⟩) he hpl
 exact run_fn F hr hb hd hx I1 r q
structure Mk (K:PySem.W.Frag) (C f:Addr):Prop where
 makes:PySem.W.makesIn K C=true
 init:PySem.W.findIn K (.ref C) "__init__" = some (some (.ref f))
 fn:PySem.W.isFn K (.ref f)=true
 kp:PySem.W.keepIn K (.ref C)=true
end
section
variable {X:Cx} {CX:CXT} {k:Nat} {f C:Addr} {fd:FuncData} {ps ks:List Str} {sp:Sp} {E:XK} {x m:Str} {p pos apos kpos:Pos} {e o:Expr} {es:List Expr} {kws:List Keyword} {te ta:TE} {t tk:TA} {nm:Option Str}
structure KBinds (K:PySem.W.Frag) (fd:FuncData) (ps ks:List Str) (g:List Value→List Value→List Value) (gV:List V→List V→List V):Prop where
 to:∀ (s:Shared) (us ws:List Value),K.In s.heap→(g us ws).length=ps.length→BindsTo s fd ⟨us,ks.zip ws⟩ (ps.zip (g us ws))
 rel:∀ {vs:List V} {us:List Value} {zs:List V} {ws:List Value},Vals vs us→Vals zs ws→Vals (gV vs zs) (g us ws)
variable {g:List Value→List Value→List Value} {gV:List V→List V→List V}
end
structure FnScope (N P:List Str) (sc:Scope):Prop where
 kind:sc.kind=.function
 co:sc.isCoroutine=false
 gen:sc.isGenerator=false
 nd:N.Nodup
 pre:N.take P.length=P
 par:∀ x∈P,sc.names.lookup x=some .local∨sc.names.lookup x=some .cell
 nofree:∀ y∈sc.names,y.2≠.free
theorem bindL_out {kindOf:Str→Option NameKind} {x:Str}:∀ {binds:List (Str×Value)} {m:Str→Option Value},(∀ v,(x,v)∉binds)→bindL kindOf binds m x=m x
 | [],_,_=>rfl
 | (n,v)::r,m,h=>by
  unfold bindL
  rw [bindL_out fun w hw=>h w (List.mem_cons_of_mem _ hw)]
  split
  ·have:x≠n:=by rintro rfl; exact h v List.mem_cons_self
   simp [this]
  ·rfl
theorem bindC_out {kindOf:Str→Option NameKind} {x:Str}:∀ {binds:List (Str×Value)} {m:Str→Option Value},(∀ v,(x,v)∉binds)→bindC kindOf binds m x=m x
 | [],_,_=>rfl
 | (n,v)::r,m,h=>by
  unfold bindC
  rw [bindC_out fun w hw=>h w (List.mem_cons_of_mem _ hw)]
  split
  ·rfl
  ·have:x≠n:=by rintro rfl; exact h v List.mem_cons_self
   simp [this]
theorem bindL_get {kindOf:Str→Option NameKind} {x:Str} {v:Value}:∀ {P:List Str} {vs:List Value} {i:Nat} {m:Str→Option Value},P.Nodup→P[i]? = some x→vs[i]? = some v→kindOf x=some .local →
  bindL kindOf (P.zip vs) m x=some v
 | [],_,_,_,_,h,_,_=>by simp at h
 | _::_,[],_,_,_,_,h,_=>by simp at h
 | p::P,w::vs,0,m,nd,h1,h2,hk=>by
  simp at h1 h2; subst h1; subst h2
  show bindL kindOf ((p,w)::P.zip vs) m p=_
  unfold bindL
  rw [bindL_out fun v hv=>(List.nodup_cons.mp nd).1 (List.of_mem_zip hv).1,if_pos hk]
  simp
 | p::P,w::vs,i + 1,m,nd,h1,h2,hk=>by
  show bindL kindOf ((p,w)::P.zip vs) m x=_
  unfold bindL
  exact bindL_get (i:=i) (List.nodup_cons.mp nd).2 (by simpa using h1) (by simpa using h2) hk
theorem bindC_get {kindOf:Str→Option NameKind} {x:Str} {v:Value}:∀ {P:List Str} {vs:List Value} {i:Nat} {m:Str→Option Value},P.Nodup→P[i]? = some x→vs[i]? = some v→kindOf x≠some .local →
  bindC kindOf (P.zip vs) m x=some v
 | [],_,_,_,_,h,_,_=>by simp at h
 | _::_,[],_,_,_,_,h,_=>by simp at h
 | p::P,w::vs,0,m,nd,h1,h2,hk=>by
  simp at h1 h2; subst h1; subst h2
  show bindC kindOf ((p,w)::P.zip vs) m p=_
  unfold bindC
  rw [bindC_out fun v hv=>(List.nodup_cons.mp nd).1 (List.of_mem_zip hv).1,if_neg hk]
  simp
 | p::P,w::vs,i + 1,m,nd,h1,h2,hk=>by
  show bindC kindOf ((p,w)::P.zip vs) m x=_
  unfold bindC
  exact bindC_get (i:=i) (List.nodup_cons.mp nd).2 (by simpa using h1) (by simpa using h2) hk
noncomputable def start (N:List Str) (vs:List V):St:=vs.map some++List.replicate (N.length - vs.length) none
noncomputable def cxOf (CX:CXT) (P:Program) (w:World) (K:PySem.W.Frag) (mg:Str→Option Value) (base:Heap) (N:List Str) (qual:Str) (scope:Scope) (f:Addr) (cd:Value) (A:Around) (outer:List Env) (s:Shared) (H:Hp) (E:XK):Cx where
 prog:=P
 w:=w
 K:=K
 mg:=mg
 base:=base
 A:=A.deeper (envOfC qual scope s.heap.objs.size f cd)
 N:=N
 s₀:=s
 H₀:=H
 env:=envOfC qual scope s.heap.objs.size f cd
 outer:=outer
 stack:=envOfC qual scope s.heap.objs.size f cd::outer
 ex:=[]
 calm:=true
 fn:=fun _=>true
 pn:=[]
 xe:=fun e s'=>wpAny (model P w) (A.deeper (envOfC qual scope s.heap.objs.size f cd)) (leaving (envOfC qual scope s.heap.objs.size f cd) e) (fun _ s''=>CX outer H s E e s'') (fun e' s''=>CX outer H s E e' s'') s'
theorem cell_has {sc:Scope} {n:Nat} {x:Str} (h:sc.names.lookup x=some .cell):∃ c,(cellsFrom n sc.names []).lookup x=some c:=by
 have q:=PySem.W.cellsFrom_some sc.names n [] (.inl h)
 exact Option.isSome_iff_exists.mp q
theorem inv_start {CX:CXT} {P:Program} {w:World} {K:PySem.W.Frag} {mg:Str→Option Value} {base:Heap} {N ps:List Str} {qual:Str} {scope:Scope} {f:Addr} {cd:Value} {A:Around} {outer:List Env} {s s1:Shared} {H:Hp} {E:XK} {us:List Value} {vs:List V}
  (S:FnScope N ps scope) (hd:A.handled=none) (e0:Env0 P w K mg base A outer s H) (hl:vs.length=ps.length) (r:Vals vs us)
  (x:InCallC s s.heap.objs.size (bindL (envOfC qual scope s.heap.objs.size f cd).kindOf (ps.zip us) fun _=>none) (cellsFrom (s.heap.objs.size + 1) scope.names []) (bindC (envOfC qual scope s.heap.objs.size f cd).kindOf (ps.zip us) fun _=>none) s1) :
  Inv (cxOf CX P w K mg base N qual scope f cd A outer s H E) [] (start N vs) H s1:=by
 have hpl:ps.length≤N.length:=by have:=congrArg List.length S.pre; rw [List.length_take] at this; omega
 obtain ⟨h1,tk,rfl,hk⟩:=x.done
 have noA:∀ b:Addr,b∉(cxOf CX P w K mg base N qual scope f cd A outer s H E).ex:=fun b z=>absurd (show b∈([]:List Addr) from z) (by simp)
 refine ⟨⟨e0.mod,S.kind,rfl,rfl,Nat.le_refl _,fun y z c h1 h2=>?_,fun y hy=>?_,fun y c _ h=>?_,fun _=>hd,Around.frames_deeper e0.frames,.inr ⟨rfl,rfl⟩,fun b z=>absurd z (noA b),e0.bs,e0.bsz,fun b _ _=>noA b,fun b z=>absurd z (noA b),e0.funs,e0.frf⟩,
  rfl,e0.bare,Un.kept hk,⟨_,x.toInCall.ns,fun i y v h1 h2 h3=>?_⟩,fun y c h=>⟨_,x.cell y c h⟩,e0.hok.fresh (Nat.le_refl _),fun y c h=>?_,fun p hp=>absurd (show p∈([]:List (Addr×Obj)) from hp) (by simp),e0.hok.kept hk,?_⟩
 ·exact name_of_addr x.apart (PySem.mem_of_lookup h1) (PySem.mem_of_lookup h2)
 ·have hy:scope.names.lookup y=some .cell∨scope.names.lookup y=some .free:=hy
  rcases hy with hy | hy
  ·exact cell_has hy
  ·exact absurd rfl (S.nofree _ (PySem.mem_of_lookup hy))
 ·exact Nat.le_of_lt (x.above y c (PySem.mem_of_lookup h))
 ·have hi:i < vs.length:=by
   unfold start at h2
   by_cases hi:i < vs.length
   ·exact hi
   ·rw [List.getElem?_append_right (by simpa using hi)] at h2
    rw [List.getElem?_replicate] at h2
    split at h2 <;> cases h2
  have ha:vs[i]? = some v:=by
   unfold start at h2
   rw [List.getElem?_append_left (by simpa using hi),List.getElem?_map] at h2
   cases e:vs[i]? with
   | none=>rw [e] at h2; cases h2
   | some a=>rw [e] at h2; cases h2; rfl
  obtain ⟨u,hu,rv⟩:=r.get ha
  have hp:ps[i]? = some y:=by
   rw [← S.pre,List.getElem?_take_of_lt (by omega)]; exact h1
  have ndP:ps.Nodup:=by rw [← S.pre]; exact S.nd.sublist (List.take_sublist _ _)
  refine ⟨u,rv,?_⟩
  rcases S.par y (List.mem_of_getElem? hp) with k | k
  ·exact .inl ⟨k,bindL_get ndP hp hu k⟩
  ·obtain ⟨c,e⟩:=cell_has (n:=s.heap.objs.size + 1) k
   refine .inr ⟨.inl k,c,e,?_⟩
   have q:=x.cell y c e
   rw [bindC_get ndP hp hu (by show scope.names.lookup y≠_; rw [k]; decide)] at q
   exact q
 ·exact e0.hok.fresh (Nat.le_of_lt (x.above y c (PySem.mem_of_lookup h)))
 ·unfold start
  show _=N.length
  rw [List.length_append,List.length_map,List.length_replicate]
  omega
theorem fn_of {CX:CXT} {P:Program} {w:World} {K:PySem.W.Frag} {mg:Str→Option Value} {base:Heap} {k:Nat} {f:Addr} {name qual:Str} {params:Arguments} {body:List Stmt} {scope:Scope} {dV kV doc pm cdv ct oc:Value} {an od:Option Addr}
  {osl:Array (Option Value)} {N ps:List Str} {sp:Sp} (lk:K.lookup f=some ⟨oc,od,.func (PySem.W.fnOf name qual params body scope dV kV doc pm an cdv ct),osl⟩) (hcd:PySem.W.codeIn K cdv qual=true) (S:FnScope N ps scope)
  (len:∀ vs H Q E,sp vs H Q E→vs.length=ps.length)
  (hbody:∀ (A:Around) (outer:List Env) (s:Shared) (H:Hp) (vs:List V) (Q:VK) (E:XK),Room k (A.deeper (envOfC qual scope s.heap.objs.size f cdv))→sp vs H Q E →
   ∃ t,PSs (cxOf CX P w K mg base N qual scope f cdv A outer s H E) body t∧t { nx:=fun _ H'=>Q .non H',rt:=Q } (start N vs) H) :
  FnOk P w K mg base CX (k + 1) f (PySem.W.fnOf name qual params body scope dV kV doc pm an cdv ct) ps sp:=by
 refine ⟨len,fun A outer s H args us vs Q E hr e0 hb r hsp=>?_⟩
 have hl:=len _ _ _ _ hsp
 have KX:K.In s.heap:=e0.mod.kin.keeps fun b o e=>(e0.bs b o e).1
 have lim:s.heap.NoLimit:=e0.mod.nolimit.keeps fun b o e=>(e0.bs b o e).1
 have hkind:∀ y∈ps.zip us,scope.names.lookup y.1=some .local∨(scope.names.lookup y.1=some .cell∧((cellsFrom (s.heap.objs.size + 1) scope.names []).lookup y.1).isSome=true):=fun ⟨n,v⟩ hy=>by
  rcases S.par n (List.of_mem_zip hy).1 with q | q
  ·exact .inl q
  ·exact .inr ⟨q,PySem.W.cellsFrom_some _ _ _ (.inl q)⟩
 refine codeAny_call_function hr.depth (KX _ _ lk) rfl S.co S.gen rfl (PySem.W.codeRec_of KX hcd) (hb _ _ _ _ ?_)
 refine wpAny_newFunctionEnv_cells S.kind hkind fun env he s1 x=>?_
 subst he
 refine ⟨lim.keeps x.toInCall.keep,codeAny_func ?_⟩
 obtain ⟨t,ht,hq⟩:=hbody A outer s H vs Q E (hr.deeper _) hsp
 have I:Inv (cxOf CX P w K mg base N qual scope f cdv A outer s H E) [] (start N vs) H s1:=inv_start S hr.hd e0 hl r x
 refine wpAny_mono (ht [] s1 (start N vs) H _ I hq) (fun fl s' hs=>?_) fun e s' hs=>hs
 have fin:∀ {σ':St} {H':Hp} {v:V} {u:Value},Inv (cxOf CX P w K mg base N qual scope f cdv A outer s H E) [] σ' H' s'→RelV v u→Q v H'→CE outer P w H s Q u s':=
  fun {σ' H' v u} J rv q=>⟨v,H',J.os,J.bare,J.base,J.hok,rv,q⟩
 cases fl with
 | ret u=>
  obtain ⟨v,σ',H',J,rv,q⟩:=hs
  exact fin J rv q
 | next=>
  obtain ⟨σ',H',J,q⟩:=hs
  exact fin (v:=V.non) (u:=Value.none) J rfl q
 | brk=>
  obtain ⟨_,_,_,q⟩:=hs
  exact False.elim q
 | cont=>
  obtain ⟨_,_,_,q⟩:=hs
  exact False.elim q
end L2
namespace L2
open PySem PySem.Spec PyProof.Rows
section
variable {X:Cx} {x:Str} {p pos:Pos} {e:Expr} {es:List Expr} {t:TA} {id T:String} {r:List V→Hp→VK→Prop}
noncomputable def tCB (r:List V→Hp→VK→Prop) (t:TA):TE:=fun σ H Q=>t σ H fun vs H1=>r vs H1 Q
theorem pe_callB (hc:CallR X (.builtin id) r) (hg:Gl X x) (hm:X.mg x=none) (hv:bootBuiltins x=some (.builtin id)) (ha:PA X (e::es) t) (hn:x≠"__name__":=by decide) (hdb:(x == ("__debug__" : Str))=false:=by decide)
  (he:starEach (e::es) X.env=(false,eval e X.env)::starEach es X.env:=by rfl) (hpl:(backTo pos (starEach es X.env)).any (·.1)=false:=by rfl):PE X (.Call (.Name x p) (e::es) [] pos) (tCB r t):=by
 intro pins s σ H Q I h
 refine wpAny_Call_Name_kw (ld_blt I hg hm hv ?_ hn hdb)
 exact PyProof.Rows.callWith_builtin1 (thn (ha pos pins s σ H _ I h) fun us s1 ⟨vs,H1,I1,r1,q1⟩=>hc pins s1 σ H1 vs us Q I1 r1 q1) he hpl
theorem pe_callTy (hc:CallR X (.type T) r) (hg:Gl X x) (hm:X.mg x=none) (hv:bootBuiltins x=some (.type T)) (ha:PA X (e::es) t) (hn:x≠"__name__":=by decide) (hdb:(x == ("__debug__" : Str))=false:=by decide)
  (he:starEach (e::es) X.env=(false,eval e X.env)::starEach es X.env:=by rfl) (hpl:(backTo pos (starEach es X.env)).any (·.1)=false:=by rfl):PE X (.Call (.Name x p) (e::es) [] pos) (tCB r t):=by
 intro pins s σ H Q I h
 refine wpAny_Call_Name_kw (ld_blt I hg hm hv ?_ hn hdb)
 exact PyProof.Rows.callWith_type1 (thn (ha pos pins s σ H _ I h) fun us s1 ⟨vs,H1,I1,r1,q1⟩=>hc pins s1 σ H1 vs us Q I1 r1 q1) he hpl
end
end L2
namespace HT
open PySem PyProof.Rows
section
open PySem.SeqAt
open PySem.AutoSeq1 (wpAny_loadPart')
open PySem.MeetsSeq PySem.MeetsSeq2 PySem.MeetsSeq3
end
section
variable {prog:Program} {w:World} {A:Around} {E:Value→Shared→Prop} {s:Shared}
theorem cat_tup {t b:Addr} {vs ws:List Value} {Q:Value→Shared→Prop} (ht:IsTup s.heap t vs.toArray) (hb:IsTup s.heap b ws.toArray) (hv:vs≠[])
  (h1:ws=[]→Q (.ref t) s) (h2:ws≠[]→Q (.ref s.heap.objs.size) { s with heap:=s.heap.push { cls:=.type "tuple",data:=.seq (vs++ws).toArray } })
  (hsz:vs.length + ws.length≤sizeLine):wpAny (model prog w) A (binaryOp .Add (.ref t) (.ref b)) Q E s:=by
 obtain ⟨⟨cls,dd,data,sl⟩,ho,hc,n,hd⟩:=id ht
 obtain ⟨⟨cls2,dd2,data2,sl2⟩,ho2,hc2,n2,hd2⟩:=id hb
 simp only at hc hd hc2 hd2
 subst hc hd hc2 hd2
 have e:vs.toArray++ws.toArray=(vs++ws).toArray:=by simp
 by_cases hw:ws=[]
 ·exact concat_meets ⟨_,ho,rfl⟩ ⟨_,ho2,rfl⟩ noFill_tuple_add seq_tuple_add PySem.F.slot_tuple_add PySem.F.entry_tuple_add (PySem.F.args_tuple_add_2 _ _)
   (tuple_addW1 t b vs.toArray ws.toArray n n2 dd dd2 sl sl2 (by simpa using hv) (by simp [hw])) ⟨ho,ho2,h1 hw⟩
 ·refine concat_meets ⟨_,ho,rfl⟩ ⟨_,ho2,rfl⟩ noFill_tuple_add seq_tuple_add PySem.F.slot_tuple_add PySem.F.entry_tuple_add (PySem.F.args_tuple_add_2 _ _)
   (tuple_addW2 t b vs.toArray ws.toArray n n2 dd dd2 sl sl2 (by simpa using hv) (by simpa using hw) (by rw [List.size_toArray,List.size_toArray]; exact hsz)) ⟨ho,ho2,?_⟩
  rw [e]
  exact h2 hw
noncomputable def sIx (n d:Nat):Option Int→Nat
 | none=>d
 | some v=>if v < 0 then (v + (n:Int)).toNat else min v.toNat n
theorem sIx_none (n d:Nat):sIx n d none=d:=rfl
theorem sIx_nat (n d k:Nat):sIx n d (some (k:Int))=min k n:=by
 show (if (k:Int) < 0 then ((k:Int) + (n:Int)).toNat else min (k:Int).toNat n)=min k n
 rw [if_neg (by omega),Int.toNat_natCast]
theorem sIx_le (n d:Nat) (hd:d≤n) (o:Option Int):sIx n d o≤n:=by
 cases o with
 | none=>exact hd
 | some v=>
  show (if v < 0 then (v + (n:Int)).toNat else min v.toNat n)≤n
  by_cases hv:v < 0
  ·rw [if_pos hv]; omega
  ·rw [if_neg hv]; exact Nat.min_le_right _ _
theorem clip_eq (v:Int) (n d:Nat):(if v < 0 then max (v + (n:Int)) 0 else min v (n:Int))=((sIx n d (some v):Nat):Int):=by
 show (if v < 0 then max (v + (n:Int)) 0 else min v (n:Int))=(((if v < 0 then (v + (n:Int)).toNat else min v.toNat n):Nat):Int)
 by_cases hv:v < 0
 ·simp only [if_pos hv]; omega
 ·simp only [if_neg hv]; omega
theorem adjust_gen (lo hi:Option Int) (n:Nat):Builtin.Slice.sliceAdjust lo hi 1 (n:Int)=(((sIx n 0 lo:Nat):Int),((sIx n n hi:Nat):Int)):=by
 have h1:¬ ((1:Int) < 0):=by omega
 unfold Builtin.Slice.sliceAdjust
 simp only [h1,if_false]
 refine Prod.ext ?_ ?_
 ·cases lo with
  | none=>rfl
  | some v=>exact clip_eq v n 0
 ·cases hi with
  | none=>rfl
  | some v=>exact clip_eq v n n
theorem places_gen (i j:Nat):Builtin.Slice.slicePlaces (i:Int) (j:Int) 1=j - i:=by
 unfold Builtin.Slice.slicePlaces
 have h1:(1:Int) > 0:=by omega
 simp only [h1,if_true,Int.ediv_one]
 split <;> omega
theorem slicePart_ {v:Value} {o:Option Int} {Q:Option Int→Shared→Prop} (p:IsPart v o) (h:Q o s):wpAny (model prog w) A (Builtin.Slice.slicePartIndex v) Q E s:=by
 cases p with
 | none=>exact slicePart_none h
 | int i t=>exact slicePart_int h
theorem sliceApplied_gen {sl:Addr} {vl vu:Value} {lo hi:Option Int} {n:Nat} {Q:Int×Int×Nat→Shared→Prop} (hs:s.heap.IsSliceOf sl vl vu .none) (pl:IsPart vl lo) (pu:IsPart vu hi)
  (h:Q (((sIx n 0 lo:Nat):Int),1,sIx n n hi - sIx n 0 lo) s):wpAny (model prog w) A (Builtin.Slice.sliceApplied (.ref sl) (pure (n:Int))) Q E s:=by
 obtain ⟨os,hos,hcs,hds⟩:=id hs
 unfold Builtin.Slice.sliceApplied Builtin.Slice.sliceFields
 refine wpAny_bind (wpAny_bind (wpAny_field hos hds (x:=vl) rfl (wpAny_bind (wpAny_field hos hds (x:=vu) rfl (wpAny_bind (wpAny_field hos hds (x:=.none) rfl (wpAny_pure ?_)))))))
 refine wpAny_bind (slicePart_none ?_)
 show wpAny _ _ (if ((1:Int) == 0)=true then _ else _) _ _ s
 rw [if_neg (by decide)]
 refine wpAny_bind (slicePart_ pl (wpAny_bind (slicePart_ pu (wpAny_bind (wpAny_pure ?_)))))
 show wpAny _ _ (match Builtin.Slice.sliceAdjust lo hi 1 (n:Int) with | (lo,hi)=>pure (lo,(1:Int),Builtin.Slice.slicePlaces lo hi 1)) _ _ s
 rw [adjust_gen lo hi n]
 show wpAny _ _ (pure (((sIx n 0 lo:Nat):Int),(1:Int),Builtin.Slice.slicePlaces ((sIx n 0 lo:Nat):Int) ((sIx n n hi:Nat):Int) 1)) _ _ s
 rw [places_gen]
 exact wpAny_pure h
theorem pick_gen (xs:Array Value) (i k:Nat):((List.range k).filterMap fun (m:Nat)=>xs[((i:Int) + (m:Int) * 1).toNat]?).toArray=((xs.toList.drop i).take k).toArray:=by
 have e:(fun (m:Nat)=>xs[((i:Int) + (m:Int) * 1).toNat]?)=fun m=>xs[i + m]?:=by
  funext m
  have:((i:Int) + (m:Int) * 1).toNat=i + m:=by omega
  rw [this]
 rw [e]
 have:=pick_run xs i k
 rw [List.filterMap_map] at this
 have e2:((fun x=>xs[x]?) ∘ fun x=>i + x)=fun m=>xs[i + m]?:=rfl
 rw [e2] at this
 rw [this]
theorem getItem_tuple_cut {t sl:Addr} {items:Array Value} {vl vu:Value} {lo hi:Option Int} {Q:Value→Shared→Prop} (ht:IsTup s.heap t items) (hs:s.heap.IsSliceOf sl vl vu .none) (pl:IsPart vl lo) (pu:IsPart vu hi)
  (hw:¬ (sIx items.size 0 lo=0∧sIx items.size items.size hi=items.size))
  (h:Q (.ref s.heap.objs.size) { s with heap:=s.heap.push { cls:=.type "tuple",data:=.seq ((items.toList.drop (sIx items.size 0 lo)).take (sIx items.size items.size hi - sIx items.size 0 lo)).toArray } })
  (hsz:items.size≤sizeLine):wpAny (model prog w) A (getItem (.ref t) (.ref sl)) Q E s:=by
 have htake:sizeOk (.seq ((items.toList.drop (sIx items.size 0 lo)).take (sIx items.size items.size hi - sIx items.size 0 lo)).toArray):=by
  show ((items.toList.drop (sIx items.size 0 lo)).take (sIx items.size items.size hi - sIx items.size 0 lo)).toArray.size≤sizeLine
  rw [List.size_toArray,List.length_take,List.length_drop,Array.length_toList]
  omega
 have hj:sIx items.size items.size hi≤items.size:=sIx_le _ _ (Nat.le_refl _) hi
 obtain ⟨os,hos,hcs,hds⟩:=id hs
 have hTs:s.TypeIs (.ref sl) "slice":=⟨os,hos,hcs⟩
 unfold getItem
 try with_reducible refine wpAny_holding ?_
 first | refine wpAny_bind (wpAny_pure ?_) | skip
 refine wpAny_bind (wpAny_sequenceKey ht.typeIs (by decide) ?_)
 refine wpAny_bind (wpAny_callSpecial?_slot (name:=Str.ofString "__getitem__") ht.typeIs PyProof.Rows.slot_tuple_getitem
  (wpAny_call_entry PyProof.Rows.slot_tuple_getitem ht.typeIs entry_tuple_getitem ?_ (args_tuple_getitem _ _)))
 show wpAny _ _ (Builtin.Tuple.tupleItemsOf (.ref t) >>= _) _ _ s
 refine wpAny_bind (tupleItemsOf_ ht ?_)
 refine wpAny_bind (wpAny_typeOf hTs ?_)
 rw [if_pos (by decide)]
 refine wpAny_bind (sliceApplied_gen hs pl pu ?_)
 have hno:¬ ((((sIx items.size 0 lo:Nat):Int) == 0 && (1:Int) == 1 && (sIx items.size items.size hi - sIx items.size 0 lo) == items.size)=true):=by
  intro q
  rw [Bool.and_eq_true,Bool.and_eq_true] at q
  have q1:((sIx items.size 0 lo:Nat):Int)=0:=eq_of_beq q.1.1
  have q2:sIx items.size items.size hi - sIx items.size 0 lo=items.size:=eq_of_beq q.2
  exact hw ⟨by omega,by omega⟩
 show wpAny _ _ (if (((sIx items.size 0 lo:Nat):Int) == 0 && (1:Int) == 1 && (sIx items.size items.size hi - sIx items.size 0 lo) == items.size)=true then _ else _) _ _ s
 rw [if_neg hno,pick_gen]
 first
  | exact wpAny_bind (m:=Builtin.Tuple.tupleExact _) (wpAny_newObj_type (wpAny_pure ⟨_,rfl,wpAny_pure h⟩) htake)
  | exact wpAny_bind (m:=Builtin.Tuple.tupleExact _) (wpAny_newObj_type (wpAny_bind (wpAny_pure (wpAny_pure ⟨_,rfl,wpAny_pure h⟩))) htake)
  | exact wpAny_bind (wpAny_bind (m:=Builtin.Tuple.tupleExact _) (wpAny_newObj_type (wpAny_pure (wpAny_pure ⟨_,rfl,wpAny_pure h⟩)) htake))
  | exact wpAny_bind (wpAny_bind (m:=Builtin.Tuple.tupleExact _) (wpAny_newObj_type (wpAny_pure ⟨_,rfl,wpAny_pure h⟩) htake))
end
end HT
namespace L2
open PySem PySem.Spec PyProof.Rows
noncomputable abbrev TO:=St→Hp→(Option Int→Hp→Prop)→Prop
noncomputable def PO (X:Cx) (e:Option Expr) (t:TO):Prop:=
 ∀ (pins:List (Addr×Obj)) (s:Shared) (σ:St) (H:Hp) (Q:Option Int→Hp→Prop),Inv X pins σ H s→t σ H Q →
  wpAny (model X.prog X.w) X.A (evalPart e X.env) (fun u s'=>∃ o H',Inv X pins σ H' s'∧IsPart u o∧Q o H') X.xe s
noncomputable def tNoPart:TO:=fun _ H Q=>Q none H
noncomputable def tPart (t:TE):TO:=fun σ H Q=>t σ H fun x H1=>∃ i,x=.int i∧Q (some i) H1
section
variable {X:Cx} {e:Expr} {te:TE} {lo hi:Option Expr} {tl th:TO} {pos p2:Pos}
theorem po_none:PO X none tNoPart:=by
 intro pins s σ H Q I h
 rw [evalPart_none]
 exact wpAny_pure ⟨none,H,I,.none,h⟩
theorem po_some (h:PE X e te):PO X (some e) (tPart te):=by
 intro pins s σ H Q I hw
 rw [evalPart_some]
 refine thn (h pins s σ H _ I hw) fun u s1 ⟨x,H1,I1,r1,q1⟩=>?_
 obtain ⟨i,rfl,q⟩:=q1
 obtain ⟨t,rfl⟩:=r1
 exact ⟨some i,H1,I1,.int i t,q⟩
noncomputable def SlR (X:Cx) (r:V→Option Int→Option Int→Hp→VK→Prop):Prop:=
 ∀ (pins:List (Addr×Obj)) (s:Shared) (σ:St) (H:Hp) (x:V) (v vl vu:Value) (lo hi:Option Int) (sl:Addr) (Q:VK),Inv X pins σ H s→RelV x v→s.heap.IsSliceOf sl vl vu .none→IsPart vl lo→IsPart vu hi→r x lo hi H Q →
  ∃ T id,typeLookup (.type T) "__getitem__" = pure (some (.builtin id))∧s.TypeIs v T∧wpAny (model X.prog X.w) X.A (getItem v (.ref sl)) (EP X pins σ Q) X.xe s
theorem SlR.or {r r':V→Option Int→Option Int→Hp→VK→Prop} (h:SlR X r) (h':SlR X r'):SlR X (fun x lo hi H Q=>r x lo hi H Q∨r' x lo hi H Q):=by
 intro pins s σ H x v vl vu lo hi sl Q I rx hs pl pu q
 rcases q with q | q
 ·exact h pins s σ H x v vl vu lo hi sl Q I rx hs pl pu q
 ·exact h' pins s σ H x v vl vu lo hi sl Q I rx hs pl pu q
noncomputable def tSl (r:V→Option Int→Option Int→Hp→VK→Prop) (te:TE) (tl th:TO):TE:=fun σ H Q=>te σ H fun x H1=>tl σ H1 fun l H2=>th σ H2 fun u H3=>r x l u H3 Q
theorem pe_slice {r:V→Option Int→Option Int→Hp→VK→Prop} (hr:SlR X r) (he:PE X e te) (hl:PO X lo tl) (hu:PO X hi th):PE X (.Subscript e (.Slice lo hi none p2) pos) (tSl r te tl th):=by
 intro pins s σ H Q I h
 refine Subscript_ (thn (he pins s σ H _ I h) fun v s1 ⟨x,H1,I1,r1,q1⟩=>?_)
 refine wpAny_Slice (thn (hl pins s1 σ H1 _ I1 q1) fun vl s2 ⟨l,H2,I2,pl,q2⟩=>thn (hu pins s2 σ H2 _ I2 q2) fun vu s3 ⟨u,H3,I3,pu,q3⟩=>?_)
 rw [evalPart_none]
 refine wpAny_pure ?_
 have I4:Inv X pins σ H3 { s3 with heap:=s3.heap.push { cls:=.type "slice",data:=.fields #[vl,vu,.none] } }:=I3.kept (t':=s3.toks) fun b ob q=>Heap.get?_push_of_some _ q
 obtain ⟨T,id,hT,ht,hg⟩:=hr pins { s3 with heap:=s3.heap.push { cls:=.type "slice",data:=.fields #[vl,vu,.none] } } σ H3 x v vl vu l u s3.heap.objs.size Q I4 r1 (Heap.IsSliceOf.new ..) pl pu q3
 show wpAny (model X.prog X.w) X.A (subscriptTail e (.Slice lo hi none p2) v (.ref s3.heap.objs.size)) (EP X pins σ Q) X.xe { s3 with heap:=s3.heap.push { cls:=.type "slice",data:=.fields #[vl,vu,.none] } }
 exact tail_any (ops:=[.ref s3.heap.objs.size,v]) ht hT hg (by with_unfolding_all rfl)
noncomputable def cutV (xs:List V) (lo hi:Option Int):List V:=(xs.drop (HT.sIx xs.length 0 lo)).take (HT.sIx xs.length xs.length hi - HT.sIx xs.length 0 lo)
theorem cutV_length (xs:List V) (lo hi:Option Int):(cutV xs lo hi).length≤xs.length:=by
 unfold cutV
 rw [List.length_take,List.length_drop]
 omega
noncomputable def rSlT (K:PySem.W.Frag):V→Option Int→Option Int→Hp→VK→Prop:=fun x lo hi H Q=>∃ a xs,x=.ref a∧SqT K H a xs ∧
 ¬ (HT.sIx xs.length 0 lo=0∧HT.sIx xs.length xs.length hi=xs.length)∧∀ p,H p=none→Q (.ref p) (upd H p (.tup (cutV xs lo hi)))
theorem sl_tup:SlR X (rSlT X.K):=by
 intro pins s σ H x v vl vu lo hi sl Q I rx hs pl pu h
 obtain ⟨a,xs,rfl,hx,hw,q⟩:=h
 cases rx
 obtain ⟨its,r,ht,hz⟩:=I.tuple hx
 have hlen:its.toArray.size=xs.length:=by rw [List.size_toArray]; exact r.length.symm
 refine ⟨"tuple",_,PyProof.Rows.slot_tuple_getitem.lookup,ht.typeIs,?_⟩
 refine HT.getItem_tuple_cut ht hs pl pu (by rw [hlen]; exact hw) ?_ (by rw [hlen]; exact hz)
 rw [hlen]
 refine ⟨.ref s.heap.objs.size,_,I.laid (t':=s.toks) (o:=.tup (cutV xs lo hi)) (fun b ob q=>Heap.get?_push_of_some _ q) (Nat.le_refl _) ?_,rfl,q _ (I.hok.fresh (Nat.le_refl _))⟩
 exact ⟨Nat.le_trans (cutV_length xs lo hi) hz,_,(r.drop (HT.sIx xs.length 0 lo)).take (HT.sIx xs.length xs.length hi - HT.sIx xs.length 0 lo),IsTup.new _ _⟩
noncomputable def rCatT (K:PySem.W.Frag):R2:=fun x y H Q=>∃ a b xs ys,x=.ref a∧y=.ref b∧SqT K H a xs∧SqT K H b ys∧xs≠[]∧xs.length + ys.length≤sizeLine ∧
 (ys=[]→Q (.ref a) H)∧(ys≠[]→∀ p,H p=none→Q (.ref p) (upd H p (.tup (xs++ys))))
theorem Vals.nil_iff {xs:List V} {us:List Value} (r:Vals xs us):us=[]↔xs=[]:=by
 cases r with
 | nil=>simp
 | cons _ _=>simp
theorem op_catT:OpR X (binaryOp .Add) (rCatT X.K):=by
 intro pins s σ H x y v u Q I rx ry h
 obtain ⟨a,b,xs,ys,rfl,rfl,ha,hb,hx,hz,q1,q2⟩:=h
 cases rx
 cases ry
 obtain ⟨its,r1,p1,_⟩:=I.tuple ha
 obtain ⟨its2,r2,p2,_⟩:=I.tuple hb
 refine HT.cat_tup p1 p2 (fun z=>hx (r1.nil_iff.mp z)) (fun z=>⟨.ref a,H,I,rfl,q1 (r2.nil_iff.mp z)⟩) (fun z=>?_) (by rw [← r1.length,← r2.length]; exact hz)
 refine ⟨.ref s.heap.objs.size,_,I.laid (t':=s.toks) (o:=.tup (xs++ys)) (fun b ob q=>Heap.get?_push_of_some _ q) (Nat.le_refl _) ?_,rfl,q2 (fun w=>z (r2.nil_iff.mpr w)) _ (I.hok.fresh (Nat.le_refl _))⟩
 exact ⟨by rw [List.length_append]; exact hz,_,r1.append r2,IsTup.new _ _⟩
end
end L2
namespace L2
open PySem PySem.Spec PyProof.Rows
noncomputable def ixN (n:Nat) (i:Int):Option Nat:=if 0≤i then (if i < n then some i.toNat else none) else if -(n:Int)≤i then some (i + n).toNat else none
noncomputable def atI {α:Type} (xs:List α) (i:Int):Option α:=(ixN xs.length i).bind fun j=>xs[j]?
theorem ixN_seq {n:Nat} {i:Int} {j:Nat} (h:ixN n i=some j):seqIndex? i n=some j∧j < n∧-(n:Int)≤i∧i < n:=by
 unfold ixN at h
 by_cases h0:0≤i
 ·rw [if_pos h0] at h
  by_cases h1:i < n
  ·rw [if_pos h1] at h
   have e:i.toNat=j:=Option.some.inj h
   exact ⟨by rw [seqIndex_of h0 h1,e],by omega,by omega,h1⟩
  ·rw [if_neg h1] at h; cases h
 ·rw [if_neg h0] at h
  by_cases h1 : -(n:Int)≤i
  ·rw [if_pos h1] at h
   have e:(i + n).toNat=j:=Option.some.inj h
   exact ⟨by rw [seqIndex_neg (by omega) h1,e],by omega,h1,by omega⟩
  ·rw [if_neg h1] at h; cases h
theorem atI_get {α:Type} {xs:List α} {i:Int} {v:α} (h:atI xs i=some v):∃ j,seqIndex? i xs.length=some j∧xs[j]? = some v∧j < xs.length∧-(xs.length:Int)≤i∧i < xs.length:=by
 unfold atI at h
 cases e:ixN xs.length i with
 | none=>rw [e] at h; cases h
 | some j=>
  rw [e] at h
  obtain ⟨h1,h2,h3,h4⟩:=ixN_seq e
  exact ⟨j,h1,h,h2,h3,h4⟩
theorem atI_nat {α:Type} {xs:List α} {j:Nat} {v:α} (h:xs[j]? = some v):atI xs (j:Int)=some v:=by
 have hj:j < xs.length:=(List.getElem?_eq_some_iff.mp h).1
 have e:ixN xs.length (j:Int)=some j:=by
  unfold ixN
  rw [if_pos (by omega),if_pos (by omega)]; simp
 unfold atI; rw [e]; exact h
noncomputable def PlainIx (b:Expr):Prop:=∀ o i,subscripted b false o i=operate [o,i] (getItem o i)
noncomputable def IxR (X:Cx) (r:R2):Prop:=
 ∀ (value slice:Expr) (pins:List (Addr×Obj)) (s:Shared) (σ:St) (H:Hp) (x y:V) (v u:Value) (Q:VK),Inv X pins σ H s→RelV x v→RelV y u→r x y H Q →
  subscripted slice false v u=operate [v,u] (getItem v u)→wpAny (model X.prog X.w) X.A (subscriptTail value slice v u) (EP X pins σ Q) X.xe s
noncomputable def MtR (X:Cx) (id:String) (r:V→List V→Hp→VK→Prop):Prop:=
 ∀ (pins:List (Addr×Obj)) (s:Shared) (σ:St) (H:Hp) (x:V) (xs:List V) (v:Value) (us:List Value) (Q:VK),Inv X pins σ H s→RelV x v→Vals xs us→r x xs H Q →
  wpAny (model X.prog X.w) X.A (call (.builtin id) (v::us)) (EP X pins σ Q) X.xe s
section
variable {X:Cx} {a b:Expr} {ta tb:TE} {pos:Pos}
theorem IxR.or {r r':R2} (h:IxR X r) (h':IxR X r'):IxR X (fun x y H Q=>r x y H Q∨r' x y H Q):=by
 intro value slice pins s σ H x y v u Q I rx ry q hs
 rcases q with q | q
 ·exact h value slice pins s σ H x y v u Q I rx ry q hs
 ·exact h' value slice pins s σ H x y v u Q I rx ry q hs
theorem MtR.or {id:String} {r r':V→List V→Hp→VK→Prop} (h:MtR X id r) (h':MtR X id r'):MtR X id (fun x xs H Q=>r x xs H Q∨r' x xs H Q):=by
 intro pins s σ H x xs v us Q I rx rs q
 rcases q with q | q
 ·exact h pins s σ H x xs v us Q I rx rs q
 ·exact h' pins s σ H x xs v us Q I rx rs q
theorem pe_ix {r:R2} (hr:IxR X r) (ha:PE X a ta) (hb:PE X b tb) (hs:PlainIx b):PE X (.Subscript a b pos) (tOp r ta tb):=by
 intro pins s σ H Q I h
 exact Subscript_ (binT ha hb I h fun v u s2 x y H2 I2 rx ry q=>hr a b pins s2 σ H2 x y v u Q I2 rx ry q (hs _ _))
noncomputable def rIxL (K:PySem.W.Frag):R2:=fun x y H Q=>∃ p xs i v,x=.ref p∧y=.int i∧SqL K H p xs∧atI xs i=some v∧Q v H
noncomputable def rIxT (K:PySem.W.Frag):R2:=fun x y H Q=>∃ p xs i v,x=.ref p∧y=.int i∧SqT K H p xs∧atI xs i=some v∧Q v H
noncomputable def rIxS:R2:=fun x y H Q=>∃ z i c,x=.str z∧y=.int i∧z.length≤sizeLine∧atI z.cps.toList i=some c∧Q (.str ⟨#[c]⟩) H
theorem ix_list:IxR X (rIxL X.K):=by
 intro value slice pins s σ H x y v u Q I rx ry h hs
 obtain ⟨p,xs,i,z,rfl,rfl,hq,he,q⟩:=h
 cases rx
 obtain ⟨t,rfl⟩:=ry
 obtain ⟨its,r,pl,hz⟩:=I.list hq
 obtain ⟨j,h1,h2,h3,h4,h5⟩:=atI_get he
 obtain ⟨w,ew,rw'⟩:=r.get h2
 have hl:=r.length
 have hn:=line63
 have fin:EP X pins σ Q w s:=⟨z,H,I,rw',q⟩
 by_cases h0:0≤i
 ·have hj:i.toNat=j:=by
   rw [seqIndex_of h0 h5] at h1
   exact Option.some.inj h1
  exact item_listR pl.isList h0 (by omega) (by rw [hj]; simpa using ew) fin hs
 ·have hj:(i + (its.toArray.size:Int)).toNat=j:=by
   rw [seqIndex_neg (by omega) h4] at h1
   rw [List.size_toArray,← hl]
   exact Option.some.inj h1
  exact subscriptTail_builtinR (x:=w) pl.isList.typeIs slot_list_getitem.lookup
   (wpAny_getItem_list_neg (Q:=fun r s'=>r=w∧EP X pins σ Q r s') pl.isList (by omega) (by rw [List.size_toArray] <;> omega) (by omega) (by rw [hj]; simpa using ew) ⟨rfl,fin⟩) hs
theorem ix_tup:IxR X (rIxT X.K):=by
 intro value slice pins s σ H x y v u Q I rx ry h hs
 obtain ⟨p,xs,i,z,rfl,rfl,hq,he,q⟩:=h
 cases rx
 obtain ⟨t,rfl⟩:=ry
 obtain ⟨its,r,pl,hz⟩:=I.tuple hq
 obtain ⟨j,h1,h2,h3,h4,h5⟩:=atI_get he
 obtain ⟨w,ew,rw'⟩:=r.get h2
 have hl:=r.length
 have hn:=line63
 have fin:EP X pins σ Q w s:=⟨z,H,I,rw',q⟩
 exact subscriptTail_builtinR (x:=w) pl.typeIs slot_tuple_getitem.lookup
  (getItem_tuple (j:=j) (Q:=fun r s'=>r=w∧EP X pins σ Q r s') pl (by omega) (by omega) (by rw [List.size_toArray,← hl]; exact h1) (by simpa using ew) ⟨rfl,fin⟩) hs
theorem ix_str:IxR X rIxS:=by
 intro value slice pins s σ H x y v u Q I rx ry h hs
 obtain ⟨z,i,c,rfl,rfl,hz,he,q⟩:=h
 obtain ⟨t,rfl⟩:=rx
 obtain ⟨t',rfl⟩:=ry
 obtain ⟨j,h1,h2,h3,h4,h5⟩:=atI_get he
 have hl:z.cps.toList.length=z.length:=by simp [Str.length]
 rw [hl] at h1 h4 h5
 have hn:=line63
 exact tail_any (typeIs_str s z t) slot_str_getitem.lookup (getItem_str (c:=c) (by
  have e1:decide (i < -(2 ^ 63:Int))=false:=decide_eq_false (by omega)
  have e2:decide (i≥2 ^ 63)=false:=decide_eq_false (by omega)
  rw [e1,e2,Bool.or_false]) (by rw [h1]; simpa using h2) ⟨.str ⟨#[c]⟩,H,I.tok _,⟨_,rfl⟩,q⟩) hs
noncomputable def rIx (K:PySem.W.Frag):R2:=fun x y H Q=>rIxL K x y H Q∨rIxT K x y H Q∨rIxS x y H Q
theorem ix_seq:IxR X (rIx X.K):=ix_list.or (ix_tup.or ix_str)
theorem mapSeq_set (its:List Value) (n j:Nat) (u:Value):Obj.mapSeq (·.setIfInBounds j u) { cls:=.type "list",data:=.seq its.toArray n } = { cls:=.type "list",data:=.seq (its.set j u).toArray n }:=by
 simp [Obj.mapSeq]
theorem Inv.lst {pins:List (Addr×Obj)} {σ:St} {H:Hp} {s:Shared} {p:Addr} {xs:List V} (I:Inv X pins σ H s) (h:H p=some (.lst xs)) :
  ∃ (its:List Value) (n:Nat),Vals xs its∧s.heap.get? p=some { cls:=.type "list",data:=.seq its.toArray n }∧xs.length≤sizeLine:=by
 obtain ⟨z,its,n,r,e⟩:=I.hok p _ h
 exact ⟨its,n,r,e,z⟩
theorem Inv.lstUpd {pins:List (Addr×Obj)} {σ:St} {H:Hp} {s:Shared} {p:Addr} {xs ys:List V} {its its':List Value} {n n':Nat} {f:Obj→Obj} (I:Inv X pins σ H s) (h:H p=some (.lst xs))
  (ho:s.heap.get? p=some { cls:=.type "list",data:=.seq its.toArray n }) (hf:f { cls:=.type "list",data:=.seq its.toArray n } = { cls:=.type "list",data:=.seq its'.toArray n' }) (r:Vals ys its') (hz:ys.length≤sizeLine) (t:Nat) :
  Inv X pins σ (upd H p (.lst ys)) { s with heap:=s.heap.update p f,toks:=t }:=by
 have e:(s.heap.update p f).get? p=some { cls:=.type "list",data:=.seq its'.toArray n' }:=by
  rw [Heap.get?_update_self f ho (by rw [hf] <;> rfl),hf]
 refine I.write (x:=p) (e:=p) (by rw [h]; trivial) (.inl rfl) (fun b u hb q=>(Heap.get?_update_other _ _ (Ne.symm hb)).trans q) ⟨_,e⟩ ?_
 exact ⟨hz,its',n',r,e⟩
noncomputable def rSetL:V→V→V→Hp→(Hp→Prop)→Prop:=fun o i v H Q=>∃ p xs k j,o=.ref p∧i=.int k∧H p=some (.lst xs)∧ixN xs.length k=some j∧Q (upd H p (.lst (xs.set j v)))
theorem set_list:PSet X rSetL:=by
 intro pins s σ H o i v ov iv u Q I ro ri rv h
 obtain ⟨p,xs,k,j,rfl,rfl,hp,hj,q⟩:=h
 cases ro
 obtain ⟨t,rfl⟩:=ri
 obtain ⟨its,n,r,ho,hz⟩:=I.lst hp
 obtain ⟨h1,h2,h3,h4⟩:=ixN_seq hj
 have hl:=r.length
 have hn:=line63
 have I':Inv X pins σ (upd H p (.lst (xs.set j v))) { s with heap:=s.heap.update p (Obj.mapSeq (·.setIfInBounds j u)) }:=
  I.lstUpd hp ho (mapSeq_set its n j u) (r.set rv j) (by rw [List.length_set]; exact hz) s.toks
 by_cases h0:0≤k
 ·have hk:k.toNat=j:=by
   rw [seqIndex_of h0 h4] at h1
   exact Option.some.inj h1
  exact PySem.W.ki_setAt ho h0 (by omega) (by rw [List.size_toArray,← hl]; exact h4) (by rw [hk]; exact ⟨_,I',q⟩)
 ·have hk:(k + (its.toArray.size:Int)).toNat=j:=by
   rw [seqIndex_neg (by omega) h3] at h1
   rw [List.size_toArray,← hl]
   exact Option.some.inj h1
  exact PySem.W.ki_setBack ho (by omega) (by rw [List.size_toArray,← hl]; exact h3) (by omega) (by rw [hk]; exact ⟨_,I',q⟩)
theorem slice_bounds (lo hi:Option Int) (n:Nat):(sliceBounds lo hi none n).1=((HT.sIx n 0 lo:Nat):Int)∧(sliceBounds lo hi none n).2.1=((HT.sIx n n hi:Nat):Int)∧(sliceBounds lo hi none n).2.2=1:=by
 refine ⟨?_,?_,rfl⟩
 ·cases lo with
  | none=>simp [sliceBounds,HT.sIx]
  | some i=>
   simp only [sliceBounds,HT.sIx,Option.getD_none,show (1:Int) > 0 by decide,if_true]
   by_cases h:i < 0
   ·simp only [h,if_true] <;> omega
   ·simp only [h,if_false] <;> omega
 ·cases hi with
  | none=>simp [sliceBounds,HT.sIx]
  | some i=>
   simp only [sliceBounds,HT.sIx,Option.getD_none,show (1:Int) > 0 by decide,if_true]
   by_cases h:i < 0
   ·simp only [h,if_true] <;> omega
   ·simp only [h,if_false] <;> omega
theorem slicePick_cut (its:List Value) (lo hi:Option Int):slicePick its.toArray lo hi none=((its.drop (HT.sIx its.length 0 lo)).take (HT.sIx its.length its.length hi - HT.sIx its.length 0 lo)).toArray:=by
 obtain ⟨h1,h2,h3⟩:=slice_bounds lo hi its.toArray.size
 unfold slicePick
 rw [h1,h2,h3]
 simp only [sliceRange_one,pick_run,List.size_toArray] <;> rfl
noncomputable def rSlL (K:PySem.W.Frag):V→Option Int→Option Int→Hp→VK→Prop:=fun x lo hi H Q=>∃ a xs,x=.ref a∧SqL K H a xs∧∀ p,H p=none→Q (.ref p) (upd H p (.lst (cutV xs lo hi)))
theorem sl_list:SlR X (rSlL X.K):=by
 intro pins s σ H x v vl vu lo hi sl Q I rx hs pl pu h
 obtain ⟨a,xs,rfl,hx,q⟩:=h
 cases rx
 obtain ⟨its,r,ht,hz⟩:=I.list hx
 have hlen:=r.length
 refine ⟨"list",_,slot_list_getitem.lookup,ht.isList.typeIs,?_⟩
 refine wpAny_getItem_list_slice ht.isList hs pl pu .none (by simp) ?_ (by rw [List.size_toArray] <;> omega)
 rw [slicePick_cut,← hlen]
 refine ⟨.ref s.heap.objs.size,_,I.laid (t':=s.toks) (o:=.lst (cutV xs lo hi)) (fun b ob q=>Heap.get?_push_of_some _ q) (Nat.le_refl _) ?_,rfl,q _ (I.hok.fresh (Nat.le_refl _))⟩
 exact ⟨Nat.le_trans (cutV_length xs lo hi) hz,_,0,(r.drop (HT.sIx xs.length 0 lo)).take (HT.sIx xs.length xs.length hi - HT.sIx xs.length 0 lo),Heap.get?_push_size _ rfl⟩
noncomputable def flatV:V→Bool
 | .non=>true
 | .bl _=>true
 | .int _=>true
 | .str _=>true
 | _=>false
noncomputable def eqV:V→V→Bool
 | .non,.non=>true
 | .bl a,.bl b=>a == b
 | .bl a,.int b=>(if a then 1 else 0) == b
 | .int a,.bl b=>a == (if b then 1 else 0)
 | .int a,.int b=>a == b
 | .str a,.str b=>a == b
 | _,_=>false
theorem eqAt_V {A:Around} {s:Shared} {y x:V} {u v:Value} (ry:RelV y u) (rx:RelV x v) (fy:flatV y=true) (fx:flatV x=true):SeqAt.EqAt A s u v (eqV y x):=by
 cases y with
 | non=>
  cases ry
  cases x with
  | non=>cases rx; exact SeqAt.EqAt.same _
  | bl b=>cases rx; exact SeqAt.EqAt.none_bool b
  | int b=>obtain ⟨t,rfl⟩:=rx; exact SeqAt.EqAt.none_int b t
  | str b=>obtain ⟨t,rfl⟩:=rx; exact SeqAt.EqAt.none_str b t
  | _=>exact absurd (show false=true from fx) Bool.false_ne_true
 | bl a=>
  cases ry
  cases x with
  | non=>cases rx; exact SeqAt.EqAt.bool_none a
  | bl b=>cases rx; exact SeqAt.EqAt.bool_bool a b
  | int b=>obtain ⟨t,rfl⟩:=rx; exact SeqAt.EqAt.bool_int a b t
  | str b=>obtain ⟨t,rfl⟩:=rx; exact SeqAt.EqAt.bool_str a b t
  | _=>exact absurd (show false=true from fx) Bool.false_ne_true
 | int a=>
  obtain ⟨t',rfl⟩:=ry
  cases x with
  | non=>cases rx; exact SeqAt.EqAt.int_none a t'
  | bl b=>cases rx; exact SeqAt.EqAt.int_bool a t' b
  | int b=>obtain ⟨t,rfl⟩:=rx; exact SeqAt.EqAt.int_int a t' b t
  | str b=>obtain ⟨t,rfl⟩:=rx; exact SeqAt.EqAt.int_str a t' b t
  | _=>exact absurd (show false=true from fx) Bool.false_ne_true
 | str a=>
  obtain ⟨t',rfl⟩:=ry
  cases x with
  | non=>cases rx; exact SeqAt.EqAt.str_none a t'
  | bl b=>cases rx; exact SeqAt.EqAt.str_bool a t' b
  | int b=>obtain ⟨t,rfl⟩:=rx; exact SeqAt.EqAt.str_int a t' b t
  | str b=>obtain ⟨t,rfl⟩:=rx; exact SeqAt.EqAt.str_str a t' b t
  | _=>exact absurd (show false=true from fx) Bool.false_ne_true
 | _=>exact absurd (show false=true from fy) Bool.false_ne_true
noncomputable def eqU (x:V) (u:Value):Bool:=match u with
 | .none=>eqV .non x
 | .bool b=>eqV (.bl b) x
 | .int i _=>eqV (.int i) x
 | .str z _=>eqV (.str z) x
 | _=>false
theorem eqU_of {x y:V} {u:Value} (r:RelV y u) (f:flatV y=true):eqU x u=eqV y x:=by
 cases y with
 | non=>cases r; rfl
 | bl b=>cases r; rfl
 | int i=>obtain ⟨t,rfl⟩:=r; rfl
 | str z=>obtain ⟨t,rfl⟩:=r; rfl
 | _=>exact absurd (show false=true from f) Bool.false_ne_true
theorem any_eqU {x:V}:∀ {xs:List V} {us:List Value},Vals xs us→xs.all flatV=true→us.any (eqU x)=xs.any fun y=>eqV y x
 | _,_,.nil,_=>rfl
 | y::xs,u::us,.cons r t,f=>by
  rw [List.all_cons,Bool.and_eq_true] at f
  rw [List.any_cons,List.any_cons,eqU_of r f.1,any_eqU t f.2]
theorem mem_eqAt {A:Around} {s:Shared} {x:V} {v:Value} (rx:RelV x v) (fx:flatV x=true):∀ {xs:List V} {us:List Value},Vals xs us→xs.all flatV=true→∀ u∈us,SeqAt.EqAt A s u v (eqU x u)
 | _,_,.nil,_=>fun u hu=>by cases hu
 | y::xs,u::us,.cons r t,f=>fun u' hu=>by
  rw [List.all_cons,Bool.and_eq_true] at f
  rcases List.mem_cons.mp hu with rfl | hu
  ·rw [eqU_of r f.1]; exact eqAt_V r rx f.1 fx
  ·exact mem_eqAt rx fx t f.2 u' hu
noncomputable def inV (x:V) (xs:List V):Bool:=xs.any fun y=>eqV y x
noncomputable def rIn (K:PySem.W.Frag) (neg:Bool):R2:=fun x y H Q=>∃ p xs,y=.ref p∧(SqL K H p xs∨SqT K H p xs)∧flatV x=true∧xs.all flatV=true∧Q (.bl (if neg then !inV x xs else inV x xs)) H
theorem op_in_seq:OpR X (compareOp .In) (rIn X.K false):=by
 intro pins s σ H x y v u Q I rx ry h
 obtain ⟨p,xs,rfl,hq,fx,fs,q⟩:=h
 cases ry
 rcases hq with hq | hq
 ·obtain ⟨its,r,pl,hz⟩:=I.list hq
  refine SeqAt.in_listAt (eqU x) pl.isList (fun w hw=>mem_eqAt rx fx r fs w (by simpa using hw)) ⟨.bl _,H,I,rfl,?_⟩
  rw [show its.toArray.any (eqU x)=its.any (eqU x) by simp,any_eqU r fs]
  exact q
 ·obtain ⟨its,r,pl,hz⟩:=I.tuple hq
  refine SeqAt.in_tupleAt (eqU x) pl (fun w hw=>mem_eqAt rx fx r fs w (by simpa using hw)) ⟨.bl _,H,I,rfl,?_⟩
  rw [show its.toArray.any (eqU x)=its.any (eqU x) by simp,any_eqU r fs]
  exact q
theorem op_notIn_seq:OpR X (compareOp .NotIn) (rIn X.K true):=by
 intro pins s σ H x y v u Q I rx ry h
 obtain ⟨p,xs,rfl,hq,fx,fs,q⟩:=h
 cases ry
 rcases hq with hq | hq
 ·obtain ⟨its,r,pl,hz⟩:=I.list hq
  refine SeqAt.notIn_listAt (eqU x) pl.isList (fun w hw=>mem_eqAt rx fx r fs w (by simpa using hw)) ⟨.bl _,H,I,rfl,?_⟩
  rw [show its.toArray.any (eqU x)=its.any (eqU x) by simp,any_eqU r fs]
  exact q
 ·obtain ⟨its,r,pl,hz⟩:=I.tuple hq
  refine SeqAt.notIn_tupleAt (eqU x) pl (fun w hw=>mem_eqAt rx fx r fs w (by simpa using hw)) ⟨.bl _,H,I,rfl,?_⟩
  rw [show its.toArray.any (eqU x)=its.any (eqU x) by simp,any_eqU r fs]
  exact q
theorem call_len_seq:CallR X (.builtin "len") (fun xs H Q=>∃ p ys,xs=[.ref p]∧(SqL X.K H p ys∨SqT X.K H p ys)∧Q (.int ys.length) H):=by
 intro pins s σ H xs us Q I r h
 obtain ⟨p,ys,rfl,hq,q⟩:=h
 obtain ⟨u,rfl,rx⟩:=vals1 r
 cases rx
 have hn:=line63
 rcases hq with hq | hq
 ·obtain ⟨its,r',pl,hz⟩:=I.list hq
  have hlen:=r'.length
  exact Calls.call_len_list pl.isList (by simp only [List.size_toArray] <;> omega) ⟨.int ys.length,H,I.tok _,⟨s.toks + 1,by rw [List.size_toArray,hlen]⟩,q⟩
 ·obtain ⟨its,r',pl,hz⟩:=I.tuple hq
  have hlen:=r'.length
  exact len_tuple pl (by simp only [List.size_toArray] <;> omega) ⟨.int ys.length,H,I.tok _,⟨s.toks + 1,by rw [List.size_toArray,hlen]⟩,q⟩
theorem call_len_str:CallR X (.builtin "len") (fun xs H Q=>∃ z,xs=[.str z]∧z.length≤sizeLine∧Q (.int z.length) H):=by
 intro pins s σ H xs us Q I r h
 obtain ⟨z,rfl,hz,q⟩:=h
 obtain ⟨u,rfl,t,rfl⟩:=vals1 r
 have hn:=line63
 exact len_str (by omega) ⟨.int z.length,H,I.tok _,⟨_,rfl⟩,q⟩
theorem CallR.or {f:Value} {r r':List V→Hp→VK→Prop} (h:CallR X f r) (h':CallR X f r'):CallR X f (fun xs H Q=>r xs H Q∨r' xs H Q):=by
 intro pins s σ H xs us Q I rs q
 rcases q with q | q
 ·exact h pins s σ H xs us Q I rs q
 ·exact h' pins s σ H xs us Q I rs q
theorem call_list_of:CallR X (.type "list") (fun xs H Q=>∃ p ys,xs=[.ref p]∧(SqL X.K H p ys∨SqT X.K H p ys)∧∀ l,H l=none→Q (.ref l) (upd H l (.lst ys))):=by
 intro pins s σ H xs us Q I r h
 obtain ⟨p,ys,rfl,hq,q⟩:=h
 obtain ⟨u,rfl,rx⟩:=vals1 r
 cases rx
 have fin:∀ (its:List Value),Vals ys its→ys.length≤sizeLine→∀ (h':Heap) (c':Nat),(∀ b o',s.heap.get? b=some o'→h'.get? b=some o') →
   h'.get? s.heap.objs.size=some { cls:=.type "list",dict:=none,data:=.seq its.toArray c',slots:=#[] }→EP X pins σ Q (.ref s.heap.objs.size) { s with heap:=h' }:=fun its r' hz h' c' kp e=>
  ⟨.ref s.heap.objs.size,_,I.laid (t':=s.toks) kp (Nat.le_refl _) (show ObjOk X.prog X.w _ h' _ (.lst ys) from ⟨hz,its,c',r',e⟩),rfl,q _ (I.hok.fresh (Nat.le_refl _))⟩
 rcases hq with hq | hq
 ·obtain ⟨its,r',pl,hz⟩:=I.list hq
  have hlen:=r'.length
  obtain ⟨o,ho,hc,n,hd⟩:=pl.isList
  exact call_list_seq p (.inl rfl) ho hc hd (fun h' c' kp e=>fin its r' hz h' c' kp e) (by simp only [List.size_toArray] <;> omega)
 ·obtain ⟨its,r',pl,hz⟩:=I.tuple hq
  have hlen:=r'.length
  obtain ⟨o,ho,hc,n,hd⟩:=pl
  exact call_list_seq p (.inr rfl) ho hc hd (fun h' c' kp e=>fin its r' hz h' c' kp e) (by simp only [List.size_toArray] <;> omega)
noncomputable def tyV (K:PySem.W.Frag) (T:String) (x:V) (H:Hp):Prop:=match x with
 | .str _=>T = "str"
 | .int _=>T = "int"
 | .ref p=>(T = "list"∧∃ xs,SqL K H p xs)∨(T = "tuple"∧∃ o,K.lookup p=some o∧o.cls=.type "tuple"∧o.dict=none) ∨
   (T = "dict"∧((∃ kvs,H p=some (.dK kvs))∨∃ kvs,H p=some (.dT kvs)))∨(T = "set"∧∃ S n,H p=some (.set S n))
 | _=>False
theorem tyV_is {pins:List (Addr×Obj)} {σ:St} {H:Hp} {s:Shared} {T:String} {x:V} {v:Value} (I:Inv X pins σ H s) (r:RelV x v) (ty:tyV X.K T x H) :
  s.TypeIs v T∧∀ a,v=.ref a→∃ ob,s.heap.get? a=some ob∧ob.dict=none:=by
 cases x with
 | str z=>
  obtain ⟨t,rfl⟩:=r
  cases (show T = "str" from ty)
  exact ⟨typeIs_str s z t,fun _ e=>nomatch e⟩
 | int i=>
  obtain ⟨t,rfl⟩:=r
  cases (show T = "int" from ty)
  exact ⟨typeIs_int s i t,fun _ e=>nomatch e⟩
 | ref p=>
  cases r
  rcases ty with ⟨rfl,xs,hq⟩ | ⟨rfl,o,hk,hc,hd⟩ | ⟨rfl,hk⟩ | ⟨rfl,S,n,hk⟩
  ·obtain ⟨its,_,pl,_⟩:=I.list hq
   refine ⟨pl.isList.typeIs,fun a e=>?_⟩
   cases e
   obtain ⟨o,n,e,c,hd,_⟩:=pl
   exact ⟨o,e,hd⟩
  ·refine ⟨⟨o,I.kIn p o hk,hc⟩,fun a e=>?_⟩
   cases e
   exact ⟨o,I.kIn _ o hk,hd⟩
  ·have z:∃ o,s.heap.get? p=some o∧o.ExactDict:=by
    rcases hk with ⟨kvs,hk⟩ | ⟨kvs,hk⟩
    ·obtain ⟨_,_,_,_,o,_,_,e,ex,_⟩:=I.hok p _ hk
     exact ⟨o,e,ex⟩
    ·obtain ⟨_,_,_,_,o,_,_,e,ex,_⟩:=I.hok p _ hk
     exact ⟨o,e,ex⟩
   obtain ⟨o,e,ex⟩:=z
   refine ⟨⟨o,e,ex.1⟩,fun a e2=>?_⟩
   cases e2
   exact ⟨o,e,ex.2.1⟩
  ·obtain ⟨o,_,_,_,e,ex,_⟩:=I.hok p _ hk
   refine ⟨⟨o,e,ex.1⟩,fun a e2=>?_⟩
   cases e2
   exact ⟨o,e,ex.2.1⟩
 | _=>exact False.elim ty
noncomputable def tBM0 (K:PySem.W.Frag) (T:String) (r:V→List V→Hp→VK→Prop) (to:TE):TE:=fun σ H Q=>to σ H fun x H1=>tyV K T x H1∧r x [] H1 Q
noncomputable def tBM (K:PySem.W.Frag) (T:String) (r:V→List V→Hp→VK→Prop) (to:TE) (t:TA):TE:=fun σ H Q=>to σ H fun x H1=>tyV K T x H1∧t σ H1 fun xs H2=>r x xs H2 Q
variable {o e:Expr} {es:List Expr} {to:TE} {t:TA} {name:Str} {apos cpos:Pos} {T id:String} {r:V→List V→Hp→VK→Prop}
theorem pe_bm0 (pa:PlainAttrs T) (slot:Slot T name id) (hty:typeOf (.builtin id)=pure (.type "method_descriptor")) (hm:MtR X id r) (ho:PE X o to)
  (hbase:attributeBase o name X.env (eval o X.env)=eval o X.env:=by rfl) (hline:(apos.endLine == cpos.line)=true:=by rfl):PE X (.Call (.Attribute o name apos) [] [] cpos) (tBM0 X.K T r to):=by
 intro pins s σ H Q I h
 refine wpAny_Call_method0_late hbase hline (thn (ho pins s σ H _ I h) fun v s1 ⟨x,H1,I1,r1,ty,q1⟩=>?_)
 obtain ⟨h1,h2⟩:=tyV_is I1 r1 ty
 exact ⟨T,id,pa,slot,hty,h1,h2,Calls.callWith_builtin rfl (PySem.evalArgs_none (hm pins s1 σ H1 x [] v [] Q I1 r1 .nil q1))⟩
theorem pe_bm (pa:PlainAttrs T) (slot:Slot T name id) (hty:typeOf (.builtin id)=pure (.type "method_descriptor")) (hm:MtR X id r) (ho:PE X o to) (ha:PA X (e::es) t)
  (hbase:attributeBase o name X.env (eval o X.env)=eval o X.env:=by rfl)
  (hfew:((backTo cpos (starEach (e::es) X.env)).all (fun x=>!x.1) && (backToKw cpos (keywordEach [] X.env)).all (fun x=>x.1.isSome)
   && decide ((e::es).length + ([]:List Keyword).length + (if ([]:List Keyword).isEmpty then 0 else 1) < 30))=true:=by rfl)
  (hline:(apos.endLine == cpos.line)=true:=by rfl) (hs:starEach (e::es) X.env=(false,eval e X.env)::starEach es X.env:=by rfl) (hplain:(backTo cpos (starEach es X.env)).any (·.1)=false:=by rfl) :
  PE X (.Call (.Attribute o name apos) (e::es) [] cpos) (tBM X.K T r to t):=by
 intro pins s σ H Q I h
 refine wpAny_Call_method_late hbase hfew hline rfl (thn (ho pins s σ H _ I h) fun v s1 ⟨x,H1,I1,r1,ty,q1⟩=>?_)
 obtain ⟨h1,h2⟩:=tyV_is I1 r1 ty
 refine ⟨T,id,pa,slot,hty,h1,h2,?_⟩
 have hA:=ha cpos pins s1 σ H1 _ I1 q1
 rw [hs] at hA ⊢
 refine Calls.callWith_builtin (by show (false || (backTo cpos (starEach es X.env)).any (·.1))=false; rw [hplain] <;> rfl) (Calls.evalArgs_plain ?_)
 exact thn hA fun us s2 ⟨vs,H2,I2,r2,q2⟩=>hm pins s2 σ H2 x vs v us Q I2 r1 r2 q2
end
end L2
namespace L2
open PySem PySem.Spec PyProof.Rows
noncomputable def MtM (X:Cx) (id:String) (r:V→List V→Hp→VK→Prop):Prop:=
 ∀ (pins:List (Addr×Obj)) (s:Shared) (σ:St) (H:Hp) (x:V) (xs:List V) (v:Value) (us:List Value) (Q:VK),Inv X pins σ H s→RelV x v→Vals xs us→r x xs H Q →
  wpAny (model X.prog X.w) X.A (call (.builtin id) (v::us)) (EP X pins σ Q) X.xe s
theorem Vals.one:∀ {x:V} {us:List Value},Vals [x] us→∃ u,us=[u]∧RelV x u
 | _,_,.cons r .nil=>⟨_,rfl,r⟩
theorem Vals.two:∀ {x y:V} {us:List Value},Vals [x,y] us→∃ u v,us=[u,v]∧RelV x u∧RelV y v
 | _,_,_,.cons r (.cons q .nil)=>⟨_,_,rfl,r,q⟩
theorem Vals.zero:∀ {us:List Value},Vals [] us→us=[]
 | _,.nil=>rfl
theorem Vals.dropLast {xs:List V} {us:List Value} (h:Vals xs us):Vals xs.dropLast us.dropLast:=by
 induction h with
 | nil=>exact .nil
 | cons r t ih=>
  cases t with
  | nil=>exact .nil
  | cons q t'=>exact .cons r ih
theorem Vals.reverse {xs:List V} {us:List Value} (h:Vals xs us):Vals xs.reverse us.reverse:=by
 induction h with
 | nil=>exact .nil
 | cons r t ih=>rw [List.reverse_cons,List.reverse_cons]; exact Vals.append ih (.cons r .nil)
theorem Vals.rep {xs:List V} {us:List Value} (h:Vals xs us):∀ k:Nat,Vals (List.replicate k xs).flatten (List.replicate k us).flatten
 | 0=>.nil
 | k + 1=>by
  rw [List.replicate_succ,List.replicate_succ,List.flatten_cons,List.flatten_cons]
  exact Vals.append h (Vals.rep h k)
theorem foldl_rep (its:List Value):∀ (k:Nat) (acc:List Value),
  List.foldl (fun x1 x2=>x1++x2) acc.toArray (List.replicate k its.toArray)=(acc++(List.replicate k its).flatten).toArray
 | 0,acc=>by simp
 | k + 1,acc=>by
  have e:acc.toArray++its.toArray=(acc++its).toArray:=by simp
  have e2:(acc++its)++(List.replicate k its).flatten=acc++(List.replicate (k + 1) its).flatten:=by
   rw [List.replicate_succ,List.flatten_cons,List.append_assoc]
  rw [← e2,← foldl_rep its k (acc++its),← e,List.replicate_succ,List.foldl_cons]
section
variable {X:Cx} {pins:List (Addr×Obj)} {σ:St} {H:Hp} {s:Shared} {l b:Addr} {xs ys zs:List V}
theorem Inv.lset {its its':List Value} {n:Nat} {f:Array Value→Array Value} {t':Nat} (I:Inv X pins σ H s) (hH:H l=some (.lst xs))
  (e:s.heap.get? l=some { cls:=.type "list",data:=.seq its.toArray n }) (hf:f its.toArray=its'.toArray) (hv:Vals ys its') (hz:ys.length≤sizeLine) :
  Inv X pins σ (upd H l (.lst ys)) { s with heap:=s.heap.update l (Obj.mapSeq f),toks:=t' }:=by
 have q:=PySem.IsL.update e f
 rw [hf] at q
 refine I.write (x:=l) (e:=l) (by rw [hH]; exact trivial) (.inl rfl) (fun b' u hb hu=>(Heap.get?_update_other s.heap (Obj.mapSeq f) (Ne.symm hb)).trans hu) ⟨_,q⟩ ?_
 exact ⟨hz,its',_,hv,q⟩
theorem Inv.lnew {its:List Value} {t':Nat} (I:Inv X pins σ H s) (hv:Vals ys its) (hz:ys.length≤sizeLine) :
  Inv X pins σ (upd H s.heap.objs.size (.lst ys)) { s with heap:=s.heap.push { cls:=.type "list",data:=.seq its.toArray },toks:=t' }:=
 I.laid (fun _ _ q=>Heap.get?_push_of_some _ q) (Nat.le_refl _) ⟨hz,its,0,hv,Heap.get?_push_size _ rfl⟩
theorem Inv.fresh (I:Inv X pins σ H s):H s.heap.objs.size=none:=I.hok.fresh (Nat.le_refl _)
theorem Inv.lstM (I:Inv X pins σ H s) (hH:H l=some (.lst xs)):xs.length≤sizeLine∧∃ (its:List Value) (n:Nat),Vals xs its∧xs.length=its.length∧s.heap.get? l=some { cls:=.type "list",data:=.seq its.toArray n }:=by
 obtain ⟨z,its,n,r,e⟩:=I.hok l _ hH
 exact ⟨z,its,n,r,r.length,e⟩
theorem notLongL {n:Nat} (h:n≤sizeLine):Builtin.List.listTooLong n=false:=by
 unfold Builtin.List.listTooLong
 exact decide_eq_false (by omega)
end
section
variable {X:Cx}
theorem len_rep {α:Type} (xs:List α) (k:Nat):(List.replicate k xs).flatten.length=k * xs.length:=by
 induction k with
 | zero=>simp
 | succ k ih=>rw [List.replicate_succ,List.flatten_cons,List.length_append,ih,Nat.succ_mul,Nat.add_comm]
end
section
variable {prog:Program} {w:World} {A:Around} {E:Value→Shared→Prop} {s:Shared}
end
section
variable {X:Cx}
end
end L2
namespace L2
open PySem PySem.Spec PyProof.Rows
section
variable {κ:Type} [DecidableEq κ]
noncomputable def valV (kvs:List (κ×V)) (k:κ):Option V:=(kvs.find? fun kv=>decide (kv.1=k)).map (·.2)
noncomputable def putK (kvs:List (κ×V)) (k:κ) (v:V):List (κ×V):=
 if (kvs.any fun kv=>decide (kv.1=k))=true then kvs.map (fun kv=>if kv.1=k then (kv.1,v) else kv) else kvs++[(k,v)]
noncomputable def dropK (kvs:List (κ×V)) (k:κ):List (κ×V):=kvs.filter fun kv=>decide (kv.1≠k)
theorem valV_pos {p:κ×V} {r:List (κ×V)} {k:κ} (e:p.1=k):valV (p::r) k=some p.2:=by simp [valV,List.find?_cons,e]
theorem valV_neg {p:κ×V} {r:List (κ×V)} {k:κ} (e:¬ p.1=k):valV (p::r) k=valV r k:=by simp [valV,List.find?_cons,e]
theorem valV_any (k:κ):∀ kvs:List (κ×V),(kvs.any fun kv=>decide (kv.1=k))=(valV kvs k).isSome
 | []=>rfl
 | p::r=>by
  rw [List.any_cons]
  by_cases e:p.1=k
  ·simp only [valV_pos e,decide_eq_true e,Bool.true_or,Option.isSome_some]
  ·rw [valV_neg e,decide_eq_false e,Bool.false_or]; exact valV_any k r
theorem length_putK (kvs:List (κ×V)) (k:κ) (v:V):(putK kvs k v).length≤kvs.length + 1:=by
 unfold putK
 split
 ·rw [List.length_map]; omega
 ·rw [List.length_append,List.length_cons,List.length_nil]; omega
theorem putK_new {kvs:List (κ×V)} {k:κ} (v:V) (h:valV kvs k=none):putK kvs k v=kvs++[(k,v)]:=by
 unfold putK
 rw [valV_any,h]
 exact if_neg (by decide)
theorem RelO.isSome_eq {o:Option V} {u:Option Value} (r:RelO o u):o.isSome=u.isSome:=by
 cases o with
 | none=>cases u with
  | none=>rfl
  | some _=>exact (show False from r).elim
 | some _=>cases u with
  | none=>exact (show False from r).elim
  | some _=>rfl
theorem RelO.getD {o:Option V} {u:Option Value} {d:V} {d':Value} (r:RelO o u) (rd:RelV d d'):RelV (o.getD d) (u.getD d'):=by
 cases o with
 | none=>cases u with
  | none=>exact rd
  | some _=>exact (show False from r).elim
 | some _=>cases u with
  | none=>exact (show False from r).elim
  | some _=>exact r
theorem KV.val {kvs:List (κ×V)} {vs:List (κ×Value)} (r:KV kvs vs) (k:κ):RelO (valV kvs k) (valueAt vs k):=by
 unfold KV at r
 induction r with
 | nil=>exact True.intro
 | @cons p q ps qs h t ih=>
  obtain ⟨h1,h2⟩:=h
  by_cases e:p.1=k
  ·have e':q.1=k:=h1.symm.trans e
   have b:valueAt (q::qs) k=some q.2:=by simp [valueAt,List.find?_cons,e']
   rw [valV_pos e,b]; exact h2
  ·have e':¬ q.1=k:=fun z=>e (h1.trans z)
   have b:valueAt (q::qs) k=valueAt qs k:=by simp [valueAt,List.find?_cons,e']
   rw [valV_neg e,b]; exact ih
theorem KV.any {kvs:List (κ×V)} {vs:List (κ×Value)} (r:KV kvs vs) (k:κ):(kvs.any fun kv=>decide (kv.1=k))=vs.any fun kv=>decide (kv.1=k):=by
 unfold KV at r
 induction r with
 | nil=>rfl
 | cons h t ih=>rw [List.any_cons,List.any_cons,ih,h.1]
theorem KV.repl {kvs:List (κ×V)} {vs:List (κ×Value)} (r:KV kvs vs) (k:κ) {y:V} {u:Value} (ry:RelV y u) :
  KV (kvs.map fun kv=>if kv.1=k then (kv.1,y) else kv) (vs.map fun kv=>if kv.1=k then (kv.1,u) else kv):=by
 unfold KV at r ⊢
 induction r with
 | nil=>exact .nil
 | @cons p q ps qs h t ih=>
  rw [List.map_cons,List.map_cons]
  refine .cons ?_ ih
  obtain ⟨h1,h2⟩:=h
  by_cases e:p.1=k
  ·rw [if_pos e,if_pos (h1.symm.trans e)]; exact ⟨h1,ry⟩
  ·rw [if_neg e,if_neg (fun z=>e (h1.trans z))]; exact ⟨h1,h2⟩
theorem KV.put {kvs:List (κ×V)} {vs:List (κ×Value)} (r:KV kvs vs) (k:κ) {y:V} {u:Value} (ry:RelV y u):KV (putK kvs k y) (stored vs k u):=by
 unfold putK stored
 rw [r.any k]
 by_cases e:(vs.any fun kv=>decide (kv.1=k))=true
 ·rw [if_pos e,if_pos e]; exact r.repl k ry
 ·rw [if_neg e,if_neg e]; exact Paired.snoc r ⟨rfl,ry⟩
theorem KV.drop {kvs:List (κ×V)} {vs:List (κ×Value)} (r:KV kvs vs) (k:κ):KV (dropK kvs k) (without vs k):=by
 unfold KV at r ⊢
 unfold dropK without
 induction r with
 | nil=>exact .nil
 | @cons p q ps qs h t ih=>
  obtain ⟨h1,h2⟩:=h
  rw [List.filter_cons,List.filter_cons]
  by_cases e:p.1=k
  ·have a:¬ decide (p.1≠k)=true:=by simp [e]
   have b:¬ decide (q.1≠k)=true:=by simp [h1.symm.trans e]
   rw [if_neg a,if_neg b]; exact ih
  ·have e':¬ q.1=k:=fun z=>e (h1.trans z)
   have a:decide (p.1≠k)=true:=by simp [e]
   have b:decide (q.1≠k)=true:=by simp [e']
   rw [if_pos a,if_pos b]; exact .cons ⟨h1,h2⟩ ih
theorem KV.keys {kvs:List (κ×V)} {vs:List (κ×Value)} (r:KV kvs vs):kvs.map (·.1)=vs.map (·.1):=by
 unfold KV at r
 induction r with
 | nil=>rfl
 | cons h t ih=>rw [List.map_cons,List.map_cons,ih,h.1]
theorem KV.length {kvs:List (κ×V)} {vs:List (κ×Value)} (r:KV kvs vs):kvs.length=vs.length:=Paired.length r
theorem dropK_le (kvs:List (κ×V)) (k:κ):(dropK kvs k).length≤kvs.length:=List.length_filter_le _ _
end
theorem kV_is {P:Program} {w:World} {k:Key} {u:Value} (r:RelV (kV k) u):(mixKind P w).is k u=true:=by
 cases k with
 | inl i=>obtain ⟨t,e⟩:=(show ∃ t,u=Value.int i t from r); subst e; exact mixKind_int P w i t
 | inr x=>obtain ⟨t,e⟩:=(show ∃ t,u=Value.str x t from r); subst e; exact mixKind_str P w x t
theorem items_are {P:Program} {w:World}:∀ {ks:List Key} {us:List Value},Vals (ks.map kV) us→ItemsAre (mixKind P w) ks us
 | [],_,r=>by rw [List.map_nil] at r; cases r; exact .nil
 | k::ks,_,r=>by
  rw [List.map_cons] at r
  cases r with
  | cons h t=>exact .cons (kV_is h) (items_are t)
noncomputable abbrev KT (H:Hp):List (List Key×V)→List (List Key×Addr×Value)→Prop:=Paired fun p q=>p.1=q.1∧H q.2.1=some (.tup (p.1.map kV))∧RelV p.2 q.2.2
theorem KT.val {H:Hp} {kvs:List (List Key×V)} {xs:List (List Key×Addr×Value)} (r:KT H kvs xs) (k:List Key):RelO (valV kvs k) ((atKey xs k).map (·.2)):=by
 induction r with
 | nil=>exact True.intro
 | @cons p q ps qs h t ih=>
  obtain ⟨h1,_,h2⟩:=h
  by_cases e:p.1=k
  ·have e':q.1=k:=h1.symm.trans e
   have b:atKey (q::qs) k=some q.2:=by simp [atKey,List.find?_cons,e']
   rw [valV_pos e,b]; exact h2
  ·have e':¬ q.1=k:=fun z=>e (h1.trans z)
   have b:atKey (q::qs) k=atKey qs k:=by simp [atKey,List.find?_cons,e']
   rw [valV_neg e,b]; exact ih
theorem KT.repl {H:Hp} {kvs:List (List Key×V)} {xs:List (List Key×Addr×Value)} (r:KT H kvs xs) (k:List Key) {y:V} {u:Value} (ry:RelV y u) :
  KT H (kvs.map fun kv=>if kv.1=k then (kv.1,y) else kv) (xs.map (putAt k u)):=by
 induction r with
 | nil=>exact .nil
 | @cons p q ps qs h t ih=>
  rw [List.map_cons,List.map_cons]
  refine .cons ?_ ih
  obtain ⟨h1,h2,h3⟩:=h
  unfold putAt
  by_cases e:p.1=k
  ·rw [if_pos e,if_pos (h1.symm.trans e)]; exact ⟨h1,h2,ry⟩
  ·rw [if_neg e,if_neg (fun z=>e (h1.trans z))]; exact ⟨h1,h2,h3⟩
theorem KT.put {H:Hp} {kvs:List (List Key×V)} {xs:List (List Key×Addr×Value)} (r:KT H kvs xs) (k:List Key) {b:Addr} {y:V} {u:Value} (hb:H b=some (.tup (k.map kV))) (ry:RelV y u) :
  KT H (putK kvs k y) (storedH xs k b u):=by
 have e:(kvs.any fun kv=>decide (kv.1=k))=(atKey xs k).isSome:=by
  rw [valV_any,(r.val k).isSome_eq,Option.isSome_map]
 unfold putK storedH
 rw [e]
 by_cases q:(atKey xs k).isSome=true
 ·rw [if_pos q,if_pos q]; exact r.repl k ry
 ·rw [if_neg q,if_neg q]; exact Paired.snoc r ⟨rfl,hb,ry⟩
theorem KT.keeps {H H':Hp} {kvs:List (List Key×V)} {xs:List (List Key×Addr×Value)} (r:KT H kvs xs) (ht:∀ b ys,H b=some (.tup ys)→H' b=some (.tup ys)):KT H' kvs xs:=
 Paired.mapP r fun _ _ z=>⟨z.1,ht _ _ z.2.1,z.2.2⟩
section
variable {P:Program} {w:World} {H:Hp} {h:Heap} {a:Addr}
theorem rd_of {u:HO} (ok:HOk P w H h) (e:Rd H a u):ObjOk P w H h a u:=e.ok ok
theorem dk_rd {kvs:List (Key×V)} (ok:HOk P w H h) (e:Rd H a (.dK kvs)):kvs.length≤sizeLine∧(a == sysModules)=false∧∃ vs,KV kvs vs∧h.DictOf (mixKind P w) a vs:=
 show ObjOk P w H h a (.dK kvs) from rd_of ok e
theorem dk_of {kvs:List (Key×V)} (ok:HOk P w H h) (e:H a=some (.dK kvs)):kvs.length≤sizeLine∧(a == sysModules)=false∧∃ vs,KV kvs vs∧h.DictOf (mixKind P w) a vs:=dk_rd ok (.inl e)
theorem key_of {ks:List Key} (ok:HOk P w H h) (e:H a=some (.tup (ks.map kV))):(tupleKind (mixKind P w)).is h ks a:=by
 obtain ⟨_,its,r,o,h1,h2,n,h3⟩:=(show ObjOk P w H h a (.tup (ks.map kV)) from ok a _ e)
 exact ⟨o,its.toArray,n,h1,h2,h3,by simpa using items_are r⟩
theorem dt_rd {kvs:List (List Key×V)} (ok:HOk P w H h) (e:Rd H a (.dT kvs)):kvs.length≤sizeLine∧(a == sysModules)=false ∧
  ∃ xs,KT H kvs xs∧h.DictOfH (tupleKind (mixKind P w)) a xs:=by
 obtain ⟨z,y,xs,r,o,es,ep,h1,h2,h3,h4,h5⟩:=(show ObjOk P w H h a (.dT kvs) from rd_of ok e)
 refine ⟨z,y,xs,r,o,es,ep,h1,h2,h3,h4,fun x hx=>?_,h5⟩
 have all:∀ {l:List (List Key×V)} {m:List (List Key×Addr×Value)},KT H l m→∀ x∈m,(tupleKind (mixKind P w)).is h x.1 x.2.1:=by
  intro l m q
  induction q with
  | nil=>intro x hx; exact nomatch hx
  | @cons p q ps qs hq t ih=>
   intro x hx
   rcases List.mem_cons.mp hx with e | hx
   ·subst e
    exact key_of ok (by rw [← hq.1]; exact hq.2.1)
   ·exact ih x hx
 exact all r x hx
theorem dt_of {kvs:List (List Key×V)} (ok:HOk P w H h) (e:H a=some (.dT kvs)):kvs.length≤sizeLine∧(a == sysModules)=false ∧
  ∃ xs,KT H kvs xs∧h.DictOfH (tupleKind (mixKind P w)) a xs:=dt_rd ok (.inl e)
end
noncomputable def DGet (H:Hp) (a:Addr) (y:V) (r:Option V):Prop:=
 (∃ kvs k,Rd H a (.dK kvs)∧y=kV k∧r=valV kvs k)∨∃ kvs k b,Rd H a (.dT kvs)∧y=.ref b∧H b=some (.tup (k.map kV))∧r=valV kvs k
noncomputable def DPut (H:Hp) (a:Addr) (y v:V) (H':Hp):Prop:=
 (∃ kvs k,H a=some (.dK kvs)∧y=kV k∧kvs.length < sizeLine∧H'=upd H a (.dK (putK kvs k v))) ∨
 ∃ kvs k b,H a=some (.dT kvs)∧y=.ref b∧H b=some (.tup (k.map kV))∧kvs.length < sizeLine∧H'=upd H a (.dT (putK kvs k v))
theorem DGet.k {H:Hp} {a:Addr} {kvs:List (Key×V)} {k:Key} (e:H a=some (.dK kvs)):DGet H a (kV k) (valV kvs k):=.inl ⟨kvs,k,.inl e,rfl,rfl⟩
theorem DGet.t {H:Hp} {a b:Addr} {kvs:List (List Key×V)} {k:List Key} (e:H a=some (.dT kvs)) (eb:H b=some (.tup (k.map kV))):DGet H a (.ref b) (valV kvs k):=.inr ⟨kvs,k,b,.inl e,rfl,eb,rfl⟩
theorem DPut.k {H:Hp} {a:Addr} {kvs:List (Key×V)} {k:Key} {v:V} (e:H a=some (.dK kvs)) (hl:kvs.length < sizeLine):DPut H a (kV k) v (upd H a (.dK (putK kvs k v))):=.inl ⟨kvs,k,e,rfl,hl,rfl⟩
theorem DPut.t {H:Hp} {a b:Addr} {kvs:List (List Key×V)} {k:List Key} {v:V} (e:H a=some (.dT kvs)) (eb:H b=some (.tup (k.map kV))) (hl:kvs.length < sizeLine) :
  DPut H a (.ref b) v (upd H a (.dT (putK kvs k v))):=.inr ⟨kvs,k,b,e,rfl,eb,hl,rfl⟩
section
variable {X:Cx} {pins:List (Addr×Obj)} {σ:St} {H:Hp} {s:Shared} {a:Addr} {y v:V} {u r:Value} {o:Option V} {A:Around} {E:Value→Shared→Prop}
theorem Inv.big (I:Inv X pins σ H s):sysModules < s.heap.objs.size:=by
 have h:mainGlobals < s.heap.objs.size:=(I.mod.glob.keeps I.bk).lt
 exact Nat.lt_trans (by decide) h
theorem d_getItem {Q:Value→Shared→Prop} (hu:A.units + 1 < cLine) (I:Inv X pins σ H s) (g:DGet H a y (some v)) (ry:RelV y u) (h:∀ w' s',Inv X pins σ H s'→RelV v w'→Q w' s') :
  wpAny (model X.prog X.w) A (getItem (.ref a) u) Q E s:=by
 rcases g with ⟨kvs,k,e,ey,l⟩ | ⟨kvs,k,b,e,ey,eb,l⟩
 ·subst ey
  obtain ⟨z,hd,vs,rel,dd⟩:=dk_rd I.hok e
  obtain ⟨w',hw,rw'⟩:=RelO.some_of (v:=v) (o:=valueAt vs k) (by rw [l]; exact rel.val k)
  exact wpAny_getItem_of (kV_is ry) dd.mapOf hw (h w' _ (I.tok _) rw')
 ·subst ey
  cases (show u=Value.ref b from ry)
  obtain ⟨z,hd,xs,rel,dd⟩:=dt_rd I.hok e
  obtain ⟨w',hw,rw'⟩:=RelO.some_of (v:=v) (o:=(atKey xs k).map (·.2)) (by rw [l]; exact rel.val k)
  obtain ⟨p,hp,hp2⟩:=Option.map_eq_some_iff.mp hw
  refine wpAny_getItem_heap (tupleKind_room_in1 hu) (key_of I.hok eb) dd hp ?_
  rw [hp2]
  exact h w' _ (I.tok _) rw'
theorem d_in {Q:Value→Shared→Prop} (hu:A.units + 1 < cLine) (I:Inv X pins σ H s) (g:DGet H a y o) (ry:RelV y u) (h:∀ s',Inv X pins σ H s'→Q (.bool o.isSome) s') :
  wpAny (model X.prog X.w) A (compareOp .In u (.ref a)) Q E s:=by
 rcases g with ⟨kvs,k,e,ey,l⟩ | ⟨kvs,k,b,e,ey,eb,l⟩
 ·subst ey
  obtain ⟨z,hd,vs,rel,dd⟩:=dk_rd I.hok e
  refine wpAny_in_of (kV_is ry) hd dd.mapOf ?_
  rw [← (rel.val k).isSome_eq,← l]
  exact h _ (I.tok _)
 ·subst ey
  cases (show u=Value.ref b from ry)
  obtain ⟨z,hd,xs,rel,dd⟩:=dt_rd I.hok e
  refine wpAny_in_heap (tupleKind_room_in1 hu) (key_of I.hok eb) hd dd ?_
  have q:=(rel.val k).isSome_eq
  rw [Option.isSome_map] at q
  rw [← q,← l]
  exact h _ (I.tok _)
theorem d_notIn {Q:Value→Shared→Prop} (hu:A.units + 1 < cLine) (I:Inv X pins σ H s) (g:DGet H a y o) (ry:RelV y u) (h:∀ s',Inv X pins σ H s'→Q (.bool (!o.isSome)) s') :
  wpAny (model X.prog X.w) A (compareOp .NotIn u (.ref a)) Q E s:=by
 rcases g with ⟨kvs,k,e,ey,l⟩ | ⟨kvs,k,b,e,ey,eb,l⟩
 ·subst ey
  obtain ⟨z,hd,vs,rel,dd⟩:=dk_rd I.hok e
  refine wpAny_notIn_of (kV_is ry) hd dd.mapOf ?_
  rw [← (rel.val k).isSome_eq,← l]
  exact h _ (I.tok _)
 ·subst ey
  cases (show u=Value.ref b from ry)
  obtain ⟨z,hd,xs,rel,dd⟩:=dt_rd I.hok e
  refine wpAny_notIn_heap (tupleKind_room_in1 hu) (key_of I.hok eb) hd dd ?_
  have q:=(rel.val k).isSome_eq
  rw [Option.isSome_map] at q
  rw [← q,← l]
  exact h _ (I.tok _)
theorem d_write {h':Heap} {t':Nat} {ob:HO} (I:Inv X pins σ H s) (mu:Mut (H a)) (hs:Heap.SameBut a s.heap h') (he:∃ q,h'.get? a=some q) (new:ObjOk X.prog X.w (upd H a ob) h' a ob) :
  Inv X pins σ (upd H a ob) { s with heap:=h',toks:=t' }:=
 I.write (x:=a) (e:=a) mu (.inl rfl) (fun b q hb z=>(hs.2 b hb).trans z) he new
theorem dk_new {P:Program} {w:World} {H':Hp} {h':Heap} {kvs:List (Key×V)} {vs:List (Key×Value)} (z:kvs.length≤sizeLine) (hd:(a == sysModules)=false) (rel:KV kvs vs) (dd:h'.DictOf (mixKind P w) a vs) :
  ObjOk P w H' h' a (.dK kvs):=⟨z,hd,vs,rel,dd⟩
theorem d_setItem {H':Hp} {Q:Unit→Shared→Prop} (hu:A.units + 1 < cLine) (I:Inv X pins σ H s) (g:DPut H a y v H') (ry:RelV y u) (rv:RelV v r) (h:∀ s',Inv X pins σ H' s'→Q () s') :
  wpAny (model X.prog X.w) A (setItem (.ref a) u r) Q E s:=by
 rcases g with ⟨kvs,k,e,ey,l,eH⟩ | ⟨kvs,k,b,e,ey,eb,l,eH⟩
 ·subst ey eH
  obtain ⟨z,hd,vs,rel,dd⟩:=dk_of I.hok e
  have hz:vs.length≤sizeLine:=by rw [← rel.length]; exact z
  have hl:(putK kvs k v).length≤sizeLine:=by have:=length_putK kvs k v; omega
  refine wpAny_setItem_pairs (hsz:=hz) (kV_is ry) dd fun h' dd' hs=>h _ ?_
  have he:∃ q,h'.get? a=some q:=let ⟨q,_,_,hq,_⟩:=dd'; ⟨q,hq⟩
  exact d_write I (by rw [e]; exact True.intro) hs he (dk_new hl hd (rel.put k rv) dd')
 ·subst ey eH
  cases (show u=Value.ref b from ry)
  obtain ⟨z,hd,xs,rel,dd⟩:=dt_of I.hok e
  have hz:xs.length≤sizeLine:=by rw [← Paired.length rel]; exact z
  have hl:(putK kvs k v).length≤sizeLine:=by have:=length_putK kvs k v; omega
  refine wpAny_setItem_heap (hsz:=hz) (tupleKind_room_in1 hu) (key_of I.hok eb) dd fun h' dd' hs=>h _ ?_
  obtain ⟨q,es,ep,hq,h2,h3,h4,_,h5⟩:=dd'
  refine d_write I (by rw [e]; exact True.intro) hs ⟨q,hq⟩ ⟨hl,hd,_,(rel.put k eb rv).keeps fun c ys ec=>?_,q,es,ep,hq,h2,h3,h4,h5⟩
  rw [upd_ne (ne_of ec e (fun z=>nomatch z))]
  exact ec
end
section
variable {X:Cx} {pins:List (Addr×Obj)} {σ:St} {H:Hp} {s:Shared} {a:Addr} {kvs:List (Key×V)} {k:Key} {u:Value} {A:Around} {E:Value→Shared→Prop}
theorem d_pop {v:V} {more:List Value} {Q:Value→Shared→Prop} (I:Inv X pins σ H s) (e:H a=some (.dK kvs)) (ry:RelV (kV k) u) (l:valV kvs k=some v) (hm:more=[]∨∃ x,more=[x])
  (h:∀ w' s',Inv X pins σ (upd H a (.dK (dropK kvs k))) s'→RelV v w'→Q w' s'):wpAny (model X.prog X.w) A (call (.builtin "dict.pop") (.ref a::u::more)) Q E s:=by
 obtain ⟨z,hd,vs,rel,dd⟩:=dk_of I.hok e
 obtain ⟨w',hw,rw'⟩:=RelO.some_of (v:=v) (o:=valueAt vs k) (by rw [← l]; exact rel.val k)
 have hp:(keyPart u).isSome=true:=by
  cases k with
  | inl i=>obtain ⟨t,q⟩:=(show ∃ t,u=Value.int i t from ry); subst q; rfl
  | inr x=>obtain ⟨t,q⟩:=(show ∃ t,u=Value.str x t from ry); subst q; rfl
 have ha:argsOk "dict.pop" ⟨.ref a::u::more,[]⟩:=by
  rcases hm with q | ⟨x,q⟩
  ·subst q; exact PySem.F.args_dict_pop_2 _ _
  ·subst q; exact PySem.F.args_dict_pop_3 _ _ _
 refine call_meetsIn PySem.F.slot_dict_pop dd.typeIs PySem.F.entry_dict_pop ha (meets_dict_pop_there (mixKind X.prog X.w) a (kV_is ry) more hm hp)
  ⟨vs,w',dd,by rw [← rel.length]; exact z,hw,fun h' dd' hs=>h w' _ ?_ rw'⟩
 have he:∃ q,h'.get? a=some q:=let ⟨q,_,_,hq,_⟩:=dd'; ⟨q,hq⟩
 exact d_write I (by rw [e]; exact True.intro) hs he (dk_new (Nat.le_trans (dropK_le kvs k) z) hd (rel.drop k) dd')
theorem d_popD {r:Value} {Q:Value→Shared→Prop} (I:Inv X pins σ H s) (e:H a=some (.dK kvs)) (ry:RelV (kV k) u) (l:valV kvs k=none) (h:∀ s',Inv X pins σ H s'→Q r s') :
  wpAny (model X.prog X.w) A (call (.builtin "dict.pop") [.ref a,u,r]) Q E s:=by
 obtain ⟨z,hd,vs,rel,dd⟩:=dk_of I.hok e
 have hn:valueAt vs k=none:=RelO.none_of (by rw [← l]; exact rel.val k)
 have hp:(keyPart u).isSome=true:=by
  cases k with
  | inl i=>obtain ⟨t,q⟩:=(show ∃ t,u=Value.int i t from ry); subst q; rfl
  | inr x=>obtain ⟨t,q⟩:=(show ∃ t,u=Value.str x t from ry); subst q; rfl
 exact call_meetsIn PySem.F.slot_dict_pop dd.typeIs PySem.F.entry_dict_pop (PySem.F.args_dict_pop_3 _ _ _) (meets_dict_pop_default (mixKind X.prog X.w) a (kV_is ry) hd hp r) ⟨vs,dd,hn,h _ (I.tok _)⟩
theorem d_len {Q:Value→Shared→Prop} (I:Inv X pins σ H s) (e:Rd H a (.dK kvs)) (h:∀ t s',Inv X pins σ H s'→Q (.int kvs.length t) s'):wpAny (model X.prog X.w) A (call (.builtin "len") [.ref a]) Q E s:=by
 obtain ⟨z,hd,vs,rel,dd⟩:=dk_rd I.hok e
 refine call_len_dict hd dd (by rw [← rel.length]; rw [sizeLine_eq] at z; omega) ?_
 rw [← rel.length]
 exact h _ _ (I.tok _)
end
theorem dict_typeIs {X:Cx} {pins:List (Addr×Obj)} {σ:St} {H:Hp} {s:Shared} {a:Addr} {y:V} {o:Option V} (I:Inv X pins σ H s) (g:DGet H a y o):s.TypeIs (.ref a) "dict":=by
 rcases g with ⟨kvs,k,e,_,_⟩ | ⟨kvs,k,b,e,_,_,_⟩
 ·obtain ⟨_,_,vs,_,dd⟩:=dk_rd I.hok e
  exact dd.typeIs
 ·obtain ⟨_,_,xs,_,dd⟩:=dt_rd I.hok e
  exact dd.typeIs
noncomputable def sDPut (td ty tv:TE):TS:=fun D σ H=>tv σ H fun v H1=>td σ H1 fun x H2=>ty σ H2 fun y H3=>∃ a H4,x=.ref a∧DPut H3 a y v H4∧D.nx σ H4
section
variable {X:Cx} {o i e value:Expr} {pos pos' tpos:Pos} {td ty tv:TE}
theorem ps_dput (hu:X.A.units + 1 < cLine) (ho:PE X o td) (hi:PE X i ty) (hv:PE X value tv) (hs:swapsWith value (some (.Subscript o i pos')) pos.line X.env=pure false) :
  PS X (.Assign [.Subscript o i pos'] value pos) (sDPut td ty tv):=by
 intro pins s σ H D I h
 refine wpAny_Assign_Subscript (thn (hv pins s σ H _ I h) fun r s1 ⟨v,H1,I1,rv,q1⟩=>thn (ho pins s1 σ H1 _ I1 q1) fun u s2 ⟨x,H2,I2,rx,q2⟩=>thn (hi pins s2 σ H2 _ I2 q2) fun iv s3 ⟨y,H3,I3,ry,a,H4,ex,g,q3⟩=>?_) hs
 subst ex
 obtain rfl:u=Value.ref a:=rx
 exact d_setItem hu I3 g ry rv fun s4 I4=>⟨σ,H4,I4,q3⟩
end
theorem dk_empty {P:Program} {w:World} {H:Hp} (h:Heap) (hb:sysModules < h.objs.size):ObjOk P w H (h.push { cls:=.type "dict",data:=.dict #[] }) h.objs.size (.dK []):=
 ⟨Nat.zero_le _,beq_eq_false_iff_ne.mpr (Ne.symm (Nat.ne_of_lt hb)),[],.nil,Heap.DictOf.new h⟩
noncomputable def tDNewK:TE:=fun _ H Q=>∀ p,H p=none→Q (.ref p) (upd H p (.dK []))
section
variable {X:Cx} {pos:Pos}
theorem pe_dnewK:PE X (.Dict [] [] pos) tDNewK:=fun pins s σ H Q I h=>
 wpAny_Dict_empty ⟨.ref s.heap.objs.size,_,I.laid (a:=s.heap.objs.size) (o:=.dK []) (t':=s.toks) (fun _ _ q=>Heap.get?_push_of_some _ q) (Nat.le_refl _) (dk_empty s.heap I.big),rfl,h _ (I.hok.fresh (Nat.le_refl _))⟩
end
noncomputable def tPairs:List (TE×TE)→St→Hp→(List (V×V)→Hp→Prop)→Prop
 | [],_,H,Q=>Q [] H
 | (tk,tv)::r,σ,H,Q=>tk σ H fun x H1=>tv σ H1 fun y H2=>tPairs r σ H2 fun ps H3=>Q ((x,y)::ps) H3
noncomputable abbrev VV:List (V×V)→List (Value×Value)→Prop:=Paired fun p q=>RelV p.1 q.1∧RelV p.2 q.2
noncomputable def PPs (X:Cx) (pos:Pos) (keys:List (Option Expr)) (values:List Expr) (trs:List (TE×TE)):Prop:=
 ∀ (pins:List (Addr×Obj)) (s:Shared) (σ:St) (H:Hp) (Q:List (V×V)→Hp→Prop),Inv X pins σ H s→tPairs trs σ H Q →
  wpAny (model X.prog X.w) X.A (evalPairs (pairTrees keys values X.env pos)) (fun vs s'=>∃ ps H',Inv X pins σ H' s'∧VV ps vs∧Q ps H') X.xe s
noncomputable def mergeK (kvs more:List (Key×V)):List (Key×V):=more.foldl (fun acc kv=>putK acc kv.1 kv.2) kvs
theorem KV.merge:∀ {more:List (Key×V)} {rs:List (Key×Value)} {kvs:List (Key×V)} {vs:List (Key×Value)},KV more rs→KV kvs vs→KV (mergeK kvs more) (merged vs rs):=by
 intro more rs kvs vs r
 unfold KV at r
 induction r generalizing kvs vs with
 | nil=>intro q; exact q
 | @cons p q ps qs h t ih=>
  intro r0
  have e:KV (putK kvs p.1 p.2) (stored vs q.1 q.2):=by
   have:=r0.put p.1 h.2
   rw [← h.1]; exact this
  exact ih e
theorem length_mergeK:∀ (more kvs:List (Key×V)),(mergeK kvs more).length≤kvs.length + more.length
 | [],kvs=>by show kvs.length≤kvs.length + 0; omega
 | p::r,kvs=>by
  have h1:=length_mergeK r (putK kvs p.1 p.2)
  have h2:=length_putK kvs p.1 p.2
  show (mergeK (putK kvs p.1 p.2) r).length≤_
  rw [List.length_cons]; omega
structure M1 (X:Cx) (o:Expr) (m:Str) (apos:Pos) (e:Expr) (cpos:Pos):Prop where
 base:attributeBase o m X.env (eval o X.env)=eval o X.env
 few:((backTo cpos (starEach [e] X.env)).all (fun x=>!x.1) && (backToKw cpos (keywordEach [] X.env)).all (fun x=>x.1.isSome)
  && decide (([e]:List Expr).length + ([]:List Keyword).length + (if ([]:List Keyword).isEmpty then 0 else 1) < 30))=true
 line:(apos.endLine == cpos.line)=true
 trees:backTo cpos (starEach [e] X.env)=[(false,eval e X.env)]
structure M2 (X:Cx) (o:Expr) (m:Str) (apos:Pos) (e f:Expr) (cpos:Pos):Prop where
 base:attributeBase o m X.env (eval o X.env)=eval o X.env
 few:((backTo cpos (starEach [e,f] X.env)).all (fun x=>!x.1) && (backToKw cpos (keywordEach [] X.env)).all (fun x=>x.1.isSome)
  && decide (([e,f]:List Expr).length + ([]:List Keyword).length + (if ([]:List Keyword).isEmpty then 0 else 1) < 30))=true
 line:(apos.endLine == cpos.line)=true
 trees:backTo cpos (starEach [e,f] X.env)=[(false,eval e X.env),(false,eval f X.env)]
section
variable {X:Cx} {pins:List (Addr×Obj)} {σ:St} {H:Hp} {s:Shared} {a:Addr} {y d:V} {u r:Value} {o:Option V} {A:Around} {E:Value→Shared→Prop}
end
section
variable {X:Cx} {o e f:Expr} {apos cpos:Pos} {td ty tx:TE}
end
section
variable {X:Cx} {pins:List (Addr×Obj)} {σ:St} {H:Hp} {s:Shared} {a:Addr} {kvs:List (Key×V)} {A:Around} {E:Value→Shared→Prop}
theorem d_copyOf {Q:Value→Shared→Prop} (I:Inv X pins σ H s) (e:Rd H a (.dK kvs)) (h:∀ p s',H p=none→Inv X pins σ (upd H p (.dK kvs)) s'→Q (.ref p) s'):wpAny (model X.prog X.w) A (call (.type "dict") [.ref a]) Q E s:=by
 obtain ⟨z,hd,vs,rel,dd⟩:=dk_rd I.hok e
 refine kt_call_dict hd dd (by rw [← rel.length]; exact z) fun h' dd' hs=>?_
 refine h _ _ (I.hok.fresh (Nat.le_refl _)) (I.laid (a:=s.heap.objs.size) (o:=.dK kvs) (t':=s.toks) (fun b q hq=>?_) (Nat.le_refl _) (dk_new z (beq_eq_false_iff_ne.mpr (Ne.symm (Nat.ne_of_lt I.big))) rel dd'))
 exact (hs.2 b (Nat.ne_of_lt (Heap.lt_size hq))).trans (Heap.get?_push_of_some _ hq)
end
section
variable {X:Cx} {pins:List (Addr×Obj)} {σ:St} {H:Hp} {s:Shared} {a:Addr} {y:V} {u:Value} {A:Around} {E:Value→Shared→Prop}
end
end L2
namespace Att
open PySem PySem.W PySem.Calls PyProof.Rows
theorem ints_of_wellAll {P:Params} {h:Heap}:∀ (ns:List Int) (vs:List Value),WellAll P h vs (ns.map WData.int)→IntsAre vs ns:=by
 intro ns
 induction ns with
 | nil=>
  intro vs w
  rw [List.map_nil] at w
  cases w
  exact .nil
 | cons n ns ih=>
  intro vs w
  rw [List.map_cons] at w
  cases w with
  | cons a b=>
   cases a
   exact .cons _ _ (ih _ b)
theorem script_of {l:OpenLaw} {n:Nat} (hn:l.most=some n) {P:Params} {h:Heap} {args:List WData} {vals:List Value}
  (hpre:l.row.toRowW.claim.pre args=true) (hwl:WellAll P h vals args) :
  ∃ a vs ns,vals=[Value.ref a]∧args=[WData.list (ns.map WData.int)]∧h.get? a=some { cls:=.type "list",data:=.seq vs.toArray }∧IntsAre vs ns∧ns.length≤n:=by
 have hsh:WShape.hasAll [] args [.list .int]=true:=(pre_splitW hpre).1
 have hc:l.pre.holds [] { args:=args } = true:=(pre_splitW hpre).2
 obtain ⟨d,r,rfl,h1,h2⟩:=hasAllW_cons hsh
 obtain rfl:=hasAllW_nil h2
 obtain ⟨xs,rfl,h3⟩:=hasW_list h1
 obtain ⟨ns,rfl⟩:=items_int h3
 have hlen:ns.length≤n:=by
  unfold OpenLaw.pre at hc
  have h4:(WTm.not (.lt (.lit (.int (n:Int))) (.len (.arg 0)))).holds [] { args:=[.list (ns.map .int)] } = true:=by
   have h4:=(holds_andW hc).1
   rw [hn] at h4
   exact h4
  have h5:=condW_of h4 (w_not (w_lt w_lit (w_len_list (w_arg rfl))))
  rw [List.length_map] at h5
  refine Nat.le_of_not_lt fun q=>?_
  have q':(n:Int) < ((ns.length:Nat):Int):=by omega
  first
   | (rw [decide_eq_true q'] at h5; exact absurd h5 (by decide))
   | (simp at h5; omega)
 cases hwl with
 | cons w1 w2=>
  cases w2
  cases w1 with
  | list ho hall=>exact ⟨_,_,ns,rfl,rfl,ho,ints_of_wellAll ns _ hall,hlen⟩
theorem post_true (l:OpenLaw) (args:List WData):l.row.toRowW.claim.post args (.bool true) args=true:=
 postW_of (r:=l.row.toRowW) (X:=(true == true))
  (show WShape.has [] (.bool true) .bool=true by first | rfl | decide | simp [WShape.has,WShape.arms,WShape.armsAll])
  (show (WTm.eq .res (.lit (.bool true))).value [] { args:=args,res:=some (.bool true),after:=args } = some (.bool (true == true)) from w_eq_bool (w_res rfl) w_lit) rfl
theorem attach_call {l:OpenLaw} {n:Nat} {q:Program} {loose:List Str} {XP:(Str→Option Value)→Heap→Prop} {YP:World→Heap→Prop} {d:DefRec}
  (hn:l.most=some n) (hdf:d.params.defaults=[])
  (call:∀ (w:World) (s₀ s₁:Shared) (mg mb:Str→Option Value) (fa:Addr) (o:Obj) (pm cd doc:Value) (a:Addr) (vs:List Value) (ns:List Int),
   Ground q loose [] XP w s₀ mg mb s₁.heap→YP w s₁.heap →
   s₁.heap.get? fa=some o→o.data=.func (docDef d.name d.params d.body d.scope pm cd doc)→s₁.heap.CodeRec cd d.name→mg d.name=some (.ref fa) →
   s₁.heap.get? a=some { cls:=.type "list",data:=.seq vs.toArray }→IntsAre vs ns→ns.length≤n→s₁.gens = #[] →
   codeAny (model l.prog w) callerA (.call (.ref fa) ⟨[.ref a],[]⟩) (fun r s'=>r=.ok (.ret (.bool true))∧OldK s₁.heap s'.heap∧s'.os=s₁.os∧AllBare s'.gens) s₁) :
  WalkO q loose XP YP l.row.toRowW d [] (fun f vs=>PySem.call f vs):=by
 intro w s₀ s₁ mg mb G Y fa o pm cd doc dV kV ho hd hcd hD hmg hg args vals as hpre hlay hrd hwl hlo
 obtain rfl:dV=.none:=Dflts.none hD hdf
 obtain rfl:kV=.none:=Dflts.noKw hD
 obtain ⟨a,vs,ns,rfl,rfl,hobj,hints,hlen⟩:=script_of hn hpre hwl
 refine enter_call (codeAny_mono (call w s₀ s₁ mg mb fa o pm cd doc a vs ns G Y ho (fd_plain hd) hcd hmg hobj hints hlen hg) fun r s' hq=>?_)
 obtain ⟨rfl,h2,h3,h4⟩:=hq
 exact ⟨.inl ⟨.bool true,.bool true,[],rfl,fun _=>rfl,.bool true,post_true l _,fun _=>⟨List.Pairwise.nil,fun _ hm=>(nomatch hm)⟩⟩,h2,h3,h4⟩
section
variable {prog:Program} {w:World} {A:Around} {E:Value→Shared→Prop} {s:Shared} {K:Frag}
end
end Att
namespace L2
open PySem PySem.Spec PyProof.Rows
theorem vals_ints:∀ {vs:List Value} {ns:List Int},IntsAre vs ns→Vals (ns.map V.int) vs
 | _,_,.nil=>.nil
 | _,_,.cons n t h=>.cons ⟨t,rfl⟩ (vals_ints h)
noncomputable def Only (H:Hp):Prop:=∀ b,H b=none∨∃ o xs,H b=some (.frz o (.lst xs))
theorem law_call {P:Program} {w:World} {K:PySem.W.Frag} {mg mb:Str→Option Value} {CX:CXT} {k:Nat} {fa a:Addr} {fd:FuncData} {x:Str} {sp:Sp} {s₁:Shared} {vs:List Value} {ns:List Int}
  (KX:K.In s₁.heap) (hns:s₁.heap.Ns mainGlobals mg) (hb:s₁.heap.Ns builtinsNs mb) (hbb:∀ x:Str,x≠"__name__"→mb x=bootBuiltins x) (hlim:s₁.heap.NoLimit) (hg:s₁.gens = #[])
  (ha:s₁.heap.get? a=some { cls:=.type "list",data:=.seq vs.toArray }) (hi:IntsAre vs ns) (hl:ns.length≤sizeLine) (hr:Room k callerA)
  (F:∀ base:Heap,K.In base→base.Ns mainGlobals mg→FnOk P w K mg base CX k fa fd [x] sp) (hbind:∀ (s:Shared) (u:Value),BindsTo s fd ⟨[u],[]⟩ [(x,u)])
  (hsp:∀ H:Hp,Only H→SqL K H a (ns.map V.int)→sp [.ref a] H (fun v _=>v=.bl true) fun _ _ _=>False)
  (hCX:∀ H e s',CX [] H s₁ (fun _ _ _=>False) e s'→False) :
  codeAny (model P w) callerA (.call (.ref fa) ⟨[.ref a],[]⟩) (fun r s'=>r=.ok (.ret (.bool true))∧OldK s₁.heap s'.heap∧s'.os=s₁.os∧AllBare s'.gens) s₁:=by
 have rv:=vals_ints hi
 have lenV:=hi.length
 have core:∀ H:Hp,Only H→SqL K H a (ns.map V.int)→HOk P w H s₁.heap→(∀ b,H b≠none→b=a)→(H a≠none→K.lookup a=none) →
   codeAny (model P w) callerA (.call (.ref fa) ⟨[.ref a],[]⟩) (fun r s'=>r=.ok (.ret (.bool true))∧OldK s₁.heap s'.heap∧s'.os=s₁.os∧AllBare s'.gens) s₁:=by
  intro H hO hS hok hA hK
  have base_of:∀ {b:Addr} {o:Obj},s₁.heap.get? b=some o→H b=none→(hidT s₁.heap H).get? b=some o:=fun e n=>hidT_get e n
  have noA:∀ {b:Addr} {o:Obj} {es:Array DictEntry} {ep:Nat},s₁.heap.get? b=some o→o.data=.dict es ep→H b=none:=fun {b o es ep} e d=>by
   cases q:H b with
   | none=>rfl
   | some u=>
    have e':b=a:=hA b (by rw [q]; simp)
    subst e'
    rw [ha] at e; cases e
    have d':Data.seq vs.toArray _=Data.dict es ep:=d
    cases d'
  have nsK:∀ {b:Addr} {m:Str→Option Value},s₁.heap.Ns b m→(hidT s₁.heap H).Ns b m:=fun {b m} ⟨o,es,ep,e,d,r⟩=>⟨o,es,ep,base_of e (noA e d),d,r⟩
  have hKb:K.In (hidT s₁.heap H):=fun b o e=>base_of (KX b o e) (by
   cases q:H b with
   | none=>rfl
   | some u=>
    have e':b=a:=hA b (by rw [q]; simp)
    subst e'
    rw [hK (by rw [q]; simp)] at e; cases e)
  have hM:Mod K mg (hidT s₁.heap H):=⟨hKb,nsK hns,⟨mb,nsK hb,hbb⟩,let ⟨mc,h1,h2⟩:=hlim; ⟨mc,nsK h1,h2⟩⟩
  have e0:Env0 P w K mg (hidT s₁.heap H) callerA [] s₁ H:=⟨rfl,hM,fun b o e=>of_hidT e,Nat.le_of_eq (hidT_size _ _),trivial,fun b hb=>absurd (show b∈([]:List Addr) from hb) (by simp),hok,.of_eq hg⟩
  refine codeAny_mono ((F _ hKb (nsK hns)).run callerA [] s₁ H ⟨[.ref a],[]⟩ [.ref a] [.ref a] _ _ hr e0 (hbind s₁ (.ref a)) (.cons rfl .nil) (hsp H hO hS)) fun r s' h=>?_
  cases r with
  | error e=>exact (hCX H e s' h).elim
  | ok fl=>
   cases fl with
   | next=>exact False.elim h
   | brk=>exact False.elim h
   | cont=>exact False.elim h
   | ret u=>
    obtain ⟨v,H',os,bare,un,hok',r',q⟩:=h
    have q':v=.bl true:=q
    subst q'
    obtain rfl:u=Value.bool true:=r'
    refine ⟨rfl,OldK.of_keep fun b o e=>?_,os,bare⟩
    cases q:H b with
    | none=>exact un.keep b o e q (by intro z; exact absurd (show b∈([]:List Addr) from z) (by simp)) (by simp)
    | some u=>
     rcases hO b with z | ⟨ob,xs,z⟩
     ·rw [q] at z; cases z
     ·have z2:=un.frzs b ob _ z
      obtain ⟨e1,_⟩:=hok b _ z
      obtain ⟨e2,_⟩:=hok' b _ z2
      rw [e] at e1; cases e1
      exact e2
 cases hk:K.lookup a with
 | some o=>
  have e:=KX a o hk
  rw [ha] at e
  cases e
  refine core (fun _=>none) (fun _=>.inl rfl) (.inr ⟨_,vs.toArray,_,hk,rfl,rfl,rfl,by rw [List.size_toArray,lenV]; exact hl,by simpa using rv⟩) (fun b u z=>by have z':(none:Option HO)=some u:=z; cases z') (fun b z=>absurd rfl z) fun z=>absurd rfl z
 | none=>
  refine core (fun b=>if b=a then some (.frz { cls:=.type "list",data:=.seq vs.toArray } (.lst (ns.map V.int))) else none) (fun b=>?_) (.inl (.inr ⟨{ cls:=.type "list",data:=.seq vs.toArray },if_pos rfl⟩)) (fun b u z=>?_) (fun b z=>?_) fun _=>hk
  ·by_cases hb:b=a
   ·exact .inr ⟨_,_,if_pos hb⟩
   ·exact .inl (if_neg hb)
  ·by_cases hb:b=a
   ·have z':=(if_pos hb).symm.trans z
    cases z'
    subst hb
    exact ⟨ha,by rw [List.length_map]; exact hl,vs,_,rv,ha⟩
   ·have z':=(if_neg hb).symm.trans z
    cases z'
  ·by_cases hb:b=a
   ·exact hb
   ·exact absurd (if_neg hb) z
end L2
namespace L2
open PySem PySem.Spec PyProof.Rows
theorem walk_of {l:PySem.W.OpenLaw} {n k:Nat} {q:Program} {loose:List Str} {XP:(Str→Option Value)→Heap→Prop} {YP:World→Heap→Prop} {d:DefRec} {K:Params→PySem.W.Frag} {CX:World→CXT} {sp:World→Sp} {x:Str}
  (hn:l.most=some n) (hn2:n≤sizeLine) (hdf:d.params.defaults=[]) (hr:Room k callerA)
  (hY:∀ (w:World) (h:Heap),YP w h→(K w.params).In h)
  (F:∀ (w:World) (mg:Str→Option Value) (fa:Addr) (h:Heap),(K w.params).In h→h.Ns mainGlobals mg→mg d.name=some (.ref fa) →
   ∃ fd:FuncData,(∀ (s:Shared) (u:Value),BindsTo s fd ⟨[u],[]⟩ [(x,u)]) ∧
    ∀ base:Heap,(K w.params).In base→base.Ns mainGlobals mg→FnOk l.prog w (K w.params) mg base (CX w) k fa fd [x] (sp w))
  (hsp:∀ (w:World) (H:Hp) (a:Addr) (ns:List Int),ns.length≤n→Only H→SqL (K w.params) H a (ns.map V.int)→sp w [.ref a] H (fun v _=>v=.bl true) fun _ _ _=>False)
  (hCX:∀ (w:World) (H:Hp) (s:Shared) (e:Value) (s':Shared),CX w [] H s (fun _ _ _=>False) e s'→False) :
  PySem.W.WalkO q loose XP YP l.row.toRowW d [] (fun f vs=>PySem.call f vs):=by
 refine Att.attach_call hn hdf fun w s₀ s₁ mg mb fa o pm cd doc a vs ns G Y ho hd hcd hmg hobj hints hlen hg=>?_
 have KX:=hY w _ Y
 obtain ⟨fd,hb,hF⟩:=F w mg fa _ KX G.T.g hmg
 exact law_call KX G.T.g G.T.b G.T.builtins G.T.nolimit hg hobj hints (Nat.le_trans hlen hn2) hr hF hb (fun H hO hS=>hsp w H a ns hlen hO hS) fun H e s'=>hCX w H s₁ e s'
end L2
namespace L2
open PySem PySem.Spec PyProof.Rows
noncomputable def defArgs (s:Stmt):Arguments:=match s with
 | .FunctionDef _ a _ _ _ _ _ _ _ _=>a
 | _=>{ posonlyargs:=[],args:=[],vararg:=none,kwonlyargs:=[],kw_defaults:=[],kwarg:=none,defaults:=[] }
noncomputable def defBody (s:Stmt):List Stmt:=match s with
 | .FunctionDef _ _ b _ _ _ _ _ _ _=>b
 | _=>[]
noncomputable def defScope (s:Stmt):Scope:=match s with
 | .FunctionDef _ _ _ _ _ _ sc _ _ _=>sc
 | _=>{ kind:=.function,names:=[],isGenerator:=false,isCoroutine:=false }
noncomputable abbrev CX0:CXT:=fun _ _ _ _ _ _=>False
noncomputable abbrev E0:XK:=fun _ _ _=>False
theorem pass0 {X:Cx}:Passes CX0 X E0:=fun _ _ _ _ _ _ _ h=>h.elim
structure Fun (K:PySem.W.Frag) (x qual:Str) (st:Stmt) (f:Addr) (fd:FuncData):Prop where
 ex:∃ (oc:Value) (od:Option Addr) (kV doc pm:Value) (an:Option Addr) (cdv ct:Value) (osl:Array (Option Value)),
  fd=PySem.W.fnOf x qual (defArgs st) (defBody st) (defScope st) .none kV doc pm an cdv ct∧K.lookup f=some ⟨oc,od,.func fd,osl⟩∧PySem.W.codeIn K cdv qual=true
 kp:PySem.W.keepIn K (.ref f)=true
section
variable {P:Program} {w:World} {K:PySem.W.Frag} {mg:Str→Option Value} {base:Heap}
theorem Fun.ok {x qual:Str} {st:Stmt} {f:Addr} {fd:FuncData} {N ps:List Str} {k:Nat} {sp:Sp} (F:Fun K x qual st f fd) (S:FnScope N ps (defScope st)) (len:∀ vs H Q E,sp vs H Q E→vs.length=ps.length)
  (hbody:∀ (cdv:Value) (A:Around) (outer:List Env) (s:Shared) (H:Hp) (vs:List V) (Q:VK) (E:XK),Room k (A.deeper (envOfC qual (defScope st) s.heap.objs.size f cdv))→sp vs H Q E →
   ∃ t,PSs (cxOf CX0 P w K mg base N qual (defScope st) f cdv A outer s H E).nox (defBody st) t∧t { nx:=fun _ H'=>Q .non H',rt:=Q } (start N vs) H):FnOk P w K mg base CX0 (k + 1) f fd ps sp:=by
 obtain ⟨oc,od,kV,doc,pm,an,cdv,ct,osl,rfl,lk,hcd⟩:=F.ex
 refine fn_of lk hcd S len fun A outer s H vs Q E hr hsp=>?_
 obtain ⟨t,h,q⟩:=hbody cdv A outer s H vs Q E hr hsp
 exact ⟨t,h.nox,q⟩
theorem Fun.binds {x qual:Str} {st:Stmt} {f:Addr} {fd:FuncData} {ps:List Str} (F:Fun K x qual st f fd)
  (h:∀ (kV doc pm:Value) (an:Option Addr) (cdv ct:Value) (us:List Value),us.length=ps.length→bindArgs (PySem.W.fnOf x qual (defArgs st) (defBody st) (defScope st) .none kV doc pm an cdv ct) ⟨us,[]⟩=pure (ps.zip us)):Binds K fd ps []:=by
 obtain ⟨oc,od,kV,doc,pm,an,cdv,ct,osl,rfl,lk,hcd⟩:=F.ex
 exact .all (h kV doc pm an cdv ct)
theorem fun_mk {x qual:Str} {st:Stmt} {f:Addr} {oc:Value} {od an:Option Addr} {osl:Array (Option Value)} {kV doc pm cdv ct:Value} (l:K.lookup f=some ⟨oc,od,.func (PySem.W.fnOf x qual (defArgs st) (defBody st) (defScope st) .none kV doc pm an cdv ct),osl⟩)
  (c:PySem.W.codeIn K cdv qual=true) (k:PySem.W.keepIn K (.ref f)=true):Fun K x qual st f (PySem.W.fnOf x qual (defArgs st) (defBody st) (defScope st) .none kV doc pm an cdv ct):=⟨⟨oc,od,kV,doc,pm,an,cdv,ct,osl,rfl,l,c⟩,k⟩
end
theorem hu_of {A:Around} {k:Nat} (hr:Room k A):A.units + 1 < cLine:=Nat.lt_of_le_of_lt (Nat.add_le_add_left (by decide:1≤64) _) hr.units
section
variable {X:Cx}
theorem pv (i:Nat) {x:Str} {pos:Pos} (hN:X.N[i]? = some x:=by rfl) (hv:Vis X.env.scope x:=by first | exact Or.inl rfl | exact Or.inr (Or.inl rfl) | exact Or.inr (Or.inr rfl)) (hd:(x == ("__debug__" : Str))=false:=by decide)
  (hcd:(x == ("__classdict__" : Str))=false:=by decide):PE X (.Name x pos) (tVar i):=pe_var hN hv hd hcd
end
theorem iteF {A B:Prop} (h:B):if false=true then A else B:=by
 rw [if_neg Bool.false_ne_true]
 exact h
theorem iteT {A B:Prop} (h:A):if true=true then A else B:=by
 rw [if_pos rfl]
 exact h
noncomputable def Same (H H':Hp):Prop:=∀ b o,H b=some o→H' b=some o
theorem Same.refl (H:Hp):Same H H:=fun _ _ h=>h
theorem Same.trans {H H1 H2:Hp} (a:Same H H1) (b:Same H1 H2):Same H H2:=fun c o h=>b c o (a c o h)
theorem Same.free {H H':Hp} (e:Same H H') {l:Addr} (h:H' l=Option.none):H l=Option.none:=by
 cases q:H l with
 | none=>rfl
 | some o=>
  rw [e l o q] at h
  cases h
theorem Same.seq {K:PySem.W.Frag} {H H':Hp} {a:Addr} {xs:List V} (e:Same H H') (h:SqL K H a xs):SqL K H' a xs:=by
 rcases h with (h | ⟨o,h⟩) | h
 ·exact .inl (.inl (e _ _ h))
 ·exact .inl (.inr ⟨o,e _ _ h⟩)
 ·exact .inr h
end L2
set_option maxHeartbeats 4000000
namespace K1
open PySem
noncomputable def has (signs x:Str):Bool:=x.cps.toList.all fun c=>decide (c∈signs.cps.toList)
noncomputable def LET:Str:="abcdefghijklmnopqrstuvwxyz"
noncomputable def TXT:Str:="abcdefghijklmnopqrstuvwxyz0123456789-"
noncomputable def single:PyData→Bool
 | .int i=>decide ((if i < 0 then -i else i)≤10 ^ 18)
 | .str x=>decide (x.length≤20) && has TXT x
 | _=>false
noncomputable def built:Nat→PyData→Bool
 | 0,.tuple _=>false
 | n + 1,.tuple ds=>decide (ds.length≤8) && ds.all (built n)
 | _,d=>single d
noncomputable def manyF:Nat→PyData→Int
 | n + 1,.tuple ds=>1 + (ds.map (manyF n)).sum
 | _,_=>1
noncomputable def lsz:Nat→PyData→Int
 | n + 1,.tuple ds=>if ds.length > 8 then 100 else 1 + (ds.map (lsz n)).sum
 | _,d=>if single d=true then 1 else 100
noncomputable def isName:PyData→Bool
 | .str x=>decide (1≤x.length) && decide (x.length≤8) && has LET x
 | _=>false
noncomputable def isVal (d:PyData):Bool:=built 4 d && decide (manyF 4 d≤40)
noncomputable def tdp:Nat→PyData→Bool
 | 0,.tuple _=>false
 | n + 1,.tuple ds=>ds.all (tdp n)
 | _,_=>true
theorem built_tdp:∀ (n:Nat) (d:PyData),built n d=true→tdp n d=true
 | 0,d,h=>by cases d <;> first | rfl | cases h
 | n + 1,d,h=>by
  cases d with
  | tuple ds=>
   have e:built (n + 1) (.tuple ds)=(decide (ds.length≤8) && ds.all (built n)):=rfl
   rw [e,Bool.and_eq_true] at h
   show ds.all (tdp n)=true
   exact List.all_eq_true.mpr fun x hx=>built_tdp n x (List.all_eq_true.mp h.2 x hx)
  | _=>rfl
noncomputable def maxFrom (best:Int):List Int→Int
 | []=>best
 | n::r=>maxFrom (if n > best then n else best) r
noncomputable def maxD (d:Int):List Int→Int
 | []=>d
 | n::r=>maxFrom n r
noncomputable def deepF:Nat→PyData→Int
 | n + 1,.tuple ds=>1 + maxD 0 (ds.map (deepF n))
 | _,_=>0
noncomputable def loopD (acc:Int):List Int→Int
 | []=>acc
 | n::r=>loopD (if 1 + n > acc then 1 + n else acc) r
noncomputable def ldp:Nat→PyData→Int
 | n + 1,.tuple ds=>loopD 1 (ds.map (ldp n))
 | _,_=>0
end K1
namespace L2
open PySem
noncomputable def closOf (env:Env):List (Str×NameKind)→List (Str×Addr)→List (Str×Addr)
 | [],acc=>acc
 | (n,k)::r,acc=>closOf env r (if (k == .free)=true then (n,(env.cells.lookup n).getD 0)::acc else acc)
theorem clos_fold {env:Env}:∀ (l:List (Str×NameKind)) (acc:List (Str×Addr)),(∀ x∈l,x.2=.free→∃ c,env.cells.lookup x.1=some c) →
  (forIn l acc (fun x r=>match x with
   | (name,kind)=>if (kind == NameKind.free)=true then (do
     let c ← cellOf env name
     pure (ForInStep.yield ((name,c)::r))) else pure (ForInStep.yield r)):Sem (List (Str×Addr)))=pure (closOf env l acc)
 | [],acc,_=>rfl
 | (n,k)::r,acc,h=>by
  rw [List.forIn_cons]
  have hr:∀ x∈r,x.2=.free→∃ c,env.cells.lookup x.1=some c:=fun x hx=>h x (List.mem_cons_of_mem _ hx)
  cases hk:(k == NameKind.free) with
  | false=>
   have ih:=clos_fold r acc hr
   have e:closOf env ((n,k)::r) acc=closOf env r acc:=by simp [closOf,hk]
   rw [e]
   dsimp only
   rw [if_neg (by rw [hk]; exact Bool.false_ne_true)]
   exact ih
  | true=>
   obtain ⟨c,hc⟩:=h (n,k) List.mem_cons_self (by simpa using hk)
   have ih:=clos_fold r ((n,c)::acc) hr
   have hc':env.cells.lookup n=some c:=hc
   have e:closOf env ((n,k)::r) acc=closOf env r ((n,c)::acc):=by simp [closOf,hk,hc']
   have e2:cellOf env n=pure c:=by unfold cellOf; rw [hc']
   rw [e]
   dsimp only
   rw [if_pos hk,e2]
   exact ih
theorem closure_eq {scope:Scope} {env:Env} (h:∀ x∈scope.names,x.2=.free→∃ c,env.cells.lookup x.1=some c):closureFor scope env=pure (closOf env scope.names []):=by
 have q:=clos_fold (env:=env) scope.names [] h
 unfold closureFor
 exact congrArg (fun t=>t >>= fun z=>pure z) q
theorem closOf_look {env:Env}:∀ (l:List (Str×NameKind)) (acc:List (Str×Addr)) (x:Str) (c:Addr),(∀ y d,acc.lookup y=some d→env.cells.lookup y=some d) →
  (∀ y∈l,y.2=.free→∃ c,env.cells.lookup y.1=some c)→(closOf env l acc).lookup x=some c→env.cells.lookup x=some c
 | [],acc,x,c,ha,_,e=>ha x c e
 | (n,k)::r,acc,x,c,ha,h,e=>by
  have hr:∀ x∈r,x.2=.free→∃ c,env.cells.lookup x.1=some c:=fun x hx=>h x (List.mem_cons_of_mem _ hx)
  refine closOf_look r _ x c ?_ hr e
  intro y d q
  cases hk:(k == NameKind.free) with
  | false=>rw [hk,if_neg Bool.false_ne_true] at q; exact ha y d q
  | true=>
   rw [hk,if_pos rfl] at q
   obtain ⟨c',hc⟩:=h (n,k) List.mem_cons_self (by simpa using hk)
   have hc':env.cells.lookup n=some c':=hc
   rw [List.lookup_cons] at q
   by_cases z:y=n
   ·subst z
    simp [hc'] at q
    rw [hc',q]
   ·have z':(y == n)=false:=beq_eq_false_iff_ne.mpr z
    rw [z'] at q
    exact ha y d q
theorem closOf_acc {env:Env}:∀ (l:List (Str×NameKind)) (acc:List (Str×Addr)) (x:Str),(acc.lookup x).isSome=true→((closOf env l acc).lookup x).isSome=true
 | [],_,_,h=>h
 | (n,k)::r,acc,x,h=>by
  refine closOf_acc r _ x ?_
  cases hk:(k == NameKind.free) with
  | false=>rw [if_neg Bool.false_ne_true]; exact h
  | true=>
   rw [if_pos rfl,List.lookup_cons]
   cases z:(x == n) with
   | true=>rfl
   | false=>exact h
theorem closOf_has {env:Env}:∀ (l:List (Str×NameKind)) (acc:List (Str×Addr)) (x:Str),(x,NameKind.free)∈l→((closOf env l acc).lookup x).isSome=true
 | [],_,_,h=>absurd h (by simp)
 | (n,k)::r,acc,x,h=>by
  rcases List.mem_cons.mp h with e | e
  ·cases e
   refine closOf_acc r _ _ ?_
   rw [if_pos (by decide),List.lookup_cons]
   simp
  ·exact closOf_has r _ x e
end L2
namespace L2
open PySem PySem.Spec PyProof.Rows
structure CS (osc:Scope) (N:List Str) (x:Str) (scope:Scope) (N':List Str):Prop where
 kind:scope.kind=.function
 nocell:∀ y∈scope.names,y.2≠.cell
 names:∀ y∈scope.names,y.2=.local→scope.names.lookup y.1=some .local
 hx:scope.names.lookup x=some .local
 only:∀ y∈scope.names,y.2=.local→y.1=x∨y.1 = ".0"
 free:∀ y∈scope.names,y.2=.free→osc.names.lookup y.1=some .cell∨osc.names.lookup y.1=some .free
 nd:(x::N').Nodup
 n0:(".0" : Str)∉N'
 len:N'.length=N.length
 rel:∀ p∈N'.zip N,p.1=p.2∨∀ q∈scope.names,q.1≠p.1
theorem CS.at {osc:Scope} {N N':List Str} {x:Str} {scope:Scope} (S:CS osc N x scope N') {j:Nat} {y:Str} (h:N'[j]? = some y):N[j]? = some y∨∀ q∈scope.names,q.1≠y:=by
 have hl:j < N'.length:=(List.getElem?_eq_some_iff.mp h).1
 have hl2:j < N.length:=by rw [← S.len]; exact hl
 have m:(N'.zip N)[j]? = some (y,N[j]):=by
  rw [List.getElem?_zip_eq_some]
  exact ⟨h,List.getElem?_eq_getElem hl2⟩
 rcases S.rel _ (List.mem_of_getElem? m) with z | z
 ·left
  rw [List.getElem?_eq_getElem hl2]
  exact congrArg some z.symm
 ·exact .inr z
theorem look_map {c:Str×NameKind→Bool}:∀ {names:List (Str×NameKind)} {y:Str} {k':NameKind},
  (names.map fun p=>if (p.2 == NameKind.free && c p)=true then (p.1,NameKind.cell) else (p.1,p.2)).lookup y=some k'→∃ k,(y,k)∈names∧(k'=k∨(k=.free∧k'=.cell))
 | [],_,_,h=>by simp at h
 | (n,k)::r,y,k',h=>by
  rw [List.map_cons] at h
  by_cases hy:y=n
  ·subst hy
   cases hc:(k == NameKind.free && c (y,k)) with
   | false=>
    simp only [hc,Bool.false_eq_true,if_false,List.lookup_cons,beq_self_eq_true] at h
    cases h
    exact ⟨k,List.mem_cons_self,.inl rfl⟩
   | true=>
    simp only [hc,if_true,List.lookup_cons,beq_self_eq_true] at h
    cases h
    have e:k=.free:=by
     have:=(Bool.and_eq_true _ _).mp hc
     simpa using this.1
    exact ⟨k,List.mem_cons_self,.inr ⟨e,rfl⟩⟩
  ·have hb:(y == n)=false:=beq_eq_false_iff_ne.mpr hy
   have h':(r.map fun p=>if (p.2 == NameKind.free && c p)=true then (p.1,NameKind.cell) else (p.1,p.2)).lookup y=some k':=by
    cases hc:(k == NameKind.free && c (n,k)) with
    | false=>simp only [hc,Bool.false_eq_true,if_false,List.lookup_cons,hb] at h; exact h
    | true=>simp only [hc,if_true,List.lookup_cons,hb] at h; exact h
   obtain ⟨k2,m,e⟩:=look_map h'
   exact ⟨k2,List.mem_cons_of_mem _ m,e⟩
theorem look_relabel {scope:Scope} {env:Env} {y:Str} {k':NameKind} (h:(relabel scope env).names.lookup y=some k'):∃ k,(y,k)∈scope.names∧(k'=k∨(k=.free∧k'=.cell)):=by
 refine look_map (c:=fun p=>env.scope.kind == .function && env.kindOf p.1 == some .cell) ?_
 rw [← h]
 unfold relabel
 congr 1
 refine List.map_congr_left fun p _=>?_
 obtain ⟨n,k⟩:=p
 simp only [Bool.and_assoc]
noncomputable abbrev compCx (X:Cx) (x:Str) (scope:Scope) (C:Addr) (s0:Shared) (H0:Hp) (ex:List Addr) (N':List Str):Cx where
 prog:=X.prog
 w:=X.w
 K:=X.K
 mg:=X.mg
 base:=X.base
 A:=X.A
 N:=x::N'
 s₀:=s0
 H₀:=H0
 env:=compEnvC scope (closOf X.env scope.names []) C X.env
 outer:=X.stack
 stack:=X.stack
 ex:=ex
 fn:=fun _=>false
 calm:=X.calm
 pn:=[]
 xe:=fun _ _=>False
section
variable {X:Cx} {pins:List (Addr×Obj)} {σ:St} {H:Hp} {s:Shared} {x:Str} {scope:Scope} {N':List Str}
theorem free_has (I:Inv X pins σ H s) (S:CS X.env.scope X.N x scope N'):∀ y∈scope.names,y.2=.free→∃ c,X.env.cells.lookup y.1=some c:=fun y hy e=>
 I.ok.has y.1 (S.free y hy e)
theorem clos_look (I:Inv X pins σ H s) (S:CS X.env.scope X.N x scope N') {y:Str} {c:Addr} (e:(closOf X.env scope.names []).lookup y=some c):X.env.cells.lookup y=some c:=
 closOf_look scope.names [] y c (fun _ _ z=>by simp at z) (free_has I S) e
theorem clos_has (I:Inv X pins σ H s) (S:CS X.env.scope X.N x scope N') {y:Str} (e:(y,NameKind.free)∈scope.names):∃ c,(closOf X.env scope.names []).lookup y=some c∧X.env.cells.lookup y=some c:=by
 obtain ⟨c,hc⟩:=Option.isSome_iff_exists.mp (closOf_has (env:=X.env) scope.names [] y e)
 exact ⟨c,hc,clos_look I S hc⟩
theorem comp_enter {fp:List Addr} {h':Heap} {m:Str→Option Value} {tk:Nat} {oD oC:Obj} (I:Inv X pins σ H s) (S:CS X.env.scope X.N x scope N') (hf:∀ b∈fp,FpOk X pins H b) (ho:∀ b∈fp,∃ o,s.heap.get? b=some o)
  (hns:h'.Ns (s.heap.push oD).objs.size m) (hsb:Heap.SameBut (s.heap.push oD).objs.size ((s.heap.push oD).push oC) h') :
  Inv (compCx X x scope (s.heap.push oD).objs.size { s with heap:=s.heap.push oD } H (s.heap.objs.size::fp) N') [] (none::σ) H { s with heap:=h',toks:=tk }:=by
 have I3:Inv X pins σ H { s with heap:=s.heap.push oD,toks:=s.toks }:=I.kept fun b o e=>Heap.get?_push_of_some _ e
 have hC:(s.heap.push oD).objs.size=s.heap.objs.size + 1:=Heap.size_push ..
 have up3:∀ b o,(s.heap.push oD).get? b=some o→h'.get? b=some o:=fun b o e=>
  (hsb.2 b (Nat.ne_of_lt (Heap.lt_size e))).trans (Heap.get?_push_of_some _ e)
 have up:∀ b o,s.heap.get? b=some o→h'.get? b=some o:=fun b o e=>up3 b o (Heap.get?_push_of_some _ e)
 have cl:=fun {y c} e=>clos_look (y:=y) (c:=c) I S e
 have clt:∀ y c,X.env.cells.lookup y=some c→c < s.heap.objs.size:=fun y c e=>let ⟨v,q⟩:=I.cell y c e; q.lt
 have inner:∀ {y:Str} {k':NameKind},(relabel scope X.env).names.lookup y=some k'→(k'=.cell∨k'=.free)→(y,NameKind.free)∈scope.names:=fun {y k'} e hk=>by
  obtain ⟨k,mem,r⟩:=look_relabel e
  rcases r with r | ⟨r,_⟩
  ·rcases hk with z | z
   ·exact absurd (r.symm.trans z) (S.nocell _ mem)
   ·rw [← r.symm.trans z]; exact mem
  ·rw [← r]; exact mem
 have ok:(compCx X x scope (s.heap.push oD).objs.size { s with heap:=s.heap.push oD } H (s.heap.objs.size::fp) N').Ok:=by
  refine ⟨I.ok.mod,S.kind,I.ok.glob,I.ok.blt,Nat.le_refl _,fun y z c e1 e2=>I.ok.inj y z c (cl e1) (cl e2),fun y hk=>?_,fun y c e=>(nomatch e),I.ok.hd,I.ok.frames,.inl rfl,fun b hb=>?_,fun b o e=>?_,
   Nat.le_trans (Nat.le_trans I.ok.bsz I.sz) (by show s.heap.objs.size≤(s.heap.push oD).objs.size; omega),fun b o e hb=>?_,fun b hb z=>?_,I3.stack,I.stkFree⟩
  ·have mem:(y,NameKind.free)∈scope.names:=by
    rcases hk with z | z
    ·exact inner z (.inl rfl)
    ·exact inner z (.inr rfl)
   obtain ⟨c,hc,_⟩:=clos_has I S mem
   exact ⟨c,hc⟩
  ·rcases List.mem_cons.mp hb with e | e
   ·subst e
    exact ⟨by show s.heap.objs.size≠(s.heap.push oD).objs.size; omega,fun y c e=>Nat.ne_of_lt (clt y c (cl e))⟩
   ·obtain ⟨o,q⟩:=ho b e
    have q2:=Heap.lt_size q
    exact ⟨by show b≠(s.heap.push oD).objs.size; rw [hC]; exact Nat.ne_of_lt (Nat.lt_succ_of_lt q2),fun y c e'=>(hf b e).2.2.2.2.1 y c (cl e')⟩
  ·exact ⟨Heap.get?_push_of_some _ (I.bs b o e).1,(I.bs b o e).2⟩
  ·rcases List.mem_cons.mp hb with z | z
   ·have q2:=Heap.lt_size (I.bs b o e).1
    rw [z] at q2
    exact Nat.lt_irrefl _ q2
   ·rcases (hf b z).2.2.2.1 with q | q
    ·exact I.ok.noex b o e q
    ·have q2:=Heap.lt_size (I.ok.bs b o e).1
     exact Nat.lt_irrefl _ (Nat.lt_of_lt_of_le q2 q)
  ·have z':=I.stkSub b z
   rcases List.mem_cons.mp hb with e | e
   ·subst e
    rcases List.mem_cons.mp z' with q | q
    ·have q2:=I.lt
     rw [← q] at q2
     exact Nat.lt_irrefl _ q2
    ·exact I.nofs (Nat.le_refl _) q
   ·rcases List.mem_cons.mp z' with q | q
    ·exact (hf b e).2.1 q
    ·exact (hf b e).2.2.1 q
 obtain ⟨mo,hno,hlo⟩:=I.loc
 refine ⟨ok,rfl,I.bare,Un.kept up3,⟨m,hns,fun i y v e1 e2 e3=>?_⟩,fun y c e=>?_,I.hok.fresh (by show s.heap.objs.size≤(s.heap.push oD).objs.size; omega),fun y c e=>I.freeC y c (cl e),fun p hp=>absurd hp (by simp),I.hok.kept up,?_⟩
 ·cases i with
  | zero=>simp at e2
  | succ j=>
   have e1n:N'[j]? = some y:=by simpa using e1
   have vis:∃ k,(y,k)∈scope.names:=by
    rcases (show Vis (relabel scope X.env) y from e3) with z | z | z <;> exact let ⟨k,mem,_⟩:=look_relabel z; ⟨k,mem⟩
   have e1':X.N[j]? = some y:=by
    rcases S.at e1n with z | z
    ·exact z
    ·obtain ⟨k,mem⟩:=vis
     exact absurd rfl (z _ mem)
   have e2':σ[j]? = some (some v):=by simpa using e2
   have yx:y≠x:=fun z=>by
    have nd:=S.nd
    rw [List.nodup_cons] at nd
    refine nd.1 ?_
    rw [← z]
    exact List.mem_of_getElem? e1n
   have kin:((relabel scope X.env).names.lookup y=some .cell∨(relabel scope X.env).names.lookup y=some .free):=by
    rcases (show Vis (relabel scope X.env) y from e3) with z | z | z
    ·obtain ⟨k,mem,r⟩:=look_relabel z
     rcases r with r | ⟨_,r⟩
     ·rcases S.only _ mem r.symm with z2 | z2
      ·exact absurd z2 yx
      ·exact absurd (List.mem_of_getElem? e1n) (by rw [show y=(".0" : Str) from z2]; exact S.n0)
     ·cases r
    ·exact .inl z
    ·exact .inr z
   have mem:(y,NameKind.free)∈scope.names:=by
    rcases kin with z | z
    ·exact inner z (.inl rfl)
    ·exact inner z (.inr rfl)
   have vo:Vis X.env.scope y:=by
    rcases S.free _ mem rfl with z | z
    ·exact .inr (.inl z)
    ·exact .inr (.inr z)
   obtain ⟨u,ru,lk⟩:=hlo j y v e1' e2' vo
   refine ⟨u,ru,.inr ⟨kin,?_⟩⟩
   obtain ⟨c,hc,hc'⟩:=clos_has I S mem
   refine ⟨c,hc,?_⟩
   rcases lk with ⟨z,_⟩ | ⟨_,c2,z2,q⟩
   ·exfalso
    have z':X.env.scope.names.lookup y=some .local:=z
    rcases S.free _ mem rfl with r | r <;> (rw [z'] at r; cases r)
   ·rw [hc'] at z2
    cases z2
    obtain ⟨o,q1,q2⟩:=q
    exact ⟨o,up _ _ q1,q2⟩
 ·obtain ⟨v,o,q1,q2⟩:=I.cell y c (cl e)
  exact ⟨v,o,up _ _ q1,q2⟩
 ·have:=I.len
  simp [this,S.len]
theorem comp_leave {fp:List Addr} {σ':St} {pins':List (Addr×Obj)} {H1:Hp} {s1:Shared} {h':Heap} {C:Addr} {oD:Obj} {ys:List V} (I:Inv X pins σ H s) (hf:∀ b∈fp,FpOk X pins H b)
  (hCd:C=(s.heap.push oD).objs.size) (J:Inv (compCx X x scope C { s with heap:=s.heap.push oD } H (s.heap.objs.size::fp) N') pins' σ' H1 s1) (hsb:Heap.SameBut C s1.heap h') (hD0:H1 s.heap.objs.size=none)
  (new:∃ its n,Vals ys its∧s1.heap.get? s.heap.objs.size=some { cls:=.type "list",data:=.seq its.toArray n }) (hz:ys.length≤sizeLine) :
  Inv X pins σ (upd H1 s.heap.objs.size (.lst ys)) { s1 with heap:=h' }:=by
 have hC:C=s.heap.objs.size + 1:=by rw [hCd]; exact Heap.size_push ..
 have nD:∀ b o,s.heap.get? b=some o→b≠s.heap.objs.size:=fun b o e=>Nat.ne_of_lt (Heap.lt_size e)
 have nC:∀ b o,s.heap.get? b=some o→b≠C:=fun b o e=>by rw [hC]; exact Nat.ne_of_lt (Nat.lt_succ_of_lt (Heap.lt_size e))
 have up:∀ b o,s.heap.get? b=some o→(s.heap.push oD).get? b=some o:=fun b o e=>Heap.get?_push_of_some _ e
 have nx:∀ b,b∉fp→b≠s.heap.objs.size→b∉s.heap.objs.size::fp:=fun b h1 h2 z=>(List.mem_cons.mp z).elim h2 h1
 have hDC:s.heap.objs.size≠C:=by rw [hC]; exact Nat.ne_of_lt (Nat.lt_succ_self _)
 have tr:∀ b u,H1 b=some u→b≠s.heap.objs.size:=fun b u e z=>by rw [z,hD0] at e; cases e
 have trC:∀ b u,H1 b=some u→b≠C:=fun b u e z=>by
  have:=J.free
  rw [z] at e
  have q:H1 C=none:=J.free
  rw [q] at e; cases e
 obtain ⟨its,n,rv,eD⟩:=new
 have B:Un (frs X.stack) (s.heap.objs.size::fp) H H1 (s.heap.push oD) s1.heap:=J.base
 refine I.call' (s':={ s1 with heap:=h' }) (ch:=fp) J.os ⟨fun b o e q h1 h2=>?_,fun b o e q h1 h2=>?_,fun b o e q h2=>?_,fun b o e h2=>?_,fun b xs e=>?_,fun b o u e=>?_,fun b ps e=>?_⟩ (fun b u e=>?_) J.bare fun b hb=>?_
 ·exact (hsb.2 b (nC b o e)).trans (B.keep b o (up b o e) q h1 (nx b h2 (nD b o e)))
 ·obtain ⟨sl,z⟩:=B.slot b o (up b o e) q h1 (nx b h2 (nD b o e))
  exact ⟨sl,(hsb.2 b (nC b o e)).trans z⟩
 ·rw [upd_ne (nD b o e)]
  exact B.free b o (up b o e) q (nx b h2 (nD b o e))
 ·obtain ⟨o',z⟩:=B.there b o (up b o e) (nx b h2 (nD b o e))
  exact ⟨o',(hsb.2 b (nC b o e)).trans z⟩
 ·have z:=B.tups b xs e
  rw [upd_ne (tr b _ z)]; exact z
 ·have z:=B.frzs b o u e
  rw [upd_ne (tr b _ z)]; exact z
 ·obtain ⟨more,z⟩:=B.tbls b ps e
  exact ⟨more,by rw [upd_ne (tr b _ z)]; exact z⟩
 ·by_cases hb:b=s.heap.objs.size
  ·subst hb
   rw [upd_same] at e
   cases e
   exact ⟨hz,its,n,rv,(hsb.2 _ hDC).trans eD⟩
  ·rw [upd_ne hb] at e
   refine (J.hok b u e).stay (fun c v hc q=>(hsb.2 c ?_).trans q) (fun c q=>by rw [upd_ne (tr c _ q)]; exact q) fun c xs q=>by rw [upd_ne (tr c _ q)]; exact q
   rcases hc with z | z
   ·rw [z]; exact trC b u e
   ·exact trC c _ z
 ·obtain ⟨_,f1,_,f3,f4,f5⟩:=hf b hb
  exact ⟨f3,f1,f4,f5⟩
end
noncomputable def PTs (X:Cx) (ifs:List Expr) (t:TT):Prop:=
 ∀ (pins:List (Addr×Obj)) (s:Shared) (σ:St) (H:Hp) (Q:Bool→Hp→Prop) (E:Value→Shared→Prop),Inv X pins σ H s→t σ H Q →
  wpAny (model X.prog X.w) X.A (forIn ifs true fun c r=>if r=true then do
   let ok ← isTrue c X.env (eval c X.env)
   pure (ForInStep.yield ok) else pure (ForInStep.yield r)) (TP X pins σ Q) E s
theorem pts_nil {X:Cx}:PTs X [] (fun _ H Q=>Q true H):=fun _ _ _ H _ _ I h=>wpAny_tests_nil ⟨H,I,h⟩
theorem pts_one {X:Cx} {c:Expr} {t:TT} (hx:X.xe=fun _ _=>False) (h:PT X c t):PTs X [c] t:=fun pins s σ H Q _ I q=>
 wpAny_tests_one (wpAny_mono (h pins s σ H Q I q) (fun _ _ z=>z) fun e s' z=>by rw [hx] at z; exact z.elim)
noncomputable def cLoop (σ:St) (J:It) (tt:TT) (te:TE) (W:Nat→Nat→List V→Hp→Prop) (D:List V→Hp→Prop):Prop:=∀ i m ys H,W i m ys H →
 (J.stop i H∧ys.length≤sizeLine∧D ys H)∨(J.go i H∧ys.length < sizeLine∧∃ N:List V→Hp→Prop,(∀ ys' H',N ys' H'→∃ m',m' < m∧W (i + 1) m' ys' H')∧∀ v H',J.yld i H v H'→tt (some v::σ) H' fun b H2=>
  if b=true then te (some v::σ) H2 fun y H3=>N (ys++[y]) H3 else N ys H2)
section
variable {X:Cx} {pins:List (Addr×Obj)} {σ:St} {H:Hp} {s:Shared} {x:Str} {scope:Scope} {N':List Str}
theorem comp_loop {fp:List Addr} {it C:Addr} {tn:Nat→Heap→Prop} {J:It} {oD:Obj} {elt iter:Expr} {ifs:List Expr} {px pos:Pos} {te:TE} {tt:TT} {W:Nat→Nat→List V→Hp→Prop} {Dn:List V→Hp→Prop}
  {R:Result→Shared→Prop} {σ':St} {s4:Shared} {m0:Nat} (hcalm:X.calm=true) (S:CS X.env.scope X.N x scope N') (hf:∀ b∈fp,FpOk X pins H b) (ho:∀ b∈fp,∃ o,s.heap.get? b=some o) (hCd:C=(s.heap.push oD).objs.size)
  (T:Turn X.prog X.w X.K (.Name x px) J fp it tn) (I4:Inv (compCx X x scope C { s with heap:=s.heap.push oD } H (s.heap.objs.size::fp) N') [] (none::σ) H s4) (st4:tn 0 s4.heap) (hD4:s4.heap.get? s.heap.objs.size=some { cls:=.type "list",data:=.seq #[] 0 })
  (hDn:H s.heap.objs.size=none) (hte:PE (compCx X x scope C { s with heap:=s.heap.push oD } H (s.heap.objs.size::fp) N') elt te) (htt:PTs (compCx X x scope C { s with heap:=s.heap.push oD } H (s.heap.objs.size::fp) N') ifs tt)
  (w0:W 0 m0 [] H) (turn:cLoop σ J tt te W Dn)
  (hR:∀ s1 H1 σ1 ys its n,Inv (compCx X x scope C { s with heap:=s.heap.push oD } H (s.heap.objs.size::fp) N') [] σ1 H1 s1→H1 s.heap.objs.size=none→Vals ys its→s1.heap.get? s.heap.objs.size=some { cls:=.type "list",data:=.seq its.toArray n }→ys.length≤sizeLine→Dn ys H1→R (.ok .next) s1) :
  codeAny (model X.prog X.w) X.A (.compLoop (.ListComp elt [⟨.Name x px,iter,ifs,0⟩] scope pos) 0 (.ref it) (.ref s.heap.objs.size) (compEnvC scope (closOf X.env scope.names []) C X.env)) R s4:=by
 have hC:C=s.heap.objs.size + 1:=by rw [hCd]; exact Heap.size_push ..
 generalize hX:compCx X x scope C { s with heap:=s.heap.push oD } H (s.heap.objs.size::fp) N'=X' at *
 have xP:X'.prog=X.prog:=by rw [← hX]
 have xW:X'.w=X.w:=by rw [← hX]
 have xK:X'.K=X.K:=by rw [← hX]
 have xA:X'.A=X.A:=by rw [← hX]
 have xE:X'.env=compEnvC scope (closOf X.env scope.names []) C X.env:=by rw [← hX]
 have xC:X'.calm=true:=by rw [← hX]; exact hcalm
 have xex:X'.ex=s.heap.objs.size::fp:=by rw [← hX]
 have xpn:X'.pn=[]:=by rw [← hX]
 have xxe:X'.xe=fun _ _=>False:=by rw [← hX]
 have xN:X'.N=x::N':=by rw [← hX]
 have xL:X'.env.locals=C:=by rw [xE]; rfl
 have xloc:X'.env.scope.names.lookup x=some .local:=by rw [xE]; exact lookup_relabel_local S.hx
 have lt:∀ b∈fp,b < s.heap.objs.size:=fun b hb=>let ⟨_,e⟩:=ho b hb; Heap.lt_size e
 have fpk:∀ {pl:List (Addr×Obj)} {H':Hp},(∀ p∈pl,p.1=s.heap.objs.size)→(∀ b∈fp,H' b=none)→∀ b∈fp,FpOk X' pl H' b:=fun {pl H'} hp hn b hb=>by
  have okk:=I4.ok
  have hm:b∈X'.ex:=by rw [xex]; exact List.mem_cons_of_mem _ hb
  refine ⟨hn b hb,(okk.exf b hm).1,okk.exfs b hm,.inl hm,(okk.exf b hm).2,fun p hpl z=>?_⟩
  rw [xpn] at hpl
  have q1:=hp p (by simpa using hpl)
  have q2:=lt b hb
  rw [← z,q1] at q2
  exact Nat.lt_irrefl _ q2
 have dok:∀ {pl:List (Addr×Obj)} {H':Hp},(∀ p∈pl,p.1∈fp)→H' s.heap.objs.size=none→FpOk X' pl H' s.heap.objs.size:=fun {pl H'} hp hn=>by
  have okk:=I4.ok
  have hm:s.heap.objs.size∈X'.ex:=by rw [xex]; exact List.mem_cons_self
  refine ⟨hn,(okk.exf _ hm).1,okk.exfs _ hm,.inl hm,(okk.exf _ hm).2,fun p hpl z=>?_⟩
  rw [xpn] at hpl
  have q2:=lt p.1 (hp p (by simpa using hpl))
  rw [z] at q2
  exact Nat.lt_irrefl _ q2
 refine codeAny_compLoop_tests (I:=fun m s'=>∃ i σx H' ys its n,Inv X' [] (σx::σ) H' s'∧tn i s'.heap∧(∀ b∈fp,H' b=none)∧H' s.heap.objs.size=none∧Vals ys its∧s'.heap.get? s.heap.objs.size=some { cls:=.type "list",data:=.seq its.toArray n }∧W i m ys H') ?_ m0
  ⟨0,none,H,[],[],0,I4,st4,fun b hb=>(hf b hb).1,hDn,.nil,hD4,w0⟩
 rintro m s5 ⟨i,σx,H5,ys,its,n,I5,st5,fr5,d5,rv,e5,w5⟩
 have I5d:Inv X' ([]++pinsAt [s.heap.objs.size] s5.heap) (σx::σ) H5 s5:=I5.pinned (fun b hb=>by
   have e:b=s.heap.objs.size:=by simpa using hb
   rw [e]; exact dok (fun p hp=>absurd hp (by simp)) d5) fun b hb=>by
   have e:b=s.heap.objs.size:=by simpa using hb
   rw [e]; exact ⟨_,e5,fun v z=>by cases z⟩
 have pD:([]++pinsAt [s.heap.objs.size] s5.heap:List (Addr×Obj))=[(s.heap.objs.size,{ cls:=.type "list",data:=.seq its.toArray n })]:=by
  simp [pinsAt,e5]
 rw [pD] at I5d
 have p1:∀ p∈[(s.heap.objs.size,({ cls:=.type "list",data:=.seq its.toArray n }:Obj))],p.1=s.heap.objs.size:=fun p hp=>by
  have e:p=(s.heap.objs.size,{ cls:=.type "list",data:=.seq its.toArray n }):=by simpa using hp
  rw [e]
 have hsz:its.length=ys.length:=rv.length.symm
 rcases turn i m ys H5 w5 with ⟨stop,hz,dn⟩ | ⟨go,hz,N,hN,step⟩
 ·have q:=T.done X' xP xW xK xC i _ s5 (σx::σ) H5 (notedBy (model X.prog X.w) X.A (compEnvC scope (closOf X.env scope.names []) C X.env) fun e s'=>R (.error e) s') I5d (fpk p1 fr5) st5 stop
  rw [xA] at q
  refine wpAny_mono q (fun r s6 z=>?_) fun _ _ z=>z
  obtain ⟨rfl,I6⟩:=z
  refine hR s6 H5 (σx::σ) ys its n ?_ d5 rv (I6.pin _ (List.mem_append_right _ (List.mem_singleton.mpr rfl))).1 hz dn
  exact I6.pins_of fun p hp=>absurd hp (by simp)
 ·have q:=T.item X' xP xW xK xC i _ s5 (σx::σ) H5 (notedBy (model X.prog X.w) X.A (compEnvC scope (closOf X.env scope.names []) C X.env) fun e s'=>R (.error e) s') I5d (fpk p1 fr5) st5 go
  rw [xA] at q
  refine wpAny_mono q (fun r s6 z=>?_) fun _ _ z=>z
  obtain ⟨u,rfl,z⟩:=z
  dsimp only
  have z':wpAny (model X.prog X.w) X.A (pure ()) _ _ s6:=z
  refine wpAny_bind (m:=pure ()) (f:=fun _=>assign (.Name x px) (compEnvC scope (closOf X.env scope.names []) C X.env) u) (wpAny_mono z' (fun _ s7 z=>?_) fun _ _ z=>z)
  obtain ⟨v,H7,I7,rv7,y7,st7,fr7⟩:=z
  have I7p:=I7.pinned (fpk p1 fr7) (T.obj _ _ st7)
  rw [← xE]
  have nd:X'.N.Nodup:=by rw [xN]; exact S.nd
  have hi0:X'.N[0]? = some x:=by rw [xN]; rfl
  refine wpAny_assign_Name (store_ok (E:=notedBy (model X.prog X.w) X.A X'.env fun e s'=>R (.error e) s') (i:=0) I7p nd hi0 (.inl xloc) rv7 (fun s8 I8=>?_) (.inr xloc))
  have I8':Inv X' _ (some v::σ) H7 s8:=I8
  have t8:=htt _ s8 (some v::σ) H7 _ (notedBy (model X.prog X.w) X.A X'.env fun e s'=>R (.error e) s') I8' (step v H7 y7)
  rw [xP,xW,xA] at t8
  refine wpAny_mono t8 (fun ok s9 z=>?_) fun _ _ z=>z
  obtain ⟨H9,I9,q9⟩:=z
  have back:∀ {s':Shared} {H':Hp} {σ2:St},Inv X' ([(s.heap.objs.size,({ cls:=.type "list",data:=.seq its.toArray n }:Obj))]++pinsAt fp s7.heap) σ2 H' s' →
    tn (i + 1) s'.heap∧(∀ b∈fp,H' b=none)∧H' s.heap.objs.size=none∧s'.heap.get? s.heap.objs.size=some { cls:=.type "list",data:=.seq its.toArray n }∧Inv X' [] σ2 H' s':=fun {s' H' σ2} I'=>by
   refine ⟨T.keep _ _ _ st7 fun b hb o e=>(I'.pin (b,o) (List.mem_append_right _ (List.mem_append_right _ (mem_pinsAt hb e)))).1,fun b hb=>?_,?_,?_,I'.pins_of fun p hp=>absurd hp (by simp)⟩
   ·obtain ⟨o,e,_⟩:=T.obj _ _ st7 b hb
    exact (I'.pin (b,o) (List.mem_append_right _ (List.mem_append_right _ (mem_pinsAt hb e)))).2.1
   ·exact (I'.pin (s.heap.objs.size,_) (List.mem_append_right _ (List.mem_append_left _ (List.mem_singleton.mpr rfl)))).2.1
   ·exact (I'.pin (s.heap.objs.size,_) (List.mem_append_right _ (List.mem_append_left _ (List.mem_singleton.mpr rfl)))).1
  cases ok with
  | false=>
   simp only [Bool.false_eq_true,if_false] at q9 ⊢
   obtain ⟨m',hm,w9⟩:=hN _ _ q9
   obtain ⟨a1,a2,a3,a4,a5⟩:=back I9
   exact ⟨m',hm,i + 1,some v,H9,ys,its,n,a5,a1,a2,a3,rv,a4,w9⟩
  | true=>
   simp only [if_true] at q9 ⊢
   have t9:=hte _ s9 (some v::σ) H9 _ I9 q9
   rw [xP,xW,xA,xxe] at t9
   refine wpAny_mono t9 (fun u2 s10 z=>?_) fun _ _ z=>z.elim
   obtain ⟨y,H10,I10,r10,q10⟩:=z
   obtain ⟨m',hm,w10⟩:=hN _ _ q10
   obtain ⟨a1,a2,a3,a4,a5⟩:=back I10
   refine wpAny_list_append_plain ⟨n,a4⟩ (fun h' pl sb=>?_) (by rw [List.size_toArray]; omega)
   obtain ⟨n',e'⟩:=pl
   have D0:=dok (pl:=[]) (fun p hp=>absurd hp (by simp)) a3
   refine ⟨m',hm,i + 1,some v,H10,ys++[y],its++[u2],n',a5.turned (t':=s10.toks) (fun b o hb e=>(sb.2 b hb).trans e) D0.1 D0.2.1 D0.2.2.2.1 D0.2.2.2.2.1 D0.2.2.2.2.2,?_,a2,a3,rv.append (.cons r10 .nil),by simpa using e',w10⟩
   exact T.keep _ _ _ a1 fun b hb o e=>(sb.2 b (Nat.ne_of_lt (lt b hb))).trans e
end
end L2
namespace L2
open PySem PySem.Spec PyProof.Rows
section
variable {X:Cx} {x:Str} {scope:Scope} {N':List Str} {elt iter:Expr} {ifs:List Expr} {px pos:Pos} {wi:TI} {te:TE} {tt:TT}
noncomputable def tComp (wi:TI) (tt:TT) (te:TE):TE:=fun σ H Q=>wi σ H fun J H1=>∃ W:Nat→Nat→List V→Hp→Prop,(∃ m,W 0 m [] H1)∧cLoop σ J tt te W fun ys H=>∀ p,H p=none→Q (.ref p) (upd H p (.lst ys))
theorem pe_comp (hc:X.calm=true) (S:CS X.env.scope X.N x scope N') (hi:PI X (.Name x px) iter wi) (he:∀ C s0 H0 ex,PE (compCx X x scope C s0 H0 ex N') elt te)
  (ht:∀ C s0 H0 ex,PTs (compCx X x scope C s0 H0 ex N') ifs tt) (hs:∀ v,foldedSetIterable iter X.env v=pure v:=by intro _; rfl):PE X (.ListComp elt [⟨.Name x px,iter,ifs,0⟩] scope pos) (tComp wi tt te):=by
 intro pins s σ H Q I h
 rw [eval_ListComp]
 refine wpAny_comprehension_free (use:=none) rfl hs (closure_eq (free_has I S)) S.kind S.names (thn (hi pins s σ H _ I h) fun v s1 h1=>thn h1 fun itv s2 h2=>?_)
 obtain ⟨it,fp,tn,J,H2,rfl,I2,T,st2,f2,W,⟨m0,w0⟩,turn⟩:=h2
 have ho:∀ b∈fp,∃ o,s2.heap.get? b=some o:=fun b hb=>let ⟨o,e,_⟩:=T.obj _ _ st2 b hb; ⟨o,e⟩
 refine wpAny_newObj_type (wpAny_newFunctionEnv S.nocell (by intro y hy; simp at hy) (fun h' hns hsb=>?_) S.kind)
 have I4:=comp_enter (x:=x) (scope:=scope) (tk:=s2.toks + ([]:List (Str×Value)).length) I2 S f2 ho hns hsb
 have up3:∀ b o,(s2.heap.push { cls:=.type "list",dict:=none,data:=.seq ([]:List Value).toArray }).get? b=some o→h'.get? b=some o:=fun b o e=>
  (hsb.2 b (Nat.ne_of_lt (Heap.lt_size e))).trans (Heap.get?_push_of_some _ e)
 have st4:tn 0 h':=T.keep _ _ _ st2 fun b _ o e=>up3 b o (Heap.get?_push_of_some _ e)
 have loop:=comp_loop (elt:=elt) (iter:=iter) (ifs:=ifs) (pos:=pos) (R:=compPost (model X.prog X.w) X.A X.xe none (EP X pins σ Q) (.ref s2.heap.objs.size) (s2.heap.push { cls:=.type "list",dict:=none,data:=.seq ([]:List Value).toArray }).objs.size) (σ':=σ)
  hc S f2 ho rfl T I4 st4 (up3 _ _ (Heap.get?_push_size _ rfl)) (I2.hok.fresh (Nat.le_refl _)) (he _ _ _ _) (ht _ _ _ _) w0 turn fun s5 H5 σ5 ys its n J5 d5 rv e5 hz dn=>by
   obtain ⟨m,hn,_⟩:=J5.loc
   exact ⟨m,hn,fun h'' sb=>⟨.ref s2.heap.objs.size,_,comp_leave I2 f2 rfl J5 sb d5 ⟨its,n,rv,e5⟩ hz,rfl,dn _ d5⟩⟩
 exact codeAny_compStart_list loop (T.self X.A 0 _ _ _ st4 loop)
end
section
variable {σ:St} {tt:TT} {te:TE}
end
noncomputable def Its (z:Str):It:=⟨fun i _=>i < z.cps.size,fun i H v H'=>H'=H∧∃ c,z.cps[i]? = some c∧v=.str ⟨#[c]⟩,fun i _=>z.cps.size≤i⟩
end L2
namespace L2
open PySem PySem.Spec PyProof.Rows
theorem turn_str {P:Program} {w:World} {K:PySem.W.Frag} {tg:Expr} (z:Str) (t:Tok) (ty:String) (it:Addr) (hty:ty = "str_ascii_iterator"∨ty = "str_iterator") :
  Turn P w K tg (Its z) [it] it (fun i h=>h.IsStrIter it ty z t i) where
 mem:=by simp
 obj:=fun i h st b hb=>by
  have e:b=it:=by simpa using hb
  subst e
  obtain ⟨o,e,c,d⟩:=st
  exact ⟨o,e,fun v q=>by rw [d] at q; cases q⟩
 keep:=fun i h h' st k=>let ⟨o,e,r⟩:=st; ⟨o,k it (by simp) o e,r⟩
 item:=by
  intro X hP hw hK hc i pins s σ H E I hf st hg
  subst hP hw hK
  have hi:i < z.cps.size:=hg
  obtain ⟨f0,f1,f2,f3,f4,f5⟩:=hf it (by simp)
  have fin:∀ h',h'.IsStrIter it ty z t (i + 1)→Heap.SameBut it s.heap h'→∃ u,(some (Value.str ⟨#[z.cps[i]]⟩ s.toks):Option Value)=some u ∧
    wpAny (model X.prog X.w) X.A (letOwnedTupleGo tg (.ref it) u) (fun _ s2=>∃ x H',Inv X pins σ H' s2∧RelV x u∧(Its z).yld i H x H'∧s2.heap.IsStrIter it ty z t (i + 1)∧∀ b∈[it],H' b=none) E { s with heap:=h',toks:=s.toks + 1 }:=fun h' st' sb=>by
   have I1:Inv X pins σ H { s with heap:=h',toks:=s.toks + 1 }:=I.turned (fun b o hb e=>(sb.2 b hb).trans e) f0 f1 f3 f4 f5
   obtain ⟨o,e,c,d⟩:=id st'
   refine ⟨_,rfl,go_of (s:={ s with heap:=h',toks:=s.toks + 1 }) (n:=ty) e c d ?_ ⟨.str ⟨#[z.cps[i]]⟩,H,I1,⟨_,rfl⟩,⟨rfl,z.cps[i],by simp [hi],rfl⟩,st',fun b hb=>(hf b hb).1⟩⟩
   rcases hty with e | e <;> (rw [e]; decide)
  rcases hty with e | e
  ·subst e
   exact wpAny_pyNext_ascii_item st (c:=z.cps[i]) (by simp [hi]) fin
  ·subst e
   exact wpAny_pyNext_wide_item st (c:=z.cps[i]) (by simp [hi]) fin
 done:=by
  intro X hP hw hK hc i pins s σ H E I hf st hg
  subst hP hw hK
  have hi:z.cps.size≤i:=hg
  obtain ⟨f0,f1,f2,f3,f4,f5⟩:=hf it (by simp)
  have fin:∀ h',Heap.ExtBut it s.heap h'→(none:Option Value)=none∧Inv X pins σ H { s with heap:=h' }:=fun h' eb=>⟨rfl,I.turned (t':=s.toks) (fun b o hb e=>eb b o hb e) f0 f1 f3 f4 f5⟩
  rcases hty with e | e
  ·subst e
   exact wpAny_pyNext_ascii_end (I.ok.hd hc) st (by simp; omega) fin
  ·subst e
   exact wpAny_pyNext_wide_end (I.ok.hd hc) st (by simp; omega) fin
 self:=fun _ _ _ _ _ st h=>by
  rcases hty with e | e
  ·subst e
   exact wpAny_pyIter_striter_ascii st h
  ·subst e
   exact wpAny_pyIter_striter_wide st h
section
variable {X:Cx} {tg:Expr}
end
theorem all_range (bs:List Bool) (n:Nat) (hn:n=bs.length):(List.range n).all (fun i=>bs.getD i false)=bs.all id:=by
 subst hn
 rw [Bool.eq_iff_iff,List.all_eq_true,List.all_eq_true]
 constructor
 ·intro h b hb
  obtain ⟨i,hi,rfl⟩:=List.getElem_of_mem hb
  have:=h i (List.mem_range.mpr hi)
  simpa [List.getD,hi] using this
 ·intro h i hi
  have hi':=List.mem_range.mp hi
  have:=h bs[i] (List.getElem_mem hi')
  simpa [List.getD,hi'] using this
theorem preSum_sum:∀ (ns:List Int) (k:Nat),k≤ns.length→preSum (fun i=>ns.getD i 0) k=(ns.take k).sum
 | ns,0,_=>by simp [preSum]
 | ns,k + 1,h=>by
  have hk:k < ns.length:=h
  have ih:=preSum_sum ns k (Nat.le_of_lt hk)
  have e:(ns.take (k + 1)).sum=(ns.take k).sum + ns.getD k 0:=by
   rw [List.take_add_one,List.sum_append]
   simp [List.getD,hk]
  rw [e,← ih]
  rfl
section
variable {X:Cx}
theorem call_all (hc:X.calm=true):CallR X (.builtin "all") (fun xs H Q=>∃ (p:Addr) (bs:List Bool),xs=[.ref p]∧SqL X.K H p (bs.map V.bl)∧Q (.bl (bs.all id)) H):=by
 intro pins s σ H xs us Q I r h
 obtain ⟨p,bs,rfl,hq,q⟩:=h
 obtain ⟨u,rfl,ru⟩:=vals1 r
 cases ru
 obtain ⟨its,rv,pl,hz⟩:=I.list hq
 have hlen:its.length=bs.length:=by have:=rv.length; simpa using this.symm
 have hlt:p < s.heap.objs.size:=by
  obtain ⟨o,n,e,_⟩:=pl
  exact Heap.lt_size e
 refine call_all_walk (wpAny_pyIter_list pl.isList ?_)
 refine ⟨s.heap.objs.size,_,_,_,_,_,fun i=>bs.getD i false,rfl,Walks.list (A:=X.A.in1) (I.ok.hd hc) _ p (Nat.ne_of_lt hlt) its.toArray,⟨⟨_,Heap.get?_push_size _ rfl,rfl,rfl⟩,?_⟩,fun i v s' Q' E' hv hQ'=>?_,fun h' tk hk=>?_⟩
 ·obtain ⟨o,n,e,r⟩:=pl.isList
  exact ⟨o,Heap.get?_push_of_some _ n,e,r⟩
 ·have hi:i < its.length:=by
   have:=(Array.getElem?_eq_some_iff.mp hv).1
   simpa using this
  have hi2:i < bs.length:=by omega
  obtain ⟨u,hu,ru⟩:=rv.get (i:=i) (x:=.bl bs[i]) (by simp [hi2])
  have e:v=u:=by
   have hv':its[i]? = some v:=by simpa using hv
   rw [hu] at hv'
   exact (Option.some.inj hv').symm
  subst e
  cases (show v=Value.bool bs[i] from ru)
  refine wpAny_truthy_bool ?_
  have e:bs[i]=bs.getD i false:=by simp [List.getD,hi2]
  rw [e]
  exact hQ'
 ·have e:(List.range its.toArray.size).all (fun i=>bs.getD i false)=bs.all id:=all_range bs _ (by simpa using hlen)
  rw [e]
  exact ⟨.bl _,H,I.kept (t':=tk) fun b o q=>hk b o (by simp; exact Nat.ne_of_lt (Heap.lt_size q)) (Heap.get?_push_of_some _ q),rfl,q⟩
theorem ints_at {ns:List Int} {its:List Value} (rv:Vals (ns.map V.int) its) {i:Nat} {v:Value} (hv:its.toArray[i]? = some v):∃ t,v=.int (ns.getD i 0) t:=by
 have hlen:its.length=ns.length:=by have:=rv.length; simpa using this.symm
 have hi:i < its.length:=by
  have:=(Array.getElem?_eq_some_iff.mp hv).1
  simpa using this
 have hi2:i < ns.length:=by omega
 obtain ⟨u,hu,ru⟩:=rv.get (i:=i) (x:=.int ns[i]) (by simp [hi2])
 have e:v=u:=by
  have hv':its[i]? = some v:=by simpa using hv
  rw [hu] at hv'
  exact (Option.some.inj hv').symm
 subst e
 obtain ⟨t,e⟩:=(show ∃ t,v=Value.int ns[i] t from ru)
 refine ⟨t,?_⟩
 rw [e]
 simp [List.getD,hi2]
theorem call_sum (hc:X.calm=true):CallR X (.builtin "sum") (fun xs H Q=>∃ (p:Addr) (ns:List Int),xs=[.ref p]∧SqL X.K H p (ns.map V.int)∧Q (.int ns.sum) H):=by
 intro pins s σ H xs us Q I r h
 obtain ⟨p,ns,rfl,hq,q⟩:=h
 obtain ⟨u,rfl,ru⟩:=vals1 r
 cases ru
 obtain ⟨its,rv,pl,hz⟩:=I.list hq
 have hlen:its.length=ns.length:=by have:=rv.length; simpa using this.symm
 have hlt:p < s.heap.objs.size:=by
  obtain ⟨o,n,e,_⟩:=pl
  exact Heap.lt_size e
 refine call_sum_walkG (wpAny_pyIter_list pl.isList ?_)
 refine ⟨s.heap.objs.size,_,_,_,_,_,fun i=>ns.getD i 0,rfl,Walks.list (A:=X.A.in1) (I.ok.hd hc) _ p (Nat.ne_of_lt hlt) its.toArray,⟨⟨_,Heap.get?_push_size _ rfl,rfl,rfl⟩,?_⟩,fun b hb=>?_,fun i v hv=>ints_at rv hv,fun h' tk t' hk=>?_⟩
 ·obtain ⟨o,n,e,r⟩:=pl.isList
  exact ⟨o,Heap.get?_push_of_some _ n,e,r⟩
 ·rw [Heap.size_push]
  rcases (by simpa using hb:b=s.heap.objs.size∨b=p) with e | e
  ·rw [e]; exact Nat.lt_succ_self _
  ·rw [e]; exact Nat.lt_succ_of_lt hlt
 ·have e:preSum (fun i=>ns.getD i 0) its.toArray.size=ns.sum:=by
   rw [preSum_sum ns _ (by simp; omega)]
   rw [List.take_of_length_le (by simp; omega)]
  rw [e]
  exact ⟨.int _,H,I.kept (t':=tk) fun b o q=>hk b o (by simp; exact Nat.ne_of_lt (Heap.lt_size q)) (Heap.get?_push_of_some _ q),⟨t',rfl⟩,q⟩
end
end L2
namespace L2
open PySem PySem.Spec PyProof.Rows
open K1 (maxFrom maxD)
section
variable {prog:Program} {w:World} {A:Around} {R:Result→Shared→Prop} {it S:Addr} {fp wr:List Addr} {P:Nat→Value→Prop} {St:Nat→Heap→Prop} {ns:List Int} {kw:List (Str×Value)}
end
section
variable {X:Cx}
end
end L2
namespace L2
open PySem PySem.Spec PyProof.Rows
open K1 (maxFrom maxD)
section
variable {X:Cx} {e ed:Expr} {te td:TE} {p pos kpos:Pos}
end
end L2
namespace L2
open PySem PySem.Spec PyProof.Rows
section
variable {X:Cx}
theorem op_catG:OpR X (binaryOp .Add) (fun x y H Q=>∃ a b xs ys,x=.ref a∧y=.ref b∧SqT X.K H a xs∧SqT X.K H b ys∧xs.length + ys.length≤sizeLine ∧
  (xs=[]→Q (.ref b) H)∧(xs≠[]→ys=[]→Q (.ref a) H)∧(xs≠[]→ys≠[]→∀ p,H p=none→Q (.ref p) (upd H p (.tup (xs++ys))))):=by
 intro pins s σ H x y v u Q I rx ry h
 obtain ⟨a,b,xs,ys,rfl,rfl,ha,hb,hz,q0,q1,q2⟩:=h
 by_cases hx:xs=[]
 ·cases rx
  cases ry
  obtain ⟨its,r1,p1,_⟩:=I.tuple ha
  obtain ⟨its2,r2,p2,_⟩:=I.tuple hb
  have hv:its=[]:=r1.nil_iff.mpr hx
  obtain ⟨⟨cls,dd,data,sl⟩,ho,hc,n,hd⟩:=id p1
  obtain ⟨⟨cls2,dd2,data2,sl2⟩,ho2,hc2,n2,hd2⟩:=id p2
  simp only at hc hd hc2 hd2
  subst hc hd hc2 hd2
  exact concat_meets ⟨_,ho,rfl⟩ ⟨_,ho2,rfl⟩ noFill_tuple_add seq_tuple_add PySem.F.slot_tuple_add PySem.F.entry_tuple_add (PySem.F.args_tuple_add_2 _ _)
   (tuple_addW0 a b its.toArray its2.toArray n n2 dd dd2 sl sl2 (by simp [hv])) ⟨ho,ho2,⟨.ref b,H,I,rfl,q0 hx⟩⟩
 ·exact op_catT pins s σ H _ _ v u Q I rx ry ⟨a,b,xs,ys,rfl,rfl,ha,hb,hx,hz,q1 hx,q2 hx⟩
theorem sl_str:SlR X (fun x lo hi H Q=>∃ z:Str,x=.str z∧z.length≤sizeLine∧Q (.str (Txt.slice z lo hi)) H):=by
 intro pins s σ H x v vl vu lo hi sl Q I rx hs pl pu h
 obtain ⟨z,rfl,hz,q⟩:=h
 obtain ⟨t,rfl⟩:=rx
 have fin:∀ l u:Option (Int×Tok),l.map (·.1)=lo→u.map (·.1)=hi→s.heap.IsSlice sl l u none→wpAny (model X.prog X.w) X.A (getItem (.str z t) (.ref sl)) (EP X pins σ Q) X.xe s:=fun l u el eu h=>by
  refine wpAny_getItem_str_slice h rfl ?_
  refine post_val_or_made (fun _=>?_) fun t' k=>?_
  ·have:=sliceIndices_le (l.map (·.1)) (u.map (·.1)) z.length
   have e:=List.length_filterMap_le (fun i=>z.cps[i]?) (slicePicked z l u none)
   show ((slicePicked z l u none).filterMap (z.cps[·]?)).toArray.size≤sizeLine
   rw [List.size_toArray]
   unfold slicePicked at e ⊢
   simp only [Option.map_none,Option.getD_none] at e ⊢
   omega
  ·refine ⟨.str (Txt.slice z lo hi),H,I.tok _,⟨t',?_⟩,q⟩
   rw [← el,← eu]
   rfl
 refine ⟨"str",_,PySem.F.slot_str_getitem.lookup,typeIs_str s z t,?_⟩
 cases pl with
 | none=>
  cases pu with
  | none=>exact fin none none rfl rfl hs
  | int j u=>exact fin none (some (j,u)) rfl rfl hs
 | int i u=>
  cases pu with
  | none=>exact fin (some (i,u)) none rfl rfl hs
  | int j u'=>exact fin (some (i,u)) (some (j,u')) rfl rfl hs
theorem slice_mem {z:Str} {lo hi:Option Int} {c:Nat} (h:c∈(Txt.slice z lo hi).cps.toList):c∈z.cps.toList:=by
 unfold Txt.slice at h
 split at h
 ·exact h
 ·obtain ⟨i,_,hi⟩:=List.mem_filterMap.mp (by simpa using h)
  have:=Array.mem_of_getElem? hi
  simpa using this
theorem op_mulS:OpR X (binaryOp .Mult) (fun x y H Q=>∃ z k,x=.str z∧y=.int k∧0≤k∧k≤2000∧z.length≤1000∧Q (.str (Txt.mul z k)) H):=by
 intro pins s σ H x y v u Q I rx ry h
 obtain ⟨z,k,rfl,rfl,h1,h2,h3,q⟩:=h
 obtain ⟨t,rfl⟩:=rx
 obtain ⟨t',rfl⟩:=ry
 have hm:z.length * k.toNat≤1000 * 2000:=Nat.mul_le_mul h3 (by omega)
 refine SB.mul ⟨?_,fun g1 g2=>?_,fun g1 g2=>?_⟩ fun t' k'=>⟨.str _,H,I.tok _,⟨t',rfl⟩,q⟩
 ·simp; omega
 ·have hk:1≤k:=by simp at g1; omega
  have e1:(1000:Int)≤(2 ^ 63 - 1) / k:=by
   rw [Int.le_ediv_iff_mul_le (by omega)]
   omega
  omega
 ·unfold Builtin.Str.tooLong
  simp [sizeLine]
  omega
end
end L2
namespace L2
open PySem PySem.Spec PyProof.Rows
section
variable {X:Cx}
end
end L2
namespace L2
open PySem PySem.Spec PyProof.Rows
structure Fn (P:Program) (w:World) (K:PySem.W.Frag) (mg:Str→Option Value) (base:Heap) (name:Str) (ps:List Str) (k:Nat) (sp:Sp):Prop where
 ex:∃ f fd,FnOk P w K mg base CX0 k f fd ps sp∧Binds K fd ps []∧PySem.W.keepIn K (.ref f)=true∧mg name=some (.ref f)
section
variable {X:Cx} {name:Str} {ps:List Str} {k:Nat} {sp:Sp} {e:Expr} {es:List Expr} {t:TA} {p pos:Pos}
theorem pe_fn (F:Fn X.prog X.w X.K X.mg X.base name ps k sp) (hr:Room k X.A) (hg:Gl X name) (ha:PA X (e::es) t) (hdb:(name == ("__debug__" : Str))=false:=by decide)
  (he:starEach (e::es) X.env=(false,eval e X.env)::starEach es X.env:=by rfl) (hpl:(backTo pos (starEach es X.env)).any (·.1)=false:=by rfl):PE X (.Call (.Name name p) (e::es) [] pos) (tCall sp [] E0 t):=by
 obtain ⟨f,fd,h1,h2,h3,h4⟩:=F.ex
 exact pe_call h1 hr hg h4 h3 h2 .nil pass0 ha hdb he hpl
end
theorem Fn.mono {P:Program} {w:World} {K:PySem.W.Frag} {mg:Str→Option Value} {base:Heap} {name:Str} {ps:List Str} {k k':Nat} {sp:Sp} (F:Fn P w K mg base name ps k sp) (h:k≤k'):Fn P w K mg base name ps k' sp:=by
 obtain ⟨f,fd,h1,h2⟩:=F.ex
 exact ⟨f,fd,h1.mono h,h2⟩
theorem pe_compD {X:Cx} {x:Str} {scope osc:Scope} {N N':List Str} {elt iter:Expr} {ifs:List Expr} {px pos:Pos} {wi:TI} {te:TE} {tt:TT} (S:CS osc N x scope N') (hi:PI X (.Name x px) iter wi)
  (he:∀ C s0 H0 ex,PE (compCx X x scope C s0 H0 ex N') elt te) (ht:∀ C s0 H0 ex,PTs (compCx X x scope C s0 H0 ex N') ifs tt) (hc:X.calm=true:=by rfl) (hs:X.env.scope=osc:=by rfl) (hN:X.N=N:=by rfl)
  (hf:∀ v,foldedSetIterable iter X.env v=pure v:=by intro _; rfl):PE X (.ListComp elt [⟨.Name x px,iter,ifs,0⟩] scope pos) (tComp wi tt te):=by
 subst hs hN
 exact pe_comp hc S hi he ht hf
end L2
namespace D
open PySem PySem.Spec PyProof.Rows L2
inductive Gh (P:Hp→Prop):Hp→Prop where
 | done {H:Hp}:P H→Gh P H
 | frz {H:Hp} {a:Addr} {kvs:List (Key×V)}:H a=some (.dK kvs)→(∀ o,Gh P (upd H a (.frz o (.dK kvs))))→Gh P H
theorem Gh.imp {P P':Hp→Prop} {H:Hp} (g:Gh P H) (i:∀ H,P H→P' H):Gh P' H:=by
 induction g with
 | done h=>exact .done (i _ h)
 | frz e _ ih=>exact .frz e ih
section
variable {X:Cx} {pins:List (Addr×Obj)} {σ:L2.St} {H:Hp} {s:Shared}
theorem inv_frz (I:Inv X pins σ H s) {a:Addr} {kvs:List (Key×V)} (e:H a=some (.dK kvs)):∃ o,Inv X pins σ (upd H a (.frz o (.dK kvs))) s:=by
 obtain ⟨z,y,vs,kv,o,es,ep,eo,r⟩:=I.hok a _ e
 have U:∀ {b:Addr} {u:HO},H b=some u→(∀ ks,u≠.dK ks)→upd H a (.frz o (.dK kvs)) b=some u:=fun {b u} q n=>by
  rw [upd_ne (fun z=>by subst z; rw [e] at q; cases q; exact n _ rfl)]
  exact q
 have hok:HOk X.prog X.w (upd H a (.frz o (.dK kvs))) s.heap:=fun b u q=>by
  by_cases hb:b=a
  ·subst hb
   rw [upd_same] at q
   cases q
   exact ⟨eo,(I.hok b _ e).stay (fun _ _ _ q=>q) (fun c q=>U q (fun _ z=>nomatch z)) fun c xs q=>U q (fun _ z=>nomatch z)⟩
  ·rw [upd_ne hb] at q
   exact (I.hok b u q).stay (fun _ _ _ q=>q) (fun c q=>U q (fun _ z=>nomatch z)) fun c xs q=>U q (fun _ z=>nomatch z)
 exact ⟨o,I.un (h':=s.heap) (t':=s.toks) ⟨fun b ob q n _ _=>q,fun b ob q n _ _=>⟨_,q⟩,fun b ob q n _=>by rw [upd_ne (fun z=>by subst z; rw [e] at n; cases n)]; exact n,fun b ob q _=>⟨_,q⟩,fun b xs q=>U q (fun _ z=>nomatch z),
  fun b ob u q=>U q (fun _ z=>nomatch z),fun b ps q=>⟨#[],by rw [U q (fun _ z=>nomatch z)]; simp⟩⟩ hok⟩
theorem Gh.ok {P:Hp→Prop} (g:Gh P H) (I:Inv X pins σ H s):∃ H',Inv X pins σ H' s∧P H':=by
 induction g with
 | done h=>exact ⟨_,I,h⟩
 | frz e _ ih=>
  obtain ⟨o,I'⟩:=inv_frz I e
  exact ih o I'
end
section
variable {X:Cx}
theorem ps_gh {st:Stmt} {t:TS} (h:PS X st t):PS X st (fun D σ H=>Gh (t D σ) H):=fun pins s σ H D I q=>by
 obtain ⟨H',I',q'⟩:=q.ok I
 exact h pins s σ H' D I' q'
theorem pe_gh {e:Expr} {t:TE} (h:PE X e t):PE X e (fun σ H Q=>t σ H fun v H1=>Gh (Q v) H1):=fun pins s σ H Q I q=>
 thn (h pins s σ H _ I q) fun u s' ⟨v,H',I',r,q'⟩=>by
  obtain ⟨H2,I2,q2⟩:=q'.ok I'
  exact ⟨v,H2,I2,r,q2⟩
end
end D
namespace D
open PySem PySem.Spec PyProof.Rows L2
noncomputable def epOf (o:Obj):Nat:=match o.data with
 | .dict _ ep=>ep
 | _=>0
noncomputable def Itd (a:Addr) (o:Obj) (kvs:List (Key×V)):It:=
 ⟨fun i H=>H a=some (.frz o (.dK kvs))∧i < kvs.length,fun i H x H'=>H'=H∧∃ k v,kvs[i]? = some (k,v)∧x=kV k,fun i H=>H a=some (.frz o (.dK kvs))∧i=kvs.length⟩
theorem dictAt_of {P:Program} {w:World} {H:Hp} {h:Heap} {a:Addr} {o:Obj} {kvs:List (Key×V)} (ok:HOk P w H h) (e:H a=some (.frz o (.dK kvs))):kvs.length≤sizeLine∧(a == sysModules)=false∧∃ vs,KV kvs vs∧h.DictAt (mixKind P w) a vs (epOf o):=by
 obtain ⟨e1,z,y,vs,kv,o',es,ep,e2,ed,dd,r⟩:=ok a _ e
 rw [e1] at e2
 cases e2
 refine ⟨z,y,vs,kv,o,es,e1,ed,?_,r⟩
 unfold epOf
 rw [dd]
theorem keyV {P:Program} {w:World} {k:Key} {v:Value} (e:(mixKind P w).is k v=true):RelV (kV k) v:=by
 rcases keyIs_shape (show keyIs k v=true from e) with ⟨i,t,rfl,rfl⟩ | ⟨x,t,rfl,rfl⟩
 ·exact ⟨t,rfl⟩
 ·exact ⟨t,rfl⟩
theorem kv_at {kvs:List (Key×V)} {vs:List (Key×Value)} (r:KV kvs vs) {i:Nat} {k:Key} {x:Value} (e:vs[i]? = some (k,x)):∃ v,kvs[i]? = some (k,v):=by
 have h:=r.keys
 have h1:(vs.map (·.1))[i]? = some k:=by rw [List.getElem?_map,e]; rfl
 rw [← h,List.getElem?_map] at h1
 cases q:kvs[i]? with
 | none=>rw [q] at h1; cases h1
 | some p=>
  rw [q] at h1
  cases h1
  exact ⟨p.2,rfl⟩
theorem turn_dict {P:Program} {w:World} {K:PySem.W.Frag} {tg:Expr} (a it:Addr) (o:Obj) (kvs:List (Key×V)):Turn P w K tg (Itd a o kvs) [it] it (fun i h=>h.IsKeyIter it a i kvs.length (epOf o)) where
 mem:=by simp
 obj:=fun i h st b hb=>by
  have e:b=it:=by simpa using hb
  subst e
  obtain ⟨o,e,c,d⟩:=st
  exact ⟨o,e,fun v z=>by rw [d] at z; cases z⟩
 keep:=fun i h h' st k=>st.at fun o e=>k it (by simp) o e
 item:=by
  intro X hP hw hK hc i pins s σ H E I hf st hg
  subst hP hw hK
  obtain ⟨hg1,hg2⟩:=hg
  obtain ⟨z,y,vs,kv,dd⟩:=dictAt_of I.hok hg1
  obtain ⟨f0,f1,f2,f3,f4,f5⟩:=hf it (by simp)
  have hl:=kv.length
  have ne:a≠it:=fun q=>by rw [q,f0] at hg1; cases hg1
  have W:=Walks.dictKeys (prog:=X.prog) (w:=X.w) (knd:=mixKind X.prog X.w) (I.ok.hd hc) it a ne vs (epOf o)
  refine W.item i s _ _ (by omega) ⟨by rw [← hl]; exact st,dd⟩ fun v h' tk hv st' kk=>?_
  obtain ⟨k,x,h1,h2⟩:=hv
  have I1:Inv X pins σ H { s with heap:=h',toks:=tk }:=I.turned (fun b o hb e=>kk b o (by simpa using hb) e) f0 f1 f3 f4 f5
  have st1:h'.IsKeyIter it a (i + 1) kvs.length (epOf o):=by rw [hl]; exact st'.1
  obtain ⟨o1,e1,c1,d1⟩:=id st1
  obtain ⟨v0,h3⟩:=kv_at kv h1
  exact ⟨v,rfl,go_of (s:={ s with heap:=h',toks:=tk }) e1 c1 d1 (by decide) ⟨kV k,H,I1,keyV h2,⟨rfl,k,v0,h3,rfl⟩,st1,fun b hb=>(hf b hb).1⟩⟩
 done:=by
  intro X hP hw hK hc i pins s σ H E I hf st hg
  subst hP hw hK
  obtain ⟨hg1,hg2⟩:=hg
  obtain ⟨z,y,vs,kv,dd⟩:=dictAt_of I.hok hg1
  obtain ⟨f0,f1,f2,f3,f4,f5⟩:=hf it (by simp)
  have hl:=kv.length
  have ne:a≠it:=fun q=>by rw [q,f0] at hg1; cases hg1
  have W:=Walks.dictKeys (prog:=X.prog) (w:=X.w) (knd:=mixKind X.prog X.w) (I.ok.hd hc) it a ne vs (epOf o)
  refine W.done s _ _ ⟨by rw [← hl,← hg2]; rw [← hg2] at st; exact st,dd⟩ fun h' tk kk=>⟨rfl,I.turned (fun b o hb e=>kk b o (by simpa using hb) e) f0 f1 f3 f4 f5⟩
 self:=fun _ _ _ _ _ st h=>wpAny_pyIter_keyiter st h
end D
namespace D
open PySem PySem.Spec PyProof.Rows L2
inductive W where
 | d (x:PyData) | tp (i:Nat) | loc (x:PyData)
noncomputable abbrev Tp:=List (List PyData)
noncomputable abbrev Rho:=List (Option W)
noncomputable def bnd {α β:Type} (o:Option (α×Tp)) (k:α→Tp→Option β):Option β:=match o with
 | some (a,T)=>k a T
 | none=>none
theorem bnd_of {α β:Type} {o:Option (α×Tp)} {k:α→Tp→Option β} {b:β} (h:bnd o k=some b):∃ a T,o=some (a,T)∧k a T=some b:=by
 cases o with
 | none=>cases h
 | some p=>exact ⟨p.1,p.2,rfl,h⟩
theorem bnd_mk {α β:Type} {a:α} {T:Tp} {k:α→Tp→Option β}:bnd (some (a,T)) k=k a T:=rfl
noncomputable def keyD:Key→PyData
 | .inl i=>.int i
 | .inr x=>.str x
noncomputable def TupAt (K:PySem.W.Frag) (O:Addr→Prop) (H:Hp) (a:Addr) (vs:List V):Prop:=(¬ O a∧Rd H a (.tup vs))∨SqT K (fun _=>none) a vs
noncomputable def LstAt (K:PySem.W.Frag) (O:Addr→Prop) (H:Hp) (a:Addr) (vs:List V):Prop:=(¬ O a∧Rd H a (.lst vs))∨SqL K (fun _=>none) a vs
theorem sqT_of {K:PySem.W.Frag} {H:Hp} {a:Addr} {vs:List V} (h:SqT K (fun _=>none) a vs):SqT K H a vs:=by
 rcases h with (h | ⟨o,h⟩) | h
 ·cases h
 ·cases h
 ·exact .inr h
theorem sqL_of {K:PySem.W.Frag} {H:Hp} {a:Addr} {vs:List V} (h:SqL K (fun _=>none) a vs):SqL K H a vs:=by
 rcases h with (h | ⟨o,h⟩) | h
 ·cases h
 ·cases h
 ·exact .inr h
theorem TupAt.sq {K:PySem.W.Frag} {O:Addr→Prop} {H:Hp} {a:Addr} {vs:List V} (h:TupAt K O H a vs):SqT K H a vs:=by
 rcases h with h | h
 ·exact .inl h.2
 ·exact sqT_of h
theorem LstAt.sq {K:PySem.W.Frag} {O:Addr→Prop} {H:Hp} {a:Addr} {vs:List V} (h:LstAt K O H a vs):SqL K H a vs:=by
 rcases h with h | h
 ·exact .inl h.2
 ·exact sqL_of h
mutual
inductive Rep (K:PySem.W.Frag) (O:Addr→Prop) (H:Hp):V→PyData→Prop where
 | non:Rep K O H .non .none
 | bl (b:Bool):Rep K O H (.bl b) (.bool b)
 | int (i:Int):Rep K O H (.int i) (.int i)
 | str (x:Str):Rep K O H (.str x) (.str x)
 | tup {a:Addr} {vs:List V} {ds:List PyData}:TupAt K O H a vs→Reps K O H vs ds→Rep K O H (.ref a) (.tuple ds)
 | lst {a:Addr} {vs:List V} {ds:List PyData}:LstAt K O H a vs→Reps K O H vs ds→Rep K O H (.ref a) (.list ds)
 | dct {a:Addr} {o:Obj} {kvs:List (Key×V)} {ds:List (PyData×PyData)}:¬ O a→H a=some (.frz o (.dK kvs))→RepK K O H kvs ds→Rep K O H (.ref a) (.dict ds)
inductive Reps (K:PySem.W.Frag) (O:Addr→Prop) (H:Hp):List V→List PyData→Prop where
 | nil:Reps K O H [] []
 | cons {v:V} {d:PyData} {vs:List V} {ds:List PyData}:Rep K O H v d→Reps K O H vs ds→Reps K O H (v::vs) (d::ds)
inductive RepK (K:PySem.W.Frag) (O:Addr→Prop) (H:Hp):List (Key×V)→List (PyData×PyData)→Prop where
 | nil:RepK K O H [] []
 | cons {k:Key} {v:V} {d:PyData} {kvs:List (Key×V)} {ds:List (PyData×PyData)}:Rep K O H v d→RepK K O H kvs ds→RepK K O H ((k,v)::kvs) ((keyD k,d)::ds)
end
noncomputable def Le (O:Addr→Prop) (H:Hp) (O':Addr→Prop) (H':Hp):Prop:=∀ a o,¬ O a→H a=some o→¬ O' a∧H' a=some o
theorem Le.trans {O O1 O2:Addr→Prop} {H H1 H2:Hp} (h:Le O H O1 H1) (g:Le O1 H1 O2 H2):Le O H O2 H2:=fun a o n e=>let ⟨n1,e1⟩:=h a o n e; g a o n1 e1
theorem TupAt.mono {K:PySem.W.Frag} {O O':Addr→Prop} {H H':Hp} (h:Le O H O' H') {a:Addr} {vs:List V} (t:TupAt K O H a vs):TupAt K O' H' a vs:=by
 rcases t with ⟨n,t | ⟨o,t⟩⟩ | t
 ·exact .inl ⟨(h _ _ n t).1,.inl (h _ _ n t).2⟩
 ·exact .inl ⟨(h _ _ n t).1,.inr ⟨o,(h _ _ n t).2⟩⟩
 ·exact .inr t
theorem LstAt.mono {K:PySem.W.Frag} {O O':Addr→Prop} {H H':Hp} (h:Le O H O' H') {a:Addr} {vs:List V} (t:LstAt K O H a vs):LstAt K O' H' a vs:=by
 rcases t with ⟨n,t | ⟨o,t⟩⟩ | t
 ·exact .inl ⟨(h _ _ n t).1,.inl (h _ _ n t).2⟩
 ·exact .inl ⟨(h _ _ n t).1,.inr ⟨o,(h _ _ n t).2⟩⟩
 ·exact .inr t
mutual
theorem Rep.mono {K:PySem.W.Frag} {O O':Addr→Prop} {H H':Hp} (e:Le O H O' H'):∀ {v:V} {d:PyData},Rep K O H v d→Rep K O' H' v d
 | _,_,.non=>.non
 | _,_,.bl b=>.bl b
 | _,_,.int i=>.int i
 | _,_,.str x=>.str x
 | _,_,.tup t r=>.tup (t.mono e) (Reps.mono e r)
 | _,_,.lst t r=>.lst (t.mono e) (Reps.mono e r)
 | _,_,.dct n h r=>.dct (e _ _ n h).1 (e _ _ n h).2 (RepK.mono e r)
theorem Reps.mono {K:PySem.W.Frag} {O O':Addr→Prop} {H H':Hp} (e:Le O H O' H'):∀ {vs:List V} {ds:List PyData},Reps K O H vs ds→Reps K O' H' vs ds
 | _,_,.nil=>.nil
 | _,_,.cons r t=>.cons (Rep.mono e r) (Reps.mono e t)
theorem RepK.mono {K:PySem.W.Frag} {O O':Addr→Prop} {H H':Hp} (e:Le O H O' H'):∀ {vs:List (Key×V)} {ds:List (PyData×PyData)},RepK K O H vs ds→RepK K O' H' vs ds
 | _,_,.nil=>.nil
 | _,_,.cons r t=>.cons (Rep.mono e r) (RepK.mono e t)
end
section
variable {K:PySem.W.Frag} {O:Addr→Prop} {H:Hp}
theorem Reps.length:∀ {vs:List V} {ds:List PyData},Reps K O H vs ds→vs.length=ds.length
 | _,_,.nil=>rfl
 | _,_,.cons _ t=>congrArg (· + 1) (Reps.length t)
theorem Reps.get:∀ {vs:List V} {ds:List PyData} {i:Nat} {v:V},Reps K O H vs ds→vs[i]? = some v→∃ d,ds[i]? = some d∧Rep K O H v d
 | _,_,_,_,.nil,e=>by simp at e
 | _,_,0,_,.cons r _,e=>by simp at e; subst e; exact ⟨_,rfl,r⟩
 | _,_,i + 1,v,.cons _ t,e=>by
  obtain ⟨d,h1,h2⟩:=Reps.get (i:=i) (v:=v) t (by simpa using e)
  exact ⟨d,by simpa using h1,h2⟩
theorem Reps.getD:∀ {vs:List V} {ds:List PyData} {i:Nat} {d:PyData},Reps K O H vs ds→ds[i]? = some d→∃ v,vs[i]? = some v∧Rep K O H v d
 | _,_,_,_,.nil,e=>by simp at e
 | _,_,0,_,.cons r _,e=>by simp at e; subst e; exact ⟨_,rfl,r⟩
 | _,_,i + 1,v,.cons _ t,e=>by
  obtain ⟨d,h1,h2⟩:=Reps.getD (i:=i) (d:=v) t (by simpa using e)
  exact ⟨d,by simpa using h1,h2⟩
theorem Reps.set {v:V} {d:PyData} (r:Rep K O H v d):∀ {vs:List V} {ds:List PyData} (i:Nat),Reps K O H vs ds→Reps K O H (vs.set i v) (ds.set i d)
 | _,_,_,.nil=>.nil
 | _,_,0,.cons _ t=>.cons r t
 | _,_,i + 1,.cons q t=>.cons q (Reps.set r i t)
theorem Reps.append {ws:List V} {es:List PyData}:∀ {vs:List V} {ds:List PyData},Reps K O H vs ds→Reps K O H ws es→Reps K O H (vs++ws) (ds++es)
 | _,_,.nil,r=>r
 | _,_,.cons q t,r=>.cons q (Reps.append t r)
theorem Reps.take:∀ {vs:List V} {ds:List PyData} (n:Nat),Reps K O H vs ds→Reps K O H (vs.take n) (ds.take n)
 | _,_,0,_=>.nil
 | _,_,_ + 1,.nil=>.nil
 | _,_,n + 1,.cons r t=>.cons r (Reps.take n t)
theorem Reps.drop:∀ {vs:List V} {ds:List PyData} (n:Nat),Reps K O H vs ds→Reps K O H (vs.drop n) (ds.drop n)
 | _,_,0,r=>r
 | _,_,_ + 1,.nil=>.nil
 | _,_,n + 1,.cons _ t=>Reps.drop n t
theorem Reps.rep {vs:List V} {ds:List PyData} (r:Reps K O H vs ds):∀ n:Nat,Reps K O H (List.replicate n vs).flatten (List.replicate n ds).flatten
 | 0=>.nil
 | n + 1=>by
  rw [List.replicate_succ,List.replicate_succ,List.flatten_cons,List.flatten_cons]
  exact r.append (r.rep n)
end
noncomputable def SameX (ts:List Addr) (H H':Hp):Prop:=∀ b o,b∉ts→H b=some o→H' b=some o
theorem SameX.refl (ts:List Addr) (H:Hp):SameX ts H H:=fun _ _ _ h=>h
theorem SameX.trans {ts:List Addr} {H H1 H2:Hp} (a:SameX ts H H1) (b:SameX ts H1 H2):SameX ts H H2:=fun c o n h=>b c o n (a c o n h)
theorem SameX.new {ts:List Addr} {H:Hp} {p:Addr} (h:H p=none) (o:HO):SameX ts H (upd H p o):=fun b u _ q=>by rw [upd_ne (ne_of_none q h)]; exact q
noncomputable def Mut (o:Option HO):Prop:=(∃ vs,o=some (.lst vs))∨(∃ kvs,o=some (.dK kvs))∨∃ C dx fs,o=some (.ins C dx fs)
theorem Mut.ex {o:Option HO} (h:Mut o):∃ u,o=some u:=by
 rcases h with ⟨vs,e⟩ | ⟨vs,e⟩ | ⟨C,dx,fs,e⟩ <;> exact ⟨_,e⟩
theorem Mut.to {o o':Option HO} (h:Mut o) (k:∀ u,o=some u→o'=some u):Mut o':=by
 rcases h with ⟨vs,e⟩ | ⟨vs,e⟩ | ⟨C,dx,fs,e⟩
 ·exact .inl ⟨vs,k _ e⟩
 ·exact .inr (.inl ⟨vs,k _ e⟩)
 ·exact .inr (.inr ⟨C,dx,fs,k _ e⟩)
noncomputable def tagO (C:Addr):PyData:=.dict [(.none,.int (C:Int))]
noncomputable def isO:List PyData→Bool
 | .dict [(.none,_)]::_=>true
 | _=>false
noncomputable def pairF (p:Str×PyData):PyData:=.tuple [.str p.1,p.2]
inductive RepF (K:PySem.W.Frag) (O:Addr→Prop) (H:Hp):List (Str×V)→List (Str×PyData)→Prop where
 | nil:RepF K O H [] []
 | cons {n:Str} {v:V} {d:PyData} {vs:List (Str×V)} {ds:List (Str×PyData)}:Rep K O H v d→RepF K O H vs ds→RepF K O H ((n,v)::vs) ((n,d)::ds)
theorem RepF.mono {K:PySem.W.Frag} {O O':Addr→Prop} {H H':Hp} (e:Le O H O' H') {vs:List (Str×V)} {ds:List (Str×PyData)} (r:RepF K O H vs ds):RepF K O' H' vs ds:=by
 induction r with
 | nil=>exact .nil
 | cons r _ ih=>exact .cons (Rep.mono e r) ih
noncomputable def RowAt (K:PySem.W.Frag) (O:Addr→Prop) (H:Hp) (a:Addr) (xs:List PyData):Prop:=
 (isO xs=false∧∃ vs,H a=some (.lst vs)∧Reps K O H vs xs)∨∃ C dx fs fd,H a=some (.ins C dx fs)∧xs=tagO C::fd.map pairF∧RepF K O H fs fd
theorem RowAt.mono {K:PySem.W.Frag} {O O':Addr→Prop} {H H':Hp} {a:Addr} {xs:List PyData} (h:RowAt K O H a xs) (k:∀ o,H a=some o→H' a=some o) (l:Le O H O' H'):RowAt K O' H' a xs:=by
 rcases h with ⟨n,vs,h1,h2⟩ | ⟨C,dx,fs,fd,h1,h2,h3⟩
 ·exact .inl ⟨n,vs,k _ h1,h2.mono l⟩
 ·exact .inr ⟨C,dx,fs,fd,k _ h1,h2,h3.mono l⟩
theorem RowAt.lst {K:PySem.W.Frag} {O:Addr→Prop} {H:Hp} {a:Addr} {xs:List PyData} (h:RowAt K O H a xs) (n:isO xs=false):∃ vs,H a=some (.lst vs)∧Reps K O H vs xs:=by
 rcases h with ⟨_,h⟩ | ⟨C,dx,fs,fd,h1,h2,h3⟩
 ·exact h
 ·rw [h2] at n
  cases n
theorem rep_tag {K:PySem.W.Frag} {O:Addr→Prop} {H:Hp} {v:V} {y:PyData} (h:Rep K O H v (.dict [(.none,y)])):False:=by
 cases h with
 | dct _ _ r=>
  generalize hl:[(PyData.none,y)]=l at r
  cases r with
  | nil=>cases hl
  | @cons k _ _ _ _ _ _=>
   injection hl with h1 _
   injection h1 with h1 _
   rcases k with i | x
   ·cases h1
   ·cases h1
theorem Reps.notO {K:PySem.W.Frag} {O:Addr→Prop} {H:Hp} {vs:List V} {xs:List PyData} (r:Reps K O H vs xs):isO xs=false:=by
 cases r with
 | nil=>rfl
 | cons h _=>
  rename_i d _ _ _
  unfold isO
  split
  ·rename_i e
   cases e
   exact (rep_tag h).elim
  ·rfl
structure HC (K:PySem.W.Frag) (O:Addr→Prop) (ts:List Addr) (H:Hp) (T:Tp):Prop where
 own:∀ b∈ts,O b
 trk:∀ b,O b→Mut (H b)
 nd:ts.Nodup
 len:ts.length=T.length
 tape:∀ (i:Nat) (a:Addr) (xs:List PyData),ts[i]? = some a→T[i]? = some xs→RowAt K O H a xs
section
variable {K:PySem.W.Frag} {O:Addr→Prop} {ts:List Addr} {H H':Hp} {T:Tp}
theorem HC.le (c:HC K O ts H T) (s:SameX ts H H'):Le O H O H':=fun a o n e=>⟨n,s a o (fun z=>n (c.own a z)) e⟩
theorem HC.step (c:HC K O ts H T) (s:SameX ts H H') (t:∀ b∈ts,H' b=H b):HC K O ts H' T where
 own:=c.own
 trk:=fun b hb=>by
  by_cases z:b∈ts
  ·rw [t b z]; exact c.trk b hb
  ·exact (c.trk b hb).to fun u e=>s b _ z e
 nd:=c.nd
 len:=c.len
 tape:=fun i a xs e1 e2=>by
  exact (c.tape i a xs e1 e2).mono (fun o h1=>by rw [t a (List.mem_of_getElem? e1)]; exact h1) (c.le s)
theorem HC.fresh (c:HC K O ts H T) {p:Addr} (h:H p=none):¬ O p:=fun z=>by
 obtain ⟨u,e⟩:=(c.trk p z).ex
 rw [h] at e
 cases e
theorem HC.new (c:HC K O ts H T) {p:Addr} (h:H p=none) (o:HO):HC K O ts (upd H p o) T:=
 c.step (.new h o) fun b hb=>upd_ne fun z=>c.fresh h (z ▸ c.own b hb)
theorem HC.leNew (c:HC K O ts H T) {p:Addr} (h:H p=none) (o:HO):Le O H O (upd H p o):=c.le (.new h o)
theorem HC.newT (c:HC K O ts H T) {p:Addr} (h:H p=none) {vs:List V} {ds:List PyData} (r:Reps K O H vs ds):Rep K O (upd H p (.tup vs)) (.ref p) (.tuple ds):=
 .tup (.inl ⟨c.fresh h,.inl upd_same⟩) (r.mono (c.leNew h _))
theorem HC.newL (c:HC K O ts H T) {p:Addr} (h:H p=none) {vs:List V} {ds:List PyData} (r:Reps K O H vs ds):Rep K O (upd H p (.lst vs)) (.ref p) (.list ds):=
 .lst (.inl ⟨c.fresh h,.inl upd_same⟩) (r.mono (c.leNew h _))
end
inductive Vw (K:PySem.W.Frag) (O:Addr→Prop) (H:Hp):V→PyData→Prop where
 | rep {v:V} {x:PyData}:Rep K O H v x→Vw K O H v x
 | raw {a:Addr} {vs:List V} {xs:List PyData}:H a=some (.lst vs)→Reps K O H vs xs→Vw K O H (.ref a) (.list xs)
 | rawD {a:Addr} {kvs:List (Key×V)} {ds:List (PyData×PyData)}:H a=some (.dK kvs)→RepK K O H kvs ds→Vw K O H (.ref a) (.dict ds)
section
variable {K:PySem.W.Frag} {O:Addr→Prop} {H:Hp} {v:V}
theorem Vw.int {i:Int} (h:Vw K O H v (.int i)):v=.int i:=by cases h with | rep h=>cases h; rfl
theorem Vw.str {x:Str} (h:Vw K O H v (.str x)):v=.str x:=by cases h with | rep h=>cases h; rfl
theorem Vw.bl {b:Bool} (h:Vw K O H v (.bool b)):v=.bl b:=by cases h with | rep h=>cases h; rfl
theorem Vw.non (h:Vw K O H v .none):v=.non:=by cases h with | rep h=>cases h; rfl
theorem Vw.tup {ds:List PyData} (h:Vw K O H v (.tuple ds)):∃ a vs,v=.ref a∧TupAt K O H a vs∧Reps K O H vs ds:=by
 cases h with | rep h=>cases h with | tup t r=>exact ⟨_,_,rfl,t,r⟩
theorem Vw.tupR {ds:List PyData} (h:Vw K O H v (.tuple ds)):Rep K O H v (.tuple ds):=by cases h with | rep h=>exact h
theorem Vw.lst {ds:List PyData} (h:Vw K O H v (.list ds)):∃ a vs,v=.ref a∧SqL K H a vs∧Reps K O H vs ds:=by
 cases h with
 | rep h=>cases h with | lst t r=>exact ⟨_,_,rfl,t.sq,r⟩
 | raw h r=>exact ⟨_,_,rfl,SqL.of h,r⟩
theorem Vw.dct {ds:List (PyData×PyData)} (h:Vw K O H v (.dict ds)):∃ a kvs,v=.ref a∧Rd H a (.dK kvs)∧RepK K O H kvs ds:=by
 cases h with
 | rep h=>cases h with | dct n t r=>exact ⟨_,_,rfl,.inr ⟨_,t⟩,r⟩
 | rawD t r=>exact ⟨_,_,rfl,.inl t,r⟩
end
noncomputable def OwnAt (K:PySem.W.Frag) (O:Addr→Prop) (H:Hp) (a:Addr):PyData→Prop
 | .list xs=>∃ vs,H a=some (.lst vs)∧Reps K O H vs xs
 | .dict ds=>∃ kvs,H a=some (.dK kvs)∧RepK K O H kvs ds
 | _=>False
theorem OwnAt.mono {K:PySem.W.Frag} {O O':Addr→Prop} {H H':Hp} {a:Addr} {x:PyData} (h:OwnAt K O H a x) (k:∀ o,H a=some o→H' a=some o) (l:Le O H O' H'):OwnAt K O' H' a x:=by
 cases x with
 | list xs=>obtain ⟨vs,h1,h2⟩:=h; exact ⟨vs,k _ h1,h2.mono l⟩
 | dict ds=>obtain ⟨vs,h1,h2⟩:=h; exact ⟨vs,k _ h1,h2.mono l⟩
 | _=>cases h
theorem OwnAt.some {K:PySem.W.Frag} {O:Addr→Prop} {H:Hp} {a:Addr} {x:PyData} (h:OwnAt K O H a x):∃ o,H a=some o:=by
 cases x with
 | list xs=>obtain ⟨vs,h1,h2⟩:=h; exact ⟨_,h1⟩
 | dict ds=>obtain ⟨vs,h1,h2⟩:=h; exact ⟨_,h1⟩
 | _=>cases h
noncomputable def RepW (K:PySem.W.Frag) (O:Addr→Prop) (ts:List Addr) (H:Hp) (v:V):W→Prop
 | .d x=>Rep K O H v x
 | .tp i=>∃ a,ts[i]? = some a∧v=.ref a
 | .loc x=>∃ a,v=.ref a∧O a∧a∉ts∧OwnAt K O H a x
noncomputable def rowV (xs:List PyData):Option PyData:=if isO xs=true then none else some (.list xs)
noncomputable def view (T:Tp):W→Option PyData
 | .d x=>some x
 | .tp i=>(T[i]?).bind rowV
 | .loc (.list xs)=>some (.list xs)
 | .loc (.dict ds)=>some (.dict ds)
 | .loc _=>none
noncomputable def views (T:Tp):List W→Option (List PyData)
 | []=>some []
 | w::r=>match view T w with
  | some x=>(match views T r with
   | some xs=>some (x::xs)
   | none=>none)
  | none=>none
noncomputable def RepWs (K:PySem.W.Frag) (O:Addr→Prop) (ts:List Addr) (H:Hp):List V→List W→Prop:=Paired fun v w=>RepW K O ts H v w
noncomputable def Vws (K:PySem.W.Frag) (O:Addr→Prop) (H:Hp):List V→List PyData→Prop:=Paired fun v x=>Vw K O H v x
noncomputable def RelE (K:PySem.W.Frag) (O:Addr→Prop) (ts:List Addr) (H:Hp) (σ:L2.St) (ρ:Rho):Prop:=∀ (i:Nat) (w:W),ρ[i]? = some (some w)→∃ v,σ[i]? = some (some v)∧RepW K O ts H v w
section
variable {K:PySem.W.Frag} {O:Addr→Prop} {ts:List Addr} {H H':Hp} {T:Tp} {v:V} {w:W}
theorem RepW.mono (r:RepW K O ts H v w) (c:HC K O ts H T) (s:SameX ts H H'):RepW K O ts H' v w:=by
 cases w with
 | d x=>exact Rep.mono (c.le s) r
 | tp i=>exact r
 | loc xs=>
  obtain ⟨a,e,h1,h2,h3⟩:=r
  exact ⟨a,e,h1,h2,h3.mono (fun o q=>s _ _ h2 q) (c.le s)⟩
theorem RelE.mono {σ:L2.St} {ρ:Rho} (r:RelE K O ts H σ ρ) (c:HC K O ts H T) (s:SameX ts H H'):RelE K O ts H' σ ρ:=fun i w e=>
 let ⟨v,h1,h2⟩:=r i w e; ⟨v,h1,h2.mono c s⟩
theorem RepWs.mono {vs:List V} {ws:List W} (r:RepWs K O ts H vs ws) (c:HC K O ts H T) (s:SameX ts H H'):RepWs K O ts H' vs ws:=Paired.mapP r fun _ _ h=>h.mono c s
theorem HC.view (c:HC K O ts H T) {x:PyData} (r:RepW K O ts H v w) (e:view T w=some x):Vw K O H v x:=by
 cases w with
 | d y=>cases e; exact .rep r
 | tp i=>
  obtain ⟨a,h1,rfl⟩:=r
  have e':(T[i]?).bind rowV=some x:=e
  cases ht:T[i]? with
  | none=>rw [ht] at e'; cases e'
  | some xs=>
   rw [ht] at e'
   have e2:(if isO xs=true then none else some (PyData.list xs))=some x:=e'
   split at e2
   ·cases e2
   ·rename_i hn
    cases e2
    obtain ⟨vs,h2,h3⟩:=(c.tape i a xs h1 ht).lst (by simpa using hn)
    exact .raw h2 h3
 | loc xs=>
  obtain ⟨a,rfl,_,_,h3⟩:=r
  cases xs with
  | list xs=>cases e; obtain ⟨vs,h1,h2⟩:=h3; exact .raw h1 h2
  | dict ds=>cases e; obtain ⟨vs,h1,h2⟩:=h3; exact .rawD h1 h2
  | _=>cases h3
theorem HC.views (c:HC K O ts H T):∀ {vs:List V} {ws:List W} {xs:List PyData},RepWs K O ts H vs ws→views T ws=some xs→Vws K O H vs xs
 | _,[],xs,.nil,e=>by cases e; exact .nil
 | _,w::r,xs,.cons h t,e=>by
  unfold D.views at e
  split at e
  ·rename_i x h1
   split at e
   ·rename_i ys h2
    cases e
    exact .cons (c.view h h1) (HC.views c t h2)
   ·cases e
  ·cases e
end
end D
namespace D
open PySem PySem.Spec PyProof.Rows L2
noncomputable def noStar:Expr→Bool
 | .Starred _ _=>false
 | _=>true
theorem star_cons {e:Expr} {es:List Expr} {env:Env} (h:noStar e=true):starEach (e::es) env=(false,eval e env)::starEach es env:=by
 cases e <;> first | rfl | cases h
theorem star_one {e:Expr} {env:Env} (h:noStar e=true):starEach [e] env=[(false,eval e env)]:=star_cons h
theorem star_any {env:Env} {pos:Pos}:∀ {es:List Expr},es.all noStar=true→(backTo pos (starEach es env)).any (·.1)=false
 | [],_=>rfl
 | e::r,h=>by
  rw [List.all_cons,Bool.and_eq_true] at h
  rw [star_cons h.1]
  show (false || (backTo pos (starEach r env)).any (·.1))=false
  rw [star_any h.2]
  rfl
theorem star_back {e:Expr} {es:List Expr} {env:Env} {pos:Pos} (h:noStar e=true):backTo pos (starEach (e::es) env)=(false,eval e env)::backTo pos (starEach es env):=by
 rw [star_cons h]
 rfl
theorem few1 {e:Expr} {env:Env} {cpos:Pos} (h:noStar e=true):((backTo cpos (starEach [e] env)).all (fun x=>!x.1) && (backToKw cpos (keywordEach [] env)).all (fun x=>x.1.isSome)
   && decide (([e]:List Expr).length + ([]:List Keyword).length + (if ([]:List Keyword).isEmpty then 0 else 1) < 30))=true:=by
 rw [star_one h]
 rfl
noncomputable abbrev FE:=Rho→Tp→Option (W×Tp)
noncomputable abbrev FT:=Rho→Tp→Option (Bool×Tp)
noncomputable abbrev FA:=Rho→Tp→Option (List W×Tp)
inductive LiftP (K:PySem.W.Frag) (f:FE) (σ:L2.St) (H:Hp) (Q:VK):Prop where
 | mk (O:Addr→Prop) (ts:List Addr) (ρ:Rho) (T:Tp) (w:W) (T':Tp) (hc:HC K O ts H T) (re:RelE K O ts H σ ρ) (e:f ρ T=some (w,T')) (q:∀ v H',SameX ts H H'→HC K O ts H' T'→RepW K O ts H' v w→Q v H'):LiftP K f σ H Q
noncomputable def lift (K:PySem.W.Frag) (f:FE):TE:=fun σ H Q=>LiftP K f σ H Q
inductive LiftTP (K:PySem.W.Frag) (f:FT) (σ:L2.St) (H:Hp) (Q:Bool→Hp→Prop):Prop where
 | mk (O:Addr→Prop) (ts:List Addr) (ρ:Rho) (T:Tp) (b:Bool) (T':Tp) (hc:HC K O ts H T) (re:RelE K O ts H σ ρ) (e:f ρ T=some (b,T')) (q:∀ H',SameX ts H H'→HC K O ts H' T'→Q b H'):LiftTP K f σ H Q
noncomputable def liftT (K:PySem.W.Frag) (f:FT):TT:=fun σ H Q=>LiftTP K f σ H Q
inductive LiftAP (K:PySem.W.Frag) (f:FA) (σ:L2.St) (H:Hp) (Q:List V→Hp→Prop):Prop where
 | mk (O:Addr→Prop) (ts:List Addr) (ρ:Rho) (T:Tp) (ws:List W) (T':Tp) (hc:HC K O ts H T) (re:RelE K O ts H σ ρ) (e:f ρ T=some (ws,T')) (q:∀ vs H',SameX ts H H'→HC K O ts H' T'→RepWs K O ts H' vs ws→Q vs H'):LiftAP K f σ H Q
noncomputable def liftA (K:PySem.W.Frag) (f:FA):TA:=fun σ H Q=>LiftAP K f σ H Q
structure DE (X:Cx) (e:Expr) (f:FE):Prop where
 pe:PE X e (lift X.K f)
structure DT (X:Cx) (e:Expr) (f:FT):Prop where
 pe:PT X e (liftT X.K f)
structure DW (X:Cx) (e:Expr) (f:FT):Prop where
 pe:PW X e (liftT X.K f)
structure DA (X:Cx) (es:List Expr) (f:FA):Prop where
 pe:PA X es (liftA X.K f)
theorem pe_imp {X:Cx} {e:Expr} {t t':TE} (h:PE X e t) (i:∀ σ H Q,t' σ H Q→t σ H Q):PE X e t':=fun pins s σ H Q I q=>h pins s σ H Q I (i σ H Q q)
theorem pt_imp {X:Cx} {e:Expr} {t t':TT} (h:PT X e t) (i:∀ σ H Q,t' σ H Q→t σ H Q):PT X e t':=fun pins s σ H Q I q=>h pins s σ H Q I (i σ H Q q)
theorem pw_imp {X:Cx} {e:Expr} {t t':TT} (h:PW X e t) (i:∀ σ H Q,t' σ H Q→t σ H Q):PW X e t':=fun wh pins s σ H Q I q=>h wh pins s σ H Q I (i σ H Q q)
theorem pa_imp {X:Cx} {e:List Expr} {t t':TA} (h:PA X e t) (i:∀ σ H Q,t' σ H Q→t σ H Q):PA X e t':=fun po pins s σ H Q I q=>h po pins s σ H Q I (i σ H Q q)
noncomputable def fVar (i:Nat):FE:=fun ρ T=>match ρ[i]? with
 | some (some w)=>some (w,T)
 | _=>none
noncomputable def fC (x:PyData):FE:=fun _ T=>some (.d x,T)
section
variable {X:Cx} {pos:Pos}
theorem de_var (i:Nat) {x:Str} (hN:X.N[i]? = some x:=by rfl) (hv:Vis X.env.scope x:=by first | exact Or.inl rfl | exact Or.inr (Or.inl rfl) | exact Or.inr (Or.inr rfl)) (hd:(x == ("__debug__" : Str))=false:=by decide)
  (hcd:(x == ("__classdict__" : Str))=false:=by decide):DE X (.Name x pos) (fVar i):=by
 refine ⟨?_⟩
 refine pe_imp (pv i hN hv hd hcd) fun σ H Q=>?_
 rintro ⟨O,ts,ρ,T,w,T',hc,re,e,q⟩
 unfold fVar at e
 split at e
 ·rename_i w' he
  cases e
  obtain ⟨v,h1,h2⟩:=re i _ he
  exact ⟨v,h1,q v H (.refl _ _) hc h2⟩
 ·cases e
theorem lift_c {x:PyData} {v:V} (h:∀ O H,Rep X.K O H v x):∀ σ H Q,lift X.K (fC x) σ H Q→tC v σ H Q:=by
 rintro σ H Q ⟨O,ts,ρ,T,w,T',hc,re,e,q⟩
 cases e
 exact q v H (.refl _ _) hc (h O H)
theorem de_int {i j}:DE X (.Constant (.int i) j pos) (fC (.int i)):=⟨pe_imp pe_int (lift_c fun _ _=>.int i)⟩
theorem de_bl {i j}:DE X (.Constant (.bool i) j pos) (fC (.bool i)):=⟨pe_imp pe_bl (lift_c fun _ _=>.bl i)⟩
theorem de_str {i j}:DE X (.Constant (.str i) j pos) (fC (.str i)):=⟨pe_imp pe_str (lift_c fun _ _=>.str i)⟩
theorem de_globI {x:Str} {i:Int} (hg:Gl X x) (hm:∃ t,X.mg x=some (.int i t)) (hd:(x == ("__debug__" : Str))=false:=by decide):DE X (.Name x pos) (fC (.int i)):=by
 refine ⟨?_⟩
 obtain ⟨t,hm⟩:=hm
 exact pe_imp (pe_glob (v:=.int i) hg hm ⟨t,rfl⟩ hd) (lift_c fun _ _=>.int i)
theorem de_globS {x:Str} {i:Str} (hg:Gl X x) (hm:∃ t,X.mg x=some (.str i t)) (hd:(x == ("__debug__" : Str))=false:=by decide):DE X (.Name x pos) (fC (.str i)):=by
 refine ⟨?_⟩
 obtain ⟨t,hm⟩:=hm
 exact pe_imp (pe_glob (v:=.str i) hg hm ⟨t,rfl⟩ hd) (lift_c fun _ _=>.str i)
end
noncomputable def op1 (g:PyData→Option PyData) (T:Tp) (w:W):Option (W×Tp):=match view T w with
 | some x=>match g x with
  | some d=>some (.d d,T)
  | none=>none
 | none=>none
noncomputable def op2 (g:PyData→PyData→Option PyData) (T:Tp) (w1 w2:W):Option (W×Tp):=match view T w1,view T w2 with
 | some x,some y=>match g x y with
  | some d=>some (.d d,T)
  | none=>none
 | _,_=>none
theorem op1_of {g:PyData→Option PyData} {T T':Tp} {w1 w:W} (e:op1 g T w1=some (w,T')):∃ x d,view T w1=some x∧g x=some d∧w=.d d∧T'=T:=by
 unfold op1 at e
 split at e
 ·rename_i x h1
  split at e
  ·rename_i d h3
   cases e
   exact ⟨x,d,h1,h3,rfl,rfl⟩
  ·cases e
 ·cases e
theorem op2_of {g:PyData→PyData→Option PyData} {T T':Tp} {w1 w2 w:W} (e:op2 g T w1 w2=some (w,T')):∃ x y d,view T w1=some x∧view T w2=some y∧g x y=some d∧w=.d d∧T'=T:=by
 unfold op2 at e
 split at e
 ·rename_i x y h1 h2
  split at e
  ·rename_i d h3
   cases e
   exact ⟨x,y,d,h1,h2,h3,rfl,rfl⟩
  ·cases e
 ·cases e
noncomputable def fBin (g:PyData→PyData→Option PyData) (fa fb:FE):FE:=fun ρ T=>bnd (fa ρ T) fun w1 T1=>bnd (fb ρ T1) fun w2 T2=>op2 g T2 w1 w2
noncomputable def fUn (g:PyData→Option PyData) (fa:FE):FE:=fun ρ T=>bnd (fa ρ T) fun w1 T1=>op1 g T1 w1
noncomputable def Snd2 (K:PySem.W.Frag) (r:R2) (g:PyData→PyData→Option PyData):Prop:=∀ (O:Addr→Prop) (ts:List Addr) (H:Hp) (T:Tp) (v1 v2:V) (x y d:PyData) (Q:VK),HC K O ts H T→Vw K O H v1 x→Vw K O H v2 y→g x y=some d →
 (∀ v H',SameX ts H H'→HC K O ts H' T→Rep K O H' v d→Q v H')→r v1 v2 H Q
noncomputable def Snd1 (K:PySem.W.Frag) (r:V→Hp→VK→Prop) (g:PyData→Option PyData):Prop:=∀ (O:Addr→Prop) (ts:List Addr) (H:Hp) (T:Tp) (v1:V) (x d:PyData) (Q:VK),HC K O ts H T→Vw K O H v1 x→g x=some d →
 (∀ v H',SameX ts H H'→HC K O ts H' T→Rep K O H' v d→Q v H')→r v1 H Q
noncomputable def OpD (X:Cx) (f:Value→Value→Sem Value) (g:PyData→PyData→Option PyData):Prop:=∃ r,OpR X f r∧Snd2 X.K r g
noncomputable def IxD (X:Cx) (g:PyData→PyData→Option PyData):Prop:=∃ r,IxR X r∧Snd2 X.K r g
theorem bin_imp {K:PySem.W.Frag} {r:R2} {g:PyData→PyData→Option PyData} {fa fb:FE} (snd:Snd2 K r g) {σ:L2.St} {H:Hp} {Q:VK} (h:lift K (fBin g fa fb) σ H Q):tOp r (lift K fa) (lift K fb) σ H Q:=by
 obtain ⟨O,ts,ρ,T,w,T',hc,re,e,q⟩:=h
 obtain ⟨w1,T1,e1,e⟩:=bnd_of e
 obtain ⟨w2,T2,e2,e⟩:=bnd_of e
 obtain ⟨x,y,d,h1,h2,h3,rfl,rfl⟩:=op2_of e
 refine ⟨O,ts,ρ,T,w1,T1,hc,re,e1,fun v1 H1 s1 hc1 r1=>?_⟩
 refine ⟨O,ts,ρ,T1,w2,T',hc1,re.mono hc s1,e2,fun v2 H2 s2 hc2 r2=>?_⟩
 exact snd O ts H2 T' v1 v2 x y d Q hc2 (hc2.view (r1.mono hc1 s2) h1) (hc2.view r2 h2) h3 fun v H' s3 hc3 r3=>q v H' (s1.trans (s2.trans s3)) hc3 r3
noncomputable def asB:W→Option Bool
 | .d (.bool b)=>some b
 | _=>none
theorem asB_of {w:W} {b:Bool} (h:asB w=some b):w=.d (.bool b):=by
 unfold asB at h
 split at h
 ·cases h; rfl
 ·cases h
noncomputable def fTst (f:FE):FT:=fun ρ T=>bnd (f ρ T) fun w T1=>match asB w with
 | some b=>some (b,T1)
 | none=>none
theorem tst_imp {K:PySem.W.Frag} {f:FE} {σ:L2.St} {H:Hp} {Q:Bool→Hp→Prop} (h:liftT K (fTst f) σ H Q):lift K f σ H fun x H'=>∃ k,x=.bl k∧Q k H':=by
 obtain ⟨O,ts,ρ,T,w,T',hc,re,e,q⟩:=h
 obtain ⟨w1,T1,e1,e⟩:=bnd_of e
 refine ⟨O,ts,ρ,T,w1,T1,hc,re,e1,fun v1 H1 s1 hc1 r1=>?_⟩
 split at e
 ·rename_i b hb
  cases e
  have hw:=asB_of hb
  subst hw
  cases (show Rep K O H1 v1 _ from r1)
  exact ⟨_,rfl,q H1 s1 hc1⟩
 ·cases e
section
variable {X:Cx} {pos:Pos} {a b c:Expr} {fa fb fc:FE} {g g':PyData→PyData→Option PyData}
theorem de_bin {op:Operator} (ho:OpD X (binaryOp op) g) (ha:DE X a fa) (hb:DE X b fb):DE X (.BinOp a op b pos) (fBin g fa fb):=by
 refine ⟨?_⟩
 obtain ⟨r,hr,snd⟩:=ho
 exact pe_imp (pe_op hr ha.pe hb.pe) fun σ H Q=>bin_imp snd
theorem de_cmp {op:CmpOp} (ho:OpD X (compareOp op) g) (ha:DE X a fa) (hb:DE X b fb) (hm:behindInMarks op b=false:=by first | exact nomark _ | with_unfolding_all rfl):DE X (.Compare a [op] [b] pos) (fBin g fa fb):=by
 refine ⟨?_⟩
 obtain ⟨r,hr,snd⟩:=ho
 exact pe_imp (pe_cmpR hr ha.pe hb.pe hm) fun σ H Q=>bin_imp snd
theorem dt_cmp {op:CmpOp} (ho:OpD X (compareOp op) g) (ha:DE X a fa) (hb:DE X b fb) (hm:behindInMarks op b=false:=by first | exact nomark _ | with_unfolding_all rfl):DT X (.Compare a [op] [b] pos) (fTst (fBin g fa fb)):=by
 refine ⟨?_⟩
 obtain ⟨r,hr,snd⟩:=ho
 exact pt_imp (pt_cmpR hr ha.pe hb.pe hm) fun σ H Q h=>bin_imp snd (tst_imp h)
theorem de_ix (ho:IxD X g) (ha:DE X a fa) (hb:DE X b fb) (hs:PlainIx b:=by exact fun _ _=>rfl):DE X (.Subscript a b pos) (fBin g fa fb):=by
 refine ⟨?_⟩
 obtain ⟨r,hr,snd⟩:=ho
 exact pe_imp (pe_ix hr ha.pe hb.pe hs) fun σ H Q=>bin_imp snd
noncomputable def fChain (g g':PyData→PyData→Option PyData) (fa fb fc:FE):FE:=fun ρ T=>bnd (fa ρ T) fun w1 T1=>bnd (fb ρ T1) fun w2 T2=>bnd (op2 g T2 w1 w2) fun w T3=>match asB w with
 | some b=>if b=true then bnd (fc ρ T3) fun w3 T4=>op2 g' T4 w2 w3 else some (.d (.bool false),T3)
 | none=>none
theorem chain_imp {K:PySem.W.Frag} {r r':R2} (snd:Snd2 K r g) (snd':Snd2 K r' g') {σ:L2.St} {H:Hp} {Q:VK} (h:lift K (fChain g g' fa fb fc) σ H Q):tChain r r' (lift K fa) (lift K fb) (lift K fc) σ H Q:=by
 obtain ⟨O,ts,ρ,T,w,T',hc,re,e,q⟩:=h
 obtain ⟨w1,T1,e1,e⟩:=bnd_of e
 obtain ⟨w2,T2,e2,e⟩:=bnd_of e
 obtain ⟨wz,T3,e3,ez⟩:=bnd_of e
 obtain ⟨x,y,d,h1,h2,h3,rfl,rfl⟩:=op2_of e3
 clear e
 refine ⟨O,ts,ρ,T,w1,T1,hc,re,e1,fun v1 H1 s1 hc1 r1=>?_⟩
 refine ⟨O,ts,ρ,T1,w2,T3,hc1,re.mono hc s1,e2,fun v2 H2 s2 hc2 r2=>?_⟩
 refine snd O ts H2 T3 v1 v2 x y d _ hc2 (hc2.view (r1.mono hc1 s2) h1) (hc2.view r2 h2) h3 fun v H3 s3 hc3 r3=>?_
 split at ez
 ·rename_i b hb
  have hd:=asB_of hb
  injection hd with hd
  subst hd
  cases r3
  cases b with
  | true=>
   rw [if_pos rfl] at ez
   refine ⟨true,rfl,iteT ?_⟩
   obtain ⟨w3,T4,e4,e5⟩:=bnd_of ez
   obtain ⟨x',y',d',h1',h2',h3',rfl,rfl⟩:=op2_of e5
   refine ⟨O,ts,ρ,T3,w3,T',hc3,(re.mono hc (s1.trans (s2.trans s3))),e4,fun v3 H4 s4 hc4 r4=>?_⟩
   exact snd' O ts H4 T' v2 v3 x' y' d' Q hc4 (hc4.view (r2.mono hc2 (s3.trans s4)) h1') (hc4.view r4 h2') h3' fun v H' s5 hc5 r5=>q v H' (s1.trans (s2.trans (s3.trans (s4.trans s5)))) hc5 r5
  | false=>
   rw [if_neg Bool.false_ne_true] at ez
   cases ez
   exact ⟨false,rfl,iteF (q _ H3 (s1.trans (s2.trans s3)) hc3 (.bl false))⟩
 ·cases ez
theorem de_chain {op op':CmpOp} (ho:OpD X (compareOp op) g) (ho':OpD X (compareOp op') g') (ha:DE X a fa) (hb:DE X b fb) (hc:DE X c fc)
  (hm:lastMarks [op,op'] [b,c]=false:=by with_unfolding_all rfl):DE X (.Compare a [op,op'] [b,c] pos) (fChain g g' fa fb fc):=by
 refine ⟨?_⟩
 obtain ⟨r,hr,snd⟩:=ho
 obtain ⟨r',hr',snd'⟩:=ho'
 exact pe_imp (pe_chain hr hr' ha.pe hb.pe hc.pe hm) fun σ H Q=>chain_imp snd snd'
noncomputable def truD:PyData→Option Bool
 | .none=>some false
 | .bool b=>some b
 | .int i=>some (i != 0)
 | .str y=>if y.length≤sizeLine then some ((y.length:Int) != 0) else none
 | .list xs=>some (!xs.isEmpty)
 | .tuple xs=>some (!xs.isEmpty)
 | .dict _=>none
noncomputable def tru1 (T:Tp) (w:W):Option (Bool×Tp):=match view T w with
 | some x=>match truD x with
  | some b=>some (b,T)
  | none=>none
 | none=>none
noncomputable def fTru (f:FE):FT:=fun ρ T=>bnd (f ρ T) fun w T1=>tru1 T1 w
theorem reps_empty {K:PySem.W.Frag} {O:Addr→Prop} {H:Hp} {vs:List V} {ds:List PyData} (r:Reps K O H vs ds):vs.isEmpty=ds.isEmpty:=by cases r <;> rfl
theorem tru_of {K:PySem.W.Frag} {O:Addr→Prop} {H:Hp} {v:V} {x:PyData} {b:Bool} (h:Vw K O H v x) (e:truD x=some b):TruV K v H b:=by
 cases x with
 | none=>cases h.non; cases e; rfl
 | bool c=>cases h.bl; cases e; rfl
 | int i=>cases h.int; cases e; rfl
 | str y=>
  cases h.str
  have e':(if y.length≤sizeLine then some ((y.length:Int) != 0) else none)=some b:=e
  split at e'
  ·rename_i hl
   cases e'
   exact ⟨hl,rfl⟩
  ·cases e'
 | list xs=>
  obtain ⟨a,vs,rfl,h1,h2⟩:=h.lst
  cases e
  exact .inl ⟨vs,h1,by rw [reps_empty h2]⟩
 | tuple xs=>
  obtain ⟨a,vs,rfl,h1,h2⟩:=h.tup
  cases e
  exact .inr (.inl ⟨vs,h1.sq,by rw [reps_empty h2]⟩)
 | dict kvs=>
  cases e
theorem dt_tru (ha:DE X a fa) (he:∀ whole,isTrue a X.env whole=(do let v ← whole; standAt a.pos; holding [v] (truthy v)):=by intro _; rfl):DT X a (fTru fa):=by
 refine ⟨?_⟩
 refine pt_imp (pt_truth ha.pe he) fun σ H Q=>?_
 rintro ⟨O,ts,ρ,T,b,T',hc,re,e,q⟩
 obtain ⟨w1,T1,e1,e⟩:=bnd_of e
 refine ⟨O,ts,ρ,T,w1,T1,hc,re,e1,fun v1 H1 s1 hc1 r1=>?_⟩
 unfold tru1 at e
 split at e
 ·rename_i x h1
  split at e
  ·rename_i k h2
   cases e
   exact ⟨b,tru_of (hc1.view r1 h1) h2,q H1 s1 hc1⟩
  ·cases e
 ·cases e
noncomputable def fAndT (f g:FT):FT:=fun ρ T=>bnd (f ρ T) fun b T1=>if b=true then g ρ T1 else some (false,T1)
noncomputable def fOrT (f g:FT):FT:=fun ρ T=>bnd (f ρ T) fun b T1=>if b=true then some (true,T1) else g ρ T1
noncomputable def fNotT (f:FT):FT:=fun ρ T=>bnd (f ρ T) fun b T1=>some (!b,T1)
variable {ta tb:FT} {rest:List Expr}
theorem dw_pt {f:FT} (h:DW X a f):DT X a f:=⟨PW.pt h.pe⟩
theorem dw_and1 (ha:DT X a ta):DW X (.BoolOp .And [a] pos) ta:=⟨pw_and1 ha.pe⟩
theorem dw_or1 (ha:DT X a ta):DW X (.BoolOp .Or [a] pos) ta:=⟨pw_or1 ha.pe⟩
theorem dw_and (ha:DT X a ta) (hb:DW X (.BoolOp .And (b::rest) pos) tb):DW X (.BoolOp .And (a::b::rest) pos) (fAndT ta tb):=by
 refine ⟨?_⟩
 refine pw_imp (pw_and ha.pe hb.pe) fun σ H Q=>?_
 rintro ⟨O,ts,ρ,T,b,T',hc,re,e,q⟩
 obtain ⟨b1,T1,e1,e⟩:=bnd_of e
 refine ⟨O,ts,ρ,T,b1,T1,hc,re,e1,fun H1 s1 hc1=>?_⟩
 cases b1 with
 | true=>exact iteT ⟨O,ts,ρ,T1,b,T',hc1,re.mono hc s1,by simpa using e,fun H2 s2 hc2=>q H2 (s1.trans s2) hc2⟩
 | false=>
  have e':some (false,T1)=some (b,T'):=by simpa using e
  cases e'
  exact iteF (q H1 s1 hc1)
theorem dw_or (ha:DT X a ta) (hb:DW X (.BoolOp .Or (b::rest) pos) tb):DW X (.BoolOp .Or (a::b::rest) pos) (fOrT ta tb):=by
 refine ⟨?_⟩
 refine pw_imp (pw_or ha.pe hb.pe) fun σ H Q=>?_
 rintro ⟨O,ts,ρ,T,b,T',hc,re,e,q⟩
 obtain ⟨b1,T1,e1,e⟩:=bnd_of e
 refine ⟨O,ts,ρ,T,b1,T1,hc,re,e1,fun H1 s1 hc1=>?_⟩
 cases b1 with
 | false=>exact iteF ⟨O,ts,ρ,T1,b,T',hc1,re.mono hc s1,by simpa using e,fun H2 s2 hc2=>q H2 (s1.trans s2) hc2⟩
 | true=>
  have e':some (true,T1)=some (b,T'):=by simpa using e
  cases e'
  exact iteT (q H1 s1 hc1)
theorem dt_not (ha:DT X a ta):DT X (.UnaryOp .Not a pos) (fNotT ta):=by
 refine ⟨?_⟩
 refine pt_imp (pt_not ha.pe) fun σ H Q=>?_
 rintro ⟨O,ts,ρ,T,b,T',hc,re,e,q⟩
 obtain ⟨b1,T1,e1,e⟩:=bnd_of e
 cases e
 exact ⟨O,ts,ρ,T,b1,T',hc,re,e1,fun H1 s1 hc1=>q H1 s1 hc1⟩
noncomputable def fAndV (f g:FE):FE:=fun ρ T=>bnd (f ρ T) fun w T1=>match asB w with
 | some b=>if b=true then g ρ T1 else some (.d (.bool false),T1)
 | none=>none
noncomputable def fOrV (f g:FE):FE:=fun ρ T=>bnd (f ρ T) fun w T1=>match asB w with
 | some b=>if b=true then some (.d (.bool true),T1) else g ρ T1
 | none=>none
noncomputable def fNotV (f:FE):FE:=fun ρ T=>bnd (f ρ T) fun w T1=>match asB w with
 | some b=>some (.d (.bool (!b)),T1)
 | none=>none
theorem de_one {op} (h:DE X a fa):DE X (.BoolOp op [a] pos) fa:=⟨pe_one h.pe⟩
theorem de_and (ha:DE X a fa) (hb:DE X (.BoolOp .And (b::rest) pos) fb):DE X (.BoolOp .And (a::b::rest) pos) (fAndV fa fb):=by
 refine ⟨?_⟩
 refine pe_imp (pe_and ha.pe hb.pe) fun σ H Q=>?_
 rintro ⟨O,ts,ρ,T,w,T',hc,re,e,q⟩
 obtain ⟨w1,T1,e1,e⟩:=bnd_of e
 refine ⟨O,ts,ρ,T,w1,T1,hc,re,e1,fun v1 H1 s1 hc1 r1=>?_⟩
 split at e
 ·rename_i b hb
  have hw:=asB_of hb
  subst hw
  cases (show Rep X.K O H1 v1 _ from r1)
  cases b with
  | true=>exact ⟨_,rfl,iteT ⟨O,ts,ρ,T1,w,T',hc1,re.mono hc s1,by simpa using e,fun v H2 s2 hc2 r2=>q v H2 (s1.trans s2) hc2 r2⟩⟩
  | false=>
   rw [if_neg Bool.false_ne_true] at e
   cases e
   exact ⟨_,rfl,iteF (q _ H1 s1 hc1 (.bl false))⟩
 ·cases e
theorem de_or (ha:DE X a fa) (hb:DE X (.BoolOp .Or (b::rest) pos) fb):DE X (.BoolOp .Or (a::b::rest) pos) (fOrV fa fb):=by
 refine ⟨?_⟩
 refine pe_imp (pe_or ha.pe hb.pe) fun σ H Q=>?_
 rintro ⟨O,ts,ρ,T,w,T',hc,re,e,q⟩
 obtain ⟨w1,T1,e1,e⟩:=bnd_of e
 refine ⟨O,ts,ρ,T,w1,T1,hc,re,e1,fun v1 H1 s1 hc1 r1=>?_⟩
 split at e
 ·rename_i b hb
  have hw:=asB_of hb
  subst hw
  cases (show Rep X.K O H1 v1 _ from r1)
  cases b with
  | false=>exact ⟨_,rfl,iteF ⟨O,ts,ρ,T1,w,T',hc1,re.mono hc s1,by simpa using e,fun v H2 s2 hc2 r2=>q v H2 (s1.trans s2) hc2 r2⟩⟩
  | true=>
   rw [if_pos rfl] at e
   cases e
   exact ⟨_,rfl,iteT (q _ H1 s1 hc1 (.bl true))⟩
 ·cases e
theorem de_not (ha:DE X a fa):DE X (.UnaryOp .Not a pos) (fNotV fa):=by
 refine ⟨?_⟩
 refine pe_imp (pe_not ha.pe) fun σ H Q=>?_
 rintro ⟨O,ts,ρ,T,w,T',hc,re,e,q⟩
 obtain ⟨w1,T1,e1,e⟩:=bnd_of e
 refine ⟨O,ts,ρ,T,w1,T1,hc,re,e1,fun v1 H1 s1 hc1 r1=>?_⟩
 split at e
 ·rename_i b hb
  have hw:=asB_of hb
  subst hw
  cases (show Rep X.K O H1 v1 _ from r1)
  cases e
  exact ⟨_,rfl,q _ H1 s1 hc1 (.bl _)⟩
 ·cases e
noncomputable def fIfE (c:FT) (f g:FE):FE:=fun ρ T=>bnd (c ρ T) fun b T1=>if b=true then f ρ T1 else g ρ T1
theorem de_if (hc:DT X c ta) (ha:DE X a fa) (hb:DE X b fb):DE X (.IfExp c a b pos) (fIfE ta fa fb):=by
 refine ⟨?_⟩
 refine pe_imp (pe_ifExp hc.pe ha.pe hb.pe) fun σ H Q=>?_
 rintro ⟨O,ts,ρ,T,w,T',hc,re,e,q⟩
 obtain ⟨b1,T1,e1,e⟩:=bnd_of e
 refine ⟨O,ts,ρ,T,b1,T1,hc,re,e1,fun H1 s1 hc1=>?_⟩
 cases b1 with
 | true=>exact iteT ⟨O,ts,ρ,T1,w,T',hc1,re.mono hc s1,by simpa using e,fun v H2 s2 hc2 r2=>q v H2 (s1.trans s2) hc2 r2⟩
 | false=>exact iteF ⟨O,ts,ρ,T1,w,T',hc1,re.mono hc s1,by simpa using e,fun v H2 s2 hc2 r2=>q v H2 (s1.trans s2) hc2 r2⟩
theorem de_un {op:UnaryOp} {r:V→Hp→VK→Prop} {g1:PyData→Option PyData} (hr:UnR X (unaryOp op) r) (snd:Snd1 X.K r g1) (ha:DE X a fa):DE X (.UnaryOp op a pos) (fUn g1 fa):=by
 refine ⟨?_⟩
 refine pe_imp (pe_un hr ha.pe) fun σ H Q=>?_
 rintro ⟨O,ts,ρ,T,w,T',hc,re,e,q⟩
 obtain ⟨w1,T1,e1,e⟩:=bnd_of e
 obtain ⟨x,d,h1,h3,rfl,rfl⟩:=op1_of e
 refine ⟨O,ts,ρ,T,w1,T',hc,re,e1,fun v1 H1 s1 hc1 r1=>?_⟩
 exact snd O ts H1 T' v1 x d Q hc1 (hc1.view r1 h1) h3 fun v H' s3 hc3 r3=>q v H' (s1.trans s3) hc3 r3
end
noncomputable def fNil:FA:=fun _ T=>some ([],T)
noncomputable def fCons (f:FE) (g:FA):FA:=fun ρ T=>bnd (f ρ T) fun w T1=>bnd (g ρ T1) fun ws T2=>some (w::ws,T2)
noncomputable def datas:List W→Option (List PyData)
 | []=>some []
 | .d x::r=>match datas r with
  | some xs=>some (x::xs)
  | none=>none
 | _::_=>none
theorem datas_of {K:PySem.W.Frag} {O:Addr→Prop} {ts:List Addr} {H:Hp}:∀ {vs:List V} {ws:List W} {xs:List PyData},RepWs K O ts H vs ws→datas ws=some xs→Reps K O H vs xs
 | _,[],_,.nil,e=>by cases e; exact .nil
 | _,.d x::r,xs,.cons h t,e=>by
  unfold datas at e
  split at e
  ·rename_i ys h2
   cases e
   exact .cons h (datas_of t h2)
  ·cases e
 | _,.tp _::_,_,.cons _ _,e=>by cases e
 | _,.loc _::_,_,.cons _ _,e=>by cases e
noncomputable def fSeqD (mk:List PyData→PyData) (f:FA):FE:=fun ρ T=>bnd (f ρ T) fun ws T1=>match datas ws with
 | some xs=>if xs.length≤1000 then some (.d (mk xs),T1) else none
 | none=>none
theorem le_line {n:Nat} (h:n≤1000):n≤sizeLine:=Nat.le_trans h (by decide)
noncomputable def CallD (X:Cx) (f:Value) (g:List PyData→Option PyData):Prop:=∃ r,CallR X f r∧∀ (O:Addr→Prop) (ts:List Addr) (H:Hp) (T:Tp) (vs:List V) (xs:List PyData) (d:PyData) (Q:VK),HC X.K O ts H T→Vws X.K O H vs xs→g xs=some d →
 (∀ v H',SameX ts H H'→HC X.K O ts H' T→Rep X.K O H' v d→Q v H')→r vs H Q
noncomputable def fCB (g:List PyData→Option PyData) (f:FA):FE:=fun ρ T=>bnd (f ρ T) fun ws T1=>match views T1 ws with
 | some xs=>match g xs with
  | some d=>some (.d d,T1)
  | none=>none
 | none=>none
section
variable {X:Cx} {pos p:Pos} {e:Expr} {es:List Expr} {f:FE} {g:FA}
theorem da_nil:DA X [] fNil:=by
 refine ⟨?_⟩
 refine pa_imp pa_nil fun σ H Q=>?_
 rintro ⟨O,ts,ρ,T,w,T',hc,re,e,q⟩
 cases e
 exact q [] H (.refl _ _) hc .nil
theorem da_cons (ha:DE X e f) (hr:DA X es g) (hs:starEach (e::es) X.env=(false,eval e X.env)::starEach es X.env:=by exact star_cons rfl):DA X (e::es) (fCons f g):=by
 refine ⟨?_⟩
 refine pa_imp (pa_cons ha.pe hr.pe hs) fun σ H Q=>?_
 rintro ⟨O,ts,ρ,T,w,T',hc,re,e,q⟩
 obtain ⟨w1,T1,e1,e⟩:=bnd_of e
 obtain ⟨ws,T2,e2,e⟩:=bnd_of e
 cases e
 refine ⟨O,ts,ρ,T,w1,T1,hc,re,e1,fun v1 H1 s1 hc1 r1=>?_⟩
 exact ⟨O,ts,ρ,T1,ws,_,hc1,re.mono hc s1,e2,fun vs H2 s2 hc2 r2=>q _ H2 (s1.trans s2) hc2 (.cons (r1.mono hc1 s2) r2)⟩
theorem seqD_of {mk:List PyData→PyData} {g:FA} {ρ:Rho} {T T':Tp} {w:W} (e:fSeqD mk g ρ T=some (w,T')):∃ ws xs,g ρ T=some (ws,T')∧datas ws=some xs∧xs.length≤1000∧w=.d (mk xs):=by
 obtain ⟨ws,T1,e1,e⟩:=bnd_of e
 split at e
 ·rename_i xs h1
  split at e
  ·rename_i h2
   cases e
   exact ⟨ws,xs,e1,h1,h2,rfl⟩
  ·cases e
 ·cases e
theorem de_tup {x1} (h:DA X es g):DE X (.Tuple es x1 pos) (fSeqD .tuple g):=by
 refine ⟨?_⟩
 refine pe_imp (pe_tup h.pe) fun σ H Q=>?_
 rintro ⟨O,ts,ρ,T,w,T',hc,re,e,q⟩
 obtain ⟨ws,xs,e1,h1,h2,rfl⟩:=seqD_of e
 refine ⟨O,ts,ρ,T,ws,T',hc,re,e1,fun vs H1 s1 hc1 r1=>?_⟩
 have rs:=datas_of r1 h1
 refine ⟨le_line (by rw [rs.length]; exact h2),fun p hp=>?_⟩
 exact q _ _ (s1.trans (.new hp _)) (hc1.new hp _) (hc1.newT hp rs)
theorem de_lst (h:DA X es g):DE X (.List es pos) (fSeqD .list g):=by
 refine ⟨?_⟩
 refine pe_imp (pe_lst h.pe) fun σ H Q=>?_
 rintro ⟨O,ts,ρ,T,w,T',hc,re,e,q⟩
 obtain ⟨ws,xs,e1,h1,h2,rfl⟩:=seqD_of e
 refine ⟨O,ts,ρ,T,ws,T',hc,re,e1,fun vs H1 s1 hc1 r1=>?_⟩
 have rs:=datas_of r1 h1
 refine ⟨le_line (by rw [rs.length]; exact h2),fun p hp=>?_⟩
 exact q _ _ (s1.trans (.new hp _)) (hc1.new hp _) (hc1.newL hp rs)
theorem cb_imp {K:PySem.W.Frag} {r:List V→Hp→VK→Prop} {gg:List PyData→Option PyData} (snd:∀ (O:Addr→Prop) (ts:List Addr) (H:Hp) (T:Tp) (vs:List V) (xs:List PyData) (d:PyData) (Q:VK),HC K O ts H T→Vws K O H vs xs→gg xs=some d →
  (∀ v H',SameX ts H H'→HC K O ts H' T→Rep K O H' v d→Q v H')→r vs H Q) {σ:L2.St} {H:Hp} {Q:VK} (h:lift K (fCB gg g) σ H Q):tCB r (liftA K g) σ H Q:=by
 obtain ⟨O,ts,ρ,T,w,T',hc,re,e,q⟩:=h
 obtain ⟨ws,T1,e1,e⟩:=bnd_of e
 refine ⟨O,ts,ρ,T,ws,T1,hc,re,e1,fun vs H1 s1 hc1 r1=>?_⟩
 split at e
 ·rename_i xs h1
  split at e
  ·rename_i d h2
   cases e
   exact snd O ts H1 T' vs xs d Q hc1 (hc1.views r1 h1) h2 fun v H' s3 hc3 r3=>q v H' (s1.trans s3) hc3 r3
  ·cases e
 ·cases e
theorem de_callB {x:Str} {id:String} {gg:List PyData→Option PyData} (hc:CallD X (.builtin id) gg) (hg:Gl X x) (hm:X.mg x=none) (hv:bootBuiltins x=some (.builtin id)) (ha:DA X (e::es) g) (hn:x≠"__name__":=by decide) (hdb:(x == ("__debug__" : Str))=false:=by decide)
  (he:starEach (e::es) X.env=(false,eval e X.env)::starEach es X.env:=by exact star_cons rfl) (hpl:(backTo pos (starEach es X.env)).any (·.1)=false:=by exact star_any rfl):DE X (.Call (.Name x p) (e::es) [] pos) (fCB gg g):=by
 refine ⟨?_⟩
 obtain ⟨r,hr,snd⟩:=hc
 exact pe_imp (pe_callB hr hg hm hv ha.pe hn hdb he hpl) fun σ H Q h=>cb_imp snd h
theorem de_callTy {x:Str} {id:String} {gg:List PyData→Option PyData} (hc:CallD X (.type id) gg) (hg:Gl X x) (hm:X.mg x=none) (hv:bootBuiltins x=some (.type id)) (ha:DA X (e::es) g) (hn:x≠"__name__":=by decide) (hdb:(x == ("__debug__" : Str))=false:=by decide)
  (he:starEach (e::es) X.env=(false,eval e X.env)::starEach es X.env:=by exact star_cons rfl) (hpl:(backTo pos (starEach es X.env)).any (·.1)=false:=by exact star_any rfl):DE X (.Call (.Name x p) (e::es) [] pos) (fCB gg g):=by
 refine ⟨?_⟩
 obtain ⟨r,hr,snd⟩:=hc
 exact pe_imp (pe_callTy hr hg hm hv ha.pe hn hdb he hpl) fun σ H Q h=>cb_imp snd h
end
end D
namespace D
open PySem PySem.Spec PyProof.Rows L2
noncomputable abbrev FI:=Rho→Tp→Option (List PyData×Tp)
noncomputable def iAny (K:PySem.W.Frag) (tl:TE):TI:=fun σ H R=>tl σ H fun x H1=>(∃ a xs,x=.ref a∧SqL K H1 a xs∧(xs.length≤sizeLine→R (Itl K a) H1))∨(∃ a xs,x=.ref a∧SqT K H1 a xs∧(xs.length≤sizeLine→R (Itt K a) H1))∨(∃ z,x=.str z∧R (Its z) H1)∨∃ a o kvs,x=.ref a∧H1 a=some (.frz o (.dK kvs))∧(kvs.length≤sizeLine→R (Itd a o kvs) H1)
theorem pi_any {X:Cx} {tg l:Expr} {tl:TE} (hl:PE X l tl):PI X tg l (iAny X.K tl):=by
 intro pins s σ H R I h
 refine thn (hl pins s σ H _ I h) fun v s1 ⟨x,H1,I1,r1,q1⟩=>?_
 have fk:∀ b∈[s1.heap.objs.size],FpOk X pins H1 b:=fun b hb=>by
  have e:b=s1.heap.objs.size:=by simpa using hb
  subst e
  exact I1.fpOk (Nat.le_refl _) (I1.hok.fresh (Nat.le_refl _))
 rcases q1 with ⟨a,xs,e,hq,q⟩ | ⟨a,xs,e,hq,q⟩ | ⟨z,e,q⟩ | ⟨a,o,kvs,e,hq,q⟩
 ·subst e
  cases r1
  obtain ⟨its,rv,p,hz⟩:=I1.list hq
  refine wpAny_pyIter_list p.isList ?_
  exact ⟨s1.heap.objs.size,[s1.heap.objs.size],_,_,H1,rfl,I1.kept (t':=s1.toks) fun b o e=>Heap.get?_push_of_some _ e,turn_list a _,⟨_,Heap.get?_push_size _ rfl,rfl,rfl⟩,fk,q hz⟩
 ·subst e
  cases r1
  obtain ⟨its,rv,p,hz⟩:=I1.tuple hq
  refine wpAny_pyIter_tuple (show s1.heap.IsTuple a its.toArray from p) ?_
  exact ⟨s1.heap.objs.size,[s1.heap.objs.size],_,_,H1,rfl,I1.kept (t':=s1.toks) fun b o e=>Heap.get?_push_of_some _ e,turn_tuple a _,⟨_,Heap.get?_push_size _ rfl,rfl,rfl⟩,fk,q hz⟩
 ·subst e
  obtain ⟨t,rfl⟩:=r1
  cases ha:z.cps.all (· < 128) with
  | false=>
   refine wpAny_pyIter_wide ha ?_
   exact ⟨s1.heap.objs.size,[s1.heap.objs.size],_,_,H1,rfl,I1.kept (t':=s1.toks) fun b o e=>Heap.get?_push_of_some _ e,turn_str z t "str_iterator" _ (.inr rfl),⟨_,Heap.get?_push_size _ rfl,rfl,rfl⟩,fk,q⟩
  | true=>
   refine wpAny_pyIter_ascii ha ?_
   exact ⟨s1.heap.objs.size,[s1.heap.objs.size],_,_,H1,rfl,I1.kept (t':=s1.toks) fun b o e=>Heap.get?_push_of_some _ e,turn_str z t "str_ascii_iterator" _ (.inl rfl),⟨_,Heap.get?_push_size _ rfl,rfl,rfl⟩,fk,q⟩
 ·subst e
  cases r1
  obtain ⟨z,y,vs,kv,dd⟩:=dictAt_of I1.hok hq
  refine wpAny_pyIter_dict y dd ?_
  exact ⟨s1.heap.objs.size,[s1.heap.objs.size],_,_,H1,rfl,I1.kept (t':=s1.toks) fun b o e=>Heap.get?_push_of_some _ e,turn_dict a _ o kvs,⟨_,Heap.get?_push_size _ rfl,rfl,by rw [kv.length]; rfl⟩,fk,q z⟩
noncomputable def ItOk (K:PySem.W.Frag) (O:Addr→Prop) (H1:Hp) (J:It) (ds:List PyData):Prop:=∀ O' H',Le O H1 O' H'→(∀ i,i < ds.length→J.go i H')∧J.stop ds.length H'∧∀ i v H'',J.yld i H' v H''→i < ds.length→H''=H'∧∃ d,ds[i]? = some d∧Rep K O' H' v d
inductive LiftIP (K:PySem.W.Frag) (f:FI) (σ:L2.St) (H:Hp) (R:It→Hp→Prop):Prop where
 | mk (O:Addr→Prop) (ts:List Addr) (ρ:Rho) (T:Tp) (ds:List PyData) (T':Tp) (hc:HC K O ts H T) (re:RelE K O ts H σ ρ) (e:f ρ T=some (ds,T')) (q:∀ J H1,SameX ts H H1→HC K O ts H1 T'→ItOk K O H1 J ds→ds.length≤sizeLine→R J H1):LiftIP K f σ H R
noncomputable def liftI (K:PySem.W.Frag) (f:FI):TI:=fun σ H R=>LiftIP K f σ H R
structure DI (X:Cx) (tg e:Expr) (f:FI):Prop where
 pe:PI X tg e (liftI X.K f)
theorem pi_imp {X:Cx} {tg e:Expr} {t t':TI} (h:PI X tg e t) (i:∀ σ H Q,t' σ H Q→t σ H Q):PI X tg e t':=fun pins s σ H Q I q=>h pins s σ H Q I (i σ H Q q)
noncomputable def signs (z:Str):List PyData:=z.cps.toList.map fun c=>.str ⟨#[c]⟩
noncomputable def itemsD:PyData→Option (List PyData)
 | .list xs=>some xs
 | .tuple xs=>some xs
 | .str z=>if z.length≤sizeLine then some (signs z) else none
 | .dict ds=>some (ds.map (·.1))
 | _=>none
noncomputable def fIter (f:FE):FI:=fun ρ T=>bnd (f ρ T) fun w T1=>match w with
 | .d x=>match itemsD x with
  | some xs=>some (xs,T1)
  | none=>none
 | _=>none
theorem ItOk.lst {K:PySem.W.Frag} {O:Addr→Prop} {H1:Hp} {a:Addr} {vs:List V} {ds:List PyData} (h:LstAt K O H1 a vs) (r:Reps K O H1 vs ds):ItOk K O H1 (Itl K a) ds:=fun O' H' le=>by
 have sq:=(h.mono le).sq
 have hl:=r.length
 refine ⟨fun i hi=>⟨vs,vs[i]'(by omega),sq,by simp⟩,⟨vs,sq,by omega⟩,fun i v H'' y hi=>?_⟩
 obtain ⟨e,y⟩:=y
 obtain ⟨d,h1,h2⟩:=r.get (y vs sq)
 exact ⟨e,d,h1,h2.mono le⟩
theorem ItOk.tup {K:PySem.W.Frag} {O:Addr→Prop} {H1:Hp} {a:Addr} {vs:List V} {ds:List PyData} (h:TupAt K O H1 a vs) (r:Reps K O H1 vs ds):ItOk K O H1 (Itt K a) ds:=fun O' H' le=>by
 have sq:=(h.mono le).sq
 have hl:=r.length
 refine ⟨fun i hi=>⟨vs,vs[i]'(by omega),sq,by simp⟩,⟨vs,sq,by omega⟩,fun i v H'' y hi=>?_⟩
 obtain ⟨e,y⟩:=y
 obtain ⟨d,h1,h2⟩:=r.get (y vs sq)
 exact ⟨e,d,h1,h2.mono le⟩
theorem ItOk.str {K:PySem.W.Frag} {O:Addr→Prop} {H1:Hp} {z:Str}:ItOk K O H1 (Its z) (signs z):=fun O' H' le=>by
 have hl:(signs z).length=z.cps.size:=by simp [signs]
 refine ⟨fun i hi=>by rw [hl] at hi; exact hi,by rw [hl]; exact Nat.le_refl _,fun i v H'' y hi=>?_⟩
 obtain ⟨e,c,hc,y⟩:=y
 subst y
 refine ⟨e,.str ⟨#[c]⟩,?_,.str _⟩
 unfold signs
 rw [List.getElem?_map]
 have:z.cps.toList[i]? = some c:=by simpa using hc
 rw [this]
 rfl
theorem repk_leng {K:PySem.W.Frag} {O:Addr→Prop} {H:Hp}:∀ {kvs:List (Key×V)} {ds:List (PyData×PyData)},RepK K O H kvs ds→kvs.length=ds.length
 | _,_,.nil=>rfl
 | _,_,.cons _ t=>congrArg (· + 1) (repk_leng t)
theorem repk_key {K:PySem.W.Frag} {O:Addr→Prop} {H:Hp}:∀ {kvs:List (Key×V)} {ds:List (PyData×PyData)} {i:Nat} {k:Key} {v:V},RepK K O H kvs ds→kvs[i]? = some (k,v)→(ds.map (·.1))[i]? = some (keyD k)
 | _,_,_,_,_,.nil,e=>by simp at e
 | _,_,0,_,_,.cons r _,e=>by simp at e; obtain ⟨rfl,rfl⟩:=e; rfl
 | _,_,i + 1,k,v,.cons _ t,e=>by
  have:=repk_key (i:=i) t (by simpa using e)
  simpa using this
theorem rep_key {K:PySem.W.Frag} {O:Addr→Prop} {H:Hp} (k:Key):Rep K O H (kV k) (keyD k):=by
 cases k with
 | inl i=>exact .int i
 | inr x=>exact .str x
theorem ItOk.dct {K:PySem.W.Frag} {O:Addr→Prop} {H1:Hp} {a:Addr} {o:Obj} {kvs:List (Key×V)} {ds:List (PyData×PyData)} (n:¬ O a) (h:H1 a=some (.frz o (.dK kvs))) (r:RepK K O H1 kvs ds):ItOk K O H1 (Itd a o kvs) (ds.map (·.1)):=fun O' H' le=>by
 have h':=(le a _ n h).2
 have hl:=repk_leng r
 refine ⟨fun i hi=>⟨h',by simp at hi; omega⟩,⟨h',by simp [hl]⟩,fun i v H'' y hi=>?_⟩
 obtain ⟨e,k,v0,y1,y2⟩:=y
 subst y2
 exact ⟨e,_,repk_key r y1,rep_key k⟩
theorem di_iter {X:Cx} {tg e:Expr} {f:FE} (h:DE X e f):DI X tg e (fIter f):=by
 refine ⟨?_⟩
 refine pi_imp (pi_any h.pe) fun σ H R=>?_
 rintro ⟨O,ts,ρ,T,ds,T',hc,re,e,q⟩
 obtain ⟨w1,T1,e1,e⟩:=bnd_of e
 refine ⟨O,ts,ρ,T,w1,T1,hc,re,e1,fun v1 H1 s1 hc1 r1=>?_⟩
 split at e
 ·rename_i x
  split at e
  ·rename_i xs h1
   cases e
   have rr:Rep X.K O H1 v1 x:=r1
   cases x with
   | list ys=>
    cases h1
    cases rr with
    | lst t r=>exact .inl ⟨_,_,rfl,t.sq,fun hz=>q _ H1 s1 hc1 (.lst t r) (by rw [← r.length]; exact hz)⟩
   | tuple ys=>
    cases h1
    cases rr with
    | tup t r=>exact .inr (.inl ⟨_,_,rfl,t.sq,fun hz=>q _ H1 s1 hc1 (.tup t r) (by rw [← r.length]; exact hz)⟩)
   | str z=>
    have h1':(if z.length≤sizeLine then some (signs z) else none)=some _:=h1
    split at h1'
    ·rename_i hz
     cases h1'
     cases rr
     exact .inr (.inr (.inl ⟨z,rfl,q _ H1 s1 hc1 .str (by rw [show (signs z).length=z.cps.size by simp [signs]]; exact hz)⟩))
    ·cases h1'
   | dict ys=>
    cases h1
    cases rr with
    | dct n t r=>exact .inr (.inr (.inr ⟨_,_,_,rfl,t,fun hz=>q _ H1 s1 hc1 (.dct n t r) (by rw [List.length_map,← repk_leng r]; exact hz)⟩))
   | _=>cases h1
  ·cases e
 ·cases e
noncomputable def numsD (lo:Int) (n:Nat):List PyData:=(List.range n).map fun (i:Nat)=>.int (lo + (i:Int))
theorem ItOk.rng {K:PySem.W.Frag} {O:Addr→Prop} {H1:Hp} {lo:Int} {n:Nat}:ItOk K O H1 (Itr lo n) (numsD lo n):=fun O' H' le=>by
 have hl:(numsD lo n).length=n:=by simp [numsD]
 refine ⟨fun i hi=>by rw [hl] at hi; exact hi,by rw [hl]; exact Nat.le_refl _,fun i v H'' y hi=>?_⟩
 obtain ⟨e,y⟩:=y
 subst y
 rw [hl] at hi
 exact ⟨e,.int (lo + i),by simp [numsD,hi],.int _⟩
noncomputable def rngOk (j:Int):Bool:=decide (-1000000≤j∧j≤16777216)
theorem rng_ok {j:Int} (h:rngOk j=true) : -(2 ^ 62)≤j∧j < 2 ^ 62∧j.toNat≤sizeLine:=by
 have h':=of_decide_eq_true h
 have e:sizeLine=16777216:=by decide
 omega
noncomputable def fRng1 (f:FE):FI:=fun ρ T=>bnd (f ρ T) fun w T1=>match w with
 | .d (.int j)=>if rngOk j=true then some (numsD 0 j.toNat,T1) else none
 | _=>none
theorem di_rng1 {X:Cx} {tg a:Expr} {f:FE} {p pos:Pos} (hg:Gl X "range") (hm:X.mg "range" = none) (ha:DE X a f) (hs:starEach [a] X.env=[(false,eval a X.env)]:=by exact star_one rfl):DI X tg (.Call (.Name "range" p) [a] [] pos) (fRng1 f):=by
 refine ⟨?_⟩
 refine pi_imp (pi_range1 (ta:=tCons (lift X.K f) tNil) hg hm (pa_cons ha.pe pa_nil (by rw [hs]; rfl)) hs) fun σ H R=>?_
 rintro ⟨O,ts,ρ,T,ds,T',hc,re,e,q⟩
 obtain ⟨w1,T1,e1,e⟩:=bnd_of e
 refine ⟨O,ts,ρ,T,w1,T1,hc,re,e1,fun v1 H1 s1 hc1 r1=>?_⟩
 split at e
 ·rename_i j
  split at e
  ·rename_i h1
   cases e
   cases (show Rep X.K O H1 v1 _ from r1)
   obtain ⟨b1,b2,b3⟩:=rng_ok h1
   exact ⟨j,rfl,b1,b2,q _ H1 s1 hc1 .rng (by simpa [numsD] using b3)⟩
  ·cases e
 ·cases e
noncomputable def compL (c:FT) (e:FE) (ρ:Rho):List PyData→Tp→Option (List PyData×Tp)
 | [],T=>some ([],T)
 | d::r,T=>bnd (c (some (.d d)::ρ) T) fun b T1=>if b=true then bnd (e (some (.d d)::ρ) T1) fun w T2=>match w with
   | .d y=>bnd (compL c e ρ r T2) fun ys T3=>some (y::ys,T3)
   | _=>none
  else compL c e ρ r T1
noncomputable def fComp (it:FI) (c:FT) (e:FE):FE:=fun ρ T=>bnd (it ρ T) fun ds T1=>bnd (compL c e ρ ds T1) fun ys T2=>some (.d (.list ys),T2)
noncomputable def fTrue:FT:=fun _ T=>some (true,T)
theorem RelE.cons {K:PySem.W.Frag} {O:Addr→Prop} {ts:List Addr} {H:Hp} {σ:L2.St} {ρ:Rho} {v:V} {d:PyData} (re:RelE K O ts H σ ρ) (r:Rep K O H v d):RelE K O ts H (some v::σ) (some (.d d)::ρ):=fun i w e=>by
 cases i with
 | zero=>cases e; exact ⟨v,rfl,r⟩
 | succ i=>
  obtain ⟨u,h1,h2⟩:=re i w (by simpa using e)
  exact ⟨u,by simpa using h1,h2⟩
theorem comp_ok {K:PySem.W.Frag} {O:Addr→Prop} {ts:List Addr} {H1:Hp} {σ:L2.St} {ρ:Rho} {J:It} {c:FT} {e:FE} {ds ys:List PyData} {T1 T2:Tp} {Dn:List V→Hp→Prop} (hc:HC K O ts H1 T1) (re:RelE K O ts H1 σ ρ) (ok:ItOk K O H1 J ds) (hz:ds.length≤sizeLine)
  (ee:compL c e ρ ds T1=some (ys,T2)) (q:∀ vs H',SameX ts H1 H'→HC K O ts H' T2→Reps K O H' vs ys→Dn vs H') :
  ∃ W:Nat→Nat→List V→Hp→Prop,(∃ m,W 0 m [] H1)∧cLoop σ J (liftT K c) (lift K e) W Dn:=by
 refine ⟨fun i m vs H'=>m=ds.length - i∧i≤ds.length∧vs.length≤i∧∃ T dn rs,SameX ts H1 H'∧HC K O ts H' T∧Reps K O H' vs dn∧compL c e ρ (ds.drop i) T=some (rs,T2)∧ys=dn++rs,⟨_,rfl,Nat.zero_le _,Nat.le_refl _,T1,[],ys,.refl _ _,hc,.nil,ee,rfl⟩,?_⟩
 rintro i m vs H' ⟨rfl,hi,hv,T,dn,rs,s1,hc1,rv,ec,ey⟩
 obtain ⟨k1,k2,k3⟩:=ok O H' (hc.le s1)
 by_cases hlt:i < ds.length
 ·refine .inr ⟨k1 i hlt,by omega,fun vs' H2=>i + 1≤ds.length∧vs'.length≤i + 1∧∃ T dn rs,SameX ts H1 H2∧HC K O ts H2 T∧Reps K O H2 vs' dn∧compL c e ρ (ds.drop (i + 1)) T=some (rs,T2)∧ys=dn++rs,fun vs' H2 n=>⟨ds.length - (i + 1),by omega,rfl,n⟩,fun v H2 y=>?_⟩
  obtain ⟨e2,d,hd,rd⟩:=k3 i v H2 y hlt
  subst e2
  have hdr:ds.drop i=d::ds.drop (i + 1):=by
   rw [List.drop_eq_getElem_cons hlt]
   have:=(List.getElem?_eq_some_iff.mp hd).2
   rw [this]
  rw [hdr] at ec
  obtain ⟨b,T3,e3,ec⟩:=bnd_of ec
  refine ⟨O,ts,some (.d d)::ρ,T,b,T3,hc1,(re.mono hc s1).cons rd,e3,fun H3 s3 hc3=>?_⟩
  cases b with
  | false=>
   rw [if_neg Bool.false_ne_true] at ec
   exact iteF ⟨hlt,by omega,T3,dn,rs,s1.trans s3,hc3,rv.mono (hc1.le s3),ec,ey⟩
  | true=>
   rw [if_pos rfl] at ec
   obtain ⟨w,T4,e4,ec⟩:=bnd_of ec
   refine iteT ⟨O,ts,some (.d d)::ρ,T3,w,T4,hc3,((re.mono hc s1).cons rd).mono hc1 s3,e4,fun u H4 s4 hc4 r4=>?_⟩
   split at ec
   ·rename_i y
    obtain ⟨zs,T5,e5,ec⟩:=bnd_of ec
    cases ec
    refine ⟨hlt,by simp; omega,T4,dn++[y],zs,s1.trans (s3.trans s4),hc4,(rv.mono (hc1.le (s3.trans s4))).append (.cons r4 .nil),e5,by rw [ey]; simp⟩
   ·cases ec
 ·have e:i=ds.length:=by omega
  subst e
  rw [List.drop_eq_nil_of_le (Nat.le_refl _)] at ec
  cases ec
  rw [List.append_nil] at ey
  subst ey
  exact .inl ⟨k2,by omega,q vs H' s1 hc1 rv⟩
structure DTs (X:Cx) (es:List Expr) (f:FT):Prop where
 pe:PTs X es (liftT X.K f)
theorem dts_nil {X:Cx}:DTs X [] fTrue:=⟨fun pins s σ H Q E I h=>by
 refine pts_nil pins s σ H Q E I ?_
 obtain ⟨O,ts,ρ,T,w,T',hc,re,e,q⟩:=h
 cases e
 exact q H (.refl _ _) hc⟩
theorem dts_one {X:Cx} {c:Expr} {f:FT} (hx:X.xe=fun _ _=>False) (h:DT X c f):DTs X [c] f:=⟨pts_one hx h.pe⟩
theorem de_comp {X:Cx} {x:Str} {scope osc:Scope} {N N':List Str} {elt iter:Expr} {ifs:List Expr} {px pos:Pos} {it:FI} {c:FT} {f:FE} (S:CS osc N x scope N') (hi:DI X (.Name x px) iter it)
  (he:∀ C s0 H0 ex,DE (compCx X x scope C s0 H0 ex N') elt f) (ht:∀ C s0 H0 ex,DTs (compCx X x scope C s0 H0 ex N') ifs c) (hc:X.calm=true:=by rfl) (hs:X.env.scope=osc:=by rfl) (hN:X.N=N:=by rfl)
  (hf:∀ v,foldedSetIterable iter X.env v=pure v:=by intro _; rfl):DE X (.ListComp elt [⟨.Name x px,iter,ifs,0⟩] scope pos) (fComp it c f):=by
 refine ⟨?_⟩
 refine pe_imp (pe_compD (wi:=liftI X.K it) (tt:=liftT X.K c) (te:=lift X.K f) S hi.pe (fun C s0 H0 ex=>(he C s0 H0 ex).pe) (fun C s0 H0 ex=>(ht C s0 H0 ex).pe) hc hs hN hf) fun σ H Q=>?_
 rintro ⟨O,ts,ρ,T,w,T',hc,re,e,q⟩
 obtain ⟨ds,T1,e1,e⟩:=bnd_of e
 obtain ⟨ys,T2,e2,e⟩:=bnd_of e
 cases e
 refine ⟨O,ts,ρ,T,ds,T1,hc,re,e1,fun J H1 s1 hc1 ok hz=>?_⟩
 exact comp_ok hc1 (re.mono hc s1) ok hz e2 fun vs H' s2 hc2 r2 p hp=>q _ _ (s1.trans (s2.trans (.new hp _))) (hc2.new hp _) (hc2.newL hp r2)
end D
namespace D
open PySem PySem.Spec PyProof.Rows L2
inductive Fl where
 | nx | rt (x:PyData) | ro (x:PyData) | bk | ct
noncomputable abbrev FS:=Rho→Tp→Option ((Fl×Rho)×Tp)
structure RS (K:PySem.W.Frag) (O₀:Addr→Prop) (H₀:Hp) (F:List ((Addr→Prop)×Hp)) (ts:List Addr) (O:Addr→Prop) (H:Hp) (σ:L2.St) (ρ:Rho) (T:Tp):Prop where
 hc:HC K O ts H T
 re:RelE K O ts H σ ρ
 sub:∀ b,O₀ b→O b
 ots:∀ b∈ts,O₀ b
 same:SameX ts H₀ H
 fresh:∀ (i:Nat) (xs:PyData) (a:Addr),ρ[i]? = some (some (.loc xs))→σ[i]? = some (some (.ref a))→H₀ a=none∧¬ O₀ a
 dist:∀ (i j:Nat) (xs ys:PyData) (v:V),ρ[i]? = some (some (.loc xs))→ρ[j]? = some (some (.loc ys))→σ[i]? = some (some v)→σ[j]? = some (some v)→i=j
 frs:∀ f∈F,Le f.1 f.2 O H
 len:σ.length=ρ.length
noncomputable def OwnV (K:PySem.W.Frag) (O A:Addr→Prop) (H:Hp) (v:V):PyData→Prop
 | .tuple [x,y]=>∃ p a b,v=.ref p∧a≠b∧(∀ c,A c↔c=a∨c=b)∧¬ O p∧H p=some (.tup [.ref a,.ref b])∧OwnAt K O H a x∧OwnAt K O H b y
 | .none=>v=.non∧∀ c,¬ A c
 | x=>∃ a,v=.ref a∧(∀ c,A c↔c=a)∧OwnAt K O H a x
theorem OwnV.mono {K:PySem.W.Frag} {O O' A:Addr→Prop} {H:Hp} {v:V} {x:PyData} (le:Le O H O' H) (h:OwnV K O A H v x):OwnV K O' A H v x:=by
 unfold OwnV at h ⊢
 split at h
 ·obtain ⟨p,a,b,e1,e2,e3,np,hp,oa,ob⟩:=h
  exact ⟨p,a,b,e1,e2,e3,(le p _ np hp).1,hp,oa.mono (fun _ h=>h) le,ob.mono (fun _ h=>h) le⟩
 ·exact h
 ·obtain ⟨a,e,hA,oa⟩:=h
  exact ⟨a,e,hA,oa.mono (fun _ h=>h) le⟩
noncomputable def EndsD (K:PySem.W.Frag) (O₀:Addr→Prop) (H₀:Hp) (F:List ((Addr→Prop)×Hp)) (ts:List Addr) (D:Ends) (ρ':Rho) (T':Tp):Fl→Prop
 | .nx=>∀ O' σ' H',RS K O₀ H₀ F ts O' H' σ' ρ' T'→D.nx σ' H'
 | .bk=>∀ O' σ' H',RS K O₀ H₀ F ts O' H' σ' ρ' T'→D.bk σ' H'
 | .ct=>∀ O' σ' H',RS K O₀ H₀ F ts O' H' σ' ρ' T'→D.ct σ' H'
 | .rt x=>∀ v H',SameX ts H₀ H'→HC K O₀ ts H' T'→Rep K O₀ H' v x→D.rt v H'
 | .ro x=>∀ (A:Addr→Prop) v H',SameX ts H₀ H'→(∀ b,A b→H₀ b=none∧¬ O₀ b)→HC K (fun b=>O₀ b∨A b) ts H' T'→OwnV K (fun b=>O₀ b∨A b) A H' v x→D.rt v H'
inductive LiftSP (K:PySem.W.Frag) (f:FS) (D:Ends) (σ:L2.St) (H:Hp):Prop where
 | mk (O₀:Addr→Prop) (H₀:Hp) (F:List ((Addr→Prop)×Hp)) (ts:List Addr) (O:Addr→Prop) (ρ:Rho) (T:Tp) (fl:Fl) (ρ':Rho) (T':Tp) (rs:RS K O₀ H₀ F ts O H σ ρ T) (e:f ρ T=some ((fl,ρ'),T')) (q:EndsD K O₀ H₀ F ts D ρ' T' fl):LiftSP K f D σ H
noncomputable def liftS (K:PySem.W.Frag) (f:FS):TS:=fun D σ H=>LiftSP K f D σ H
structure DS (X:Cx) (s:Stmt) (f:FS):Prop where
 pe:PS X s (liftS X.K f)
structure DSs (X:Cx) (s:List Stmt) (f:FS):Prop where
 pe:PSs X s (liftS X.K f)
theorem ps_imp {X:Cx} {e:Stmt} {t t':TS} (h:PS X e t) (i:∀ D σ H,t' D σ H→t D σ H):PS X e t':=fun pins s σ H D I q=>h pins s σ H D I (i D σ H q)
theorem pss_imp {X:Cx} {e:List Stmt} {t t':TS} (h:PSs X e t) (i:∀ D σ H,t' D σ H→t D σ H):PSs X e t':=fun pins s σ H D I q=>h pins s σ H D I (i D σ H q)
section
variable {K:PySem.W.Frag} {O₀:Addr→Prop} {H₀:Hp} {F:List ((Addr→Prop)×Hp)} {ts:List Addr} {O:Addr→Prop} {H H1:Hp} {σ:L2.St} {ρ:Rho} {T T1:Tp}
theorem RS.step (r:RS K O₀ H₀ F ts O H σ ρ T) (s:SameX ts H H1) (c:HC K O ts H1 T1):RS K O₀ H₀ F ts O H1 σ ρ T1 where
 hc:=c
 re:=r.re.mono r.hc s
 sub:=r.sub
 ots:=r.ots
 same:=r.same.trans s
 fresh:=r.fresh
 dist:=r.dist
 frs:=fun f hf=>(r.frs f hf).trans (r.hc.le s)
 len:=r.len
theorem set_loc {i j:Nat} {w:W} {xs:PyData} (hw:∀ ys,w≠.loc ys) (e:(ρ.set i (some w))[j]? = some (some (.loc xs))):j≠i∧ρ[j]? = some (some (.loc xs)):=by
 by_cases z:i=j
 ·subst z
  rw [List.getElem?_set_self'] at e
  cases h:ρ[i]? with
  | none=>rw [h] at e; cases e
  | some u=>
   rw [h] at e
   have e':some (some w)=some (some (W.loc xs)):=e
   cases e'
   exact absurd rfl (hw xs)
 ·rw [List.getElem?_set_ne z] at e
  exact ⟨fun q=>z q.symm,e⟩
theorem RS.set {i:Nat} {v:V} {w:W} (r:RS K O₀ H₀ F ts O H σ ρ T) (rw':RepW K O ts H v w) (hw:∀ ys,w≠.loc ys):RS K O₀ H₀ F ts O H (σ.set i (some v)) (ρ.set i (some w)) T where
 hc:=r.hc
 re:=fun j u e=>by
  by_cases z:i=j
  ·subst z
   have hl:i < ρ.length:=by
    have:=(List.getElem?_eq_some_iff.mp e).1
    simpa using this
   rw [List.getElem?_set_self hl] at e
   cases e
   exact ⟨v,by rw [List.getElem?_set_self (by rw [r.len]; exact hl)],rw'⟩
  ·rw [List.getElem?_set_ne z] at e
   obtain ⟨x,h1,h2⟩:=r.re j u e
   exact ⟨x,by rw [List.getElem?_set_ne z]; exact h1,h2⟩
 sub:=r.sub
 ots:=r.ots
 same:=r.same
 fresh:=fun j xs a e1 e2=>by
  obtain ⟨n,e⟩:=set_loc hw e1
  rw [List.getElem?_set_ne (Ne.symm n)] at e2
  exact r.fresh j xs a e e2
 dist:=fun j k xs ys u e1 e2 e3 e4=>by
  obtain ⟨n1,e1⟩:=set_loc hw e1
  obtain ⟨n2,e2⟩:=set_loc hw e2
  rw [List.getElem?_set_ne (Ne.symm n1)] at e3
  rw [List.getElem?_set_ne (Ne.symm n2)] at e4
  exact r.dist j k xs ys u e1 e2 e3 e4
 frs:=r.frs
 len:=by simp [r.len]
theorem RS.ownO {i:Nat} {p:Addr} {o:HO} {xs:PyData} (r:RS K O₀ H₀ F ts O H σ ρ T) (hp:H p=none) (hm:Mut (some o)) (rv:Le O H (fun b=>O b∨b=p) (upd H p o)→OwnAt K (fun b=>O b∨b=p) (upd H p o) p xs):RS K O₀ H₀ F ts (fun b=>O b∨b=p) (upd H p o) (σ.set i (some (.ref p))) (ρ.set i (some (.loc xs))) T:=by
 have le:Le O H (fun b=>O b∨b=p) (upd H p o):=fun a o n e=>by
  have z:a≠p:=ne_of_none e hp
  exact ⟨fun q=>q.elim n z,by rw [upd_ne z]; exact e⟩
 have h0:∀ {G:Hp},SameX ts G H→p∉ts→G p=none:=fun {G} s nt=>by
  cases e:G p with
  | none=>rfl
  | some o=>rw [s p o nt e] at hp; cases hp
 have nO:=r.hc.fresh hp
 have nt:p∉ts:=fun z=>nO (r.hc.own p z)
 have old:∀ {j:Nat} {v:V} {w:W},σ[j]? = some (some v)→RepW K O ts H v w→RepW K (fun b=>O b∨b=p) ts (upd H p o) v w:=fun {j v w} e q=>by
  cases w with
  | d x=>exact Rep.mono le q
  | tp k=>exact q
  | loc ys=>
   obtain ⟨a,e1,h1,h2,h3⟩:=q
   exact ⟨a,e1,.inl h1,h2,h3.mono (fun o' q=>by rw [upd_ne (ne_of_none q hp)]; exact q) le⟩
 have notp:∀ {j:Nat} {ys:PyData},ρ[j]? = some (some (.loc ys))→σ[j]? = some (some (.ref p))→False:=fun {j ys} e1 e2=>by
  obtain ⟨v,h1,a,ea,h2,h3,h4⟩:=r.re j _ e1
  rw [e2] at h1
  cases h1
  cases ea
  obtain ⟨o',h5⟩:=h4.some
  rw [hp] at h5
  cases h5
 refine ⟨⟨fun b hb=>.inl (r.hc.own b hb),fun b hb=>?_,r.hc.nd,r.hc.len,fun j a ys e1 e2=>?_⟩,fun j w e=>?_,fun b hb=>.inl (r.sub b hb),r.ots,r.same.trans (.new hp _),fun j ys a e1 e2=>?_,fun j k ys zs v e1 e2 e3 e4=>?_,fun f hf=>(r.frs f hf).trans le,by simp [r.len]⟩
 ·by_cases z:b=p
  ·subst z; rw [upd_same]; exact hm
  ·rw [upd_ne z]
   exact r.hc.trk b (hb.resolve_right z)
 ·exact (r.hc.tape j a ys e1 e2).mono (fun o' h1=>by rw [upd_ne (ne_of_none h1 hp)]; exact h1) le
 ·by_cases z:i=j
  ·subst z
   have hl:i < ρ.length:=by
    have:=(List.getElem?_eq_some_iff.mp e).1
    simpa using this
   rw [List.getElem?_set_self hl] at e
   cases e
   exact ⟨.ref p,by rw [List.getElem?_set_self (by rw [r.len]; exact hl)],p,rfl,.inr rfl,nt,rv le⟩
  ·rw [List.getElem?_set_ne z] at e
   obtain ⟨x,h1,h2⟩:=r.re j w e
   exact ⟨x,by rw [List.getElem?_set_ne z]; exact h1,old h1 h2⟩
 ·by_cases z:i=j
  ·subst z
   have hl:i < ρ.length:=by
    have:=(List.getElem?_eq_some_iff.mp e1).1
    simpa using this
   rw [List.getElem?_set_self (by rw [r.len]; exact hl)] at e2
   cases e2
   exact ⟨h0 r.same nt,fun q=>nO (r.sub _ q)⟩
  ·rw [List.getElem?_set_ne z] at e1 e2
   exact r.fresh j ys a e1 e2
 ·by_cases z:i=j
  ·by_cases z':i=k
   ·rw [← z,← z']
   ·exfalso
    subst z
    have hl:i < ρ.length:=by
     have:=(List.getElem?_eq_some_iff.mp e1).1
     simpa using this
    rw [List.getElem?_set_self (by rw [r.len]; exact hl)] at e3
    cases e3
    rw [List.getElem?_set_ne z'] at e2 e4
    exact notp e2 e4
  ·by_cases z':i=k
   ·exfalso
    subst z'
    have hl:i < ρ.length:=by
     have:=(List.getElem?_eq_some_iff.mp e2).1
     simpa using this
    rw [List.getElem?_set_self (by rw [r.len]; exact hl)] at e4
    cases e4
    rw [List.getElem?_set_ne z] at e1 e3
    exact notp e1 e3
   ·rw [List.getElem?_set_ne z] at e1 e3
    rw [List.getElem?_set_ne z'] at e2 e4
    exact r.dist j k ys zs v e1 e2 e3 e4
theorem RS.own {i:Nat} {p:Addr} {vs:List V} {xs:List PyData} (r:RS K O₀ H₀ F ts O H σ ρ T) (hp:H p=none) (rv:Reps K O H vs xs):RS K O₀ H₀ F ts (fun b=>O b∨b=p) (upd H p (.lst vs)) (σ.set i (some (.ref p))) (ρ.set i (some (.loc (.list xs)))) T:=
 r.ownO hp (.inl ⟨_,rfl⟩) fun le=>⟨vs,upd_same,rv.mono le⟩
theorem RS.putO {i:Nat} {a:Addr} {o:HO} {xs ys:PyData} (r:RS K O₀ H₀ F ts O H σ ρ T) (e1:ρ[i]? = some (some (.loc xs))) (e2:σ[i]? = some (some (.ref a))) (hm:Mut (some o)) (rv:Le O H O (upd H a o)→OwnAt K O (upd H a o) a ys):RS K O₀ H₀ F ts O (upd H a o) σ (ρ.set i (some (.loc ys))) T:=by
 obtain ⟨v,z1,a',ea,oa,nt,ha⟩:=r.re i _ e1
 rw [e2] at z1
 cases z1
 cases ea
 have hl:i < ρ.length:=(List.getElem?_eq_some_iff.mp e1).1
 obtain ⟨f1,f2⟩:=r.fresh i xs a e1 e2
 have le:Le O H O (upd H a o):=fun b o n e=>⟨n,by rw [upd_ne (show b≠a from fun z=>n (by rw [z]; exact oa))]; exact e⟩
 have back:∀ {j:Nat} {zs:PyData},(ρ.set i (some (W.loc ys)))[j]? = some (some (.loc zs))→∃ ws,ρ[j]? = some (some (.loc ws)):=fun {j zs} e=>by
  by_cases z:i=j
  ·subst z; exact ⟨xs,e1⟩
  ·rw [List.getElem?_set_ne z] at e; exact ⟨zs,e⟩
 refine ⟨⟨r.hc.own,fun b hb=>?_,r.hc.nd,r.hc.len,fun j b zs q1 q2=>?_⟩,fun j w e=>?_,r.sub,r.ots,fun b o n e=>?_,fun j zs b q1 q2=>?_,fun j k zs zs' v q1 q2 q3 q4=>?_,fun f hf=>(r.frs f hf).trans le,by simp [r.len]⟩
 ·by_cases z:b=a
  ·subst z; rw [upd_same]; exact hm
  ·rw [upd_ne z]; exact r.hc.trk b hb
 ·exact (r.hc.tape j b zs q1 q2).mono (fun o' h1=>by rw [upd_ne (show b≠a from fun z=>nt (by rw [← z]; exact List.mem_of_getElem? q1))]; exact h1) le
 ·by_cases z:i=j
  ·subst z
   rw [List.getElem?_set_self hl] at e
   cases e
   exact ⟨.ref a,e2,a,rfl,oa,nt,rv le⟩
  ·rw [List.getElem?_set_ne z] at e
   obtain ⟨x,h1,h2⟩:=r.re j w e
   refine ⟨x,h1,?_⟩
   cases w with
   | d x=>exact Rep.mono le h2
   | tp k=>exact h2
   | loc zs=>
    obtain ⟨b,eb,k1,k2,k3⟩:=h2
    have n:b≠a:=fun q=>z (r.dist i j xs zs (.ref a) e1 e e2 (by rw [h1,eb,q]))
    exact ⟨b,eb,k1,k2,k3.mono (fun o' q=>by rw [upd_ne n]; exact q) le⟩
 ·have:=r.same b o n e
  rw [upd_ne (show b≠a from fun z=>by rw [z,f1] at e; cases e)]
  exact this
 ·obtain ⟨ws,q⟩:=back q1
  exact r.fresh j ws b q q2
 ·obtain ⟨ws,q⟩:=back q1
  obtain ⟨ws',q'⟩:=back q2
  exact r.dist j k ws ws' v q q' q3 q4
theorem RS.put {i:Nat} {a:Addr} {vs us:List V} {xs ys:List PyData} (r:RS K O₀ H₀ F ts O H σ ρ T) (e1:ρ[i]? = some (some (.loc (.list xs)))) (e2:σ[i]? = some (some (.ref a))) (rv:Reps K O H vs ys):RS K O₀ H₀ F ts O (upd H a (.lst vs)) σ (ρ.set i (some (.loc (.list ys)))) T:=
 r.putO e1 e2 (.inl ⟨_,rfl⟩) fun le=>⟨vs,upd_same,rv.mono le⟩
theorem RS.tapeO {n:Nat} {a:Addr} {o:HO} {ys:List PyData} (r:RS K O₀ H₀ F ts O H σ ρ T) (e:ts[n]? = some a) (hm:Mut (some o)) (rv:Le O H O (upd H a o)→RowAt K O (upd H a o) a ys):RS K O₀ H₀ F ts O (upd H a o) σ ρ (T.set n ys):=by
 have am:a∈ts:=List.mem_of_getElem? e
 have le:Le O H O (upd H a o):=fun b o' k q=>⟨k,by rw [upd_ne (show b≠a from fun z=>k (by rw [z]; exact r.hc.own a am))]; exact q⟩
 have sx:SameX ts H (upd H a o):=fun b o' k q=>by rw [upd_ne (show b≠a from fun z=>k (by rw [z]; exact am))]; exact q
 refine ⟨⟨r.hc.own,fun b hb=>?_,r.hc.nd,by simp [r.hc.len],fun j b zs q1 q2=>?_⟩,r.re.mono r.hc sx,r.sub,r.ots,r.same.trans sx,r.fresh,r.dist,fun f hf=>(r.frs f hf).trans le,r.len⟩
 ·by_cases z:b=a
  ·subst z; rw [upd_same]; exact hm
  ·rw [upd_ne z]; exact r.hc.trk b hb
 ·by_cases z:n=j
  ·subst z
   rw [e] at q1
   cases q1
   have hl:n < T.length:=by
    have:=(List.getElem?_eq_some_iff.mp e).1
    rw [← r.hc.len]; exact this
   rw [List.getElem?_set_self hl] at q2
   cases q2
   exact rv le
  ·rw [List.getElem?_set_ne z] at q2
   refine (r.hc.tape j b zs q1 q2).mono (fun o' h1=>?_) le
   have nb:b≠a:=fun q=>by
    rw [q] at q1
    exact z ((List.getElem?_inj (List.getElem?_eq_some_iff.mp e).1 r.hc.nd).mp (e.trans q1.symm))
   rw [upd_ne nb]
   exact h1
theorem RS.tape {n:Nat} {a:Addr} {vs:List V} {ys:List PyData} (r:RS K O₀ H₀ F ts O H σ ρ T) (e:ts[n]? = some a) (rv:Reps K O H vs ys):RS K O₀ H₀ F ts O (upd H a (.lst vs)) σ ρ (T.set n ys):=
 r.tapeO e (.inl ⟨_,rfl⟩) fun le=>.inl ⟨rv.notO,vs,upd_same,rv.mono le⟩
noncomputable def frzW:W→W
 | .loc x=>.d x
 | w=>w
noncomputable def frzR (ρ:Rho):Rho:=ρ.map (Option.map frzW)
theorem RS.frzH (r:RS K O₀ H₀ F ts O H σ ρ T):HC K O₀ ts H T:=by
 have le:Le O H O₀ H:=fun a o n e=>⟨fun z=>n (r.sub a z),e⟩
 exact ⟨r.ots,fun b hb=>r.hc.trk b (r.sub b hb),r.hc.nd,r.hc.len,fun i a xs e1 e2=>(r.hc.tape i a xs e1 e2).mono (fun _ h=>h) le⟩
noncomputable def NoLD (ρ:Rho):Prop:=∀ (i:Nat) (ds:List (PyData×PyData)),ρ[i]?≠some (some (.loc (.dict ds)))
theorem RS.frz (r:RS K O₀ H₀ F ts O H σ ρ T) (nd:NoLD ρ):HC K O₀ ts H T∧RelE K O₀ ts H σ (frzR ρ):=by
 have le:Le O H O₀ H:=fun a o n e=>⟨fun z=>n (r.sub a z),e⟩
 refine ⟨r.frzH,fun i w e=>?_⟩
 unfold frzR at e
 rw [List.getElem?_map] at e
 cases hu:ρ[i]? with
 | none=>rw [hu] at e; cases e
 | some u=>
  cases u with
  | none=>rw [hu] at e; cases e
  | some u=>
   rw [hu] at e
   cases e
   obtain ⟨v,h1,h2⟩:=r.re i u hu
   refine ⟨v,h1,?_⟩
   cases u with
   | d x=>exact Rep.mono le h2
   | tp k=>exact h2
   | loc xs=>
    obtain ⟨a,rfl,k1,k2,k3⟩:=h2
    cases xs with
    | list xs=>obtain ⟨vs,k3,k4⟩:=k3; exact .lst (.inl ⟨(r.fresh i _ a hu h1).2,.inl k3⟩) (k4.mono le)
    | dict xs=>exact absurd hu (nd i xs)
    | _=>cases k3
theorem RS.frzD {i:Nat} {ds:List (PyData×PyData)} (r:RS K O₀ H₀ F ts O H σ ρ T) (h1:ρ[i]? = some (some (.loc (.dict ds)))):∃ a kvs,H a=some (.dK kvs)∧∀ o,RS K O₀ H₀ F ts (fun b=>O b∧b≠a) (upd H a (.frz o (.dK kvs))) σ (ρ.set i (some (.d (.dict ds)))) T:=by
 obtain ⟨v,k1,a,rfl,k2,k3,kvs,k4,k5⟩:=r.re i _ h1
 refine ⟨a,kvs,k4,fun o=>?_⟩
 have hl:i < ρ.length:=(List.getElem?_eq_some_iff.mp h1).1
 have U:∀ {b:Addr},b≠a→upd H a (.frz o (.dK kvs)) b=H b:=fun n=>upd_ne n
 have le:Le O H (fun b=>O b∧b≠a) (upd H a (.frz o (.dK kvs))):=fun b u n e=>⟨fun z=>n z.1,by rw [U (show b≠a from fun z=>n (by rw [z]; exact k2))]; exact e⟩
 have fr:=r.fresh i _ a h1 k1
 have hw:∀ ys,W.d (.dict ds)≠.loc ys:=fun _ z=>nomatch z
 refine ⟨⟨fun b hb=>⟨r.hc.own b hb,fun z=>k3 (z ▸ hb)⟩,fun b hb=>by rw [U hb.2]; exact r.hc.trk b hb.1,r.hc.nd,r.hc.len,fun j b ys e1 e2=>?_⟩,fun j w e=>?_,fun b hb=>⟨r.sub b hb,fun z=>fr.2 (z ▸ hb)⟩,r.ots,fun b u n e=>?_,fun j ys b e1 e2=>?_,fun j k ys zs v e1 e2 e3 e4=>?_,fun f hf=>(r.frs f hf).trans le,by simp [r.len]⟩
 ·exact (r.hc.tape j b ys e1 e2).mono (fun _ h=>by rw [U (show b≠a from fun z=>k3 (by rw [← z]; exact List.mem_of_getElem? e1))]; exact h) le
 ·by_cases z:i=j
  ·subst z
   rw [List.getElem?_set_self hl] at e
   cases e
   exact ⟨.ref a,k1,.dct (fun z=>z.2 rfl) upd_same (k5.mono le)⟩
  ·rw [List.getElem?_set_ne z] at e
   obtain ⟨x,q1,q2⟩:=r.re j w e
   refine ⟨x,q1,?_⟩
   cases w with
   | d y=>exact Rep.mono le q2
   | tp k=>exact q2
   | loc ys=>
    obtain ⟨b,eb,m1,m2,m3⟩:=q2
    have nb:b≠a:=fun q=>z (r.dist i j _ ys (.ref a) h1 e k1 (by rw [q1,eb,q]))
    exact ⟨b,eb,⟨m1,nb⟩,m2,m3.mono (fun _ q=>by rw [U nb]; exact q) le⟩
 ·rw [U (show b≠a from fun z=>by rw [z,fr.1] at e; cases e)]
  exact r.same b u n e
 ·obtain ⟨n,e⟩:=set_loc hw e1
  exact r.fresh j ys b e e2
 ·obtain ⟨n1,e1⟩:=set_loc hw e1
  obtain ⟨n2,e2⟩:=set_loc hw e2
  exact r.dist j k ys zs v e1 e2 e3 e4
theorem frzR_set {i:Nat} {x:PyData} (h:ρ[i]? = some (some (.loc x))):frzR (ρ.set i (some (.d x)))=frzR ρ:=by
 apply List.ext_getElem?
 intro j
 unfold frzR
 rw [List.getElem?_map,List.getElem?_map]
 by_cases z:i=j
 ·subst z
  rw [List.getElem?_set_self (List.getElem?_eq_some_iff.mp h).1,h]
  rfl
 ·rw [List.getElem?_set_ne z]
theorem RS.frzN (R:Rho):∀ (k:Nat) {O:Addr→Prop} {H:Hp} {ρ:Rho},RS K O₀ H₀ F ts O H σ ρ T→(∀ j ds,k≤j→ρ[j]?≠some (some (.loc (.dict ds))))→frzR ρ=R →
  Gh (fun H'=>∃ O' ρ',RS K O₀ H₀ F ts O' H' σ ρ' T∧NoLD ρ'∧frzR ρ'=R) H
 | 0,O,H,ρ,r,n,e=>.done ⟨O,ρ,r,fun j ds=>n j ds (Nat.zero_le _),e⟩
 | k + 1,O,H,ρ,r,n,e=>by
  by_cases h:∃ ds,ρ[k]? = some (some (.loc (.dict ds)))
  ·obtain ⟨ds,h⟩:=h
   obtain ⟨a,kvs,e1,f⟩:=r.frzD h
   refine .frz e1 fun o=>RS.frzN R k (f o) (fun j es hj=>?_) (by rw [frzR_set h]; exact e)
   by_cases z:k=j
   ·subst z
    rw [List.getElem?_set_self (List.getElem?_eq_some_iff.mp h).1]
    intro q
    cases q
   ·rw [List.getElem?_set_ne z]
    exact n j es (by omega)
  ·refine RS.frzN R k r (fun j ds hj=>?_) e
   by_cases z:k=j
   ·subst z
    exact fun q=>h ⟨ds,q⟩
   ·exact n j ds (by omega)
theorem RS.frzG (r:RS K O₀ H₀ F ts O H σ ρ T):Gh (fun H'=>SameX ts H₀ H'∧HC K O₀ ts H' T∧RelE K O₀ ts H' σ (frzR ρ)) H:=
 (RS.frzN (frzR ρ) ρ.length r (fun j ds hj=>by rw [List.getElem?_eq_none hj]; exact fun z=>nomatch z) rfl).imp fun H' ⟨O',ρ',r',n,e⟩=>⟨r'.same,by rw [← e]; exact r'.frz n⟩
end
noncomputable def fNext:FS:=fun ρ T=>some ((.nx,ρ),T)
noncomputable def fSeq (f g:FS):FS:=fun ρ T=>bnd (f ρ T) fun p T1=>match p with
 | (.nx,ρ1)=>g ρ1 T1
 | (fl,ρ1)=>some ((fl,ρ1),T1)
noncomputable def fSet (i:Nat) (f:FE):FS:=fun ρ T=>bnd (f ρ T) fun w T1=>match w with
 | .d x=>some ((.nx,ρ.set i (some (.d x))),T1)
 | .tp k=>some ((.nx,ρ.set i (some (.tp k))),T1)
 | .loc _=>none
noncomputable def fSetL (i:Nat) (g:FA):FS:=fun ρ T=>bnd (g ρ T) fun ws T1=>match datas ws with
 | some xs=>if xs.length≤1000 then some ((.nx,ρ.set i (some (.loc (.list xs)))),T1) else none
 | none=>none
noncomputable def fApp (i:Nat) (f:FE):FS:=fun ρ T=>bnd (f ρ T) fun w T1=>match w with
 | .d x=>(match ρ[i]? with
  | some (some (.loc (.list xs)))=>if xs.length < sizeLine then some ((.nx,ρ.set i (some (.loc (.list (xs++[x]))))),T1) else none
  | _=>none)
 | _=>none
noncomputable def fPut (fo fk fe:FE):FS:=fun ρ T=>bnd (fe ρ T) fun w T1=>bnd (fo ρ T1) fun o T2=>bnd (fk ρ T2) fun k T3=>match w,o,k with
 | .d x,.tp n,.d (.int i)=>match T3[n]? with
  | some xs=>if isO xs=true then none else match ixN xs.length i with
   | some j=>some ((.nx,ρ),T3.set n (xs.set j x))
   | none=>none
  | none=>none
 | _,_,_=>none
noncomputable def fIf (c:FT) (f g:FS):FS:=fun ρ T=>bnd (c ρ T) fun b T1=>if b=true then f ρ T1 else g ρ T1
noncomputable def fRet (f:FE):FS:=fun ρ T=>bnd (f (frzR ρ) T) fun w T1=>match w with
 | .d x=>some ((.rt x,ρ),T1)
 | _=>none
noncomputable def fDrop (f:FE):FS:=fun ρ T=>bnd (f ρ T) fun _ T1=>some ((.nx,ρ),T1)
noncomputable def forL (i:Nat) (body:FS):List PyData→FS
 | []=>fNext
 | d::r=>fun ρ T=>bnd (body (ρ.set i (some (.d d))) T) fun p T1=>match p with
  | (.nx,ρ1)=>forL i body r ρ1 T1
  | (.ct,ρ1)=>forL i body r ρ1 T1
  | (.bk,ρ1)=>some ((.nx,ρ1),T1)
  | (.rt x,ρ1)=>some ((.rt x,ρ1),T1)
  | (.ro x,ρ1)=>some ((.ro x,ρ1),T1)
noncomputable def fFor (i:Nat) (it:FI) (body:FS):FS:=fun ρ T=>bnd (it ρ T) fun ds T1=>forL i body ds ρ T1
section
variable {X:Cx} {pos:Pos} {st:Stmt} {rest:List Stmt} {f g:FS} {e:Expr} {fe:FE} {c:FT}
theorem dss_nil:DSs X [] fNext:=by
 refine ⟨?_⟩
 refine pss_imp pss_nil fun D σ H=>?_
 rintro ⟨O₀,H₀,F,ts,O,ρ,T,fl,ρ',T',rs,e,q⟩
 cases e
 exact q O σ H rs
theorem dss_cons (h1:DS X st f) (h2:DSs X rest g):DSs X (st::rest) (fSeq f g):=by
 refine ⟨?_⟩
 refine pss_imp (pss_cons h1.pe h2.pe) fun D σ H=>?_
 rintro ⟨O₀,H₀,F,ts,O,ρ,T,fl,ρ',T',rs,e,q⟩
 obtain ⟨⟨fl1,ρ1⟩,T1,e1,e⟩:=bnd_of e
 refine ⟨O₀,H₀,F,ts,O,ρ,T,fl1,ρ1,T1,rs,e1,?_⟩
 cases fl1 with
 | nx=>exact fun O' σ' H' rs'=>⟨O₀,H₀,F,ts,O',ρ1,T1,fl,ρ',T',rs',e,q⟩
 | rt x=>cases e; exact q
 | ro x=>cases e; exact q
 | bk=>cases e; exact q
 | ct=>cases e; exact q
theorem dss_one (h1:DS X st f):DSs X [st] f:=⟨pss_one h1.pe⟩
theorem ds_set {i:Nat} {x:Str} {pos':Pos} (hN:X.N.Nodup) (he:DE X e fe) (hi:X.N[i]? = some x:=by rfl) (hx:Loc X.env.scope x:=by first | exact Or.inl rfl | exact Or.inr rfl) (hs:swapsWith e (some (.Name x pos')) pos.line X.env=pure false:=by rfl)
  (hf:X.fn x=true∨X.env.scope.names.lookup x=some .local:=by first | exact .inl rfl | exact .inr rfl | assumption):DS X (.Assign [.Name x pos'] e pos) (fSet i fe):=by
 refine ⟨?_⟩
 refine ps_imp (ps_set hN hi hx he.pe hs hf) fun D σ H=>?_
 rintro ⟨O₀,H₀,F,ts,O,ρ,T,fl,ρ',T',rs,e,q⟩
 obtain ⟨w,T1,e1,e⟩:=bnd_of e
 refine ⟨O,ts,ρ,T,w,T1,rs.hc,rs.re,e1,fun v H1 s1 hc1 r1=>?_⟩
 cases w with
 | d x=>cases e; exact q O _ _ ((rs.step s1 hc1).set r1 fun _ z=>nomatch z)
 | tp k=>cases e; exact q O _ _ ((rs.step s1 hc1).set r1 fun _ z=>nomatch z)
 | loc xs=>cases e
theorem ds_setL {i:Nat} {x:Str} {pos':Pos} {es:List Expr} {lpos:Pos} {g:FA} (hN:X.N.Nodup) (he:DA X es g) (hi:X.N[i]? = some x:=by rfl) (hx:Loc X.env.scope x:=by first | exact Or.inl rfl | exact Or.inr rfl)
  (hs:swapsWith (.List es lpos) (some (.Name x pos')) pos.line X.env=pure false:=by rfl) (hf:X.fn x=true∨X.env.scope.names.lookup x=some .local:=by first | exact .inl rfl | exact .inr rfl | assumption):DS X (.Assign [.Name x pos'] (.List es lpos) pos) (fSetL i g):=by
 refine ⟨?_⟩
 refine ps_imp (ps_set hN hi hx (pe_lst he.pe) hs hf) fun D σ H=>?_
 rintro ⟨O₀,H₀,F,ts,O,ρ,T,fl,ρ',T',rs,e,q⟩
 obtain ⟨ws,T1,e1,e⟩:=bnd_of e
 refine ⟨O,ts,ρ,T,ws,T1,rs.hc,rs.re,e1,fun vs H1 s1 hc1 r1=>?_⟩
 split at e
 ·rename_i xs h1
  split at e
  ·rename_i h2
   cases e
   have rv:=datas_of r1 h1
   exact ⟨le_line (by rw [rv.length]; exact h2),fun p hp=>q _ _ _ ((rs.step s1 hc1).own hp rv)⟩
  ·cases e
 ·cases e
theorem ds_if {ce:Expr} {a b:List Stmt} (hc:DT X ce c) (ha:DSs X a f) (hb:DSs X b g):DS X (.If ce a b pos) (fIf c f g):=by
 refine ⟨?_⟩
 refine ps_imp (ps_if hc.pe ha.pe hb.pe) fun D σ H=>?_
 rintro ⟨O₀,H₀,F,ts,O,ρ,T,fl,ρ',T',rs,e,q⟩
 obtain ⟨b1,T1,e1,e⟩:=bnd_of e
 refine ⟨O,ts,ρ,T,b1,T1,rs.hc,rs.re,e1,fun H1 s1 hc1=>?_⟩
 cases b1 with
 | true=>exact iteT ⟨O₀,H₀,F,ts,O,ρ,T1,fl,ρ',T',rs.step s1 hc1,by simpa using e,q⟩
 | false=>exact iteF ⟨O₀,H₀,F,ts,O,ρ,T1,fl,ρ',T',rs.step s1 hc1,by simpa using e,q⟩
theorem ds_ret (he:DE X e fe):DS X (.Return (some e) pos) (fRet fe):=by
 refine ⟨?_⟩
 refine ps_imp (ps_gh (ps_ret he.pe)) fun D σ H=>?_
 rintro ⟨O₀,H₀,F,ts,O,ρ,T,fl,ρ',T',rs,e,q⟩
 obtain ⟨w,T1,e1,e⟩:=bnd_of e
 refine rs.frzG.imp fun H0 ⟨same,c0,re0⟩=>?_
 refine ⟨O₀,ts,frzR ρ,T,w,T1,c0,re0,e1,fun v H1 s1 hc1 r1=>?_⟩
 cases w with
 | d x=>cases e; exact q v H1 (same.trans s1) hc1 r1
 | tp k=>cases e
 | loc xs=>cases e
theorem ds_drop (he:DE X e fe) (hs:swapsWith e none pos.line X.env=pure false:=by rfl):DS X (.Expr e pos) (fDrop fe):=by
 refine ⟨?_⟩
 refine ps_imp (ps_expr he.pe hs) fun D σ H=>?_
 rintro ⟨O₀,H₀,F,ts,O,ρ,T,fl,ρ',T',rs,e,q⟩
 obtain ⟨w,T1,e1,e⟩:=bnd_of e
 cases e
 exact ⟨O,ts,ρ,T,w,_,rs.hc,rs.re,e1,fun v H1 s1 hc1 r1=>q O _ _ (rs.step s1 hc1)⟩
theorem ds_put {o k:Expr} {fo fk:FE} {tpos:Pos} (ho:DE X o fo) (hk:DE X k fk) (he:DE X e fe) (ha:∀ v,assign (.Subscript o k tpos) X.env v=(do
   let ov ← holding [v] (eval o X.env)
   let iv ← holding [v,ov] (eval k X.env)
   standAt tpos
   holding [v,ov,iv] (setItem ov iv v)
   release [v,ov,iv] []):=by intro _; rfl)
  (hs:swapsWithSole [.Subscript o k tpos] e pos.line X.env=pure false:=by rfl) (hw:swappedStores [.Subscript o k tpos] e X.env=pure none:=by rfl)
  (h1:(assignEach [.Subscript o k tpos] X.env).map (·.2)=[assign (.Subscript o k tpos) X.env]:=by rfl):DS X (.Assign [.Subscript o k tpos] e pos) (fPut fo fk fe):=by
 refine ⟨?_⟩
 refine ps_imp (ps_asg he.pe (pg_sub ho.pe hk.pe set_list ha) hs hw h1) fun D σ H=>?_
 rintro ⟨O₀,H₀,F,ts,O,ρ,T,fl,ρ',T',rs,e,q⟩
 obtain ⟨w,T1,e1,e⟩:=bnd_of e
 obtain ⟨wo,T2,e2,e⟩:=bnd_of e
 obtain ⟨wk,T3,e3,e⟩:=bnd_of e
 refine ⟨O,ts,ρ,T,w,T1,rs.hc,rs.re,e1,fun v H1 s1 hc1 r1=>?_⟩
 have rs1:=rs.step s1 hc1
 refine ⟨O,ts,ρ,T1,wo,T2,hc1,rs1.re,e2,fun vo H2 s2 hc2 r2=>?_⟩
 have rs2:=rs1.step s2 hc2
 refine ⟨O,ts,ρ,T2,wk,T3,hc2,rs2.re,e3,fun vk H3 s3 hc3 r3=>?_⟩
 have rs3:=rs2.step s3 hc3
 split at e
 ·split at e
  ·rename_i xs h1
   split at e
   ·cases e
   ·rename_i hn
    split at e
    ·rename_i j h2
     cases e
     obtain ⟨a,k1,rfl⟩:=r2
     cases (show Rep X.K O H3 vk (.int _) from r3)
     obtain ⟨vs,k2,k3⟩:=(hc3.tape _ a xs k1 h1).lst (by simpa using hn)
     refine ⟨a,vs,_,j,rfl,rfl,k2,by rw [k3.length]; exact h2,q O _ _ (rs3.tape k1 (Reps.set ?_ j k3))⟩
     exact Rep.mono ((hc1.le s2).trans (hc2.le s3)) r1
    ·cases e
  ·cases e
 ·cases e
end
end D
namespace D
open PySem PySem.Spec PyProof.Rows L2
section
variable {K:PySem.W.Frag} {O₀:Addr→Prop} {H₀:Hp} {F:List ((Addr→Prop)×Hp)} {ts:List Addr} {O:Addr→Prop} {H H1:Hp} {σ:L2.St} {ρ:Rho} {T T1:Tp}
theorem RS.less {f:(Addr→Prop)×Hp} (r:RS K O₀ H₀ (f::F) ts O H σ ρ T):RS K O₀ H₀ F ts O H σ ρ T:=⟨r.hc,r.re,r.sub,r.ots,r.same,r.fresh,r.dist,fun f hf=>r.frs f (List.mem_cons_of_mem _ hf),r.len⟩
theorem RS.more (r:RS K O₀ H₀ F ts O H σ ρ T):RS K O₀ H₀ ((O,H)::F) ts O H σ ρ T:=⟨r.hc,r.re,r.sub,r.ots,r.same,r.fresh,r.dist,fun f hf=>by
 rcases List.mem_cons.mp hf with z | z
 ·subst z; exact fun a o n e=>⟨n,e⟩
 ·exact r.frs f z,r.len⟩
end
section
variable {X:Cx} {pos:Pos} {st:Stmt} {rest:List Stmt} {f g:FS} {e:Expr} {fe:FE} {c:FT}
theorem ds_for {i:Nat} {x:Str} {iter:Expr} {body:List Stmt} {tpos:Pos} {it:FI} (hN:X.N.Nodup) (hi:DI X (.Name x tpos) iter it) (hb:DSs X body f) (hix:X.N[i]? = some x:=by rfl) (hx:Loc X.env.scope x:=by first | exact Or.inl rfl | exact Or.inr rfl)
  (hf:X.fn x=true∨X.env.scope.names.lookup x=some .local:=by first | exact .inl rfl | exact .inr rfl | assumption) (hp:PassesOwn (model X.prog X.w) X.A X.env X.xe:=by exact PassesOwn.never) (hc:X.calm=true:=by rfl)
  (hs:∀ x,foldedSetIterable iter X.env x=pure x:=by intro _; rfl):DS X (.For (.Name x tpos) iter body [] pos) (fFor i it f):=by
 refine ⟨?_⟩
 refine ps_imp (ps_for hp hc hi.pe (pg_name hN hix hx hf) hb.pe hs) fun D σ H=>?_
 rintro ⟨O₀,H₀,F,ts,O,ρ,T,fl,ρ',T',rs,e,q⟩
 obtain ⟨ds,T1,e1,e⟩:=bnd_of e
 refine ⟨O,ts,ρ,T,ds,T1,rs.hc,rs.re,e1,fun J H1 s1 hc1 ok hz=>?_⟩
 refine ⟨fun k m σ H=>m=ds.length - k∧k≤ds.length∧∃ O' ρk Tk,RS X.K O₀ H₀ ((O,H1)::F) ts O' H σ ρk Tk∧forL i f (ds.drop k) ρk Tk=some ((fl,ρ'),T'),⟨_,rfl,Nat.zero_le _,O,ρ,T1,(rs.step s1 hc1).more,e⟩,?_⟩
 rintro k m σ2 H2 ⟨rfl,hk,O',ρk,Tk,rs2,ek⟩
 obtain ⟨k1,k2,k3⟩:=ok O' H2 (rs2.frs _ List.mem_cons_self)
 by_cases hlt:k < ds.length
 ·refine .inr ⟨k1 k hlt,fun σ3 H3=>∃ O' ρk Tk,RS X.K O₀ H₀ ((O,H1)::F) ts O' H3 σ3 ρk Tk∧forL i f (ds.drop (k + 1)) ρk Tk=some ((fl,ρ'),T'),fun σ3 H3 n=>⟨ds.length - (k + 1),by omega,rfl,hlt,n⟩,fun v H3 y=>?_⟩
  obtain ⟨e2,d,hd,rd⟩:=k3 k v H3 y hlt
  subst e2
  have hdr:ds.drop k=d::ds.drop (k + 1):=by
   rw [List.drop_eq_getElem_cons hlt]
   have:=(List.getElem?_eq_some_iff.mp hd).2
   rw [this]
  rw [hdr] at ek
  obtain ⟨⟨fl1,ρ1⟩,T3,e3,ek⟩:=bnd_of ek
  refine ⟨O₀,H₀,(O,H1)::F,ts,O',_,Tk,fl1,ρ1,T3,rs2.set (i:=i) (w:=.d d) rd (fun _ z=>nomatch z),e3,?_⟩
  cases fl1 with
  | nx=>exact fun O3 σ3 H3 rs3=>⟨O3,ρ1,T3,rs3,ek⟩
  | ct=>exact fun O3 σ3 H3 rs3=>⟨O3,ρ1,T3,rs3,ek⟩
  | bk=>
   cases ek
   exact fun O3 σ3 H3 rs3=>q O3 σ3 H3 rs3.less
  | rt x=>
   cases ek
   exact q
  | ro x=>
   cases ek
   exact q
 ·have e:k=ds.length:=by omega
  subst e
  rw [List.drop_eq_nil_of_le (Nat.le_refl _)] at ek
  cases ek
  exact .inl ⟨k2,q O' σ2 H2 rs2.less⟩
end
noncomputable abbrev FnM:=List W→Tp→Option (PyData×Tp)
noncomputable def noLoc:List W→Bool
 | []=>true
 | .loc _::_=>false
 | _::r=>noLoc r
noncomputable def fnEnd (o:Option ((Fl×Rho)×Tp)):Option (PyData×Tp):=bnd o fun p T=>match p with
 | (.rt x,_)=>some (x,T)
 | (.nx,_)=>some (.none,T)
 | _=>none
noncomputable def mkFn (N:Nat) (f:FS):FnM:=fun ws T=>if noLoc ws=true then fnEnd (f (ws.map some++List.replicate (N - ws.length) none) T) else none
inductive SpMP (K:PySem.W.Frag) (n:Nat) (m:FnM) (vs:List V) (H:Hp) (Q:VK):Prop where
 | mk (O:Addr→Prop) (ts:List Addr) (T:Tp) (ws:List W) (x:PyData) (T':Tp) (hc:HC K O ts H T) (r:RepWs K O ts H vs ws) (hl:ws.length=n) (e:m ws T=some (x,T')) (q:∀ v H',SameX ts H H'→HC K O ts H' T'→Rep K O H' v x→Q v H'):SpMP K n m vs H Q
noncomputable def spM (K:PySem.W.Frag) (n:Nat) (m:FnM):Sp:=fun vs H Q _=>SpMP K n m vs H Q
theorem repws_get {K:PySem.W.Frag} {O:Addr→Prop} {ts:List Addr} {H:Hp}:∀ {vs:List V} {ws:List W} {i:Nat} {w:W},RepWs K O ts H vs ws→ws[i]? = some w→∃ v,vs[i]? = some v∧RepW K O ts H v w
 | _,_,_,_,.nil,e=>by simp at e
 | _,_,0,_,.cons r _,e=>by simp at e; subst e; exact ⟨_,rfl,r⟩
 | _,_,i + 1,w,.cons _ t,e=>by
  obtain ⟨d,h1,h2⟩:=repws_get (i:=i) (w:=w) t (by simpa using e)
  exact ⟨d,by simpa using h1,h2⟩
theorem noLoc_mem:∀ {ws:List W} {xs:PyData},noLoc ws=true→W.loc xs∉ws
 | [],_,_,h=>by cases h
 | .loc _::_,_,e,_=>by cases e
 | .d _::r,_,e,h=>by
  rcases List.mem_cons.mp h with z | z
  ·cases z
  ·exact noLoc_mem (ws:=r) e z
 | .tp _::r,_,e,h=>by
  rcases List.mem_cons.mp h with z | z
  ·cases z
  ·exact noLoc_mem (ws:=r) e z
theorem start_get {ws:List W} {n i:Nat} {w:W} (e:(ws.map some++List.replicate n none)[i]? = some (some w)):ws[i]? = some w:=by
 by_cases h:i < ws.length
 ·rw [List.getElem?_append_left (by simpa using h),List.getElem?_map] at e
  cases q:ws[i]? with
  | none=>rw [q] at e; cases e
  | some u=>rw [q] at e; cases e; rfl
 ·rw [List.getElem?_append_right (by simpa using h)] at e
  have:=List.mem_of_getElem? e
  rw [List.mem_replicate] at this
  cases this.2
theorem dfn {P:Program} {w:World} {K:PySem.W.Frag} {mg:Str→Option Value} {base:Heap} {x qual:Str} {st:Stmt} {f:Addr} {fd:FuncData} {N ps:List Str} {k:Nat} {m:FS} (F:Fun K x qual st f fd) (S:FnScope N ps (defScope st))
  (hbody:∀ (cdv:Value) (A:Around) (outer:List Env) (s:Shared) (H:Hp) (E:XK),Room k (A.deeper (envOfC qual (defScope st) s.heap.objs.size f cdv))→DSs (cxOf CX0 P w K mg base N qual (defScope st) f cdv A outer s H E).nox (defBody st) m) :
  FnOk P w K mg base CX0 (k + 1) f fd ps (spM K ps.length (mkFn N.length m)):=by
 refine F.ok S (fun vs H Q E h=>?_) (fun cdv A outer s H vs Q E hr h=>⟨_,(hbody cdv A outer s H E hr).pe,?_⟩)
 ·obtain ⟨O,ts,T,ws,x,T',hc,rw',hl,_⟩:=h
  rw [← hl]
  exact Paired.length rw'
 obtain ⟨O,ts,T,ws,x,T',hc,rw',hl,e,q⟩:=h
 unfold mkFn at e
 split at e
 ·rename_i hn
  obtain ⟨⟨fl,ρ'⟩,T1,e1,e⟩:=bnd_of e
  have hlen:vs.length=ws.length:=Paired.length rw'
  have noL:∀ {i:Nat} {xs:PyData},(ws.map some++List.replicate (N.length - ws.length) none)[i]? = some (some (W.loc xs))→False:=fun {i xs} e=>noLoc_mem hn (List.mem_of_getElem? (start_get e))
  refine ⟨O,H,[],ts,O,_,T,fl,ρ',T1,⟨hc,fun i u e=>?_,fun _ h=>h,hc.own,.refl _ _,fun i xs a e1 _=>(noL e1).elim,fun i j xs ys v e1 _ _ _=>(noL e1).elim,fun f hf=>absurd hf (by simp),by simp [L2.start,hlen]⟩,e1,?_⟩
  ·obtain ⟨v,h1,h2⟩:=repws_get rw' (start_get e)
   refine ⟨v,?_,h2⟩
   unfold L2.start
   have hi:i < vs.length:=(List.getElem?_eq_some_iff.mp h1).1
   rw [List.getElem?_append_left (by simpa using hi),List.getElem?_map,h1]
   rfl
  ·cases fl with
   | rt y=>cases e; exact fun v H' s1 c1 r1=>q v H' s1 c1 r1
   | nx=>
    cases e
    exact fun O' σ' H' rs=>q _ _ rs.same rs.frzH .non
   | bk=>cases e
   | ct=>cases e
   | ro y=>cases e
 ·cases e
noncomputable def fCall (m:FnM) (g:FA):FE:=fun ρ T=>bnd (g ρ T) fun ws T1=>bnd (m ws T1) fun x T2=>some (.d x,T2)
noncomputable def LenA (g:FA) (n:Nat):Prop:=∀ ρ T ws T',g ρ T=some (ws,T')→ws.length=n
theorem len_nil:LenA fNil 0:=fun ρ T ws T' e=>by cases e; rfl
theorem len_cons {f:FE} {g:FA} {n:Nat} (h:LenA g n):LenA (fCons f g) (n + 1):=fun ρ T ws T' e=>by
 obtain ⟨w1,T1,e1,e⟩:=bnd_of e
 obtain ⟨ws,T2,e2,e⟩:=bnd_of e
 cases e
 rw [List.length_cons,h _ _ _ _ e2]
theorem de_call {X:Cx} {name:Str} {ps:List Str} {k:Nat} {m:FnM} {e:Expr} {es:List Expr} {g:FA} {p pos:Pos} (F:Fn X.prog X.w X.K X.mg X.base name ps k (spM X.K ps.length m)) (hr:Room k X.A) (hg:Gl X name) (ha:DA X (e::es) g) (hl:LenA g ps.length) (hdb:(name == ("__debug__" : Str))=false:=by decide)
  (he:starEach (e::es) X.env=(false,eval e X.env)::starEach es X.env:=by exact star_cons rfl) (hpl:(backTo pos (starEach es X.env)).any (·.1)=false:=by exact star_any rfl):DE X (.Call (.Name name p) (e::es) [] pos) (fCall m g):=by
 refine ⟨?_⟩
 refine pe_imp (pe_fn F hr hg ha.pe hdb he hpl) fun σ H Q=>?_
 rintro ⟨O,ts,ρ,T,w,T',hc,re,e,q⟩
 obtain ⟨ws,T1,e1,e⟩:=bnd_of e
 obtain ⟨x,T2,e2,e⟩:=bnd_of e
 cases e
 refine ⟨O,ts,ρ,T,ws,T1,hc,re,e1,fun vs H1 s1 hc1 r1=>?_⟩
 refine ⟨O,ts,T1,ws,x,_,hc1,by rw [List.append_nil]; exact r1,hl _ _ _ _ e1,e2,fun v H2 s2 hc2 r2=>q v H2 (s1.trans s2) hc2 r2⟩
end D
namespace D
open PySem PySem.Spec PyProof.Rows L2
noncomputable def iop (g:Int→Int→Option PyData):PyData→PyData→Option PyData
 | .int i,.int j=>g i j
 | _,_=>none
noncomputable def subD:PyData→PyData→Option PyData:=iop fun i j=>some (.int (i - j))
noncomputable def modD:PyData→PyData→Option PyData:=iop fun i j=>if 0 < j then some (.int (i % j)) else none
noncomputable def fdivD:PyData→PyData→Option PyData:=iop fun i j=>if 0 < j∧j < 1073741824 then some (.int (i / j)) else none
noncomputable def powD:PyData→PyData→Option PyData:=iop fun i j=>if 0≤j∧j≤1000000∧i.natAbs < 2 ^ 64 then some (.int (i ^ j.toNat)) else none
noncomputable def ltD:PyData→PyData→Option PyData:=iop fun i j=>some (.bool (decide (i < j)))
noncomputable def leD:PyData→PyData→Option PyData:=iop fun i j=>some (.bool (decide (i≤j)))
noncomputable def gtD:PyData→PyData→Option PyData:=iop fun i j=>some (.bool (decide (j < i)))
noncomputable def geD:PyData→PyData→Option PyData:=iop fun i j=>some (.bool (decide (j≤i)))
theorem iop_of {g:Int→Int→Option PyData} {x y d:PyData} (e:iop g x y=some d):∃ i j,x=.int i∧y=.int j∧g i j=some d:=by
 unfold iop at e
 split at e
 ·exact ⟨_,_,rfl,rfl,e⟩
 ·cases e
theorem snd_rI {K:PySem.W.Frag} {C:Int→Int→Prop} {g:Int→Int→V} {gd:Int→Int→Option PyData} (h:∀ i j d,gd i j=some d→C i j∧∀ O H,Rep K O H (g i j) d):Snd2 K (rI C g) (iop gd):=fun O ts H T v1 v2 x y d Q hc h1 h2 e q=>by
 obtain ⟨i,j,rfl,rfl,e⟩:=iop_of e
 obtain ⟨c,r⟩:=h i j d e
 exact ⟨i,j,h1.int,h2.int,c,q _ H (.refl _ _) hc (r O H)⟩
theorem snd_rI0 {K:PySem.W.Frag} {g:Int→Int→V} {gd:Int→Int→Option PyData} (h:∀ i j d,gd i j=some d→∀ O H,Rep K O H (g i j) d):Snd2 K (rI0 g) (iop gd):=fun O ts H T v1 v2 x y d Q hc h1 h2 e q=>by
 obtain ⟨i,j,rfl,rfl,e⟩:=iop_of e
 exact ⟨i,j,h1.int,h2.int,q _ H (.refl _ _) hc (h i j d e O H)⟩
section
variable {X:Cx}
theorem o_sub:OpD X (binaryOp .Sub) subD:=⟨_,op_sub,snd_rI0 fun i j d e O H=>by cases e; exact .int _⟩
theorem o_mod:OpD X (binaryOp .Mod) modD:=⟨_,op_mod,snd_rI fun i j d e=>by
 split at e
 ·rename_i h; cases e; exact ⟨h,fun _ _=>.int _⟩
 ·cases e⟩
theorem o_pow:OpD X (binaryOp .Pow) powD:=⟨_,op_pow,snd_rI fun i j d e=>by
 split at e
 ·rename_i h; cases e; exact ⟨h,fun _ _=>.int _⟩
 ·cases e⟩
theorem o_lt:OpD X (compareOp .Lt) ltD:=⟨_,op_lt,snd_rI0 fun i j d e O H=>by cases e; exact .bl _⟩
theorem o_le:OpD X (compareOp .LtE) leD:=⟨_,op_le,snd_rI0 fun i j d e O H=>by cases e; exact .bl _⟩
theorem o_gt:OpD X (compareOp .Gt) gtD:=⟨_,op_gt,snd_rI0 fun i j d e O H=>by cases e; exact .bl _⟩
theorem o_ge:OpD X (compareOp .GtE) geD:=⟨_,op_ge,snd_rI0 fun i j d e O H=>by cases e; exact .bl _⟩
noncomputable def addD:PyData→PyData→Option PyData
 | .int i,.int j=>some (.int (i + j))
 | .str x,.str y=>if x.length + y.length≤sizeLine then some (.str (x++y)) else none
 | .tuple xs,.tuple ys=>if xs.length + ys.length≤sizeLine then some (.tuple (xs++ys)) else none
 | .list xs,.list ys=>if xs.length + ys.length≤sizeLine then some (.list (xs++ys)) else none
 | _,_=>none
noncomputable def rCatL (K:PySem.W.Frag):R2:=fun x y H Q=>∃ l b xs zs,x=.ref l∧y=.ref b∧SqL K H l xs∧SqL K H b zs∧xs.length + zs.length≤sizeLine∧∀ p,H p=none→Q (.ref p) (upd H p (.lst (xs++zs)))
theorem op_catL:OpR X (binaryOp .Add) (rCatL X.K):=by
 intro pins s σ H x y v u Q I rx ry h
 obtain ⟨l,b,xs,zs,rfl,rfl,hH,hB,hz,q⟩:=h
 cases rx
 cases ry
 obtain ⟨its,r,p1,_⟩:=I.list hH
 obtain ⟨its2,r2,p2,_⟩:=I.list hB
 have hl:=r.length
 have hl2:=r2.length
 obtain ⟨⟨cls,dd,data,sl⟩,ho,hc,n,hd⟩:=id p1.isList
 obtain ⟨⟨cls2,dd2,data2,sl2⟩,ho2,hc2,n2,hd2⟩:=id p2.isList
 simp only at hc hd hc2 hd2
 subst hc hd hc2 hd2
 have ea:its.toArray++its2.toArray=(its++its2).toArray:=by simp
 refine concat_meets ⟨_,ho,rfl⟩ ⟨_,ho2,rfl⟩ noFill_list_add seq_list_add PySem.F.slot_list_add PySem.F.entry_list_add (PySem.F.args_list_add_2 _ _) (list_addW l b its.toArray its2.toArray n n2 dd dd2 sl sl2 (by rw [List.size_toArray,List.size_toArray]; omega)) ⟨ho,ho2,?_⟩
 rw [ea]
 exact ⟨.ref _,_,I.lnew (t':=s.toks) (r.append r2) (by rw [List.length_append]; omega),rfl,q _ I.fresh⟩
theorem o_add:OpD X (binaryOp .Add) addD:=by
 refine ⟨_,op_add.or (op_add_str.or (op_catG.or op_catL)),fun O ts H T v1 v2 x y d Q hc h1 h2 e q=>?_⟩
 unfold addD at e
 split at e
 ·cases e
  exact .inl ⟨_,_,h1.int,h2.int,q _ H (.refl _ _) hc (.int _)⟩
 ·split at e
  ·rename_i hz
   cases e
   exact .inr (.inl ⟨_,_,h1.str,h2.str,hz,q _ H (.refl _ _) hc (.str _)⟩)
  ·cases e
 ·split at e
  ·rename_i xs ys hz
   cases e
   obtain ⟨a,vs,rfl,t1,r1⟩:=h1.tup
   obtain ⟨b,us,rfl,t2,r2⟩:=h2.tup
   refine .inr (.inr (.inl ⟨a,b,vs,us,rfl,rfl,t1.sq,t2.sq,by rw [r1.length,r2.length]; exact hz,fun z=>?_,fun _ z=>?_,fun _ _ p hp=>?_⟩))
   ·subst z
    cases r1
    exact q _ H (.refl _ _) hc (.tup t2 r2)
   ·subst z
    cases r2
    rw [List.append_nil] at q
    exact q _ H (.refl _ _) hc (.tup t1 r1)
   ·exact q _ _ (.new hp _) (hc.new hp _) (hc.newT hp (r1.append r2))
  ·cases e
 ·split at e
  ·rename_i xs ys hz
   cases e
   obtain ⟨a,vs,rfl,t1,r1⟩:=h1.lst
   obtain ⟨b,us,rfl,t2,r2⟩:=h2.lst
   exact .inr (.inr (.inr ⟨a,b,vs,us,rfl,rfl,t1,t2,by rw [r1.length,r2.length]; exact hz,fun p hp=>q _ _ (.new hp _) (hc.new hp _) (hc.newL hp (r1.append r2))⟩))
  ·cases e
 ·cases e
theorem noFill_tuple_mul:fillsNumberSlot (.type "tuple") "mul" = pure false:=
 PySem.fillsNumberSlot_seq (id:="tuple.__mul__") (r:=some (.builtin "tuple.__rmul__")) PySem.F.slot_tuple_mul.lookup (by decide +kernel) PySem.F.slot_tuple_rmul.lookup (by decide +kernel)
theorem repeat_tuple:seqRepeat? (.type "tuple")=pure (some (.builtin "tuple.__mul__")):=by
 unfold seqRepeat?
 rw [PySem.seqSlot_of (T:="tuple") (name:="__mul__") (id:="tuple.__mul__") PySem.F.slot_tuple_mul.lookup (by decide +kernel),PySem.seqSlot_of (T:="tuple") (name:="__rmul__") (id:="tuple.__rmul__") PySem.F.slot_tuple_rmul.lookup (by decide +kernel)]
 rfl
theorem int_rmul_tuple (a:Int) (t:Tok) (l:Addr) (items:Array Value) (n:Nat) (dd:Option Addr) (sl:Array (Option Value)) :
  Meets (Builtin.«int.__rmul__» ⟨[.int a t,.ref l],[]⟩) (fun _ R s=>s.heap.get? l=some { cls:=.type "tuple",dict:=dd,data:=.seq items n,slots:=sl }∧R (.ok (.ret Value.notImplemented)) s):=
 .of_wp fun prog w A R s h=>by obtain ⟨hp,g,d,tk,os⟩:=s; obtain ⟨hl,h⟩:=h; wp_walk; exact ⟨_,rfl,h⟩
theorem tuple_mulW (l:Addr) (items:Array Value) (n:Nat) (dd:Option Addr) (sl:Array (Option Value)) (k:Int) (t:Tok) (h1:2≤k) (h2:k≤1000) (h3:items.isEmpty=false) (h4:items.size≤1000) :
  Meets (Builtin.«tuple.__mul__» ⟨[.ref l,.int k t],[]⟩) (fun _ R s=>s.heap.get? l=some { cls:=.type "tuple",dict:=dd,data:=.seq items n,slots:=sl }∧R (.ok (.ret (Value.ref s.heap.objs.size))) { s with heap:=s.heap.push { cls:=Value.type "tuple",data:=Data.seq (List.foldl (fun x1 x2=>x1++x2) #[] (List.replicate k.toNat items)) },toks:=s.toks }):=
 .of_wp fun prog w A R s h=>by
  obtain ⟨hp,g,d,tk,os⟩:=s
  obtain ⟨hl,h⟩:=h
  have hc0:¬ (decide (k < -(2 ^ 63)) || decide (k≥2 ^ 63))=true:=by simp; omega
  have hc1:¬ (items.isEmpty || k == 1)=true:=by rw [h3]; simp; omega
  have hc2:¬ (decide (k≤0) || items.isEmpty)=true:=by rw [h3]; simp; omega
  have hm:items.size * k.toNat≤1000 * 1000:=Nat.mul_le_mul h4 (by omega)
  have hm':(items.size:Int) * k≤1000000:=by
   have e:((items.size * k.toNat:Nat):Int)=(items.size:Int) * k:=by rw [Int.natCast_mul,Int.toNat_of_nonneg (by omega)]
   omega
  have hc3:¬ (items.size:Int) * k > (2 ^ 63 - 1) / 8:=by
   have:(1000000:Int)≤(2 ^ 63 - 1) / 8:=by decide
   omega
  have hc4:¬ Builtin.Tuple.tupleTooMany ((items.size:Int) * k)=true:=by
   unfold Builtin.Tuple.tupleTooMany
   have:sizeLine=16777216:=by decide
   simp
   omega
  have ht:IsTup hp l items:=⟨_,hl,rfl,n,rfl⟩
  wp_walk
  rw [if_neg hc0]
  dsimp only
  refine wpAny_bind (tupleItemsOf_ ht ?_)
  rw [if_neg hc1,if_neg hc2,if_neg hc3,if_neg hc4]
  have fit:sizeOk (.seq (List.foldl (fun x1 x2=>x1++x2) #[] (List.replicate k.toNat items))):=by
   show (List.foldl (fun x1 x2=>x1++x2) #[] (List.replicate k.toNat items)).size≤sizeLine
   have q:=foldl_rep items.toList k.toNat []
   rw [List.nil_append] at q
   have q':List.foldl (fun x1 x2=>x1++x2) #[] (List.replicate k.toNat items)=(List.replicate k.toNat items.toList).flatten.toArray:=by simpa using q
   rw [q',List.size_toArray,len_rep]
   have:sizeLine=16777216:=by decide
   rw [Array.length_toList,Nat.mul_comm]
   omega
  first
  | exact wpAny_bind (m:=Builtin.Tuple.tupleExact _) (wpAny_newObj_type (wpAny_pure ⟨_,rfl,h⟩) fit)
  | exact wpAny_bind (m:=Builtin.Tuple.tupleExact _) (wpAny_newObj_type (wpAny_bind (wpAny_pure (wpAny_pure ⟨_,rfl,h⟩))) fit)
theorem op_repT:OpR X (binaryOp .Mult) (fun x y H Q=>∃ a k xs,x=.ref a∧y=.int k∧SqT X.K H a xs∧2≤k∧k≤1000∧xs≠[]∧xs.length≤1000∧∀ p,H p=none→Q (.ref p) (upd H p (.tup (List.replicate k.toNat xs).flatten))):=by
 intro pins s σ H x y v u Q I rx ry h
 obtain ⟨a,k,xs,rfl,rfl,hq,h1,h2,h3,h4,q⟩:=h
 cases rx
 obtain ⟨t,rfl⟩:=ry
 obtain ⟨its,r,p1,_⟩:=I.tuple hq
 have hl:=r.length
 have hv:its≠[]:=fun z=>h3 (r.nil_iff.mp z)
 obtain ⟨⟨cls,dd,data,sl⟩,ho,hc,n,hd⟩:=id p1
 simp only at hc hd
 subst hc hd
 have hnew:List.foldl (fun x1 x2=>x1++x2) #[] (List.replicate k.toNat its.toArray)=(List.replicate k.toNat its).flatten.toArray:=by
  have q:=foldl_rep its k.toNat []
  rw [List.nil_append] at q
  exact q
 have he:its.toArray.isEmpty=false:=by
  cases its with
  | nil=>exact absurd rfl hv
  | cons _ _=>simp
 refine wpAny_binaryOp_repeat_ref (T:="tuple") (U:="int") (by decide) ⟨_,ho,rfl⟩ (fun s'=>typeIs_int s' k t) noFill_tuple_mul F.fills_int_mul F.slot_int_rmul repeat_tuple F.slot_int_index.lookup
  (call_meets F.slot_int_rmul (typeIs_int s k t) F.entry_int_rmul (F.args_int_rmul_2 _ _) (int_rmul_tuple k t a its.toArray n dd sl)
   ⟨ho,rfl,⟨_,ho,rfl⟩,call_meets PySem.F.slot_tuple_mul ⟨_,ho,rfl⟩ PySem.F.entry_tuple_mul (PySem.F.args_tuple_mul_2 _ _) (tuple_mulW a its.toArray n dd sl k t h1 h2 he (by rw [List.size_toArray]; omega)) ⟨ho,?_⟩⟩)
 rw [hnew]
 refine ⟨.ref s.heap.objs.size,_,I.laid (t':=s.toks) (o:=.tup (List.replicate k.toNat xs).flatten) (fun b ob q=>Heap.get?_push_of_some _ q) (Nat.le_refl _) ?_,rfl,q _ (I.hok.fresh (Nat.le_refl _))⟩
 refine ⟨?_,_,r.rep k.toNat,IsTup.new _ _⟩
 rw [len_rep]
 have:k.toNat * xs.length≤1000 * 1000:=Nat.mul_le_mul (by omega) h4
 have:sizeLine=16777216:=by decide
 omega
noncomputable def mulD:PyData→PyData→Option PyData
 | .int i,.int j=>if (-(2 ^ 64) < i∧i < 2 ^ 64)∨(-(2 ^ 64) < j∧j < 2 ^ 64) then some (.int (i * j)) else none
 | .str z,.int k=>if 0≤k∧k≤2000∧z.length≤1000 then some (.str (Txt.mul z k)) else none
 | .tuple xs,.int k=>if 2≤k∧k≤1000∧xs.isEmpty=false∧xs.length≤1000 then some (.tuple (List.replicate k.toNat xs).flatten) else none
 | _,_=>none
theorem o_mul:OpD X (binaryOp .Mult) mulD:=by
 refine ⟨_,op_mul.or (op_mulS.or op_repT),fun O ts H T v1 v2 x y d Q hc h1 h2 e q=>?_⟩
 unfold mulD at e
 split at e
 ·split at e
  ·rename_i hz
   cases e
   exact .inl ⟨_,_,h1.int,h2.int,hz,q _ H (.refl _ _) hc (.int _)⟩
  ·cases e
 ·split at e
  ·rename_i hz
   cases e
   exact .inr (.inl ⟨_,_,h1.str,h2.int,hz.1,hz.2.1,hz.2.2,q _ H (.refl _ _) hc (.str _)⟩)
  ·cases e
 ·split at e
  ·rename_i xs k hz
   cases e
   obtain ⟨a,vs,rfl,t1,r1⟩:=h1.tup
   exact .inr (.inr ⟨a,_,vs,rfl,h2.int,t1.sq,hz.1,hz.2.1,fun z=>by subst z; cases r1; exact absurd hz.2.2.1 (by simp),by rw [r1.length]; exact hz.2.2.2,fun p hp=>q _ _ (.new hp _) (hc.new hp _) (hc.newT hp (r1.rep _))⟩)
  ·cases e
 ·cases e
noncomputable def eqS:PyData→PyData→Option Bool
 | .int i,.int j=>some (decide (i=j))
 | .str x,.str y=>some (decide (x=y))
 | .bool a,.bool b=>some (decide (a=b))
 | .none,.none=>some true
 | .none,.int _=>some false | .int _,.none=>some false | .none,.bool _=>some false | .bool _,.none=>some false | .none,.str _=>some false | .str _,.none=>some false
 | .int _,.str _=>some false | .str _,.int _=>some false | .bool _,.str _=>some false | .str _,.bool _=>some false
 | _,_=>none
theorem eqS_of {K:PySem.W.Frag} {O:Addr→Prop} {H:Hp} {v1 v2:V} {x y:PyData} {b:Bool} (h1:Vw K O H v1 x) (h2:Vw K O H v2 y) (e:eqS x y=some b):scal v1 v2=true∧decide (v1=v2)=b:=by
 unfold eqS at e
 split at e
 all_goals first | (cases e; done) | skip
 ·cases h1.int; cases h2.int; cases e; exact ⟨rfl,by simp⟩
 ·cases h1.str; cases h2.str; cases e; exact ⟨rfl,by simp⟩
 ·cases h1.bl; cases h2.bl; cases e; exact ⟨rfl,by simp⟩
 ·cases h1.non; cases h2.non; cases e; exact ⟨rfl,by simp⟩
 ·cases h1.non; cases h2.int; cases e; exact ⟨rfl,by simp⟩
 ·cases h1.int; cases h2.non; cases e; exact ⟨rfl,by simp⟩
 ·cases h1.non; cases h2.bl; cases e; exact ⟨rfl,by simp⟩
 ·cases h1.bl; cases h2.non; cases e; exact ⟨rfl,by simp⟩
 ·cases h1.non; cases h2.str; cases e; exact ⟨rfl,by simp⟩
 ·cases h1.str; cases h2.non; cases e; exact ⟨rfl,by simp⟩
 ·cases h1.int; cases h2.str; cases e; exact ⟨rfl,by simp⟩
 ·cases h1.str; cases h2.int; cases e; exact ⟨rfl,by simp⟩
 ·cases h1.bl; cases h2.str; cases e; exact ⟨rfl,by simp⟩
 ·cases h1.str; cases h2.bl; cases e; exact ⟨rfl,by simp⟩
noncomputable def eqD (x y:PyData):Option PyData:=(eqS x y).map .bool
noncomputable def neD (x y:PyData):Option PyData:=(eqS x y).map fun b=>.bool (!b)
theorem o_eq:OpD X (compareOp .Eq) eqD:=⟨_,op_eq,fun O ts H T v1 v2 x y d Q hc h1 h2 e q=>by
 unfold eqD at e
 obtain ⟨b,e1,rfl⟩:=Option.map_eq_some_iff.mp e
 obtain ⟨k1,k2⟩:=eqS_of h1 h2 e1
 exact ⟨k1,by rw [k2]; exact q _ H (.refl _ _) hc (.bl _)⟩⟩
theorem o_ne:OpD X (compareOp .NotEq) neD:=⟨_,op_ne,fun O ts H T v1 v2 x y d Q hc h1 h2 e q=>by
 unfold neD at e
 obtain ⟨b,e1,rfl⟩:=Option.map_eq_some_iff.mp e
 obtain ⟨k1,k2⟩:=eqS_of h1 h2 e1
 exact ⟨k1,by rw [k2]; exact q _ H (.refl _ _) hc (.bl _)⟩⟩
noncomputable def isNone:PyData→Bool
 | .none=>true
 | _=>false
noncomputable def isD:PyData→PyData→Option PyData
 | x,.none=>some (.bool (isNone x))
 | _,_=>none
noncomputable def isNotD:PyData→PyData→Option PyData
 | x,.none=>some (.bool (!isNone x))
 | .bool a,.bool b=>some (.bool (a != b))
 | _,_=>none
noncomputable def flatD:PyData→Bool
 | .none=>true | .bool _=>true | .int _=>true | .str _=>true
 | _=>false
noncomputable def eqF:PyData→PyData→Bool
 | .none,.none=>true
 | .bool a,.bool b=>a == b
 | .bool a,.int b=>(if a then 1 else 0) == b
 | .int a,.bool b=>a == (if b then 1 else 0)
 | .int a,.int b=>a == b
 | .str a,.str b=>a == b
 | _,_=>false
noncomputable def hasS (y x:Str):Bool:=!(Builtin.Str.occurrences y x 0 y.length 1).isEmpty
noncomputable def inS:PyData→PyData→Option Bool
 | .str x,.str y=>some (hasS y x)
 | x,.list ys=>if flatD x && ys.all flatD then some (ys.any fun y=>eqF y x) else none
 | x,.tuple ys=>if flatD x && ys.all flatD then some (ys.any fun y=>eqF y x) else none
 | _,_=>none
theorem flat_of {K:PySem.W.Frag} {O:Addr→Prop} {H:Hp} {v:V} {x:PyData} (h:Rep K O H v x) (e:flatD x=true):flatV v=true:=by
 cases h <;> first | rfl | cases e
theorem eqF_of {K:PySem.W.Frag} {O:Addr→Prop} {H:Hp} {v u:V} {x y:PyData} (h:Rep K O H v x) (g:Rep K O H u y) (ex:flatD x=true) (ey:flatD y=true):eqV v u=eqF x y:=by
 cases h <;> cases g <;> first | rfl | cases ex | cases ey
theorem flats_of {K:PySem.W.Frag} {O:Addr→Prop} {H:Hp}:∀ {vs:List V} {xs:List PyData},Reps K O H vs xs→xs.all flatD=true→vs.all flatV=true
 | _,_,.nil,_=>rfl
 | _,_,.cons r t,e=>by
  rw [List.all_cons,Bool.and_eq_true] at e
  rw [List.all_cons,flat_of r e.1,flats_of t e.2]
  rfl
theorem anys_of {K:PySem.W.Frag} {O:Addr→Prop} {H:Hp} {v:V} {x:PyData} (h:Rep K O H v x) (ex:flatD x=true):∀ {vs:List V} {xs:List PyData},Reps K O H vs xs→xs.all flatD=true→(vs.any fun y=>eqV y v)=xs.any fun y=>eqF y x
 | _,_,.nil,_=>rfl
 | _,_,.cons r t,e=>by
  rw [List.all_cons,Bool.and_eq_true] at e
  rw [List.any_cons,List.any_cons,eqF_of r h e.1 ex,anys_of h ex t e.2]
theorem Vw.flat {K:PySem.W.Frag} {O:Addr→Prop} {H:Hp} {v:V} {x:PyData} (h:Vw K O H v x) (e:flatD x=true):Rep K O H v x:=by
 cases h with
 | rep h=>exact h
 | raw _ _=>cases e
 | rawD _ _=>cases e
noncomputable def inD (x y:PyData):Option PyData:=(inS x y).map .bool
noncomputable def notInD (x y:PyData):Option PyData:=(inS x y).map fun b=>.bool (!b)
theorem snd_in {K:PySem.W.Frag} (neg:Bool):Snd2 K (fun x y H Q=>(∃ i j,x=.str i∧y=.str j∧Q (.bl (if neg then !(hasS j i) else hasS j i)) H)∨rIn K neg x y H Q) (fun x y=>(inS x y).map fun b=>.bool (if neg then !b else b)):=fun O ts H T v1 v2 x y d Q hc h1 h2 e q=>by
 obtain ⟨b,e1,rfl⟩:=Option.map_eq_some_iff.mp e
 unfold inS at e1
 split at e1
 ·cases e1
  exact .inl ⟨_,_,h1.str,h2.str,q _ H (.refl _ _) hc (.bl _)⟩
 ·split at e1
  ·rename_i hf
   cases e1
   rw [Bool.and_eq_true] at hf
   obtain ⟨a,vs,rfl,t,r⟩:=h2.lst
   have r1:=h1.flat hf.1
   refine .inr ⟨a,vs,rfl,.inl t,flat_of r1 hf.1,flats_of r hf.2,?_⟩
   have z:inV v1 vs=_:=anys_of r1 hf.1 r hf.2
   rw [z]
   exact q _ H (.refl _ _) hc (.bl _)
  ·cases e1
 ·split at e1
  ·rename_i hf
   cases e1
   rw [Bool.and_eq_true] at hf
   obtain ⟨a,vs,rfl,t,r⟩:=h2.tup
   have r1:=h1.flat hf.1
   refine .inr ⟨a,vs,rfl,.inr t.sq,flat_of r1 hf.1,flats_of r hf.2,?_⟩
   have z:inV v1 vs=_:=anys_of r1 hf.1 r hf.2
   rw [z]
   exact q _ H (.refl _ _) hc (.bl _)
  ·cases e1
 ·cases e1
theorem o_in:OpD X (compareOp .In) inD:=⟨_,op_in_str.or op_in_seq,snd_in false⟩
theorem o_notin:OpD X (compareOp .NotIn) notInD:=⟨_,op_notin_str.or op_notIn_seq,snd_in true⟩
noncomputable def negD:PyData→Option PyData
 | .int i=>some (.int (-i))
 | _=>none
theorem de_neg {a:Expr} {fa:FE} {pos:Pos} (ha:DE X a fa):DE X (.UnaryOp .USub a pos) (fUn negD fa):=de_un un_neg (fun O ts H T v x d Q hc h e q=>by
 unfold negD at e
 split at e
 ·cases e
  exact ⟨_,h.int,q _ H (.refl _ _) hc (.int _)⟩
 ·cases e) ha
noncomputable def ixD:PyData→PyData→Option PyData
 | .list xs,.int i=>atI xs i
 | .tuple xs,.int i=>atI xs i
 | .str z,.int i=>if z.length≤sizeLine then (atI z.cps.toList i).map fun c=>.str ⟨#[c]⟩ else none
 | _,_=>none
theorem reps_at {K:PySem.W.Frag} {O:Addr→Prop} {H:Hp} {vs:List V} {xs:List PyData} {i:Int} {d:PyData} (r:Reps K O H vs xs) (e:atI xs i=some d):∃ v,atI vs i=some v∧Rep K O H v d:=by
 unfold atI at e ⊢
 rw [r.length]
 cases h:ixN xs.length i with
 | none=>rw [h] at e; cases e
 | some j=>
  rw [h] at e
  exact r.getD e
theorem x_seq:IxD X ixD:=⟨_,ix_seq,fun O ts H T v1 v2 x y d Q hc h1 h2 e q=>by
 unfold ixD at e
 split at e
 ·obtain ⟨a,vs,rfl,t,r⟩:=h1.lst
  obtain ⟨v,k1,k2⟩:=reps_at r e
  exact .inl ⟨a,vs,_,v,rfl,h2.int,t,k1,q _ H (.refl _ _) hc k2⟩
 ·obtain ⟨a,vs,rfl,t,r⟩:=h1.tup
  obtain ⟨v,k1,k2⟩:=reps_at r e
  exact .inr (.inl ⟨a,vs,_,v,rfl,h2.int,t.sq,k1,q _ H (.refl _ _) hc k2⟩)
 ·split at e
  ·rename_i hz
   obtain ⟨c,k1,rfl⟩:=Option.map_eq_some_iff.mp e
   exact .inr (.inr ⟨_,_,c,h1.str,h2.int,hz,k1,q _ H (.refl _ _) hc (.str _)⟩)
  ·cases e
 ·cases e⟩
end
end D
namespace D
open PySem PySem.Spec PyProof.Rows L2
theorem getItem_tuple_whole {prog:Program} {w:World} {A:Around} {E:Value→Shared→Prop} {s:Shared} {t sl:Addr} {items:Array Value} {vl vu:Value} {lo hi:Option Int} {Q:Value→Shared→Prop} (ht:IsTup s.heap t items) (hs:s.heap.IsSliceOf sl vl vu .none) (pl:IsPart vl lo) (pu:IsPart vu hi)
  (hw:HT.sIx items.size 0 lo=0∧HT.sIx items.size items.size hi=items.size) (h:Q (.ref t) s):wpAny (model prog w) A (getItem (.ref t) (.ref sl)) Q E s:=by
 obtain ⟨os,hos,hcs,hds⟩:=id hs
 have hTs:s.TypeIs (.ref sl) "slice":=⟨os,hos,hcs⟩
 unfold getItem
 try with_reducible refine wpAny_holding ?_
 first | refine wpAny_bind (wpAny_pure ?_) | skip
 refine wpAny_bind (wpAny_sequenceKey ht.typeIs (by decide) ?_)
 refine wpAny_bind (wpAny_callSpecial?_slot (name:=Str.ofString "__getitem__") ht.typeIs PyProof.Rows.slot_tuple_getitem
  (wpAny_call_entry PyProof.Rows.slot_tuple_getitem ht.typeIs entry_tuple_getitem ?_ (args_tuple_getitem _ _)))
 show wpAny _ _ (Builtin.Tuple.tupleItemsOf (.ref t) >>= _) _ _ s
 refine wpAny_bind (tupleItemsOf_ ht ?_)
 refine wpAny_bind (wpAny_typeOf hTs ?_)
 rw [if_pos (by decide)]
 refine wpAny_bind (HT.sliceApplied_gen hs pl pu ?_)
 have hyes:((((HT.sIx items.size 0 lo:Nat):Int) == 0 && (1:Int) == 1 && (HT.sIx items.size items.size hi - HT.sIx items.size 0 lo) == items.size)=true):=by
  rw [hw.1,hw.2]
  simp
 show wpAny _ _ (if (((HT.sIx items.size 0 lo:Nat):Int) == 0 && (1:Int) == 1 && (HT.sIx items.size items.size hi - HT.sIx items.size 0 lo) == items.size)=true then _ else _) _ _ s
 rw [if_pos hyes]
 refine wpAny_bind (m:=Builtin.Tuple.tupleIsExact (.ref t)) (wpAny_bind (wpAny_typeOf ht.typeIs (wpAny_pure ?_)))
 first
 | exact wpAny_bind (wpAny_rule (wpAny_bind (wpAny_pure ⟨_,rfl,wpAny_pure h⟩)))
 | (simp only [beq_self_eq_true,if_true]; exact wpAny_bind (wpAny_rule (wpAny_pure ⟨_,rfl,wpAny_pure h⟩)))
noncomputable def cutL {α:Type} (xs:List α) (lo hi:Option Int):List α:=(xs.drop (HT.sIx xs.length 0 lo)).take (HT.sIx xs.length xs.length hi - HT.sIx xs.length 0 lo)
theorem Reps.cut {K:PySem.W.Frag} {O:Addr→Prop} {H:Hp} {vs:List V} {ds:List PyData} (r:Reps K O H vs ds) (lo hi:Option Int):Reps K O H (cutV vs lo hi) (cutL ds lo hi):=by
 unfold cutV cutL
 rw [r.length]
 exact (r.drop _).take _
theorem cut_whole {α:Type} {xs:List α} {lo hi:Option Int} (h:HT.sIx xs.length 0 lo=0∧HT.sIx xs.length xs.length hi=xs.length):cutL xs lo hi=xs:=by
 unfold cutL
 rw [h.1,h.2]
 simp
section
variable {X:Cx}
theorem sl_tupA:SlR X (fun x lo hi H Q=>∃ a xs,x=.ref a∧SqT X.K H a xs∧((HT.sIx xs.length 0 lo=0∧HT.sIx xs.length xs.length hi=xs.length)→Q (.ref a) H) ∧
  (¬ (HT.sIx xs.length 0 lo=0∧HT.sIx xs.length xs.length hi=xs.length)→∀ p,H p=none→Q (.ref p) (upd H p (.tup (cutV xs lo hi))))):=by
 intro pins s σ H x v vl vu lo hi sl Q I rx hs pl pu h
 obtain ⟨a,xs,rfl,hx,q1,q2⟩:=h
 by_cases hw:HT.sIx xs.length 0 lo=0∧HT.sIx xs.length xs.length hi=xs.length
 ·cases rx
  obtain ⟨its,r,ht,hz⟩:=I.tuple hx
  have hlen:its.toArray.size=xs.length:=by rw [List.size_toArray]; exact r.length.symm
  refine ⟨"tuple",_,PyProof.Rows.slot_tuple_getitem.lookup,ht.typeIs,?_⟩
  exact getItem_tuple_whole ht hs pl pu (by rw [hlen]; exact hw) ⟨.ref a,H,I,rfl,q1 hw⟩
 ·exact sl_tup pins s σ H _ v vl vu lo hi sl Q I rx hs pl pu ⟨a,xs,rfl,hx,hw,q2 hw⟩
noncomputable def sliceD (x:PyData) (lo hi:Option Int):Option PyData:=match x with
 | .list xs=>some (.list (cutL xs lo hi))
 | .tuple xs=>some (.tuple (cutL xs lo hi))
 | .str z=>if z.length≤sizeLine then some (.str (Txt.slice z lo hi)) else none
 | _=>none
noncomputable abbrev FO:=Rho→Tp→Option (Option Int×Tp)
noncomputable def fNoP:FO:=fun _ T=>some (none,T)
noncomputable def fP (f:FE):FO:=fun ρ T=>bnd (f ρ T) fun w T1=>match w with
 | .d (.int i)=>some (some i,T1)
 | _=>none
inductive LiftOP (K:PySem.W.Frag) (f:FO) (σ:L2.St) (H:Hp) (Q:Option Int→Hp→Prop):Prop where
 | mk (O:Addr→Prop) (ts:List Addr) (ρ:Rho) (T:Tp) (o:Option Int) (T':Tp) (hc:HC K O ts H T) (re:RelE K O ts H σ ρ) (e:f ρ T=some (o,T')) (q:∀ H',SameX ts H H'→HC K O ts H' T'→Q o H'):LiftOP K f σ H Q
noncomputable def liftO (K:PySem.W.Frag) (f:FO):TO:=fun σ H Q=>LiftOP K f σ H Q
structure DO (X:Cx) (e:Option Expr) (f:FO):Prop where
 pe:PO X e (liftO X.K f)
theorem po_imp {e:Option Expr} {t t':TO} (h:PO X e t) (i:∀ σ H Q,t' σ H Q→t σ H Q):PO X e t':=fun pins s σ H Q I q=>h pins s σ H Q I (i σ H Q q)
theorem dp_none:DO X none fNoP:=by
 refine ⟨?_⟩
 refine po_imp po_none fun σ H Q=>?_
 rintro ⟨O,ts,ρ,T,o,T',hc,re,e,q⟩
 cases e
 exact q H (.refl _ _) hc
theorem dp_some {e:Expr} {f:FE} (h:DE X e f):DO X (some e) (fP f):=by
 refine ⟨?_⟩
 refine po_imp (po_some h.pe) fun σ H Q=>?_
 rintro ⟨O,ts,ρ,T,o,T',hc,re,e,q⟩
 obtain ⟨w1,T1,e1,e⟩:=bnd_of e
 refine ⟨O,ts,ρ,T,w1,T1,hc,re,e1,fun v1 H1 s1 hc1 r1=>?_⟩
 split at e
 ·cases e
  cases (show Rep X.K O H1 v1 _ from r1)
  exact ⟨_,rfl,q H1 s1 hc1⟩
 ·cases e
noncomputable def fSl (f:FE) (l u:FO):FE:=fun ρ T=>bnd (f ρ T) fun w T1=>bnd (l ρ T1) fun lo T2=>bnd (u ρ T2) fun hi T3=>op1 (fun x=>sliceD x lo hi) T3 w
theorem de_sl {e:Expr} {lo hi:Option Expr} {f:FE} {l u:FO} {pos p2:Pos} (he:DE X e f) (hl:DO X lo l) (hu:DO X hi u):DE X (.Subscript e (.Slice lo hi none p2) pos) (fSl f l u):=by
 refine ⟨?_⟩
 refine pe_imp (pe_slice (sl_list.or (sl_tupA.or sl_str)) he.pe hl.pe hu.pe) fun σ H Q=>?_
 rintro ⟨O,ts,ρ,T,w,T',hc,re,e,q⟩
 obtain ⟨w1,T1,e1,e⟩:=bnd_of e
 obtain ⟨o1,T2,e2,e⟩:=bnd_of e
 obtain ⟨o2,T3,e3,e⟩:=bnd_of e
 obtain ⟨x,d,h1,h3,rfl,rfl⟩:=op1_of e
 refine ⟨O,ts,ρ,T,w1,T1,hc,re,e1,fun v1 H1 s1 hc1 r1=>?_⟩
 refine ⟨O,ts,ρ,T1,o1,T2,hc1,re.mono hc s1,e2,fun H2 s2 hc2=>?_⟩
 refine ⟨O,ts,ρ,T2,o2,T',hc2,re.mono hc (s1.trans s2),e3,fun H3 s3 hc3=>?_⟩
 have vw:=hc3.view (r1.mono hc1 (s2.trans s3)) h1
 have q':∀ v H',SameX ts H3 H'→HC X.K O ts H' T'→Rep X.K O H' v d→Q v H':=fun v H' s c r=>q v H' (s1.trans (s2.trans (s3.trans s))) c r
 clear q
 cases x with
 | list xs=>
  cases h3
  obtain ⟨a,vs,rfl,t,r⟩:=vw.lst
  exact .inl ⟨a,vs,rfl,t,fun p hp=>q' _ _ (.new hp _) (hc3.new hp _) (hc3.newL hp (r.cut _ _))⟩
 | tuple xs=>
  cases h3
  obtain ⟨a,vs,rfl,t,r⟩:=vw.tup
  refine .inr (.inl ⟨a,vs,rfl,t.sq,fun hw=>?_,fun hw p hp=>?_⟩)
  ·rw [r.length] at hw
   rw [cut_whole hw] at q'
   exact q' _ H3 (.refl _ _) hc3 vw.tupR
  ·exact q' _ _ (.new hp _) (hc3.new hp _) (hc3.newT hp (r.cut _ _))
 | str z=>
  have h3':(if z.length≤sizeLine then some (PyData.str (Txt.slice z o1 o2)) else none)=some d:=h3
  split at h3'
  ·rename_i hz
   cases h3'
   exact .inr (.inr ⟨z,vw.str,hz,q' _ H3 (.refl _ _) hc3 (.str _)⟩)
  ·cases h3'
 | _=>cases h3
end
inductive Kd where
 | non | bl | int | str | tup | lst | dct
 deriving DecidableEq
noncomputable def Kd.name:Kd→String
 | .non=>"NoneType" | .bl=>"bool" | .int=>"int" | .str=>"str" | .tup=>"tuple" | .lst=>"list" | .dct=>"dict"
noncomputable def kd:PyData→Kd
 | .none=>.non | .bool _=>.bl | .int _=>.int | .str _=>.str | .list _=>.lst | .tuple _=>.tup | .dict _=>.dct
noncomputable def isiK (a b:Kd):Bool:=decide (a=b) || (decide (a=.bl) && decide (b=.int))
noncomputable def isiT (t c:String):Option Bool:=if (Value.type t == Value.type c)=true then some true else if PySem.W.kitMeta c=true then (fastBuiltinMro t).map (·.contains (.type c)) else none
theorem isi_all (a b:Kd):b≠.non→isiT a.name b.name=some (isiK a b):=by
 cases a <;> cases b <;> first | (intro h; exact absurd rfl h) | (intro _; decide +kernel)
section
variable {X:Cx}
theorem call_isi:CallR X (.builtin "isinstance") (fun xs H Q=>∃ (x:V) (c:Kd) (O:Addr→Prop) (d:PyData),xs=[x,.ty c.name]∧Vw X.K O H x d∧c≠.non∧Q (.bl (isiK (kd d) c)) H):=by
 intro pins s σ H xs us Q I r h
 obtain ⟨x,c,O,d,rfl,vw,hc,q⟩:=h
 obtain ⟨u,w',rfl,ru,rw'⟩:=vals2 r
 cases (show w'=Value.type c.name from rw')
 have fin:∀ tk,EP X pins σ Q (.bool (isiK (kd d) c)) { s with toks:=tk }:=fun tk=>⟨.bl _,H,I.tok _,rfl,q⟩
 cases d with
 | none=>cases vw.non; exact isinst_ok I ru .non (show PySem.W.kitOne X.K (.type (Kd.name .non)) (.type c.name)=some _ from isi_all .non c hc) fin
 | bool b=>cases vw.bl; exact isinst_ok I ru (.bl b) (show PySem.W.kitOne X.K (.type (Kd.name .bl)) (.type c.name)=some _ from isi_all .bl c hc) fin
 | int i=>cases vw.int; exact isinst_ok I ru (.int i) (show PySem.W.kitOne X.K (.type (Kd.name .int)) (.type c.name)=some _ from isi_all .int c hc) fin
 | str z=>cases vw.str; exact isinst_ok I ru (.str z) (show PySem.W.kitOne X.K (.type (Kd.name .str)) (.type c.name)=some _ from isi_all .str c hc) fin
 | list ds=>
  obtain ⟨a,vs,rfl,t,r⟩:=vw.lst
  cases (show u=Value.ref a from ru)
  obtain ⟨its,_,pl,_⟩:=I.list t
  obtain ⟨o,n,e,c1,_⟩:=pl
  exact PySem.W.kia_one PySem.W.kitx_list I.kIn ⟨o,e,c1⟩ (show PySem.W.kitOne X.K (.type (Kd.name .lst)) (.type c.name)=some _ from isi_all .lst c hc) (fun z=>nomatch z) fin
 | tuple ds=>
  obtain ⟨a,vs,rfl,t,r⟩:=vw.tup
  cases (show u=Value.ref a from ru)
  obtain ⟨its,_,pl,_⟩:=I.tuple t.sq
  obtain ⟨o,e,c1,_⟩:=pl
  exact PySem.W.kia_one PySem.W.kitx_tuple I.kIn ⟨o,e,c1⟩ (show PySem.W.kitOne X.K (.type (Kd.name .tup)) (.type c.name)=some _ from isi_all .tup c hc) (fun z=>nomatch z) fin
 | dict ds=>
  obtain ⟨a,vs,rfl,t,r⟩:=vw.dct
  cases (show u=Value.ref a from ru)
  obtain ⟨_,_,_,_,o,_,_,e,c1,_⟩:=dk_rd I.hok t
  exact PySem.W.kia_one PySem.W.kitx_dict I.kIn ⟨o,e,c1.1⟩ (show PySem.W.kitOne X.K (.type (Kd.name .dct)) (.type c.name)=some _ from isi_all .dct c hc) (fun z=>nomatch z) fin
noncomputable def isiD (c:Kd) (x:PyData):Option PyData:=some (.bool (isiK (kd x) c))
theorem de_isi {e:Expr} {f:FE} {p p' pos:Pos} {T:Str} (c:Kd) (hi:X.mg "isinstance" = none) (he:DE X e f) (hm:X.mg T=none) (hb:bootBuiltins T=some (.type c.name)) (hcn:c≠.non:=by decide) (hg:Gl X "isinstance":=by rfl) (hT:Gl X T:=by rfl) (hn:T≠"__name__":=by decide) (hdb:(T == ("__debug__" : Str))=false:=by decide)
  (hs:starEach [e,.Name T p] X.env=(false,eval e X.env)::starEach [.Name T p] X.env:=by exact star_cons rfl) (hs2:starEach [.Name T p] X.env=(false,eval (.Name T p) X.env)::starEach [] X.env:=by exact star_cons rfl)
  (hpl:(backTo pos (starEach [.Name T p] X.env)).any (·.1)=false:=by exact star_any rfl):DE X (.Call (.Name "isinstance" p') [e,.Name T p] [] pos) (fUn (isiD c) f):=by
 refine ⟨?_⟩
 refine pe_imp (pe_callB call_isi hg hi PyProof.Rows.boot_isinstance (pa_cons he.pe (pa_cons (pe_bltn (v:=.ty c.name) hT hm hb rfl hn hdb) pa_nil hs2) hs) (by decide) (by decide) hs hpl) fun σ H Q=>?_
 rintro ⟨O,ts,ρ,T,w,T',hc,re,e,q⟩
 obtain ⟨w1,T1,e1,e⟩:=bnd_of e
 obtain ⟨x,d,h1,h3,rfl,rfl⟩:=op1_of e
 cases h3
 refine ⟨O,ts,ρ,T,w1,T',hc,re,e1,fun v1 H1 s1 hc1 r1=>?_⟩
 exact ⟨v1,c,O,x,rfl,hc1.view r1 h1,hcn,q _ H1 s1 hc1 (.bl _)⟩
noncomputable def lenD:List PyData→Option PyData
 | [.list xs]=>some (.int xs.length)
 | [.tuple xs]=>some (.int xs.length)
 | [.str z]=>if z.length≤sizeLine then some (.int z.length) else none
 | [.dict kvs]=>some (.int kvs.length)
 | _=>none
theorem vws1 {K:PySem.W.Frag} {O:Addr→Prop} {H:Hp} {vs:List V} {x:PyData} (h:Vws K O H vs [x]):∃ v,vs=[v]∧Vw K O H v x:=by
 cases h with | cons h t=>cases t; exact ⟨_,rfl,h⟩
theorem repk_len {K:PySem.W.Frag} {O:Addr→Prop} {H:Hp}:∀ {kvs:List (Key×V)} {ds:List (PyData×PyData)},RepK K O H kvs ds→kvs.length=ds.length
 | _,_,.nil=>rfl
 | _,_,.cons _ t=>congrArg (· + 1) (repk_len t)
theorem call_lenD:CallR X (.builtin "len") (fun xs H Q=>∃ a kvs,xs=[V.ref a]∧Rd H a (.dK kvs)∧Q (.int kvs.length) H):=by
 intro pins s σ H xs us Q I r h
 obtain ⟨a,kvs,rfl,ha,q⟩:=h
 obtain ⟨u,rfl,ru⟩:=vals1 r
 cases ru
 exact d_len I ha fun t s' I'=>⟨.int kvs.length,H,I',⟨t,rfl⟩,q⟩
theorem c_len:CallD X (.builtin "len") lenD:=⟨_,call_len_seq.or (call_len_str.or call_lenD),fun O ts H T vs xs d Q hc h e q=>by
 unfold lenD at e
 split at e
 ·cases e
  obtain ⟨v,rfl,g⟩:=vws1 h
  obtain ⟨a,vs,rfl,t,r⟩:=g.lst
  exact .inl ⟨a,vs,rfl,.inl t,by rw [r.length]; exact q _ H (.refl _ _) hc (.int _)⟩
 ·cases e
  obtain ⟨v,rfl,g⟩:=vws1 h
  obtain ⟨a,vs,rfl,t,r⟩:=g.tup
  exact .inl ⟨a,vs,rfl,.inr t.sq,by rw [r.length]; exact q _ H (.refl _ _) hc (.int _)⟩
 ·split at e
  ·rename_i hz
   cases e
   obtain ⟨v,rfl,g⟩:=vws1 h
   cases g.str
   exact .inr (.inl ⟨_,rfl,hz,q _ H (.refl _ _) hc (.int _)⟩)
  ·cases e
 ·cases e
  obtain ⟨v,rfl,g⟩:=vws1 h
  obtain ⟨a,kvs,rfl,t,r⟩:=g.dct
  exact .inr (.inr ⟨a,kvs,rfl,t,by rw [repk_len r]; exact q _ H (.refl _ _) hc (.int _)⟩)
 ·cases e⟩
noncomputable def absD:List PyData→Option PyData
 | [.int i]=>some (.int (if i < 0 then -i else i))
 | _=>none
theorem c_abs:CallD X (.builtin "abs") absD:=⟨_,call_abs,fun O ts H T vs xs d Q hc h e q=>by
 unfold absD at e
 split at e
 ·cases e
  obtain ⟨v,rfl,g⟩:=vws1 h
  cases g.int
  exact ⟨_,rfl,q _ H (.refl _ _) hc (.int _)⟩
 ·cases e⟩
noncomputable def maxD2:List PyData→Option PyData
 | [.int i,.int j]=>some (.int (if j > i then j else i))
 | _=>none
noncomputable def minD2:List PyData→Option PyData
 | [.int i,.int j]=>some (.int (if j < i then j else i))
 | _=>none
noncomputable def boolsD:List PyData→Option (List Bool)
 | []=>some []
 | .bool b::r=>(boolsD r).map (b::·)
 | _=>none
noncomputable def intsD:List PyData→Option (List Int)
 | []=>some []
 | .int b::r=>(intsD r).map (b::·)
 | _=>none
noncomputable def strsD:List PyData→Option (List Str)
 | []=>some []
 | .str b::r=>(strsD r).map (b::·)
 | _=>none
theorem bools_of {K:PySem.W.Frag} {O:Addr→Prop} {H:Hp}:∀ {vs:List V} {xs:List PyData} {bs:List Bool},Reps K O H vs xs→boolsD xs=some bs→vs=bs.map V.bl
 | _,_,_,.nil,e=>by cases e; rfl
 | _,x::r,bs,.cons h t,e=>by
  cases x with
  | bool b=>
   obtain ⟨cs,e1,rfl⟩:=Option.map_eq_some_iff.mp (show (boolsD r).map (b::·)=some bs from e)
   cases h
   rw [bools_of t e1]
   rfl
  | _=>cases e
theorem ints_of' {K:PySem.W.Frag} {O:Addr→Prop} {H:Hp}:∀ {vs:List V} {xs:List PyData} {bs:List Int},Reps K O H vs xs→intsD xs=some bs→vs=bs.map V.int
 | _,_,_,.nil,e=>by cases e; rfl
 | _,x::r,bs,.cons h t,e=>by
  cases x with
  | int b=>
   obtain ⟨cs,e1,rfl⟩:=Option.map_eq_some_iff.mp (show (intsD r).map (b::·)=some bs from e)
   cases h
   rw [ints_of' t e1]
   rfl
  | _=>cases e
theorem strs_of {K:PySem.W.Frag} {O:Addr→Prop} {H:Hp}:∀ {vs:List V} {xs:List PyData} {bs:List Str},Reps K O H vs xs→strsD xs=some bs→vs=bs.map V.str
 | _,_,_,.nil,e=>by cases e; rfl
 | _,x::r,bs,.cons h t,e=>by
  cases x with
  | str b=>
   obtain ⟨cs,e1,rfl⟩:=Option.map_eq_some_iff.mp (show (strsD r).map (b::·)=some bs from e)
   cases h
   rw [strs_of t e1]
   rfl
  | _=>cases e
noncomputable def allD:List PyData→Option PyData
 | [.list xs]=>(boolsD xs).map fun bs=>.bool (bs.all id)
 | _=>none
theorem c_all (hc:X.calm=true:=by rfl):CallD X (.builtin "all") allD:=⟨_,call_all hc,fun O ts H T vs xs d Q hc h e q=>by
 unfold allD at e
 split at e
 ·obtain ⟨bs,e1,rfl⟩:=Option.map_eq_some_iff.mp e
  obtain ⟨v,rfl,g⟩:=vws1 h
  obtain ⟨a,vs,rfl,t,r⟩:=g.lst
  rw [bools_of r e1] at t
  exact ⟨a,bs,rfl,t,q _ H (.refl _ _) hc (.bl _)⟩
 ·cases e⟩
noncomputable def sumD:List PyData→Option PyData
 | [.list xs]=>(intsD xs).map fun bs=>.int bs.sum
 | _=>none
theorem c_sum (hc:X.calm=true:=by rfl):CallD X (.builtin "sum") sumD:=⟨_,call_sum hc,fun O ts H T vs xs d Q hc h e q=>by
 unfold sumD at e
 split at e
 ·obtain ⟨bs,e1,rfl⟩:=Option.map_eq_some_iff.mp e
  obtain ⟨v,rfl,g⟩:=vws1 h
  obtain ⟨a,vs,rfl,t,r⟩:=g.lst
  rw [ints_of' r e1] at t
  exact ⟨a,bs,rfl,t,q _ H (.refl _ _) hc (.int _)⟩
 ·cases e⟩
noncomputable def maxdD:PyData→PyData→Option PyData
 | .list xs,.int d=>(intsD xs).map fun bs=>.int (K1.maxD d bs)
 | _,_=>none
noncomputable def tupleD:List PyData→Option PyData
 | [.list xs]=>some (.tuple xs)
 | [.tuple xs]=>some (.tuple xs)
 | _=>none
noncomputable def listD:List PyData→Option PyData
 | [.list xs]=>some (.list xs)
 | [.tuple xs]=>some (.list xs)
 | _=>none
theorem c_list:CallD X (.type "list") listD:=⟨_,call_list_of,fun O ts H T vs xs d Q hc h e q=>by
 unfold listD at e
 split at e
 ·cases e
  obtain ⟨v,rfl,g⟩:=vws1 h
  obtain ⟨a,vs,rfl,t,r⟩:=g.lst
  exact ⟨a,vs,rfl,.inl t,fun p hp=>q _ _ (.new hp _) (hc.new hp _) (hc.newL hp r)⟩
 ·cases e
  obtain ⟨v,rfl,g⟩:=vws1 h
  obtain ⟨a,vs,rfl,t,r⟩:=g.tup
  exact ⟨a,vs,rfl,.inr t.sq,fun p hp=>q _ _ (.new hp _) (hc.new hp _) (hc.newL hp r)⟩
 ·cases e⟩
end
end D
namespace D
open PySem PySem.Spec PyProof.Rows L2
mutual
noncomputable def noLst:PyData→Bool
 | .list _=>false
 | .tuple ds=>noLsts ds
 | .dict kvs=>noLstK kvs
 | .none | .bool _ | .int _ | .str _=>true
noncomputable def noLsts:List PyData→Bool
 | []=>true
 | d::r=>noLst d && noLsts r
noncomputable def noLstK:List (PyData×PyData)→Bool
 | []=>true
 | (_,v)::r=>noLst v && noLstK r
end
section
variable {X:Cx} {pins:List (Addr×Obj)} {σ:L2.St} {H:Hp} {s:Shared} {O:Addr→Prop}
theorem key_reads {h:Heap} {k:Key} {v:Value} (e:keyIs k v=true):Reads h v (keyD k) []:=by
 rcases keyIs_shape e with ⟨i,t,rfl,rfl⟩ | ⟨x,t,rfl,rfl⟩
 ·exact .int i t
 ·exact .str x t
mutual
theorem Rep.reads (I:Inv X pins σ H s):∀ {v:V} {d:PyData} {u:Value},Rep X.K O H v d→RelV v u→∃ as,Reads s.heap u d as∧(noLst d=true→sysModules∉as)
 | _,_,_,.non,r=>by cases r; exact ⟨_,.none,fun _=>by simp⟩
 | _,_,_,.bl b,r=>by cases r; exact ⟨_,.bool b,fun _=>by simp⟩
 | _,_,_,.int i,r=>by obtain ⟨t,rfl⟩:=r; exact ⟨_,.int i t,fun _=>by simp⟩
 | _,_,_,.str x,r=>by obtain ⟨t,rfl⟩:=r; exact ⟨_,.str x t,fun _=>by simp⟩
 | _,_,_,.tup (a:=a) (vs:=vs) h rs,r=>by
  cases r
  obtain ⟨its,rv,⟨o,e,c,n,dd⟩,_⟩:=I.tuple h.sq
  obtain ⟨as,q,f⟩:=Reps.reads I rs rv
  exact ⟨as,.tuple e c dd (by simpa using q),f⟩
 | _,_,_,.lst (a:=a) (vs:=vs) h rs,r=>by
  cases r
  obtain ⟨its,rv,pl,_⟩:=I.list h.sq
  obtain ⟨o,n,e,c,_,dd⟩:=pl
  obtain ⟨as,q,f⟩:=Reps.reads I rs rv
  exact ⟨_,.list e c dd (by simpa using q),fun z=>by cases z⟩
 | _,_,_,.dct (a:=a) (kvs:=kvs) (ds:=ds) _ h rk,r=>by
  cases r
  obtain ⟨z,y,vs,kv,o,es,ep,e,ed,dd,_,ek,_⟩:=(show ObjOk X.prog X.w H s.heap a (.dK kvs) from (I.hok a _ h).2)
  obtain ⟨bs,q1,q2,f⟩:=RepK.reads I rk kv ek
  refine ⟨_,.dict (kvs:=ds) (as:=[]) (bs:=bs) e ed.1 dd q1 q2,fun zz hm=>?_⟩
  rcases List.mem_cons.mp (by simpa using hm:sysModules∈a::bs) with q | q
  ·rw [q] at y
   simp at y
  ·exact f zz q
theorem Reps.reads (I:Inv X pins σ H s):∀ {vs:List V} {ds:List PyData} {us:List Value},Reps X.K O H vs ds→Vals vs us→∃ as,ReadsAll s.heap us ds as∧(noLsts ds=true→sysModules∉as)
 | _,_,_,.nil,r=>by cases r; exact ⟨_,.nil,fun _=>by simp⟩
 | _,_,_,.cons (d:=d) (ds:=ds) q t,r=>by
  cases r with
  | cons r1 r2=>
   obtain ⟨as,h1,f1⟩:=Rep.reads I q r1
   obtain ⟨bs,h2,f2⟩:=Reps.reads I t r2
   refine ⟨as++bs,.cons h1 h2,fun z=>?_⟩
   have z':(noLst d && noLsts ds)=true:=z
   rw [Bool.and_eq_true] at z'
   intro hm
   rcases List.mem_append.mp hm with hm | hm
   ·exact f1 z'.1 hm
   ·exact f2 z'.2 hm
theorem RepK.reads (I:Inv X pins σ H s):∀ {kvs:List (Key×V)} {ds:List (PyData×PyData)} {vs:List (Key×Value)} {es:List DictEntry},RepK X.K O H kvs ds→KV kvs vs→Pairs (mixKind X.prog X.w) es vs →
  ∃ bs,ReadsAll s.heap (es.map (·.key)) (ds.map (·.1)) []∧ReadsAll s.heap (es.map (·.val)) (ds.map (·.2)) bs∧(noLstK ds=true→sysModules∉bs)
 | _,_,_,_,.nil,r,ek=>by
  cases r
  cases ek
  exact ⟨[],.nil,.nil,fun _=>by simp⟩
 | _,_,_,_,.cons (k:=k) (d:=d) (ds:=ds) q t,r,ek=>by
  cases r with
  | cons r1 r2=>
   cases ek with
   | cons e1 e1' e2=>
    obtain ⟨as,h1,f1⟩:=Rep.reads I q r1.2
    obtain ⟨bs,h2,h3,f2⟩:=RepK.reads I t r2 e2
    rw [← e1'] at h1
    have k1:=key_reads (h:=s.heap) (show keyIs _ _=true from e1)
    rw [← r1.1] at k1
    refine ⟨as++bs,.cons (as:=[]) (bs:=[]) k1 h2,.cons h1 h3,fun z=>?_⟩
    have z':(noLst d && noLstK ds)=true:=z
    rw [Bool.and_eq_true] at z'
    intro hm
    rcases List.mem_append.mp hm with hm | hm
    ·exact f1 z'.1 hm
    ·exact f2 z'.2 hm
end
end
section
variable {X:Cx}
end
end D
namespace D
open PySem PySem.Spec PyProof.Rows L2
structure Df (K:PySem.W.Frag) (name:Str) (st:Stmt):Prop where
 ex:∃ (f:Addr) (oc:Value) (od an:Option Addr) (sl:Array (Option Value)) (kV dc pm cd ct:Value),PySem.W.nsIn K mainGlobals name=some (some (.ref f)) ∧
  K.lookup f=some ⟨oc,od,.func (PySem.W.fnOf name name (defArgs st) (defBody st) (defScope st) .none kV dc pm an cd ct),sl⟩∧PySem.W.codeIn K cd name=true∧PySem.W.keepIn K (.ref f)=true
theorem df_mk {K:PySem.W.Frag} {name:Str} {st:Stmt} {f:Addr} {oc:Value} {od an:Option Addr} {sl:Array (Option Value)} {kV dc pm cd ct:Value} (a:PySem.W.nsIn K mainGlobals name=some (some (.ref f)))
  (l:K.lookup f=some ⟨oc,od,.func (PySem.W.fnOf name name (defArgs st) (defBody st) (defScope st) .none kV dc pm an cd ct),sl⟩) (c:PySem.W.codeIn K cd name=true) (k:PySem.W.keepIn K (.ref f)=true):Df K name st:=
 ⟨f,oc,od,an,sl,kV,dc,pm,cd,ct,a,l,c,k⟩
theorem Df.fn {P:Program} {w:World} {K:PySem.W.Frag} {mg:Str→Option Value} {base h:Heap} {name:Str} {st:Stmt} {ps:List Str} {k:Nat} {sp:Sp} (d:Df K name st) (X:K.In h) (G:h.Ns mainGlobals mg)
  (hb:∀ (kV doc pm:Value) (an:Option Addr) (cdv ct:Value) (us:List Value),us.length=ps.length→bindArgs (PySem.W.fnOf name name (defArgs st) (defBody st) (defScope st) .none kV doc pm an cdv ct) ⟨us,[]⟩=pure (ps.zip us))
  (ok:∀ f fd,Fun K name name st f fd→FnOk P w K mg base CX0 k f fd ps sp):Fn P w K mg base name ps k sp:=by
 obtain ⟨f,oc,od,an,sl,kV,dc,pm,cd,ct,a,l,c,kp⟩:=d.ex
 have F:=fun_mk (st:=st) l c kp
 exact ⟨f,_,ok f _ F,F.binds hb,kp,PySem.W.mg_of X G a⟩
theorem fn_none {P:Program} {w:World} {K:PySem.W.Frag} {mg:Str→Option Value} {base:Heap} {k n:Nat} {f:Addr} {fd:FuncData} {ps:List Str}:FnOk P w K mg base CX0 k f fd ps (spM K n fun _ _=>none):=by
 have no:∀ vs H Q E,¬ spM K n (fun _ _=>none) vs H Q E:=fun vs H Q E h=>by
  obtain ⟨O,ts,T,ws,x,T',_,_,_,e,_⟩:=h
  cases e
 exact ⟨fun vs H Q E h=>absurd h (no vs H Q E),fun A outer s H args us vs Q E _ _ _ _ h=>absurd h (no vs H Q E)⟩
noncomputable def spLaw (K:PySem.W.Frag):Sp:=fun vs H Q _=>∃ (a:Addr) (ns:List Int),vs=[.ref a]∧SqL K H a (ns.map V.int)∧ns.length≤63∧∀ H',Q (.bl true) H'
noncomputable def script (ns:List Int):PyData:=.list (ns.map .int)
theorem reps_ints {K:PySem.W.Frag} {O:Addr→Prop} {H:Hp}:∀ ns:List Int,Reps K O H (ns.map V.int) (ns.map PyData.int)
 | []=>.nil
 | _::r=>.cons (.int _) (reps_ints r)
end D
namespace D
open PySem PySem.Spec PyProof.Rows L2
section
variable {α β:Type} {ρ:Rho} {T:Tp} {f g:FE} {c c':FT} {s s':FS} {a:FA} {w w':W} {x y:PyData}
@[simp] theorem ev_bnd {b:α} {k:α→Tp→Option β}:bnd (some (b,T)) k=k b T:=rfl
@[simp] theorem ev_bndN {k:α→Tp→Option β}:bnd none k=none:=rfl
@[simp] theorem ev_bndI {p:Prop} [Decidable p] {u v:Option (α×Tp)} {k:α→Tp→Option β}:bnd (if p then u else v) k=if p then bnd u k else bnd v k:=by split <;> rfl
@[simp] theorem ev_mk {N:Nat} {ws:List W}:mkFn N s ws T=if noLoc ws=true then fnEnd (s (ws.map some++List.replicate (N - ws.length) none) T) else none:=rfl
@[simp] theorem ev_noLoc0:noLoc []=true:=rfl
@[simp] theorem ev_noLocD {r:List W}:noLoc (.d x::r)=noLoc r:=rfl
@[simp] theorem ev_noLocT {i:Nat} {r:List W}:noLoc (.tp i::r)=noLoc r:=rfl
@[simp] theorem ev_endR {r:Rho}:fnEnd (some ((.rt x,r),T))=some (x,T):=rfl
@[simp] theorem ev_endN {r:Rho}:fnEnd (some ((.nx,r),T))=some (.none,T):=rfl
@[simp] theorem ev_endI {p:Prop} [Decidable p] {u v:Option ((Fl×Rho)×Tp)}:fnEnd (if p then u else v)=if p then fnEnd u else fnEnd v:=by split <;> rfl
noncomputable def seqK (s':FS) (p:Fl×Rho) (T:Tp):Option ((Fl×Rho)×Tp):=match p with
 | (.nx,ρ1)=>s' ρ1 T
 | (fl,ρ1)=>some ((fl,ρ1),T)
@[simp] theorem ev_seq:fSeq s s' ρ T=bnd (s ρ T) (seqK s'):=rfl
@[simp] theorem ev_seqN {ρ1:Rho}:seqK s' (.nx,ρ1) T=s' ρ1 T:=rfl
@[simp] theorem ev_seqR {ρ1:Rho}:seqK s' (.rt x,ρ1) T=some ((.rt x,ρ1),T):=rfl
@[simp] theorem ev_seqB {ρ1:Rho}:seqK s' (.bk,ρ1) T=some ((.bk,ρ1),T):=rfl
@[simp] theorem ev_seqC {ρ1:Rho}:seqK s' (.ct,ρ1) T=some ((.ct,ρ1),T):=rfl
@[simp] theorem ev_next:fNext ρ T=some ((.nx,ρ),T):=rfl
noncomputable def ifK (s s':FS) (ρ:Rho) (b:Bool) (T1:Tp):Option ((Fl×Rho)×Tp):=if b=true then s ρ T1 else s' ρ T1
@[simp] theorem ev_if:fIf c s s' ρ T=bnd (c ρ T) (ifK s s' ρ):=rfl
@[simp] theorem ev_ifK {b:Bool}:ifK s s' ρ b T=if b=true then s ρ T else s' ρ T:=rfl
noncomputable def retK (ρ:Rho):W→Tp→Option ((Fl×Rho)×Tp):=fun w T1=>match w with
 | .d x=>some ((.rt x,ρ),T1)
 | _=>none
@[simp] theorem ev_ret:fRet f ρ T=bnd (f (frzR ρ) T) (retK ρ):=rfl
@[simp] theorem ev_retD:retK ρ (.d x) T=some ((.rt x,ρ),T):=rfl
@[simp] theorem ev_frz0:frzR []=[]:=rfl
@[simp] theorem ev_frzN {r:Rho}:frzR (none::r)=none::frzR r:=rfl
@[simp] theorem ev_frzD {r:Rho}:frzR (some (.d x)::r)=some (.d x)::frzR r:=rfl
@[simp] theorem ev_frzT {i:Nat} {r:Rho}:frzR (some (.tp i)::r)=some (.tp i)::frzR r:=rfl
@[simp] theorem ev_frzL {x:PyData} {r:Rho}:frzR (some (.loc x)::r)=some (.d x)::frzR r:=rfl
noncomputable def setK (i:Nat) (ρ:Rho):W→Tp→Option ((Fl×Rho)×Tp):=fun w T1=>match w with
 | .d x=>some ((.nx,ρ.set i (some (.d x))),T1)
 | .tp k=>some ((.nx,ρ.set i (some (.tp k))),T1)
 | .loc _=>none
@[simp] theorem ev_set {i:Nat}:fSet i f ρ T=bnd (f ρ T) (setK i ρ):=rfl
@[simp] theorem ev_setD {i:Nat}:setK i ρ (.d x) T=some ((.nx,ρ.set i (some (.d x))),T):=rfl
@[simp] theorem ev_setT {i k:Nat}:setK i ρ (.tp k) T=some ((.nx,ρ.set i (some (.tp k))),T):=rfl
noncomputable def setLK (i:Nat) (ρ:Rho) (T:Tp):Option (List PyData)→Option ((Fl×Rho)×Tp)
 | some xs=>if xs.length≤1000 then some ((.nx,ρ.set i (some (.loc (.list xs)))),T) else none
 | none=>none
@[simp] theorem ev_setL {i:Nat}:fSetL i a ρ T=bnd (a ρ T) fun ws T1=>setLK i ρ T1 (datas ws):=rfl
@[simp] theorem ev_setLK {i:Nat} {xs:List PyData}:setLK i ρ T (some xs)=if xs.length≤1000 then some ((.nx,ρ.set i (some (.loc (.list xs)))),T) else none:=rfl
noncomputable def appK (i:Nat) (ρ:Rho) (x:PyData) (T:Tp) (o:Option (Option W)):Option ((Fl×Rho)×Tp):=match o with
 | some (some (.loc (.list xs)))=>if xs.length < sizeLine then some ((.nx,ρ.set i (some (.loc (.list (xs++[x]))))),T) else none
 | _=>none
noncomputable def appW (i:Nat) (ρ:Rho):W→Tp→Option ((Fl×Rho)×Tp):=fun w T1=>match w with
 | .d x=>(match ρ[i]? with
  | some (some (.loc (.list xs)))=>if xs.length < sizeLine then some ((.nx,ρ.set i (some (.loc (.list (xs++[x]))))),T1) else none
  | _=>none)
 | _=>none
@[simp] theorem ev_app {i:Nat}:fApp i f ρ T=bnd (f ρ T) (appW i ρ):=rfl
@[simp] theorem ev_appW {i:Nat}:appW i ρ (.d x) T=appK i ρ x T ρ[i]?:=rfl
@[simp] theorem ev_appK {i:Nat} {xs:List PyData}:appK i ρ x T (some (some (.loc (.list xs))))=if xs.length < sizeLine then some ((.nx,ρ.set i (some (.loc (.list (xs++[x]))))),T) else none:=rfl
@[simp] theorem ev_sl {l u:FO}:fSl f l u ρ T=bnd (f ρ T) fun w T1=>bnd (l ρ T1) fun lo T2=>bnd (u ρ T2) fun hi T3=>op1 (fun x=>sliceD x lo hi) T3 w:=rfl
@[simp] theorem ev_noP:fNoP ρ T=some (none,T):=rfl
noncomputable def pK:W→Tp→Option (Option Int×Tp):=fun w T1=>match w with
 | .d (.int i)=>some (some i,T1)
 | _=>none
@[simp] theorem ev_P:fP f ρ T=bnd (f ρ T) pK:=rfl
@[simp] theorem ev_pK {i:Int}:pK (.d (.int i)) T=some (some i,T):=rfl
@[simp] theorem ev_slS {z:Str} {lo hi:Option Int}:sliceD (.str z) lo hi=if z.length≤sizeLine then some (.str (Txt.slice z lo hi)) else none:=rfl
@[simp] theorem ev_slT {xs:List PyData} {lo hi:Option Int}:sliceD (.tuple xs) lo hi=some (.tuple (cutL xs lo hi)):=rfl
@[simp] theorem ev_slL {xs:List PyData} {lo hi:Option Int}:sliceD (.list xs) lo hi=some (.list (cutL xs lo hi)):=rfl
@[simp] theorem ev_drop:fDrop f ρ T=bnd (f ρ T) fun _ T1=>some ((.nx,ρ),T1):=rfl
@[simp] theorem ev_var0 {o:W} {r:Rho}:fVar 0 (some o::r) T=some (o,T):=rfl
@[simp] theorem ev_varS {i:Nat} {o:Option W} {r:Rho}:fVar (i + 1) (o::r) T=fVar i r T:=rfl
@[simp] theorem ev_var1 {o:Option W} {r:Rho}:fVar 1 (o::r) T=fVar 0 r T:=ev_varS
@[simp] theorem ev_var2 {o:Option W} {r:Rho}:fVar 2 (o::r) T=fVar 1 r T:=ev_varS
@[simp] theorem ev_var3 {o:Option W} {r:Rho}:fVar 3 (o::r) T=fVar 2 r T:=ev_varS
@[simp] theorem ev_var4 {o:Option W} {r:Rho}:fVar 4 (o::r) T=fVar 3 r T:=ev_varS
@[simp] theorem ev_var5 {o:Option W} {r:Rho}:fVar 5 (o::r) T=fVar 4 r T:=ev_varS
@[simp] theorem ev_var6 {o:Option W} {r:Rho}:fVar 6 (o::r) T=fVar 5 r T:=ev_varS
@[simp] theorem ev_var7 {o:Option W} {r:Rho}:fVar 7 (o::r) T=fVar 6 r T:=ev_varS
@[simp] theorem ev_var8 {o:Option W} {r:Rho}:fVar 8 (o::r) T=fVar 7 r T:=ev_varS
@[simp] theorem ev_var9 {o:Option W} {r:Rho}:fVar 9 (o::r) T=fVar 8 r T:=ev_varS
@[simp] theorem ev_C:fC x ρ T=some (.d x,T):=rfl
@[simp] theorem ev_view:view T (.d x)=some x:=rfl
@[simp] theorem ev_viewT {i:Nat}:view T (.tp i)=(T[i]?).bind rowV:=rfl
@[simp] theorem ev_rowV {xs:List PyData}:rowV xs=if isO xs=true then none else some (.list xs):=rfl
@[simp] theorem isO_lst {xs r:List PyData}:isO (.list xs::r)=false:=rfl
@[simp] theorem ev_viewL {xs:List PyData}:view T (.loc (.list xs))=some (.list xs):=rfl
@[simp] theorem ev_viewLD {xs:List (PyData×PyData)}:view T (.loc (.dict xs))=some (.dict xs):=rfl
noncomputable def mkD (T:Tp) (o:Option PyData):Option (W×Tp):=match o with
 | some d=>some (.d d,T)
 | none=>none
@[simp] theorem ev_mkD:mkD T (some x)=some (.d x,T):=rfl
@[simp] theorem ev_mkDN:mkD T none=none:=rfl
@[simp] theorem ev_mkDI {p:Prop} [Decidable p] {u v:Option PyData}:mkD T (if p then u else v)=if p then mkD T u else mkD T v:=by split <;> rfl
noncomputable def binK (o:PyData→PyData→Option PyData) (g:FE) (ρ:Rho) (w1:W) (T1:Tp):Option (W×Tp):=bnd (g ρ T1) fun w2 T2=>op2 o T2 w1 w2
@[simp] theorem ev_bin {o:PyData→PyData→Option PyData}:fBin o f g ρ T=bnd (f ρ T) (binK o g ρ):=rfl
@[simp] theorem ev_binK {o:PyData→PyData→Option PyData}:binK o g ρ w T=bnd (g ρ T) fun w2 T2=>op2 o T2 w w2:=rfl
@[simp] theorem ev_op2 {o:PyData→PyData→Option PyData}:op2 o T (.d x) (.d y)=mkD T (o x y):=rfl
@[simp] theorem ev_op2T {o:PyData→PyData→Option PyData} {zs xs:List PyData} {r:Tp}:op2 o ((.list zs::xs)::r) (.tp 0) (.d y)=mkD ((.list zs::xs)::r) (o (.list (.list zs::xs)) y):=rfl
@[simp] theorem ev_un {o:PyData→Option PyData}:fUn o f ρ T=bnd (f ρ T) fun w1 T1=>op1 o T1 w1:=rfl
@[simp] theorem ev_op1 {o:PyData→Option PyData}:op1 o T (.d x)=mkD T (o x):=rfl
@[simp] theorem ev_asB {b:Bool}:asB (.d (.bool b))=some b:=rfl
noncomputable def tstK:W→Tp→Option (Bool×Tp):=fun w T1=>match asB w with
 | some b=>some (b,T1)
 | none=>none
@[simp] theorem ev_tst:fTst f ρ T=bnd (f ρ T) tstK:=rfl
@[simp] theorem ev_tstK {b:Bool}:tstK (.d (.bool b)) T=some (b,T):=rfl
@[simp] theorem ev_tru:fTru f ρ T=bnd (f ρ T) fun w T1=>tru1 T1 w:=rfl
noncomputable def truK (T:Tp) (o:Option Bool):Option (Bool×Tp):=match o with
 | some b=>some (b,T)
 | none=>none
@[simp] theorem ev_tru1:tru1 T (.d x)=truK T (truD x):=rfl
@[simp] theorem ev_truK {b:Bool}:truK T (some b)=some (b,T):=rfl
@[simp] theorem ev_truB {b:Bool}:truD (.bool b)=some b:=rfl
noncomputable def andTK (c':FT) (ρ:Rho) (b:Bool) (T1:Tp):Option (Bool×Tp):=if b=true then c' ρ T1 else some (false,T1)
@[simp] theorem ev_andT:fAndT c c' ρ T=bnd (c ρ T) (andTK c' ρ):=rfl
@[simp] theorem ev_andTK {b:Bool}:andTK c' ρ b T=if b=true then c' ρ T else some (false,T):=rfl
noncomputable def orTK (c':FT) (ρ:Rho) (b:Bool) (T1:Tp):Option (Bool×Tp):=if b=true then some (true,T1) else c' ρ T1
@[simp] theorem ev_orT:fOrT c c' ρ T=bnd (c ρ T) (orTK c' ρ):=rfl
@[simp] theorem ev_orTK {b:Bool}:orTK c' ρ b T=if b=true then some (true,T) else c' ρ T:=rfl
@[simp] theorem ev_notT:fNotT c ρ T=bnd (c ρ T) fun b T1=>some (!b,T1):=rfl
@[simp] theorem ev_trueT:fTrue ρ T=some (true,T):=rfl
noncomputable def andK (g:FE) (ρ:Rho) (w:W) (T:Tp):Option (W×Tp):=match asB w with
 | some b=>if b=true then g ρ T else some (.d (.bool false),T)
 | none=>none
@[simp] theorem ev_andV:fAndV f g ρ T=bnd (f ρ T) (andK g ρ):=rfl
@[simp] theorem ev_andK {b:Bool}:andK g ρ (.d (.bool b)) T=if b=true then g ρ T else some (.d (.bool false),T):=rfl
noncomputable def orK (g:FE) (ρ:Rho) (w:W) (T:Tp):Option (W×Tp):=match asB w with
 | some b=>if b=true then some (.d (.bool true),T) else g ρ T
 | none=>none
@[simp] theorem ev_orV:fOrV f g ρ T=bnd (f ρ T) (orK g ρ):=rfl
@[simp] theorem ev_orK {b:Bool}:orK g ρ (.d (.bool b)) T=if b=true then some (.d (.bool true),T) else g ρ T:=rfl
noncomputable def notK (w:W) (T:Tp):Option (W×Tp):=match asB w with
 | some b=>some (.d (.bool (!b)),T)
 | none=>none
@[simp] theorem ev_notV:fNotV f ρ T=bnd (f ρ T) notK:=rfl
@[simp] theorem ev_notK {b:Bool}:notK (.d (.bool b)) T=some (.d (.bool (!b)),T):=rfl
noncomputable def ifEK (f g:FE) (ρ:Rho) (b:Bool) (T1:Tp):Option (W×Tp):=if b=true then f ρ T1 else g ρ T1
@[simp] theorem ev_ifE:fIfE c f g ρ T=bnd (c ρ T) (ifEK f g ρ):=rfl
@[simp] theorem ev_ifEK {b:Bool}:ifEK f g ρ b T=if b=true then f ρ T else g ρ T:=rfl
noncomputable def chK (o':PyData→PyData→Option PyData) (h:FE) (ρ:Rho) (w2 w:W) (T:Tp):Option (W×Tp):=match asB w with
 | some b=>if b=true then bnd (h ρ T) fun w3 T4=>op2 o' T4 w2 w3 else some (.d (.bool false),T)
 | none=>none
@[simp] theorem ev_chain {o o':PyData→PyData→Option PyData} {h:FE}:fChain o o' f g h ρ T=bnd (f ρ T) fun w1 T1=>bnd (g ρ T1) fun w2 T2=>bnd (op2 o T2 w1 w2) (chK o' h ρ w2):=rfl
@[simp] theorem ev_chK {o':PyData→PyData→Option PyData} {h:FE} {b:Bool}:chK o' h ρ w (.d (.bool b)) T=if b=true then bnd (h ρ T) fun w3 T4=>op2 o' T4 w w3 else some (.d (.bool false),T):=rfl
@[simp] theorem ev_nil:fNil ρ T=some ([],T):=rfl
noncomputable def consK (a:FA) (ρ:Rho) (w:W) (T1:Tp):Option (List W×Tp):=bnd (a ρ T1) fun ws T2=>some (w::ws,T2)
@[simp] theorem ev_cons:fCons f a ρ T=bnd (f ρ T) (consK a ρ):=rfl
@[simp] theorem ev_consK:consK a ρ w T=bnd (a ρ T) fun ws T2=>some (w::ws,T2):=rfl
@[simp] theorem ev_views0:views T []=some []:=rfl
noncomputable def consO (x:PyData) (o:Option (List PyData)):Option (List PyData):=match o with
 | some xs=>some (x::xs)
 | none=>none
@[simp] theorem ev_consO {xs:List PyData}:consO x (some xs)=some (x::xs):=rfl
@[simp] theorem ev_views {r:List W}:views T (.d x::r)=consO x (views T r):=rfl
@[simp] theorem ev_viewsL {xs:List PyData} {r:List W}:views T (.loc (.list xs)::r)=consO (.list xs) (views T r):=rfl
@[simp] theorem ev_datas0:datas []=some []:=rfl
@[simp] theorem ev_datas {r:List W}:datas (.d x::r)=consO x (datas r):=rfl
noncomputable def sqK (mk:List PyData→PyData) (T:Tp):Option (List PyData)→Option (W×Tp)
 | some xs=>if xs.length≤1000 then some (.d (mk xs),T) else none
 | none=>none
@[simp] theorem ev_seqD {mk:List PyData→PyData}:fSeqD mk a ρ T=bnd (a ρ T) fun ws T1=>sqK mk T1 (datas ws):=rfl
@[simp] theorem ev_sqK {mk:List PyData→PyData} {xs:List PyData}:sqK mk T (some xs)=if xs.length≤1000 then some (.d (mk xs),T) else none:=rfl
noncomputable def cbK (o:List PyData→Option PyData) (T:Tp) (v:Option (List PyData)):Option (W×Tp):=match v with
 | some xs=>(match o xs with
  | some d=>some (.d d,T)
  | none=>none)
 | none=>none
@[simp] theorem ev_CB {o:List PyData→Option PyData}:fCB o a ρ T=bnd (a ρ T) fun ws T1=>cbK o T1 (views T1 ws):=rfl
@[simp] theorem ev_cbK {o:List PyData→Option PyData} {xs:List PyData}:cbK o T (some xs)=mkD T (o xs):=rfl
@[simp] theorem ev_call {m:FnM}:fCall m a ρ T=bnd (a ρ T) fun ws T1=>bnd (m ws T1) fun x T2=>some (.d x,T2):=rfl
@[simp] theorem ev_comp {it:FI}:fComp it c f ρ T=bnd (it ρ T) fun ds T1=>bnd (compL c f ρ ds T1) fun ys T2=>some (.d (.list ys),T2):=rfl
noncomputable def itK (T:Tp) (o:Option (List PyData)):Option (List PyData×Tp):=match o with
 | some xs=>some (xs,T)
 | none=>none
noncomputable def itW:W→Tp→Option (List PyData×Tp):=fun w T1=>match w with
 | .d x=>(match itemsD x with
  | some xs=>some (xs,T1)
  | none=>none)
 | _=>none
@[simp] theorem ev_iter:fIter f ρ T=bnd (f ρ T) itW:=rfl
@[simp] theorem ev_itW:itW (.d x) T=itK T (itemsD x):=rfl
@[simp] theorem ev_itK {xs:List PyData}:itK T (some xs)=some (xs,T):=rfl
@[simp] theorem ev_itemsL {xs:List PyData}:itemsD (.list xs)=some xs:=rfl
@[simp] theorem ev_itemsD {ds:List (PyData×PyData)}:itemsD (.dict ds)=some (ds.map (·.1)):=rfl
@[simp] theorem ev_itemsT {xs:List PyData}:itemsD (.tuple xs)=some xs:=rfl
@[simp] theorem ev_itemsS {z:Str}:itemsD (.str z)=if z.length≤sizeLine then some (signs z) else none:=rfl
noncomputable def rngK:W→Tp→Option (List PyData×Tp):=fun w T1=>match w with
 | .d (.int j)=>if rngOk j=true then some (numsD 0 j.toNat,T1) else none
 | _=>none
@[simp] theorem ev_rng1:fRng1 f ρ T=bnd (f ρ T) rngK:=rfl
@[simp] theorem ev_rngK {j:Int}:rngK (.d (.int j)) T=if rngOk j=true then some (numsD 0 j.toNat,T) else none:=rfl
@[simp] theorem ev_for {i:Nat} {it:FI}:fFor i it s ρ T=bnd (it ρ T) fun ds T1=>forL i s ds ρ T1:=rfl
@[simp] theorem ev_sub {i j:Int}:subD (.int i) (.int j)=some (.int (i - j)):=rfl
@[simp] theorem ev_mod {i j:Int}:modD (.int i) (.int j)=if 0 < j then some (.int (i % j)) else none:=rfl
@[simp] theorem ev_fdiv {i j:Int}:fdivD (.int i) (.int j)=if 0 < j∧j < 1073741824 then some (.int (i / j)) else none:=rfl
@[simp] theorem ev_pow {i j:Int}:powD (.int i) (.int j)=if 0≤j∧j≤1000000∧i.natAbs < 2 ^ 64 then some (.int (i ^ j.toNat)) else none:=rfl
@[simp] theorem ev_lt {i j:Int}:ltD (.int i) (.int j)=some (.bool (decide (i < j))):=rfl
@[simp] theorem ev_le {i j:Int}:leD (.int i) (.int j)=some (.bool (decide (i≤j))):=rfl
@[simp] theorem ev_gt {i j:Int}:gtD (.int i) (.int j)=some (.bool (decide (j < i))):=rfl
@[simp] theorem ev_ge {i j:Int}:geD (.int i) (.int j)=some (.bool (decide (j≤i))):=rfl
@[simp] theorem ev_addI {i j:Int}:addD (.int i) (.int j)=some (.int (i + j)):=rfl
@[simp] theorem ev_addS {u v:Str}:addD (.str u) (.str v)=if u.length + v.length≤sizeLine then some (.str (u++v)) else none:=rfl
@[simp] theorem ev_addT {u v:List PyData}:addD (.tuple u) (.tuple v)=if u.length + v.length≤sizeLine then some (.tuple (u++v)) else none:=rfl
@[simp] theorem ev_addL {u v:List PyData}:addD (.list u) (.list v)=if u.length + v.length≤sizeLine then some (.list (u++v)) else none:=rfl
@[simp] theorem ev_mulI {i j:Int}:mulD (.int i) (.int j)=if (-(2 ^ 64) < i∧i < 2 ^ 64)∨(-(2 ^ 64) < j∧j < 2 ^ 64) then some (.int (i * j)) else none:=rfl
@[simp] theorem ev_mulS {z:Str} {k:Int}:mulD (.str z) (.int k)=if 0≤k∧k≤2000∧z.length≤1000 then some (.str (Txt.mul z k)) else none:=rfl
@[simp] theorem ev_mulT {xs:List PyData} {k:Int}:mulD (.tuple xs) (.int k)=if 2≤k∧k≤1000∧xs.isEmpty=false∧xs.length≤1000 then some (.tuple (List.replicate k.toNat xs).flatten) else none:=rfl
@[simp] theorem ev_eqI {i j:Int}:eqD (.int i) (.int j)=some (.bool (decide (i=j))):=rfl
@[simp] theorem ev_eqS {i j:Str}:eqD (.str i) (.str j)=some (.bool (decide (i=j))):=rfl
@[simp] theorem ev_eqB {i j:Bool}:eqD (.bool i) (.bool j)=some (.bool (decide (i=j))):=rfl
@[simp] theorem ev_neI {i j:Int}:neD (.int i) (.int j)=some (.bool (!decide (i=j))):=rfl
@[simp] theorem ev_neS {i j:Str}:neD (.str i) (.str j)=some (.bool (!decide (i=j))):=rfl
@[simp] theorem ev_neB {i j:Bool}:neD (.bool i) (.bool j)=some (.bool (!decide (i=j))):=rfl
@[simp] theorem ev_is:isD x .none=some (.bool (isNone x)):=by cases x <;> rfl
@[simp] theorem ev_isnot {i j:Bool}:isNotD (.bool i) (.bool j)=some (.bool (i != j)):=rfl
@[simp] theorem ev_neg {i:Int}:negD (.int i)=some (.int (-i)):=rfl
@[simp] theorem ev_isi {k:Kd}:isiD k x=some (.bool (isiK (kd x) k)):=rfl
@[simp] theorem ev_ixL {xs:List PyData} {i:Int}:ixD (.list xs) (.int i)=atI xs i:=rfl
@[simp] theorem ev_ixT {xs:List PyData} {i:Int}:ixD (.tuple xs) (.int i)=atI xs i:=rfl
@[simp] theorem ev_ixS {z:Str} {i:Int}:ixD (.str z) (.int i)=if z.length≤sizeLine then (atI z.cps.toList i).map (fun c=>.str ⟨#[c]⟩) else none:=rfl
@[simp] theorem ev_lenL {xs:List PyData}:lenD [.list xs]=some (.int xs.length):=rfl
@[simp] theorem ev_lenT {xs:List PyData}:lenD [.tuple xs]=some (.int xs.length):=rfl
@[simp] theorem ev_lenS {z:Str}:lenD [.str z]=if z.length≤sizeLine then some (.int z.length) else none:=rfl
@[simp] theorem ev_abs {i:Int}:absD [.int i]=some (.int (if i < 0 then -i else i)):=rfl
@[simp] theorem ev_max {i j:Int}:maxD2 [.int i,.int j]=some (.int (if j > i then j else i)):=rfl
@[simp] theorem ev_min {i j:Int}:minD2 [.int i,.int j]=some (.int (if j < i then j else i)):=rfl
@[simp] theorem ev_tupleL {xs:List PyData}:tupleD [.list xs]=some (.tuple xs):=rfl
@[simp] theorem ev_tupleT {xs:List PyData}:tupleD [.tuple xs]=some (.tuple xs):=rfl
@[simp] theorem ev_listL {xs:List PyData}:listD [.list xs]=some (.list xs):=rfl
@[simp] theorem ev_listT {xs:List PyData}:listD [.tuple xs]=some (.list xs):=rfl
@[simp] theorem ev_kdI {i:Int}:kd (.int i)=.int:=rfl
@[simp] theorem ev_kdB {i:Bool}:kd (.bool i)=.bl:=rfl
@[simp] theorem ev_kdS {i:Str}:kd (.str i)=.str:=rfl
@[simp] theorem ev_kdT {i:List PyData}:kd (.tuple i)=.tup:=rfl
@[simp] theorem ev_kdL {i:List PyData}:kd (.list i)=.lst:=rfl
@[simp] theorem ev_kdD {i:List (PyData×PyData)}:kd (.dict i)=.dct:=rfl
@[simp] theorem ev_kdN:kd .none=.non:=rfl
end
theorem at0 {α:Type} {a b c:α}:atI [a,b,c] 0=some a:=rfl
theorem at1 {α:Type} {a b c:α}:atI [a,b,c] 1=some b:=rfl
theorem at2 {α:Type} {a b c:α}:atI [a,b,c] 2=some c:=rfl
theorem ix1:ixN 3 1=some 1:=rfl
theorem ix2:ixN 3 2=some 2:=rfl
theorem compL_map {e:FE} {ρ:Rho} {T:Tp} {g:PyData→PyData}:∀ {ds:List PyData},(∀ d∈ds,e (some (.d d)::ρ) T=some (.d (g d),T))→compL fTrue e ρ ds T=some (ds.map g,T)
 | [],_=>rfl
 | d::r,h=>by
  have ih:=compL_map (ds:=r) fun x hx=>h x (List.mem_cons_of_mem _ hx)
  have h0:=h d List.mem_cons_self
  unfold compL
  simp [h0,ih]
theorem compL_filter {c:FT} {ρ:Rho} {T:Tp} {p:PyData→Bool}:∀ {ds:List PyData},(∀ d∈ds,c (some (.d d)::ρ) T=some (p d,T))→compL c (fVar 0) ρ ds T=some (ds.filter p,T)
 | [],_=>rfl
 | d::r,h=>by
  have ih:=compL_filter (ds:=r) fun x hx=>h x (List.mem_cons_of_mem _ hx)
  have h0:=h d List.mem_cons_self
  unfold compL
  cases hp:p d with
  | false=>simp [h0,hp,ih]
  | true=>simp [h0,hp,ih]
theorem boolsD_map {α:Type} (p:α→Bool):∀ l:List α,boolsD (l.map fun d=>.bool (p d))=some (l.map p)
 | []=>rfl
 | d::r=>by
  show (boolsD (r.map fun d=>.bool (p d))).map (p d::·)=_
  rw [boolsD_map p r]
  rfl
theorem intsD_map {α:Type} (p:α→Int):∀ l:List α,intsD (l.map fun d=>.int (p d))=some (l.map p)
 | []=>rfl
 | d::r=>by
  show (intsD (r.map fun d=>.int (p d))).map (p d::·)=_
  rw [intsD_map p r]
  rfl
theorem strsD_map {α:Type} (p:α→Str):∀ l:List α,strsD (l.map fun d=>.str (p d))=some (l.map p)
 | []=>rfl
 | d::r=>by
  show (strsD (r.map fun d=>.str (p d))).map (p d::·)=_
  rw [strsD_map p r]
  rfl
@[simp] theorem ev_all {α:Type} (p:α→Bool) (l:List α):allD [.list (l.map fun d=>.bool (p d))]=some (.bool (l.all p)):=by
 show (boolsD _).map (fun bs=>PyData.bool (bs.all id))=_
 rw [boolsD_map,Option.map_some,List.all_map]
 rfl
@[simp] theorem ev_sum {α:Type} (p:α→Int) (l:List α):sumD [.list (l.map fun d=>.int (p d))]=some (.int (l.map p).sum):=by
 show (intsD _).map (fun bs=>PyData.int bs.sum)=_
 rw [intsD_map,Option.map_some]
@[simp] theorem ev_maxd {α:Type} (p:α→Int) (l:List α) (k:Int):maxdD (.list (l.map fun d=>.int (p d))) (.int k)=some (.int (K1.maxD k (l.map p))):=by
 show (intsD _).map (fun bs=>PyData.int (K1.maxD k bs))=_
 rw [intsD_map,Option.map_some]
noncomputable def strHas (y:Str):PyData→Bool
 | .str z=>hasS y z
 | _=>false
theorem hasS_one (y:Str) (c:Nat):hasS y ⟨#[c]⟩=decide (c∈y.cps.toList):=StrLaws.found_one ..
@[simp] theorem ev_inS {x y:Str}:inD (.str x) (.str y)=some (.bool (hasS y x)):=rfl
theorem signs_mem {x:Str} {d:PyData} (h:d∈D.signs x):∃ c,c∈x.cps.toList∧d=.str ⟨#[c]⟩:=by
 obtain ⟨c,hc,rfl⟩:=List.mem_map.mp h
 exact ⟨c,hc,rfl⟩
end D
namespace D
open PySem PySem.Spec PyProof.Rows L2
section
variable {X:Cx}
noncomputable def startsD:PyData→PyData→Option PyData
 | .str z,.str y=>some (.bool (Txt.startswith z y))
 | _,_=>none
noncomputable def intD:List PyData→Option PyData
 | [.int i]=>some (.int i)
 | [.bool b]=>some (.int (if b then 1 else 0))
 | [.str x]=>if x.length≤640 then (PySem.intText? x).map .int else none
 | _=>none
noncomputable def revD:PyData→Option PyData
 | .tuple xs=>some (.tuple xs.reverse)
 | _=>none
end
@[simp] theorem ev_starts {z y:Str}:startsD (.str z) (.str y)=some (.bool (Txt.startswith z y)):=rfl
@[simp] theorem ev_intS {x:Str}:intD [.str x]=if x.length≤640 then (PySem.intText? x).map .int else none:=rfl
@[simp] theorem ev_intI {i:Int}:intD [.int i]=some (.int i):=rfl
@[simp] theorem ev_intB {b:Bool}:intD [.bool b]=some (.int (if b then 1 else 0)):=rfl
@[simp] theorem ev_rev {xs:List PyData}:revD (.tuple xs)=some (.tuple xs.reverse):=rfl
end D
namespace D
open PySem PySem.Spec PyProof.Rows L2
section
variable {X:Cx}
theorem Vw.reads {pins:List (Addr×Obj)} {σ:L2.St} {H:Hp} {s:Shared} {O:Addr→Prop} {v:V} {d:PyData} {u:Value} (I:Inv X pins σ H s) (h:Vw X.K O H v d) (r:RelV v u):∃ as,Reads s.heap u d as:=by
 cases h with
 | rep h=>obtain ⟨as,rd,_⟩:=h.reads I r; exact ⟨as,rd⟩
 | raw h hs=>
  cases r
  obtain ⟨its,rv,pl,_⟩:=I.list (SqL.of h)
  obtain ⟨o,n,e,c,_,dd⟩:=pl
  obtain ⟨as,rd,_⟩:=hs.reads I rv
  exact ⟨_,.list e c dd (by simpa using rd)⟩
 | rawD h rk=>
  cases r
  obtain ⟨z,y,vs,kv,o,es,ep,e,ed,dd,_,ek,_⟩:=(show ObjOk X.prog X.w H s.heap _ (.dK _) from I.hok _ _ h)
  obtain ⟨bs,q1,q2,f⟩:=RepK.reads I rk kv ek
  exact ⟨_,.dict (as:=[]) (bs:=bs) e ed.1 dd q1 q2⟩
open Classical in
end
end D
namespace D
open PySem PySem.Spec PyProof.Rows L2
theorem list_extW (l:Addr) (items:Array Value) (n:Nat) (b:Addr) (items2:Array Value) (n2:Nat) (dd:Option Addr) (sl:Array (Option Value)) (hc0:¬(!items.isEmpty && Builtin.List.listTooLong (items.size + items2.size))=true) (hc1:items.size≤sizeLine) (hs2:items.size + items2.size≤sizeLine + 1) :
  Meets (Builtin.«list.extend» ⟨[.ref l,.ref b],[]⟩) (fun _ R s=>s.heap.get? l=some { cls:=.type "list",dict:=none,data:=.seq items n,slots:=#[] }∧s.heap.get? b=some { cls:=.type "list",dict:=dd,data:=.seq items2 n2,slots:=sl }∧R (.ok (.ret Value.none)) { s with heap:=s.heap.update l (Obj.mapSeq fun x=>x++items2),toks:=s.toks }):=
 .of_wp fun prog w A R s h=>by
  obtain ⟨hp,g,d,tk,os⟩:=s
  obtain ⟨hl,hb,h⟩:=h
  have f1:=AutoSeq1.idx_int
  have f2:=AutoSeq1.sub_tuple_tuple
  have f3:=AutoSeq1.sub_list_list
  have f4:=AutoSeq1.sub_tuple_list
  have f5:=AutoSeq1.sub_list_tuple
  have hz':(items++items2).size≤sizeLine + 1:=by rw [Array.size_append]; exact hs2
  wp_walk using (wpAny_updateSeq hl rfl (hz:=hc1) (_hz':=hz')),wpAny_loadPart' hl,wpAny_loadPart' hb
  exact ⟨_,rfl,h⟩
section
variable {X:Cx}
theorem mt_ext:MtM X "list.extend" (fun x vs H Q=>∃ l b xs zs,x=.ref l∧vs=[.ref b]∧H l=some (.lst xs)∧SqL X.K H b zs∧xs.length + zs.length≤sizeLine∧Q .non (upd H l (.lst (xs++zs)))):=by
 intro pins s σ H x vs v us Q I rx rv h
 obtain ⟨l,b,xs,zs,rfl,rfl,hH,hB,hz,q⟩:=h
 cases rx
 obtain ⟨u,rfl,ru⟩:=rv.one
 cases ru
 obtain ⟨z,its,n,r,hl,e⟩:=I.lstM hH
 obtain ⟨its2,r2,pl,_⟩:=I.list hB
 obtain ⟨⟨cls2,dd2,data2,sl2⟩,n2,e2,c2,_,d2⟩:=pl
 simp only at c2 d2
 subst c2 d2
 have hl2:=r2.length
 have hsz:its.toArray.size + its2.toArray.size≤sizeLine:=by rw [List.size_toArray,List.size_toArray]; omega
 have hlong:¬ (!its.toArray.isEmpty && Builtin.List.listTooLong (its.toArray.size + its2.toArray.size))=true:=by
  rw [notLongL hsz,Bool.and_false]
  exact Bool.false_ne_true
 refine call_meets F.slot_list_extend ⟨_,e,rfl⟩ F.entry_list_extend (F.args_list_extend_2 _ _)
  (list_extW l its.toArray n b its2.toArray n2 dd2 sl2 hlong (by rw [List.size_toArray]; omega) (by omega)) ⟨e,e2,?_⟩
 refine ⟨.non,_,I.lset (its':=its++its2) hH e (by simp) (r.append r2) ?_,rfl,q⟩
 rw [List.length_append]
 omega
variable {pos:Pos} {e:Expr} {fe:FE}
noncomputable def fExt (i:Nat) (f:FE):FS:=fun ρ T=>bnd (f ρ T) fun w T1=>match w,ρ[i]? with
 | .d (.list ys),some (some (.loc (.list xs)))=>if xs.length + ys.length≤sizeLine then some ((.nx,ρ.set i (some (.loc (.list (xs++ys))))),T1) else none
 | _,_=>none
theorem ds_ext {i:Nat} {x:Str} {p apos:Pos} (he:DE X e fe) (hN:X.N[i]? = some x:=by rfl) (hv:Vis X.env.scope x:=by first | exact Or.inl rfl | exact Or.inr (Or.inl rfl) | exact Or.inr (Or.inr rfl)) (hd:(x == ("__debug__" : Str))=false:=by decide)
  (hcd:(x == ("__classdict__" : Str))=false:=by decide) {cpos:Pos}
  (hbase:attributeBase (.Name x p) "extend" X.env (eval (.Name x p) X.env)=eval (.Name x p) X.env:=by rfl)
  (hfew:((backTo cpos (starEach [e] X.env)).all (fun x=>!x.1) && (backToKw cpos (keywordEach [] X.env)).all (fun x=>x.1.isSome)
   && decide (([e]:List Expr).length + ([]:List Keyword).length + (if ([]:List Keyword).isEmpty then 0 else 1) < 30))=true:=by exact few1 rfl)
  (hline:(apos.endLine == cpos.line)=true:=by rfl) (hse:starEach [e] X.env=(false,eval e X.env)::starEach [] X.env:=by exact star_cons rfl) (hplain:(backTo cpos (starEach [] X.env)).any (·.1)=false:=by exact star_any rfl)
  (hs:swapsWith (.Call (.Attribute (.Name x p) "extend" apos) [e] [] cpos) none pos.line X.env=pure false:=by rfl) :
  DS X (.Expr (.Call (.Attribute (.Name x p) "extend" apos) [e] [] cpos) pos) (fExt i fe):=by
 refine ⟨?_⟩
 refine ps_imp (ps_expr (pe_bm PySem.F.plainAttrs_list PySem.F.slot_list_extend PySem.F.type_list_extend mt_ext (pv i hN hv hd hcd) (pa_cons he.pe pa_nil hse) hbase hfew hline hse hplain) hs) fun D σ H=>?_
 rintro ⟨O₀,H₀,F,ts,O,ρ,T,fl,ρ',T',rs,e,q⟩
 obtain ⟨w,T1,e1,e⟩:=bnd_of e
 split at e
 ·rename_i ys xs h1
  split at e
  ·rename_i h2
   cases e
   obtain ⟨v,k1,a,rfl,k2,k3,vs,k4,k5⟩:=rs.re i _ h1
   refine ⟨_,k1,.inl ⟨rfl,vs,SqL.of k4⟩,O,ts,ρ,T,_,_,rs.hc,rs.re,e1,fun u H1 s1 hc1 r1=>?_⟩
   have rs1:=rs.step s1 hc1
   have r1':Rep X.K O H1 u (.list ys):=r1
   cases r1' with
   | lst t r=>
    rename_i b us
    exact ⟨a,b,vs,us,rfl,rfl,s1 _ _ k3 k4,t.sq,by rw [k5.length,r.length]; exact h2,q O _ _ (rs1.put (us:=[]) h1 k1 ((k5.mono (rs.hc.le s1)).append r))⟩
  ·cases e
 ·cases e
end
end D
namespace D
open PySem PySem.Spec PyProof.Rows L2
noncomputable def tabD (B:List (Str×Int)):List (Str×PyProof.Rows.KTD.Dat):=B.map fun p=>(p.1,.flat (.int p.2))
noncomputable def TabK (K:PySem.W.Frag) (mg:Str→Option Value) (x:Str) (B:List (Str×Int)):Prop:=∃ a,mg x=some (.ref a)∧PyProof.Rows.KTD.tabLook (PyProof.Rows.KTD.datLooks fun b=>K.lookup b) (fun b=>K.lookup b) a (tabD B)=true
noncomputable def inT (B:List (Str×Int)):PyData→Option PyData
 | .str s=>some (.bool (B.any fun p=>decide (s=p.1)))
 | _=>none
noncomputable def atT (B:List (Str×Int)):PyData→Option PyData
 | .str s=>(B.find? fun p=>decide (s=p.1)).map fun p=>.int p.2
 | _=>none
theorem inKeys_tab (s:Str):∀ B:List (Str×Int),PyProof.Rows.KTD.inKeys s (tabD B)=B.any fun p=>decide (s=p.1)
 | []=>rfl
 | (x,d)::B=>by
  show (decide (s=x) || PyProof.Rows.KTD.inKeys s (tabD B))=_
  rw [inKeys_tab s B]
  rfl
theorem datum_tab (s:Str):∀ B:List (Str×Int),PyProof.Rows.KTD.datumAt s (tabD B)=(B.find? fun p=>decide (s=p.1)).map fun p=>.flat (.int p.2)
 | []=>rfl
 | (x,d)::B=>by
  show (if decide (s=x)=true then some _ else PyProof.Rows.KTD.datumAt s (tabD B))=_
  rw [datum_tab s B,List.find?_cons]
  cases decide (s=x) <;> rfl
section
variable {X:Cx} {pos:Pos} {e:Expr} {f:FE} {x:Str} {p:Pos} {B:List (Str×Int)}
theorem eachL_tab {h:Heap} {P:Value→Prop} {s:Str}:∀ {B:List (Str×Int)} {d:Str×Int},(B.find? fun p=>decide (s=p.1))=some d→(∀ t,P (.int d.2 t))→PyProof.Rows.KTD.EachL h s P (tabD B)
 | [],d,e,_=>by cases e
 | (x,i)::B,d,e,hp=>by
  rw [List.find?_cons] at e
  by_cases hx:s=x
  ·have:decide (s=x)=true:=decide_eq_true hx
   simp only [this] at e
   cases e
   exact PyProof.Rows.KTD.eachL_hit hx (PyProof.Rows.KTD.opened_int hp)
  ·have:decide (s=x)=false:=decide_eq_false hx
   simp only [this] at e
   exact PyProof.Rows.KTD.eachL_miss hx (eachL_tab e hp)
theorem op_inT {a:Addr} (hl:PyProof.Rows.KTD.tabLook (PyProof.Rows.KTD.datLooks fun b=>X.K.lookup b) (fun b=>X.K.lookup b) a (tabD B)=true):OpR X (compareOp .In) (fun x y H Q=>∃ s,x=.str s∧y=.ref a∧Q (.bl (B.any fun p=>decide (s=p.1))) H):=by
 intro pins s σ H x y v u Q I rx ry h
 obtain ⟨z,rfl,rfl,q⟩:=h
 obtain ⟨t,rfl⟩:=rx
 cases ry
 refine PyProof.Rows.KTD.in_text (h₀:=s.heap) ⟨PySem.W.kt_text_in I.kIn hl,fun _ _ e=>e⟩ ?_
 rw [inKeys_tab]
 exact ⟨.bl _,H,I.tok _,rfl,q⟩
theorem dt_inT (ht:TabK X.K X.mg x B) (hg:Gl X x) (he:DE X e f) (hd:(x == ("__debug__" : Str))=false:=by decide) (hm:behindInMarks .In (.Name x p)=false:=by first | exact nomark _ | with_unfolding_all rfl):DT X (.Compare e [.In] [.Name x p] pos) (fTst (fUn (inT B) f)):=by
 obtain ⟨a,hx,hl⟩:=ht
 refine ⟨?_⟩
 refine pt_imp (pt_cmpR (op_inT hl) he.pe (pe_glob (v:=.ref a) hg hx rfl hd) hm) fun σ H Q h=>?_
 have h:=tst_imp h
 revert h
 rintro ⟨O,ts,ρ,T,w,T',hc,re,e,q⟩
 obtain ⟨w1,T1,e1,e⟩:=bnd_of e
 obtain ⟨x,d,h1,h3,rfl,rfl⟩:=op1_of e
 refine ⟨O,ts,ρ,T,w1,T',hc,re,e1,fun v1 H1 s1 hc1 r1=>?_⟩
 have vw:=hc1.view r1 h1
 unfold inT at h3
 split at h3
 ·cases h3
  cases vw.str
  exact ⟨_,rfl,rfl,q _ H1 s1 hc1 (.bl _)⟩
 ·cases h3
theorem ix_tab {a:Addr} (hl:PyProof.Rows.KTD.tabLook (PyProof.Rows.KTD.datLooks fun b=>X.K.lookup b) (fun b=>X.K.lookup b) a (tabD B)=true):IxR X (fun x y H Q=>∃ s p,x=.ref a∧y=.str s∧(B.find? fun p=>decide (s=p.1))=some p∧Q (.int p.2) H):=by
 intro value slice pins s σ H x y v u Q I rx ry h hs
 obtain ⟨z,d,rfl,rfl,hf,q⟩:=h
 obtain ⟨t,rfl⟩:=ry
 cases rx
 have hk:PyProof.Rows.KTD.inKeys z (tabD B)=true:=by
  rw [← PyProof.Rows.KTD.isSome_datumAt,datum_tab,hf]
  rfl
 have hp:((tabD B).all fun p=>PyProof.Rows.KTD.plain p.2)=true:=by
  rw [List.all_eq_true]
  intro p hp
  obtain ⟨q,_,rfl⟩:=List.mem_map.mp hp
  rfl
 exact PyProof.Rows.KTD.item_textA (h₀:=s.heap) ⟨PySem.W.kt_text_in I.kIn hl,fun _ _ e=>e⟩ hp hk (eachL_tab hf fun t=>⟨.int d.2,H,I.tok _,⟨t,rfl⟩,q⟩) hs
theorem de_ixT (ht:TabK X.K X.mg x B) (hg:Gl X x) (he:DE X e f) (hd:(x == ("__debug__" : Str))=false:=by decide) (hs:PlainIx e:=by exact fun _ _=>rfl):DE X (.Subscript (.Name x p) e pos) (fUn (atT B) f):=by
 obtain ⟨a,hx,hl⟩:=ht
 refine ⟨?_⟩
 refine pe_imp (pe_ix (ix_tab hl) (pe_glob (v:=.ref a) hg hx rfl hd) he.pe hs) fun σ H Q=>?_
 rintro ⟨O,ts,ρ,T,w,T',hc,re,e,q⟩
 obtain ⟨w1,T1,e1,e⟩:=bnd_of e
 obtain ⟨x,d,h1,h3,rfl,rfl⟩:=op1_of e
 refine ⟨O,ts,ρ,T,w1,T',hc,re,e1,fun v1 H1 s1 hc1 r1=>?_⟩
 have vw:=hc1.view r1 h1
 unfold atT at h3
 split at h3
 ·obtain ⟨p,hp,rfl⟩:=Option.map_eq_some_iff.mp h3
  cases vw.str
  exact ⟨_,p,rfl,rfl,hp,q _ H1 s1 hc1 (.int _)⟩
 ·cases h3
end
end D
namespace D
open PySem PySem.Spec PyProof.Rows L2
end D
namespace L2
open PySem PySem.Spec PyProof.Rows
open K1 (maxFrom maxD)
section
variable {prog:Program} {w:World} {A:Around} {R:Result→Shared→Prop} {it S:Addr} {fp wr:List Addr} {P:Nat→Value→Prop} {St:Nat→Heap→Prop} {ns:List Int} {kw:List (Str×Value)}
end
section
variable {X:Cx}
end
end L2
namespace D
open PySem PySem.Spec PyProof.Rows L2
section
variable {X:Cx} {pos:Pos} {e:Expr} {f:FE} {x:Str} {p:Pos}
noncomputable def ninT (B:List (Str×Int)):PyData→Option PyData
 | .str s=>some (.bool (!B.any fun p=>decide (s=p.1)))
 | _=>none
variable {B:List (Str×Int)}
theorem op_ninT {a:Addr} (hl:PyProof.Rows.KTD.tabLook (PyProof.Rows.KTD.datLooks fun b=>X.K.lookup b) (fun b=>X.K.lookup b) a (tabD B)=true):OpR X (compareOp .NotIn) (fun x y H Q=>∃ s,x=.str s∧y=.ref a∧Q (.bl (!B.any fun p=>decide (s=p.1))) H):=by
 intro pins s σ H x y v u Q I rx ry h
 obtain ⟨z,rfl,rfl,q⟩:=h
 obtain ⟨t,rfl⟩:=rx
 cases ry
 refine PyProof.Rows.KTD.notin_text (h₀:=s.heap) ⟨PySem.W.kt_text_in I.kIn hl,fun _ _ e=>e⟩ ?_
 rw [inKeys_tab]
 exact ⟨.bl _,H,I.tok _,rfl,q⟩
theorem dt_ninT (ht:TabK X.K X.mg x B) (hg:Gl X x) (he:DE X e f) (hd:(x == ("__debug__" : Str))=false:=by decide) (hm:behindInMarks .NotIn (.Name x p)=false:=by first | exact nomark _ | with_unfolding_all rfl):DT X (.Compare e [.NotIn] [.Name x p] pos) (fTst (fUn (ninT B) f)):=by
 obtain ⟨a,hx,hl⟩:=ht
 refine ⟨?_⟩
 refine pt_imp (pt_cmpR (op_ninT hl) he.pe (pe_glob (v:=.ref a) hg hx rfl hd) hm) fun σ H Q h=>?_
 have h:=tst_imp h
 revert h
 rintro ⟨O,ts,ρ,T,w,T',hc,re,e,q⟩
 obtain ⟨w1,T1,e1,e⟩:=bnd_of e
 obtain ⟨x,d,h1,h3,rfl,rfl⟩:=op1_of e
 refine ⟨O,ts,ρ,T,w1,T',hc,re,e1,fun v1 H1 s1 hc1 r1=>?_⟩
 have vw:=hc1.view r1 h1
 unfold ninT at h3
 split at h3
 ·cases h3
  cases vw.str
  exact ⟨_,rfl,rfl,q _ H1 s1 hc1 (.bl _)⟩
 ·cases h3
noncomputable def strsAre:List Value→List Str→Bool
 | [],[]=>true
 | .str x _::r,y::s=>decide (x=y) && strsAre r s
 | _,_=>false
noncomputable def tupLook (look:Addr→Option Obj) (a:Addr) (ss:List Str):Bool:=match look a with
 | some ⟨.type n,_,.seq its _,_⟩=>decide (n = "tuple") && strsAre its.toList ss
 | _=>false
noncomputable def TupK (K:PySem.W.Frag) (mg:Str→Option Value) (x:Str) (ss:List Str):Prop:=∃ a,mg x=some (.ref a)∧tupLook (fun b=>K.lookup b) a ss=true
theorem strs_vals:∀ {vs:List Value} {ss:List Str},strsAre vs ss=true→Vals (ss.map V.str) vs
 | [],[],_=>.nil
 | .str x t::r,y::s,h=>by
  have h':(decide (x=y) && strsAre r s)=true:=h
  rw [Bool.and_eq_true] at h'
  exact .cons ⟨t,by rw [of_decide_eq_true h'.1]⟩ (strs_vals h'.2)
theorem reps_strs {K:PySem.W.Frag} {O:Addr→Prop} {H:Hp}:∀ ss:List Str,Reps K O H (ss.map V.str) (ss.map PyData.str)
 | []=>.nil
 | x::r=>.cons (.str x) (reps_strs r)
theorem de_globU {ss:List Str} (hg:Gl X x) (ht:TupK X.K X.mg x ss) (hz:ss.length≤sizeLine:=by decide) (hd:(x == ("__debug__" : Str))=false:=by decide):DE X (.Name x p) (fC (.tuple (ss.map PyData.str))):=by
 obtain ⟨a,hx,hl⟩:=ht
 refine ⟨?_⟩
 refine pe_imp (pe_glob (v:=.ref a) hg hx rfl hd) (lift_c fun O H=>?_)
 unfold tupLook at hl
 split at hl
 ·rename_i n dd its c sl hk
  rw [Bool.and_eq_true] at hl
  have rv:=strs_vals hl.2
  have hn:=of_decide_eq_true hl.1
  subst hn
  refine .tup (vs:=ss.map V.str) (.inr (.inr ⟨_,its,c,hk,rfl,rfl,?_,rv⟩)) (reps_strs ss)
  have:=rv.length
  rw [List.length_map] at this
  have e2:its.toList.length=its.size:=Array.length_toList
  omega
 ·cases hl
noncomputable def tabO (a:Addr) (o:Obj) (B:List (Str×Int)):Bool:=PyProof.Rows.KTD.tabLook (PyProof.Rows.KTD.datLooks fun _=>none) (fun _=>some o) a (tabD B)
theorem rows_same {g g':Addr→Option Obj}:∀ (es:List DictEntry) (B:List (Str×Int)),PyProof.Rows.KTD.rowsLook (PyProof.Rows.KTD.datLooks g) es (tabD B)=PyProof.Rows.KTD.rowsLook (PyProof.Rows.KTD.datLooks g') es (tabD B)
 | [],[]=>rfl
 | [],(_,_)::_=>rfl
 | _::_,[]=>rfl
 | e::es,(x,i)::B=>by
  have ih:=rows_same (g:=g) (g':=g') es B
  unfold tabD at ih ⊢
  rw [List.map_cons]
  unfold PyProof.Rows.KTD.rowsLook
  rw [ih]
  rfl
theorem tabO_look {K:PySem.W.Frag} {a:Addr} {o:Obj} (h:K.lookup a=some o) (g:tabO a o B=true):PyProof.Rows.KTD.tabLook (PyProof.Rows.KTD.datLooks fun b=>K.lookup b) (fun b=>K.lookup b) a (tabD B)=true:=by
 unfold tabO PyProof.Rows.KTD.tabLook at g
 unfold PyProof.Rows.KTD.tabLook
 dsimp only at g ⊢
 rw [h]
 rw [← g]
 dsimp only
 cases o.data <;> first | rfl | (dsimp only; rw [rows_same (g':=fun _=>none)])
noncomputable def tupO (o:Obj) (ss:List Str):Bool:=tupLook (fun _=>some o) 0 ss
theorem tupO_look {K:PySem.W.Frag} {a:Addr} {o:Obj} {ss:List Str} (h:K.lookup a=some o) (g:tupO o ss=true):tupLook (fun b=>K.lookup b) a ss=true:=by
 unfold tupO tupLook at g
 unfold tupLook
 dsimp only
 rw [h]
 exact g
end
end D
namespace D
open PySem PySem.Spec PyProof.Rows L2
mutual
noncomputable def tupB:PyData→Bool
 | .tuple ds=>tupBs ds
 | .list _=>false
 | .dict _=>false
 | _=>true
noncomputable def tupBs:List PyData→Bool
 | []=>true
 | d::r=>tupB d && tupBs r
end
section
variable {K:PySem.W.Frag} {O:Addr→Prop} {H:Hp}
theorem TupAt.own (hm:∀ b,O b→Mut (H b)) {a:Addr} {vs:List V} (t:TupAt K (fun _=>False) H a vs):TupAt K O H a vs:=by
 rcases t with ⟨_,t⟩ | t
 ·refine .inl ⟨fun z=>?_,t⟩
  rcases hm a z with ⟨us,e⟩ | ⟨us,e⟩ | ⟨C,dx,us,e⟩ <;> rcases t with t | ⟨o,t⟩ <;> (rw [e] at t; cases t)
 ·exact .inr t
mutual
theorem Rep.own (hm:∀ b,O b→Mut (H b)):∀ {v:V} {d:PyData},Rep K (fun _=>False) H v d→tupB d=true→Rep K O H v d
 | _,_,.non,_=>.non
 | _,_,.bl b,_=>.bl b
 | _,_,.int i,_=>.int i
 | _,_,.str x,_=>.str x
 | _,_,.tup t r,h=>.tup (t.own hm) (Reps.own hm r (by simpa [tupB] using h))
 | _,_,.lst t r,h=>by simp [tupB] at h
 | _,_,.dct n t r,h=>by simp [tupB] at h
theorem Reps.own (hm:∀ b,O b→Mut (H b)):∀ {vs:List V} {ds:List PyData},Reps K (fun _=>False) H vs ds→tupBs ds=true→Reps K O H vs ds
 | _,_,.nil,_=>.nil
 | _,_,.cons (d:=d) (ds:=ds) r t,h=>by
  have h':(tupB d && tupBs ds)=true:=by simpa [tupBs] using h
  rw [Bool.and_eq_true] at h'
  exact .cons (Rep.own hm r h'.1) (Reps.own hm t h'.2)
end
end
noncomputable def keyAt (ds:List (PyData×PyData)) (s:Str):Option PyData:=match ds with
 | []=>none
 | (.str k,d)::r=>if k=s then some d else keyAt r s
 | _::r=>keyAt r s
theorem keyAt_of {K:PySem.W.Frag} {O:Addr→Prop} {H:Hp} {s:Str}:∀ {kvs:List (Key×V)} {ds:List (PyData×PyData)},RepK K O H kvs ds→(keyAt ds s=none∧valV kvs (Sum.inr s:Key)=none)∨∃ v d,keyAt ds s=some d∧valV kvs (Sum.inr s:Key)=some v∧Rep K O H v d
 | _,_,.nil=>.inl ⟨rfl,rfl⟩
 | _,_,.cons (k:=.inl i) (v:=v) (d:=d) (kvs:=kvs) (ds:=ds) r t=>by
  have e:valV (((Sum.inl i:Key),v)::kvs) (Sum.inr s:Key)=valV kvs (Sum.inr s:Key):=by simp [valV,List.find?_cons]
  rw [e]
  show (keyAt ds s=none∧_)∨∃ v d,keyAt ds s=some d∧_
  exact keyAt_of (s:=s) t
 | _,_,.cons (k:=.inr k) (v:=v) (d:=d) (kvs:=kvs) (ds:=ds) r t=>by
  by_cases hk:k=s
  ·subst hk
   exact .inr ⟨v,d,by show (if k=k then some d else keyAt ds k)=some d; rw [if_pos rfl],by simp [valV,List.find?_cons],r⟩
  ·have e:valV (((Sum.inr k:Key),v)::kvs) (Sum.inr s:Key)=valV kvs (Sum.inr s:Key):=by simp [valV,List.find?_cons,hk]
   have e2:keyAt ((keyD (Sum.inr k:Key),d)::ds) s=keyAt ds s:=by show (if k=s then some d else keyAt ds s)=_; rw [if_neg hk]
   rw [e,e2]
   exact keyAt_of (s:=s) t
theorem DGet.rd {H:Hp} {a:Addr} {kvs:List (Key×V)} {k:Key} (e:Rd H a (.dK kvs)):DGet H a (kV k) (valV kvs k):=.inl ⟨kvs,k,e,rfl,rfl⟩
section
variable {X:Cx} {pos:Pos} {k:Nat}
theorem hu_of {k:Nat} {A:Around} (hr:Room k A):A.units + 1 < cLine:=by have:=hr.un; omega
end
section
variable {K:PySem.W.Frag} {O₀:Addr→Prop} {H₀:Hp} {F:List ((Addr→Prop)×Hp)} {ts:List Addr} {O:Addr→Prop} {H H1:Hp} {σ:L2.St} {ρ:Rho} {T T1:Tp}
theorem RS.lay {p:Addr} {o:HO} (r:RS K O₀ H₀ F ts O H σ ρ T) (hp:H p=none) (hm:Mut (some o)):RS K O₀ H₀ F ts (fun b=>O b∨b=p) (upd H p o) σ ρ T:=by
 have le:Le O H (fun b=>O b∨b=p) (upd H p o):=fun a o n e=>by
  have z:a≠p:=ne_of_none e hp
  exact ⟨fun q=>q.elim n z,by rw [upd_ne z]; exact e⟩
 refine ⟨⟨fun b hb=>.inl (r.hc.own b hb),fun b hb=>?_,r.hc.nd,r.hc.len,fun j a ys e1 e2=>?_⟩,fun j w e=>?_,fun b hb=>.inl (r.sub b hb),r.ots,r.same.trans (.new hp _),r.fresh,r.dist,fun f hf=>(r.frs f hf).trans le,r.len⟩
 ·by_cases z:b=p
  ·subst z; rw [upd_same]; exact hm
  ·rw [upd_ne z]
   exact r.hc.trk b (hb.resolve_right z)
 ·exact (r.hc.tape j a ys e1 e2).mono (fun o' h1=>by rw [upd_ne (ne_of_none h1 hp)]; exact h1) le
 ·obtain ⟨x,h1,h2⟩:=r.re j w e
  refine ⟨x,h1,?_⟩
  cases w with
  | d x=>exact Rep.mono le h2
  | tp k=>exact h2
  | loc ys=>
   obtain ⟨a,e1,h1,h2,h3⟩:=h2
   exact ⟨a,e1,.inl h1,h2,h3.mono (fun o' q=>by rw [upd_ne (ne_of_none q hp)]; exact q) le⟩
theorem RS.take {i:Nat} {p:Addr} {o:HO} {y:PyData} (r:RS K O₀ H₀ F ts O H σ ρ T) (oa:O p) (nt:p∉ts) (h0:H₀ p=none∧¬ O₀ p) (nh:∀ (j:Nat) (ys:PyData),ρ[j]? = some (some (W.loc ys))→σ[j]? = some (some (V.ref p))→False) (hm:Mut (some o)) (rv:Le O H O (upd H p o)→OwnAt K O (upd H p o) p y) :
  RS K O₀ H₀ F ts O (upd H p o) (σ.set i (some (.ref p))) (ρ.set i (some (.loc y))) T:=by
 have le:Le O H O (upd H p o):=fun b o n e=>⟨n,by rw [upd_ne (show b≠p from fun z=>n (by rw [z]; exact oa))]; exact e⟩
 have at_i:∀ {w:W},(ρ.set i (some w))[i]? = some (some w)∨(ρ.set i (some w))[i]? = none:=fun {w}=>by
  by_cases hl:i < ρ.length
  ·exact .inl (List.getElem?_set_self hl)
  ·exact .inr (List.getElem?_eq_none (by simp; omega))
 refine ⟨⟨r.hc.own,fun b hb=>?_,r.hc.nd,r.hc.len,fun j a ys e1 e2=>?_⟩,fun j w e=>?_,r.sub,r.ots,fun b o n e=>?_,fun j ys a e1 e2=>?_,fun j k ys zs v e1 e2 e3 e4=>?_,fun f hf=>(r.frs f hf).trans le,by simp [r.len]⟩
 ·by_cases z:b=p
  ·subst z; rw [upd_same]; exact hm
  ·rw [upd_ne z]; exact r.hc.trk b hb
 ·exact (r.hc.tape j a ys e1 e2).mono (fun o' h1=>by rw [upd_ne (show a≠p from fun z=>nt (by rw [← z]; exact List.mem_of_getElem? e1))]; exact h1) le
 ·by_cases z:i=j
  ·subst z
   have hl:i < ρ.length:=by
    have:=(List.getElem?_eq_some_iff.mp e).1
    simpa using this
   rw [List.getElem?_set_self hl] at e
   cases e
   exact ⟨.ref p,by rw [List.getElem?_set_self (by rw [r.len]; exact hl)],p,rfl,oa,nt,rv le⟩
  ·rw [List.getElem?_set_ne z] at e
   obtain ⟨x,h1,h2⟩:=r.re j w e
   refine ⟨x,by rw [List.getElem?_set_ne z]; exact h1,?_⟩
   cases w with
   | d x=>exact Rep.mono le h2
   | tp k=>exact h2
   | loc zs=>
    obtain ⟨b,eb,k1,k2,k3⟩:=h2
    have n:b≠p:=fun q=>nh j zs e (by rw [h1,eb,q])
    exact ⟨b,eb,k1,k2,k3.mono (fun o' q=>by rw [upd_ne n]; exact q) le⟩
 ·have:=r.same b o n e
  rw [upd_ne (show b≠p from fun z=>by rw [z,h0.1] at e; cases e)]
  exact this
 ·by_cases z:i=j
  ·subst z
   have hl:i < ρ.length:=by
    have:=(List.getElem?_eq_some_iff.mp e1).1
    simpa using this
   rw [List.getElem?_set_self (by rw [r.len]; exact hl)] at e2
   cases e2
   exact h0
  ·rw [List.getElem?_set_ne z] at e1 e2
   exact r.fresh j ys a e1 e2
 ·by_cases z:i=j
  ·by_cases z':i=k
   ·rw [← z,← z']
   ·exfalso
    subst z
    have hl:i < ρ.length:=by
     have:=(List.getElem?_eq_some_iff.mp e1).1
     simpa using this
    rw [List.getElem?_set_self (by rw [r.len]; exact hl)] at e3
    cases e3
    rw [List.getElem?_set_ne z'] at e2 e4
    exact nh k zs e2 e4
  ·by_cases z':i=k
   ·exfalso
    subst z'
    have hl:i < ρ.length:=by
     have:=(List.getElem?_eq_some_iff.mp e2).1
     simpa using this
    rw [List.getElem?_set_self (by rw [r.len]; exact hl)] at e4
    cases e4
    rw [List.getElem?_set_ne z] at e1 e3
    exact nh j ys e1 e3
   ·rw [List.getElem?_set_ne z] at e1 e3
    rw [List.getElem?_set_ne z'] at e2 e4
    exact r.dist j k ys zs v e1 e2 e3 e4
end
section
variable {X:Cx} {pos:Pos}
noncomputable def putKey (ds:List (PyData×PyData)) (s:Str) (x:PyData):List (PyData×PyData):=match ds with
 | []=>[]
 | (.str k,d)::r=>if k=s then (.str k,x)::putKey r s x else (.str k,d)::putKey r s x
 | p::r=>p::putKey r s x
theorem putKey_of {K:PySem.W.Frag} {O:Addr→Prop} {H:Hp} {s:Str} {v:V} {x:PyData} (rx:Rep K O H v x):∀ {kvs:List (Key×V)} {ds:List (PyData×PyData)},RepK K O H kvs ds→RepK K O H (kvs.map fun kv=>if kv.1=(Sum.inr s:Key) then (kv.1,v) else kv) (putKey ds s x)
 | _,_,.nil=>.nil
 | _,_,.cons (k:=.inl i) r t=>by
  rw [List.map_cons]
  rw [if_neg (by intro z; cases z)]
  exact .cons (k:=.inl i) r (putKey_of rx t)
 | _,_,.cons (k:=.inr k) (v:=u) (d:=d) (kvs:=kvs) (ds:=ds) r t=>by
  rw [List.map_cons]
  have ih:=putKey_of (s:=s) rx t
  show RepK K O H _ (if k=s then (.str k,x)::putKey ds s x else (.str k,d)::putKey ds s x)
  by_cases hk:k=s
  ·rw [if_pos hk,if_pos (by rw [hk])]
   exact .cons (k:=.inr k) rx ih
  ·rw [if_neg hk,if_neg (fun z=>hk (Sum.inr.inj z))]
   exact .cons (k:=.inr k) r ih
theorem repK_len {K:PySem.W.Frag} {O:Addr→Prop} {H:Hp}:∀ {kvs:List (Key×V)} {ds:List (PyData×PyData)},RepK K O H kvs ds→kvs.length=ds.length
 | _,_,.nil=>rfl
 | _,_,.cons _ t=>congrArg (· + 1) (repK_len t)
theorem any_of_val {kvs:List (Key×V)} {k:Key} (h:(valV kvs k).isSome=true):(kvs.any fun kv=>decide (kv.1=k))=true:=by
 unfold valV at h
 rw [Option.isSome_map] at h
 rw [List.any_eq_true]
 obtain ⟨p,hp⟩:=Option.isSome_iff_exists.mp h
 exact ⟨p,List.mem_of_find?_eq_some hp,by have:=List.find?_some hp; simpa using this⟩
end
end D
namespace D
open PySem PySem.Spec PyProof.Rows L2
section
variable {X:Cx} {pos:Pos} {e:Expr} {f:FE} {x:Str} {p:Pos} {B:List (Str×Str)}
noncomputable def fUnp (i j:Nat) (f:FE):FS:=fun ρ T=>bnd (f ρ T) fun w T1=>match w with
 | .d (.tuple [x,y])=>some ((.nx,(ρ.set i (some (.d x))).set j (some (.d y))),T1)
 | _=>none
theorem ds_unp {i j:Nat} {y:Str} {k:Nat} {px py tp:Pos} (hN:X.N.Nodup) (he:DE X e f) (hi:X.N[i]? = some x:=by rfl) (hj:X.N[j]? = some y:=by rfl) (hx:Loc X.env.scope x:=by first | exact Or.inl rfl | exact Or.inr rfl) (hy:Loc X.env.scope y:=by first | exact Or.inl rfl | exact Or.inr rfl)
  (hf:X.fn x=true∨X.env.scope.names.lookup x=some .local:=by first | exact .inl rfl | exact .inr rfl | assumption) (hf':X.fn y=true∨X.env.scope.names.lookup y=some .local:=by first | exact .inl rfl | exact .inr rfl | assumption) (hc:X.calm=true:=by rfl)
  (hs:swapsWithSole [.Tuple [.Name x px,.Name y py] k tp] e pos.line X.env=pure false:=by rfl) (hw:swappedStores [.Tuple [.Name x px,.Name y py] k tp] e X.env=pure none:=by rfl)
  (h1:(assignEach [.Tuple [.Name x px,.Name y py] k tp] X.env).map (·.2)=[assign (.Tuple [.Name x px,.Name y py] k tp) X.env]:=by rfl):DS X (.Assign [.Tuple [.Name x px,.Name y py] k tp] e pos) (fUnp i j f):=by
 refine ⟨?_⟩
 refine ps_imp (ps_asg he.pe (pg_tup hc (pgs_cons (pg_name hN hi hx hf) (pgs_cons (pg_name hN hj hy hf') pgs_nil))) hs hw h1) fun D σ H=>?_
 rintro ⟨O₀,H₀,F,ts,O,ρ,T,fl,ρ',T',rs,e,q⟩
 obtain ⟨w,T1,e1,e⟩:=bnd_of e
 refine ⟨O,ts,ρ,T,w,T1,rs.hc,rs.re,e1,fun v H1 s1 hc1 r1=>?_⟩
 split at e
 ·rename_i a b
  cases e
  have rs1:=rs.step s1 hc1
  have r1':Rep X.K O H1 v (.tuple [a,b]):=r1
  cases r1' with
  | tup t r=>
   cases r with
   | cons ra r=>
    cases r with
    | cons rb r=>
     cases r
     exact ⟨_,_,rfl,t.sq,rfl,_,_,rfl,_,_,rfl,rfl,q O _ _ ((rs1.set (w:=.d a) ra fun _ z=>nomatch z).set (w:=.d b) rb fun _ z=>nomatch z)⟩
 ·cases e
end
end D
namespace D
open PySem PySem.Spec PyProof.Rows L2
noncomputable def lookP (f:Str):List PyData→Option PyData
 | .tuple [.str g,y]::r=>if g=f then some y else lookP f r
 | _=>none
noncomputable def objR (C:Addr):List PyData→Option (List PyData)
 | .dict [(.none,.int c)]::ps=>if c=(C:Int) then some ps else none
 | _=>none
noncomputable def objAt (C:Addr) (T:Tp) (n:Nat):Option (List PyData):=(T[n]?).bind (objR C)
section
variable {K:PySem.W.Frag} {O:Addr→Prop} {ts:List Addr} {H H':Hp} {T:Tp} {n:Nat} {a C:Addr} {ps:List PyData}
theorem objR_of {xs:List PyData} (h:objR C xs=some ps):xs=tagO C::ps:=by
 unfold objR at h
 split at h
 ·split at h
  ·rename_i hc
   cases h
   rw [hc]
   rfl
  ·cases h
 ·cases h
theorem objAt_of (h:objAt C T n=some ps):T[n]? = some (tagO C::ps):=by
 unfold objAt at h
 cases hT:T[n]? with
 | none=>rw [hT] at h; cases h
 | some xs=>
  rw [hT] at h
  have h':objR C xs=some ps:=h
  rw [objR_of h']
theorem HC.obj (c:HC K O ts H T) (e:ts[n]? = some a) (h:objAt C T n=some ps):∃ dx fs fd,H a=some (.ins C dx fs)∧ps=fd.map pairF∧RepF K O H fs fd:=by
 rcases c.tape n a _ e (objAt_of h) with ⟨no,_⟩ | ⟨C',dx,fs,fd,h1,h2,h3⟩
 ·cases no
 ·injection h2 with e1 e2
  have e3:(C:Int)=(C':Int):=by
   have z:PyData.dict [(.none,.int (C:Int))]=.dict [(.none,.int (C':Int))]:=e1
   injection z with z
   injection z with z _
   injection z with _ z
   injection z
  have e4:C=C':=by exact Int.ofNat.inj e3
  subst e4
  exact ⟨dx,fs,fd,h1,e2,h3⟩
theorem RepF.look {f:Str} {fs:List (Str×V)} {fd:List (Str×PyData)} (r:RepF K O H fs fd):(lookP f (fd.map pairF)=none∧fs.lookup f=none)∨∃ v y,lookP f (fd.map pairF)=some y∧fs.lookup f=some v∧Rep K O H v y:=by
 induction r with
 | nil=>exact .inl ⟨rfl,rfl⟩
 | cons r _ ih=>
  rename_i g v d vs ds _
  by_cases hg:g=f
  ·subst hg
   refine .inr ⟨v,d,?_,?_,r⟩
   ·show (if g=g then some d else _)=_
    rw [if_pos rfl]
   ·rw [List.lookup_cons,beq_self_eq_true]
  ·have e1:lookP f (((g,d)::ds).map pairF)=lookP f (ds.map pairF):=if_neg hg
   have e2:List.lookup f ((g,v)::vs)=List.lookup f vs:=by
    rw [List.lookup_cons,show (f == g)=false from beq_false_of_ne (Ne.symm hg)]
   rw [e1,e2]
   exact ih
noncomputable def putFD (f:Str) (y:PyData):List (Str×PyData)→List (Str×PyData)
 | []=>[(f,y)]
 | (g,x)::r=>if g=f then (g,y)::r else (g,x)::putFD f y r
theorem RepF.put {f:Str} {v:V} {y:PyData} (ry:Rep K O H v y) {fs:List (Str×V)} {fd:List (Str×PyData)} (r:RepF K O H fs fd):RepF K O H (putF f v fs) (putFD f y fd):=by
 induction r with
 | nil=>exact .cons ry .nil
 | cons r t ih=>
  rename_i g v' d vs ds
  unfold putF putFD
  by_cases hg:g=f
  ·rw [if_pos hg,if_pos hg]
   exact .cons ry t
  ·rw [if_neg hg,if_neg hg]
   exact .cons r ih
end
section
variable {X:Cx} {C:Addr} {o e:Expr} {f m:Str} {pos pos' apos:Pos} {fo fe:FE}
structure Mth (P:Program) (w:World) (K:PySem.W.Frag) (mg:Str→Option Value) (base:Heap) (C:Addr) (m:Str) (ps:List Str) (k:Nat) (sp:Sp):Prop where
 ex:∃ f fd,FnOk P w K mg base CX0 k f fd ps sp∧Binds K fd ps []∧Meth K C m f
theorem Mth.mono {P:Program} {w:World} {K:PySem.W.Frag} {mg:Str→Option Value} {base:Heap} {ps:List Str} {k k':Nat} {sp:Sp} (F:Mth P w K mg base C m ps k sp) (h:k≤k'):Mth P w K mg base C m ps k' sp:=by
 obtain ⟨f,fd,h1,h2⟩:=F.ex
 exact ⟨f,fd,h1.mono h,h2⟩
variable {ps:List Str} {k:Nat} {mm:FnM} {g:FA} {es:List Expr} {pl:Sem Bool}
noncomputable def fNone:FS:=fun _ _=>none
theorem ds_none {st:Stmt}:DS X st fNone:=⟨fun _ _ _ _ _ _ h=>by
 obtain ⟨O₀,H₀,F,ts,O,ρ,T,fl,ρ',T',rs,e,q⟩:=h
 cases e⟩
end
end D
namespace D
open PySem PySem.Spec PyProof.Rows L2
noncomputable def lastR (T:Tp):Option (Tp×List PyData):=match T.getLast? with
 | some xs=>some (T.dropLast,xs)
 | none=>none
theorem lastR_of {T T1:Tp} {ys:List PyData} (h:lastR T=some (T1,ys)):T=T1++[ys]:=by
 unfold lastR at h
 split at h
 ·rename_i xs e
  cases h
  obtain ⟨zs,hl⟩:=List.getLast?_eq_some_iff.mp e
  rw [hl]
  simp
 ·cases h
section
variable {X:Cx} {C f:Addr} {e:Expr} {fe:FE} {fr:FS} {rest:List Stmt} {cn x:Str} {p pos pos' cpos:Pos} {ps:List Str} {k i:Nat} {m:FnM} {fd:FuncData}
end
end D
namespace L2
open PySem PySem.Spec PyProof.Rows
section
variable {X:Cx}
end
end L2
namespace D
open PySem PySem.Spec PyProof.Rows L2
section
variable {X:Cx} {pos:Pos}
structure Ini (P:Program) (w:World) (K:PySem.W.Frag) (mg:Str→Option Value) (base:Heap) (C:Addr) (ps:List Str) (k:Nat) (sp:Sp):Prop where
 ex:∃ f fd,FnOk P w K mg base CX0 k f fd ps sp∧L2.Binds K fd ps []∧Mk K C f
structure DfM (K:PySem.W.Frag) (C:Addr) (name qual:Str) (st:Stmt):Prop where
 ex:∃ (f:Addr) (oc:Value) (od an:Option Addr) (sl:Array (Option Value)) (kV dc pm cd ct:Value),PySem.W.findIn K (.ref C) name=some (some (.ref f)) ∧
  K.lookup f=some ⟨oc,od,.func (PySem.W.fnOf name qual (defArgs st) (defBody st) (defScope st) .none kV dc pm an cd ct),sl⟩∧PySem.W.codeIn K cd qual=true∧PySem.W.keepIn K (.ref f)=true∧PySem.W.isFn K (.ref f)=true
theorem dfm_mk {K:PySem.W.Frag} {C:Addr} {name qual:Str} {st:Stmt} {f:Addr} {oc:Value} {od an:Option Addr} {sl:Array (Option Value)} {kV dc pm cd ct:Value} (a:PySem.W.findIn K (.ref C) name=some (some (.ref f)))
  (l:K.lookup f=some ⟨oc,od,.func (PySem.W.fnOf name qual (defArgs st) (defBody st) (defScope st) .none kV dc pm an cd ct),sl⟩) (c:PySem.W.codeIn K cd qual=true) (k:PySem.W.keepIn K (.ref f)=true) (n:PySem.W.isFn K (.ref f)=true):DfM K C name qual st:=
 ⟨f,oc,od,an,sl,kV,dc,pm,cd,ct,a,l,c,k,n⟩
end
end D
namespace D
open PySem PySem.Spec PyProof.Rows L2
section
variable {X:Cx} {pos:Pos}
theorem vals_keys {P:Program} {w:World}:∀ {kvs:List (Key×V)} {vs:List (Key×Value)} {us:List Value},KV kvs vs→us.length=vs.length→(∀ (j:Nat) (v:Value),us[j]? = some v→∃ k x,vs[j]? = some (k,x)∧(mixKind P w).is k v=true)→Vals (kvs.map fun p=>kV p.1) us
 | [],[],[],_,_,_=>.nil
 | _::_,[],_,r,_,_=>by cases r
 | [],_::_,_,r,_,_=>by cases r
 | _,[],_::_,_,h,_=>by simp at h
 | _,_::_,[],_,h,_=>by simp at h
 | (k,v)::kvs,(k',x)::vs,u::us,r,h,f=>by
  cases r with
  | cons r1 r2=>
   refine .cons ?_ (vals_keys (P:=P) (w:=w) r2 (by simpa using h) fun j v e=>?_)
   ·obtain ⟨k2,x2,e2,e3⟩:=f 0 u rfl
    cases e2
    have:k=k':=r1.1
    subst this
    exact keyV e3
   ·obtain ⟨k2,x2,e2,e3⟩:=f (j + 1) v (by simpa using e)
    exact ⟨k2,x2,by simpa using e2,e3⟩
theorem call_list_dct (hcm:X.calm=true):CallR X (.type "list") (fun xs H Q=>∃ a kvs,xs=[V.ref a]∧Rd H a (.dK kvs)∧∀ l,H l=none→Q (.ref l) (upd H l (.lst (kvs.map fun p=>kV p.1)))):=by
 intro pins s σ H xs us Q I r h
 obtain ⟨a,kvs,rfl,ha,q⟩:=h
 obtain ⟨u,rfl,ru⟩:=vals1 r
 cases ru
 obtain ⟨z,y,vs,kv,dd⟩:=dk_rd I.hok ha
 obtain ⟨ep,dd⟩:=dd.dictAt
 have hl:=kv.length
 refine PySem.W.kdl_call (PySem.W.kdl_dict (prog:=X.prog) (w:=X.w) (knd:=mixKind X.prog X.w) (kvs:=vs) (ep:=ep) y) (I.ok.hd hcm) dd (by omega) fun h' tk acc c k1 k2 k3=>?_
 have hv:Vals (kvs.map fun p=>kV p.1) acc.toList:=vals_keys (P:=X.prog) (w:=X.w) kv (by rw [Array.length_toList]; exact k3.1) fun j v e=>k3.2 j v (by simpa using e)
 have hn:H s.heap.objs.size=none:=I.hok.fresh (Nat.le_refl _)
 exact ⟨.ref s.heap.objs.size,_,I.laid (t':=tk) (o:=.lst (kvs.map fun p=>kV p.1)) k1 (Nat.le_refl _) ⟨by simp; omega,acc.toList,c,hv,by simpa using k2⟩,rfl,q _ hn⟩
noncomputable def keysL (ds:List (PyData×PyData)):List PyData:=ds.map (·.1)
theorem reps_keys {K:PySem.W.Frag} {O:Addr→Prop} {H:Hp} {O':Addr→Prop} {H':Hp}:∀ {kvs:List (Key×V)} {ds:List (PyData×PyData)},RepK K O H kvs ds→Reps K O' H' (kvs.map fun p=>kV p.1) (keysL ds)
 | _,_,.nil=>.nil
 | _,_,.cons (k:=k) _ t=>.cons (rep_key k) (reps_keys t)
noncomputable def listK:List PyData→Option PyData
 | [.list xs]=>some (.list xs)
 | [.tuple xs]=>some (.list xs)
 | [.dict ds]=>some (.list (keysL ds))
 | _=>none
theorem c_listK (hcm:X.calm=true:=by rfl):CallD X (.type "list") listK:=⟨_,call_list_of.or (call_list_dct hcm),fun O ts H T vs xs d Q hc h e q=>by
 unfold listK at e
 split at e
 ·cases e
  obtain ⟨v,rfl,g⟩:=vws1 h
  obtain ⟨a,vs,rfl,t,r⟩:=g.lst
  exact .inl ⟨a,vs,rfl,.inl t,fun p hp=>q _ _ (.new hp _) (hc.new hp _) (hc.newL hp r)⟩
 ·cases e
  obtain ⟨v,rfl,g⟩:=vws1 h
  obtain ⟨a,vs,rfl,t,r⟩:=g.tup
  exact .inl ⟨a,vs,rfl,.inr t.sq,fun p hp=>q _ _ (.new hp _) (hc.new hp _) (hc.newL hp r)⟩
 ·cases e
  obtain ⟨v,rfl,g⟩:=vws1 h
  obtain ⟨a,kvs,rfl,t,r⟩:=g.dct
  exact .inr ⟨a,kvs,rfl,t,fun p hp=>q _ _ (.new hp _) (hc.new hp _) (hc.newL hp (reps_keys r))⟩
 ·cases e⟩
end
theorem lt_tri:∀ a b:List Nat,ltCps a b=false→ltCps b a=false→a=b
 | [],[],_,_=>rfl
 | [],_::_,h,_=>by simp [ltCps] at h
 | _::_,[],_,h=>by simp [ltCps] at h
 | x::r,y::t,h,g=>by
  simp [ltCps] at h g
  have:x=y:=by omega
  subst this
  rw [lt_tri r t (by simpa using h) (by simpa using g)]
theorem lt_asym:∀ a b:List Nat,ltCps a b=true→ltCps b a=false
 | [],[],h=>by simp [ltCps] at h
 | [],_::_,_=>rfl
 | _::_,[],h=>by simp [ltCps] at h
 | x::r,y::t,h=>by
  simp [ltCps] at h ⊢
  rcases h with h | h
  ·omega
  ·refine ⟨by omega,fun e=>?_⟩
   exact lt_asym r t h.2
theorem lt_trans':∀ a b c:List Nat,ltCps b a=false→ltCps c b=false→ltCps c a=false
 | a,[],c,h,g=>by
  cases a with
  | nil=>exact g
  | cons x r=>simp [ltCps] at h
 | [],b,c,h,g=>by cases c <;> rfl
 | x::r,y::t,[],h,g=>by simp [ltCps] at g
 | x::r,y::t,z::u,h,g=>by
  simp [ltCps] at h g ⊢
  refine ⟨by omega,fun e=>?_⟩
  subst e
  by_cases q:z=y
  ·subst q
   exact lt_trans' r t u (h.2 rfl) (g.2 rfl)
  ·exfalso
   omega
noncomputable def leS (a b:Str):Bool:=!ltCps b.cps.toList a.cps.toList
theorem leS_tot (a b:Str):leS a b=true∨leS b a=true:=by
 unfold leS
 cases h:ltCps b.cps.toList a.cps.toList with
 | false=>exact .inl rfl
 | true=>
  refine .inr ?_
  cases g:ltCps a.cps.toList b.cps.toList with
  | false=>rfl
  | true=>
   exfalso
   have:=lt_asym _ _ h
   rw [g] at this
   cases this
theorem leS_anti {a b:Str} (h:leS a b=true) (g:leS b a=true):a=b:=by
 unfold leS at h g
 have:=lt_tri a.cps.toList b.cps.toList (by simpa using g) (by simpa using h)
 cases a; cases b
 simp at this
 rw [this]
theorem leS_trans {a b c:Str} (h:leS a b=true) (g:leS b c=true):leS a c=true:=by
 unfold leS at *
 have:=lt_trans' a.cps.toList b.cps.toList c.cps.toList (by simpa using h) (by simpa using g)
 rw [this]; rfl
noncomputable def insS (x:Str):List Str→List Str
 | []=>[x]
 | y::r=>if leS x y=true then x::y::r else y::insS x r
noncomputable def sortL:List Str→List Str
 | []=>[]
 | x::r=>insS x (sortL r)
theorem insS_perm (x:Str):∀ l:List Str,(insS x l).Perm (x::l)
 | []=>.refl _
 | y::r=>by
  unfold insS
  split
  ·exact .refl _
  ·exact ((insS_perm x r).cons y).trans (.swap _ _ _)
theorem sortL_perm:∀ l:List Str,(sortL l).Perm l
 | []=>.refl _
 | x::r=>(insS_perm x _).trans ((sortL_perm r).cons x)
theorem insS_sorted (x:Str):∀ l:List Str,l.Pairwise (fun a b=>leS a b=true)→(insS x l).Pairwise (fun a b=>leS a b=true)
 | [],_=>by simp [insS]
 | y::r,h=>by
  obtain ⟨h1,h2⟩:=List.pairwise_cons.mp h
  unfold insS
  split
  ·rename_i hx
   refine List.pairwise_cons.mpr ⟨fun z hz=>?_,h⟩
   rcases List.mem_cons.mp hz with e | e
   ·rw [e]; exact hx
   ·exact leS_trans hx (h1 z e)
  ·rename_i hx
   refine List.pairwise_cons.mpr ⟨fun z hz=>?_,insS_sorted x r h2⟩
   rcases List.mem_cons.mp ((insS_perm x r).mem_iff.mp hz) with e | e
   ·rw [e]; exact (leS_tot x y).resolve_left hx
   ·exact h1 z e
theorem sortL_sorted:∀ l:List Str,(sortL l).Pairwise (fun a b=>leS a b=true)
 | []=>.nil
 | x::r=>insS_sorted x _ (sortL_sorted r)
theorem sorted_uniq:∀ {a b:List Str},a.Perm b→a.Pairwise (fun a b=>leS a b=true)→b.Pairwise (fun a b=>leS a b=true)→a=b
 | [],b,p,_,_=>(List.nil_perm.mp p).symm
 | x::r,[],p,_,_=>absurd (List.perm_nil.mp p) (by simp)
 | x::r,y::t,p,h,g=>by
  obtain ⟨h1,h2⟩:=List.pairwise_cons.mp h
  obtain ⟨g1,g2⟩:=List.pairwise_cons.mp g
  have e:x=y:=by
   rcases List.mem_cons.mp (p.mem_iff.mp List.mem_cons_self) with e | e
   ·exact e
   ·rcases List.mem_cons.mp (p.mem_iff.mpr List.mem_cons_self) with e' | e'
    ·exact e'.symm
    ·exact leS_anti (h1 y e') (g1 x e)
  subst e
  rw [sorted_uniq (List.perm_cons _ |>.mp p) h2 g2]
theorem rising_pw:∀ (x:Str) (l:List Str),risingS x l=true→(x::l).Pairwise (fun a b=>leS a b=true)
 | x,[],_=>by simp
 | x,y::r,h=>by
  have h':leS x y=true∧risingS y r=true:=by
   unfold leS
   simpa [risingS] using h
  have ih:=rising_pw y r h'.2
  refine List.pairwise_cons.mpr ⟨fun z hz=>?_,ih⟩
  rcases List.mem_cons.mp hz with e | e
  ·rw [e]; exact h'.1
  ·exact leS_trans h'.1 ((List.pairwise_cons.mp ih).1 z e)
theorem sortedS_pw {l:List Str} (h:sortedS l=true):l.Pairwise (fun a b=>leS a b=true):=by
 cases l with
 | nil=>exact .nil
 | cons x r=>exact rising_pw x r h
theorem strs_are:∀ {ss:List Str} {us:List Value},Vals (ss.map V.str) us→StrsAre us ss
 | [],_,h=>by cases h; exact .nil
 | x::r,_,h=>by
  cases h with
  | cons h1 h2=>
   obtain ⟨t,rfl⟩:=h1
   exact .cons x t (strs_are h2)
theorem strs_vals':∀ {us:List Value} {ss:List Str},StrsAre us ss→Vals (ss.map V.str) us
 | _,_,.nil=>.nil
 | _,_,.cons y t r=>.cons ⟨t,rfl⟩ (strs_vals' r)
section
variable {X:Cx} {pos:Pos}
theorem call_sorted:CallR X (.builtin "sorted") (fun xs H Q=>∃ p ss,xs=[V.ref p]∧SqL X.K H p (ss.map V.str)∧ss.length < 64∧∀ l,H l=none→Q (.ref l) (upd H l (.lst ((sortL ss).map V.str)))):=by
 intro pins s σ H xs us Q I r h
 obtain ⟨p,ss,rfl,hq,hlen,q⟩:=h
 obtain ⟨u,rfl,ru⟩:=vals1 r
 cases ru
 obtain ⟨its,rv,pl,hz⟩:=I.list hq
 have hl:its.length=ss.length:=by have:=rv.length; simpa using this.symm
 refine sorted_strs pl.isList (strs_are rv) (by omega) fun out ss' h1 h2 h3=>?_
 have e:ss'=sortL ss:=sorted_uniq (h2.trans (sortL_perm ss).symm) (sortedS_pw h3) (sortL_sorted ss)
 subst e
 obtain ⟨ep,he⟩:=sortedAll_at s.heap its out
 have k:∀ b o,s.heap.get? b=some o→(sortedAll s.heap its out).get? b=some o:=fun b o z=>sortedAll_old z
 have hn:H (s.heap.objs.size + 1)=none:=I.hok.fresh (Nat.le_succ _)
 have hlen2:(sortL ss).length=ss.length:=(sortL_perm ss).length_eq
 exact ⟨.ref (s.heap.objs.size + 1),_,I.laid (t':=s.toks) (o:=.lst ((sortL ss).map V.str)) k (Nat.le_succ _) ⟨by simp; exact Nat.le_of_lt (Nat.lt_of_lt_of_le (by omega:(sortL ss).length < 64) (by decide)),out.toList,ep,strs_vals' h1,by simpa [seqObj] using he⟩,rfl,q _ hn⟩
noncomputable def sortO (o:Option (List Str)):Option PyData:=match o with
 | some ss=>if ss.length < 64 then some (.list ((sortL ss).map .str)) else none
 | none=>none
noncomputable def sortD:List PyData→Option PyData
 | [.list xs]=>sortO (strsD xs)
 | _=>none
theorem c_sorted:CallD X (.builtin "sorted") sortD:=⟨_,call_sorted,fun O ts H T vs xs d Q hc h e q=>by
 unfold sortD at e
 split at e
 ·rename_i ys
  unfold sortO at e
  split at e
  ·rename_i ss hs
   split at e
   ·rename_i hl
    cases e
    obtain ⟨v,rfl,g⟩:=vws1 h
    obtain ⟨a,vs,rfl,t,r⟩:=g.lst
    have:=strs_of r hs
    subst this
    exact ⟨a,ss,rfl,t,hl,fun p hp=>q _ _ (.new hp _) (hc.new hp _) (hc.newL hp (reps_strs _))⟩
   ·cases e
  ·cases e
 ·cases e⟩
end
end D
namespace D
open PySem PySem.Spec PyProof.Rows L2
theorem hash_none {prog:Program} {w:World} {A:Around} {E:Value→Shared→Prop} {s:Shared} {Q:Int→Shared→Prop} (h:Q (PySem.reduceHash 4238894112) { s with toks:=s.toks + 1 }):wpAny (model prog w) A (pyHash .none) Q E s:=by
 show wpAny (model prog w) A (pyHashByItsType .none) Q E s
 refine PySem.W.pyHash_slot (T:="NoneType") (by first | rfl | trivial | exact ⟨_,rfl⟩ | simp [Shared.TypeIs]) PySem.F.slot_NoneType_hash PySem.F.entry_NoneType_hash (PySem.F.args_NoneType_hash_1 _) rfl (.inl rfl) ?_
 unfold PySem.Builtin.«NoneType.__hash__»
 refine wpAny_bind ?_
 unfold slotArgs
 simp only []
 rw [if_neg (by decide),if_neg (by decide)]
 refine wpAny_pure ?_
 unfold retInt
 refine wpAny_bind ?_
 first
  | exact wpAny_mkInt (wpAny_pure ⟨_,_,rfl,h⟩)
  | exact wpAny_mkInt (wpAny_ret ⟨_,_,rfl,h⟩)
noncomputable def okIs:Option Key→Value→Bool
 | none,.none=>true
 | none,_=>false
 | some k,v=>keyIs k v
noncomputable def okH (w:World):Option Key→Int
 | none=>PySem.reduceHash 4238894112
 | some k=>keyH w k
theorem okIs_shape {k:Option Key} {v:Value} (h:okIs k v=true):(k=none∧v=.none)∨(∃ i t,k=some (.inl i)∧v=.int i t)∨∃ x t,k=some (.inr x)∧v=.str x t:=by
 cases k with
 | none=>cases v <;> first | exact .inl ⟨rfl,rfl⟩ | cases h
 | some k=>
  rcases keyIs_shape (show keyIs k v=true from h) with ⟨i,t,rfl,rfl⟩ | ⟨x,t,rfl,rfl⟩
  ·exact .inr (.inl ⟨i,t,rfl,rfl⟩)
  ·exact .inr (.inr ⟨x,t,rfl,rfl⟩)
theorem dec_none (k:Key):decide ((none:Option Key)=some k)=false:=decide_eq_false (fun q=>nomatch q)
theorem dec_none' (k:Key):decide (some k=(none:Option Key))=false:=decide_eq_false (fun q=>nomatch q)
theorem dec_some (a b:Key):decide (some a=some b)=decide (a=b):=by
 by_cases h:a=b
 ·subst h; simp
 ·rw [decide_eq_false h,decide_eq_false (fun q=>h (Option.some.inj q))]
noncomputable def optKind (prog:Program) (w:World):PySem.KeyKind prog w (Option Key) where
 is:=okIs
 hash:=okH w
 inj:=fun v a b ha hb=>by
  rcases okIs_shape ha with ⟨rfl,rfl⟩ | ⟨i,t,rfl,rfl⟩ | ⟨x,t,rfl,rfl⟩
  ·rcases okIs_shape hb with ⟨rfl,_⟩ | ⟨j,u,rfl,e⟩ | ⟨y,u,rfl,e⟩
   ·rfl
   ·exact nomatch e
   ·exact nomatch e
  ·rcases okIs_shape hb with ⟨rfl,e⟩ | ⟨j,u,rfl,e⟩ | ⟨y,u,rfl,e⟩
   ·exact nomatch e
   ·injection e with e1 _; rw [e1]
   ·exact nomatch e
  ·rcases okIs_shape hb with ⟨rfl,e⟩ | ⟨j,u,rfl,e⟩ | ⟨y,u,rfl,e⟩
   ·exact nomatch e
   ·exact nomatch e
   ·injection e with e1 _; rw [e1]
 byValue:=fun k v h=>by
  rcases okIs_shape h with ⟨rfl,rfl⟩ | ⟨i,t,rfl,rfl⟩ | ⟨x,t,rfl,rfl⟩ <;> rfl
 pyHash:=fun hv h=>by
  rcases okIs_shape hv with ⟨rfl,rfl⟩ | ⟨i,t,rfl,rfl⟩ | ⟨x,t,rfl,rfl⟩
  ·exact hash_none h
  ·exact wpAny_pyHash_int h
  ·exact wpAny_pyHash_str h
 eqBool:=fun hu hv h=>by
  rcases okIs_shape hu with ⟨rfl,rfl⟩ | ⟨i,t,rfl,rfl⟩ | ⟨x,t,rfl,rfl⟩
  ·rcases okIs_shape hv with ⟨rfl,rfl⟩ | ⟨j,u,rfl,rfl⟩ | ⟨y,u,rfl,rfl⟩
   ·rw [show decide ((none:Option Key)=none)=true by simp] at h; exact SeqAt.EqAt.same .none _ _ _ _ h
   ·rw [dec_none] at h; exact SeqAt.EqAt.none_int j u _ _ _ _ h
   ·rw [dec_none] at h; exact SeqAt.EqAt.none_str y u _ _ _ _ h
  ·rcases okIs_shape hv with ⟨rfl,rfl⟩ | ⟨j,u,rfl,rfl⟩ | ⟨y,u,rfl,rfl⟩
   ·rw [dec_none'] at h; exact SeqAt.EqAt.int_none i t _ _ _ _ h
   ·rw [dec_some,key_ll] at h; exact wpAny_eqBool_int h
   ·rw [dec_some,key_lr] at h; exact SeqAt.EqAt.int_str i t y u _ _ _ _ h
  ·rcases okIs_shape hv with ⟨rfl,rfl⟩ | ⟨j,u,rfl,rfl⟩ | ⟨y,u,rfl,rfl⟩
   ·rw [dec_none'] at h; exact SeqAt.EqAt.str_none x t _ _ _ _ h
   ·rw [dec_some,key_rl] at h; exact SeqAt.EqAt.str_int x t j u _ _ _ _ h
   ·rw [dec_some,key_rr] at h; exact wpAny_eqBool_str h
 «strs»:=fun k x t v h=>by
  rcases okIs_shape h with ⟨rfl,e⟩ | ⟨i,u,rfl,e⟩ | ⟨y,u,rfl,e⟩
  ·exact nomatch e
  ·exact nomatch e
  ·injection e with e1 _
   subst e1
   cases v <;> rfl
theorem pairs_opt {P:Program} {w:World}:∀ {es:List DictEntry} {vs:List (Key×Value)},Pairs (mixKind P w) es vs→Pairs (optKind P w) es (vs.map fun p=>(some p.1,p.2))
 | _,_,.nil=>.nil
 | _,_,.cons h1 h2 t=>.cons h1 h2 (pairs_opt t)
theorem dict_opt {P:Program} {w:World} {h:Heap} {a:Addr} {vs:List (Key×Value)} (d:h.DictOf (mixKind P w) a vs):h.DictOf (optKind P w) a (vs.map fun p=>(some p.1,p.2)):=by
 obtain ⟨o,es,ep,e1,e2,e3,e4,e5,e6⟩:=d
 refine ⟨o,es,ep,e1,e2,e3,fun e he=>?_,pairs_opt e5,?_⟩
 ·obtain ⟨k,k1,k2⟩:=e4 e he
  exact ⟨some k,k1,k2⟩
 ·rw [List.map_map]
  show (vs.map fun p=>some p.1).Nodup
  have:(vs.map fun p=>some p.1)=(vs.map (·.1)).map some:=by rw [List.map_map]; rfl
  rw [this]
  exact List.pairwise_map.mpr (List.Pairwise.imp (fun h q=>h (Option.some.inj q)) e6)
theorem val_none:∀ (vs:List (Key×Value)),valueAt (vs.map fun p=>((some p.1:Option Key),p.2)) none=none
 | []=>rfl
 | p::r=>by
  have:=val_none r
  unfold valueAt at this ⊢
  rw [List.map_cons,List.find?_cons]
  simpa using this
section
variable {X:Cx}
theorem op_none_in:OpR X (compareOp .In) (fun x y H Q=>∃ a kvs,x=.non∧y=.ref a∧Rd H a (.dK kvs)∧Q (.bl false) H):=by
 intro pins s σ H x y v u Q I rx ry h
 obtain ⟨a,kvs,rfl,rfl,e,q⟩:=h
 cases (show v=Value.none from rx)
 cases (show u=Value.ref a from ry)
 obtain ⟨z,hd,vs,rel,dd⟩:=dk_rd I.hok e
 refine wpAny_in_of (knd:=optKind X.prog X.w) (k:=none) rfl hd (dict_opt dd).mapOf ?_
 rw [val_none]
 exact ⟨.bl false,H,I.tok _,rfl,q⟩
theorem op_din {k:Nat} (hr:Room k X.A):OpR X (compareOp .In) (fun x y H Q=>∃ a kvs s,x=.str s∧y=.ref a∧Rd H a (.dK kvs)∧Q (.bl (valV kvs (Sum.inr s:Key)).isSome) H):=by
 intro pins s σ H x y v u Q I rx ry h
 obtain ⟨a,kvs,z,rfl,rfl,e,q⟩:=h
 cases (show u=Value.ref a from ry)
 exact d_in (hu_of hr) I (DGet.rd (k:=Sum.inr z) e) (show RelV (kV (Sum.inr z)) v from rx) fun s' I'=>⟨.bl _,H,I',rfl,q⟩
theorem op_dnotin {k:Nat} (hr:Room k X.A):OpR X (compareOp .NotIn) (fun x y H Q=>∃ a kvs s,x=.str s∧y=.ref a∧Rd H a (.dK kvs)∧Q (.bl (!(valV kvs (Sum.inr s:Key)).isSome)) H):=by
 intro pins s σ H x y v u Q I rx ry h
 obtain ⟨a,kvs,z,rfl,rfl,e,q⟩:=h
 cases (show u=Value.ref a from ry)
 exact d_notIn (hu_of hr) I (DGet.rd (k:=Sum.inr z) e) (show RelV (kV (Sum.inr z)) v from rx) fun s' I'=>⟨.bl _,H,I',rfl,q⟩
theorem ix_dct {k:Nat} (hr:Room k X.A):IxR X (fun x y H Q=>∃ a kvs s v,x=.ref a∧y=.str s∧Rd H a (.dK kvs)∧valV kvs (Sum.inr s:Key)=some v∧Q v H):=by
 intro value slice pins s σ H x y v u Q I rx ry h hs
 obtain ⟨a,kvs,z,v0,rfl,rfl,e,l,q⟩:=h
 cases (show v=Value.ref a from rx)
 have g:DGet H a (kV (Sum.inr z)) (some v0):=by rw [← l]; exact DGet.rd e
 unfold subscriptTail
 refine wpAny_bind ?_
 rw [getitemInPython_of_ne (dict_typeIs I g).not_modules]
 refine wpAny_bind (wpAny_specialOf (dict_typeIs I g) PySem.F.slot_dict_getitem.lookup ?_)
 have fin:wpAny (model X.prog X.w) X.A (subscripted slice false (Value.ref a) u) (fun r s₃=>wpAny (model X.prog X.w) X.A (letTemporaryGo value (Value.ref a) r >>= fun _=>pure r) (EP X pins σ Q) X.xe s₃) X.xe s:=by
  rw [hs]
  exact wpAny_operating (d_getItem (hu_of hr) I g (show RelV (kV (Sum.inr z)) u from ry) fun w' s' I' rw'=>wpAny_bind (wpAny_letTemporaryGo (wpAny_pure ⟨v0,H,I',rw',q⟩)))
 first
  | exact wpAny_pure (wpAny_bind fin)
  | exact wpAny_bind (wpAny_pure (wpAny_bind fin))
  | exact wpAny_bind fin
noncomputable def inK (s:PyData) (ds:List (PyData×PyData)):Option Bool:=match s with
 | .str s=>some (keyAt ds s).isSome
 | .none=>some false
 | _=>none
noncomputable def inB (x y:PyData):Option Bool:=match y with
 | .dict ds=>inK x ds
 | y=>inS x y
noncomputable def inA (x y:PyData):Option PyData:=(inB x y).map .bool
noncomputable def notInB (x y:PyData):Option PyData:=match x,y with
 | .str s,.dict ds=>some (.bool (!(keyAt ds s).isSome))
 | _,.dict _=>none
 | x,y=>(inS x y).map fun b=>.bool (!b)
theorem o_inA {k:Nat} (hr:Room k X.A):OpD X (compareOp .In) inA:=⟨_,(op_in_str.or op_in_seq).or ((op_din hr).or op_none_in),fun O ts H T v1 v2 x y d Q hc h1 h2 e q=>by
 unfold inA at e
 by_cases hd:∃ ds,y=.dict ds
 ·obtain ⟨ds,rfl⟩:=hd
  obtain ⟨a,kvs,rfl,t,r⟩:=h2.dct
  obtain ⟨b,hb,rfl⟩:=Option.map_eq_some_iff.mp e
  have hb':inK x ds=some b:=hb
  unfold inK at hb'
  split at hb'
  ·rename_i s
   cases hb'
   cases h1.str
   refine .inr (.inl ⟨a,kvs,s,rfl,rfl,t,?_⟩)
   have e:(valV kvs (Sum.inr s:Key)).isSome=(keyAt ds s).isSome:=by
    rcases keyAt_of (s:=s) r with ⟨z1,z2⟩ | ⟨v,d,z1,z2,_⟩ <;> rw [z1,z2] <;> rfl
   rw [e]
   exact q _ H (.refl _ _) hc (.bl _)
  ·cases hb'
   cases h1.non
   exact .inr (.inr ⟨a,kvs,rfl,rfl,t,q _ H (.refl _ _) hc (.bl _)⟩)
  ·cases hb'
 ·have e':(inS x y).map .bool=some d:=by
   cases y with
   | dict ds=>exact absurd ⟨ds,rfl⟩ hd
   | _=>exact e
  exact .inl (snd_in false O ts H T v1 v2 x y d Q hc h1 h2 e' q)⟩
theorem o_notinA {k:Nat} (hr:Room k X.A):OpD X (compareOp .NotIn) notInB:=⟨_,(op_notin_str.or op_notIn_seq).or (op_dnotin hr),fun O ts H T v1 v2 x y d Q hc h1 h2 e q=>by
 by_cases hd:∃ ds,y=.dict ds
 ·obtain ⟨ds,rfl⟩:=hd
  obtain ⟨a,kvs,rfl,t,r⟩:=h2.dct
  cases x with
  | str s=>
   cases e
   cases h1.str
   refine .inr ⟨a,kvs,s,rfl,rfl,t,?_⟩
   have e:(valV kvs (Sum.inr s:Key)).isSome=(keyAt ds s).isSome:=by
    rcases keyAt_of (s:=s) r with ⟨z1,z2⟩ | ⟨v,d,z1,z2,_⟩ <;> rw [z1,z2] <;> rfl
   rw [e]
   exact q _ H (.refl _ _) hc (.bl _)
  | _=>cases e
 ·have e':((inS x y).map fun b=>.bool (!b))=some d:=by
   cases y with
   | dict ds=>exact absurd ⟨ds,rfl⟩ hd
   | _=>cases x <;> exact e
  exact .inl (snd_in true O ts H T v1 v2 x y d Q hc h1 h2 e' q)⟩
noncomputable def ixA (x y:PyData):Option PyData:=match x,y with
 | .dict ds,.str s=>keyAt ds s
 | .dict _,_=>none
 | x,y=>ixD x y
theorem x_any {k:Nat} (hr:Room k X.A):IxD X ixA:=by
 obtain ⟨r0,h0,s0⟩:=x_seq (X:=X)
 refine ⟨_,h0.or (ix_dct hr),fun O ts H T v1 v2 x y d Q hc h1 h2 e q=>?_⟩
 by_cases hd:∃ ds,x=.dict ds
 ·obtain ⟨ds,rfl⟩:=hd
  obtain ⟨a,kvs,rfl,t,r⟩:=h1.dct
  cases y with
  | str s=>
   have e':keyAt ds s=some d:=e
   cases h2.str
   rcases keyAt_of (s:=s) r with ⟨z1,z2⟩ | ⟨v,d',z1,z2,rv⟩
   ·rw [z1] at e'; cases e'
   ·rw [z1] at e'
    cases e'
    exact .inr ⟨a,kvs,s,v,rfl,rfl,t,z2,q _ H (.refl _ _) hc rv⟩
  | _=>cases e
 ·refine .inl (s0 O ts H T v1 v2 x y d Q hc h1 h2 ?_ q)
  cases x with
  | dict ds=>exact absurd ⟨ds,rfl⟩ hd
  | _=>exact e
end
end D
namespace D
open PySem PySem.Spec PyProof.Rows L2
section
variable {X:Cx} {pins:List (Addr×Obj)} {σ:L2.St} {H H2:Hp} {s s2:Shared}
theorem inv_thaw (I:Inv X pins σ H s) {a:Addr} {kvs:List (Key×V)} {o:Obj} (e:H a=some (.dK kvs)) (I2:Inv X pins σ H2 s2) (e2:H2 a=some (.frz o (.dK kvs))):Inv X pins σ (upd H2 a (.dK kvs)) s2:=by
 have U:∀ {b:Addr} {u:HO},H2 b=some u→(∀ o ks,u≠.frz o ks)→upd H2 a (.dK kvs) b=some u:=fun {b u} q n=>by
  rw [upd_ne (fun z=>by subst z; rw [e2] at q; cases q; exact n _ _ rfl)]
  exact q
 have N:∀ {b:Addr},H2 b=none→upd H2 a (.dK kvs) b=none:=fun {b} q=>by
  rw [upd_ne (fun z=>by subst z; rw [e2] at q; cases q)]
  exact q
 have hok:HOk X.prog X.w (upd H2 a (.dK kvs)) s2.heap:=fun b u q=>by
  by_cases hb:b=a
  ·subst hb
   rw [upd_same] at q
   cases q
   exact ObjOk.stay (I2.hok b _ e2).2 (fun _ _ _ q=>q) (fun c q=>U q (fun _ _ z=>nomatch z)) fun c xs q=>U q (fun _ _ z=>nomatch z)
  ·rw [upd_ne hb] at q
   exact (I2.hok b u q).stay (fun _ _ _ q=>q) (fun c q=>U q (fun _ _ z=>nomatch z)) fun c xs q=>U q (fun _ _ z=>nomatch z)
 refine ⟨I2.ok,I2.os,I2.bare,⟨I2.base.keep,I2.base.slot,fun b ob q n hx=>N (I2.base.free b ob q n hx),I2.base.there,fun b xs q=>U (I2.base.tups b xs q) (fun _ _ z=>nomatch z),fun b ob u q=>?_,fun b ps q=>?_⟩,I2.loc,I2.cell,N I2.free,fun x c q=>N (I2.freeC x c q),fun p hp=>?_,hok,I2.len⟩
 ·have h1:=I.base.frzs b ob u q
  rw [upd_ne (fun z=>by subst z; rw [e] at h1; cases h1)]
  exact I2.base.frzs b ob u q
 ·obtain ⟨more,h1⟩:=I2.base.tbls b ps q
  exact ⟨more,U h1 (fun _ _ z=>nomatch z)⟩
 ·obtain ⟨k1,k2,k3⟩:=I2.pin p hp
  exact ⟨k1,N k2,k3⟩
end
inductive Ln (P:Hp→VK→Prop):Hp→VK→Prop where
 | done {H:Hp} {Q:VK}:P H Q→Ln P H Q
 | frz {H:Hp} {Q:VK} {a:Addr} {kvs:List (Key×V)}:H a=some (.dK kvs)→(∀ o,Ln P (upd H a (.frz o (.dK kvs))) (fun v H2=>H2 a=some (.frz o (.dK kvs))∧Q v (upd H2 a (.dK kvs))))→Ln P H Q
section
variable {K:PySem.W.Frag}
theorem TupAt.keep {H H':Hp} (h:∀ b o,H b=some o→(∀ ks,o≠.dK ks)→(∀ ob ks,o≠.frz ob (.dK ks))→H' b=some o) {a:Addr} {vs:List V} (t:TupAt K (fun _=>False) H a vs):TupAt K (fun _=>False) H' a vs:=by
 rcases t with ⟨n,t | ⟨o,t⟩⟩ | t
 ·exact .inl ⟨n,.inl (h _ _ t (fun _ z=>nomatch z) (fun _ _ z=>nomatch z))⟩
 ·exact .inl ⟨n,.inr ⟨o,h _ _ t (fun _ z=>nomatch z) (fun _ _ z=>nomatch z)⟩⟩
 ·exact .inr t
mutual
theorem Rep.keep {H H':Hp} (h:∀ b o,H b=some o→(∀ ks,o≠.dK ks)→(∀ ob ks,o≠.frz ob (.dK ks))→H' b=some o):∀ {v:V} {d:PyData},Rep K (fun _=>False) H v d→tupB d=true→Rep K (fun _=>False) H' v d
 | _,_,.non,_=>.non
 | _,_,.bl b,_=>.bl b
 | _,_,.int i,_=>.int i
 | _,_,.str x,_=>.str x
 | _,_,.tup t r,e=>.tup (t.keep h) (Reps.keep h r (by simpa [tupB] using e))
 | _,_,.lst t r,e=>by simp [tupB] at e
 | _,_,.dct n t r,e=>by simp [tupB] at e
theorem Reps.keep {H H':Hp} (h:∀ b o,H b=some o→(∀ ks,o≠.dK ks)→(∀ ob ks,o≠.frz ob (.dK ks))→H' b=some o):∀ {vs:List V} {ds:List PyData},Reps K (fun _=>False) H vs ds→tupBs ds=true→Reps K (fun _=>False) H' vs ds
 | _,_,.nil,_=>.nil
 | _,_,.cons (d:=d) (ds:=ds) r t,e=>by
  have e':(tupB d && tupBs ds)=true:=by simpa [tupBs] using e
  rw [Bool.and_eq_true] at e'
  exact .cons (Rep.keep h r e'.1) (Reps.keep h t e'.2)
end
end
noncomputable def lendW:W→Option W
 | .d x=>some (.d x)
 | .loc x=>some (.d x)
 | .tp _=>none
noncomputable def lendR (ρ:Rho):Rho:=ρ.map fun o=>o.bind lendW
section
variable {K:PySem.W.Frag} {O:Addr→Prop} {ts:List Addr} {H0 H:Hp} {T:Tp} {σ:L2.St} {ρ:Rho}
end
end D
namespace D
open PySem PySem.Spec PyProof.Rows L2
section
variable {X:Cx} {pos:Pos} {e:Expr} {fe:FE}
noncomputable def fSetE (i:Nat):FS:=fun ρ T=>some ((.nx,ρ.set i (some (.loc (.dict [])))),T)
theorem ds_setE {i:Nat} {x:Str} {pos' dpos:Pos} (hN:X.N.Nodup) (hi:X.N[i]? = some x:=by rfl) (hx:Loc X.env.scope x:=by first | exact Or.inl rfl | exact Or.inr rfl)
  (hs:swapsWith (.Dict [] [] dpos) (some (.Name x pos')) pos.line X.env=pure false:=by rfl) (hf:X.fn x=true∨X.env.scope.names.lookup x=some .local:=by first | exact .inl rfl | exact .inr rfl | assumption):DS X (.Assign [.Name x pos'] (.Dict [] [] dpos) pos) (fSetE i):=by
 refine ⟨?_⟩
 refine ps_imp (ps_set hN hi hx pe_dnewK hs hf) fun D σ H=>?_
 rintro ⟨O₀,H₀,F,ts,O,ρ,T,fl,ρ',T',rs,e,q⟩
 cases e
 intro p hp
 exact q _ _ _ (rs.ownO hp (.inr (.inl ⟨_,rfl⟩)) fun le=>⟨[],upd_same,.nil⟩)
theorem call_dictC:CallR X (.type "dict") (fun xs H Q=>∃ a kvs,xs=[V.ref a]∧Rd H a (.dK kvs)∧∀ p,H p=none→Q (.ref p) (upd H p (.dK kvs))):=by
 intro pins s σ H xs us Q I r h
 obtain ⟨a,kvs,rfl,ha,q⟩:=h
 obtain ⟨u,rfl,ru⟩:=vals1 r
 cases ru
 exact d_copyOf I ha fun p s' hp I'=>⟨.ref p,_,I',rfl,q p hp⟩
noncomputable def dctO (o:Option PyData):Option (List (PyData×PyData)):=match o with
 | some (.dict ds)=>some ds
 | _=>none
noncomputable def setDCK (i:Nat) (ρ:Rho) (o:Option (List (PyData×PyData))) (T:Tp):Option ((Fl×Rho)×Tp):=match o with
 | some ds=>some ((.nx,ρ.set i (some (.loc (.dict ds)))),T)
 | none=>none
noncomputable def fSetDC (i:Nat) (f:FE):FS:=fun ρ T=>bnd (f ρ T) fun w T1=>setDCK i ρ (dctO (view T1 w)) T1
theorem dctO_of {o:Option PyData} {ds:List (PyData×PyData)} (h:dctO o=some ds):o=some (.dict ds):=by
 unfold dctO at h
 split at h
 ·cases h; rfl
 ·cases h
theorem ds_setDC {i:Nat} {x:Str} {p pos' cpos:Pos} (hm:X.mg "dict" = none) (hN:X.N.Nodup) (he:DE X e fe) (hi:X.N[i]? = some x:=by rfl) (hx:Loc X.env.scope x:=by first | exact Or.inl rfl | exact Or.inr rfl) (hg:Gl X "dict":=by rfl)
  (hse:starEach [e] X.env=(false,eval e X.env)::starEach [] X.env:=by exact star_cons rfl) (hpl:(backTo cpos (starEach [] X.env)).any (·.1)=false:=by exact star_any rfl)
  (hs:swapsWith (.Call (.Name "dict" p) [e] [] cpos) (some (.Name x pos')) pos.line X.env=pure false:=by rfl) (hf:X.fn x=true∨X.env.scope.names.lookup x=some .local:=by first | exact .inl rfl | exact .inr rfl | assumption) :
  DS X (.Assign [.Name x pos'] (.Call (.Name "dict" p) [e] [] cpos) pos) (fSetDC i fe):=by
 refine ⟨?_⟩
 refine ps_imp (ps_set hN hi hx (pe_callTy call_dictC hg hm boot_dict (pa_cons he.pe pa_nil hse) (by decide) (by decide) hse hpl) hs hf) fun D σ H=>?_
 rintro ⟨O₀,H₀,F,ts,O,ρ,T,fl,ρ',T',rs,e,q⟩
 obtain ⟨w,T1,e1,e⟩:=bnd_of e
 unfold setDCK at e
 split at e
 ·rename_i ds hd
  cases e
  have hv:=dctO_of hd
  refine ⟨O,ts,ρ,T,w,_,rs.hc,rs.re,e1,fun v H1 s1 hc1 r1=>?_⟩
  obtain ⟨a,kvs,rfl,t,r⟩:=(hc1.view r1 hv).dct
  exact ⟨a,kvs,rfl,t,fun p hp=>q _ _ _ ((rs.step s1 hc1).ownO (xs:=.dict ds) hp (.inr (.inl ⟨_,rfl⟩)) fun le=>⟨kvs,upd_same,r.mono le⟩)⟩
 ·cases e
noncomputable def dctCK (o:Option (List (PyData×PyData))) (T:Tp):Option (W×Tp):=match o with
 | some ds=>some (.d (.dict ds),T)
 | none=>none
noncomputable def fDctC (f:FE):FE:=fun ρ T=>bnd (f ρ T) fun w T1=>dctCK (dctO (view T1 w)) T1
theorem de_dctC {p cpos:Pos} (hm:X.mg "dict" = none) (he:DE X e fe) (hg:Gl X "dict":=by rfl)
  (hse:starEach [e] X.env=(false,eval e X.env)::starEach [] X.env:=by exact star_cons rfl) (hpl:(backTo cpos (starEach [] X.env)).any (·.1)=false:=by exact star_any rfl):DE X (.Call (.Name "dict" p) [e] [] cpos) (fDctC fe):=by
 refine ⟨?_⟩
 refine pe_imp (pe_gh (pe_callTy call_dictC hg hm boot_dict (pa_cons he.pe pa_nil hse) (by decide) (by decide) hse hpl)) fun σ H Q=>?_
 rintro ⟨O,ts,ρ,T,w,T',hc,re,e,q⟩
 obtain ⟨w1,T1,e1,e⟩:=bnd_of e
 unfold dctCK at e
 split at e
 ·rename_i ds hd
  cases e
  have hv:=dctO_of hd
  refine ⟨O,ts,ρ,T,w1,T',hc,re,e1,fun v H1 s1 hc1 r1=>?_⟩
  obtain ⟨a,kvs,rfl,t,r⟩:=(hc1.view r1 hv).dct
  refine ⟨a,kvs,rfl,t,fun p hp=>.frz upd_same fun o=>.done ?_⟩
  rw [upd_upd]
  exact q _ _ (s1.trans (.new hp _)) (hc1.new hp _) (.dct (hc1.fresh hp) upd_same (r.mono (hc1.leNew hp _)))
 ·cases e
noncomputable def putN (ds:List (PyData×PyData)) (s:Str) (x:PyData):List (PyData×PyData):=if (keyAt ds s).isSome=true then putKey ds s x else ds++[(.str s,x)]
theorem RepK.app {K:PySem.W.Frag} {O:Addr→Prop} {H:Hp} {s:Str} {v:V} {x:PyData} (rx:Rep K O H v x):∀ {kvs:List (Key×V)} {ds:List (PyData×PyData)},RepK K O H kvs ds→RepK K O H (kvs++[(Sum.inr s,v)]) (ds++[(.str s,x)])
 | _,_,.nil=>.cons (k:=Sum.inr s) rx .nil
 | _,_,.cons r t=>.cons r (RepK.app rx t)
theorem putN_of {K:PySem.W.Frag} {O:Addr→Prop} {H:Hp} {s:Str} {v:V} {x:PyData} (rx:Rep K O H v x) {kvs:List (Key×V)} {ds:List (PyData×PyData)} (r:RepK K O H kvs ds):RepK K O H (putK kvs (Sum.inr s) v) (putN ds s x):=by
 unfold putN
 rcases keyAt_of (s:=s) r with ⟨z1,z2⟩ | ⟨v',d',z1,z2,_⟩
 ·rw [z1,if_neg (by simp),putK_new v z2]
  exact r.app rx
 ·rw [z1,if_pos (show (some d').isSome=true by rfl)]
  have hany:(kvs.any fun kv=>decide (kv.1=(Sum.inr s:Key)))=true:=any_of_val (by rw [z2]; rfl)
  unfold putK
  rw [if_pos hany]
  exact putKey_of rx r
noncomputable def putNK (i:Nat) (ρ:Rho) (ds:List (PyData×PyData)) (w k:W) (T:Tp):Option ((Fl×Rho)×Tp):=match w,k with
 | .d x,.d (.str s)=>if ds.length≤1000 then some ((.nx,ρ.set i (some (.loc (.dict (putN ds s x))))),T) else none
 | _,_=>none
noncomputable def putNO (i:Nat) (fk:FE) (ρ:Rho) (w:W) (T:Tp) (o:Option (Option W)):Option ((Fl×Rho)×Tp):=match o with
 | some (some (.loc (.dict ds)))=>bnd (fk ρ T) (putNK i ρ ds w)
 | _=>none
noncomputable def fPutN (i:Nat) (fk fv:FE):FS:=fun ρ T=>bnd (fv ρ T) fun w T1=>putNO i fk ρ w T1 ρ[i]?
theorem ds_putN {i:Nat} {x:Str} {kx:Expr} {fk fv:FE} {p pos':Pos} {k:Nat} (hr:Room k X.A) (hk:DE X kx fk) (he:DE X e fv) (hN:X.N[i]? = some x:=by rfl) (hv:Vis X.env.scope x:=by first | exact Or.inl rfl | exact Or.inr (Or.inl rfl) | exact Or.inr (Or.inr rfl)) (hd:(x == ("__debug__" : Str))=false:=by decide)
  (hcd:(x == ("__classdict__" : Str))=false:=by decide) (hs:swapsWith e (some (.Subscript (.Name x p) kx pos')) pos.line X.env=pure false:=by rfl):DS X (.Assign [.Subscript (.Name x p) kx pos'] e pos) (fPutN i fk fv):=by
 refine ⟨?_⟩
 refine ps_imp (ps_dput (hu_of hr) (pv i hN hv hd hcd) hk.pe he.pe hs) fun D σ H=>?_
 rintro ⟨O₀,H₀,F,ts,O,ρ,T,fl,ρ',T',rs,e,q⟩
 obtain ⟨w,T1,e1,e⟩:=bnd_of e
 refine ⟨O,ts,ρ,T,w,T1,rs.hc,rs.re,e1,fun v H1 s1 hc1 r1=>?_⟩
 have rs1:=rs.step s1 hc1
 unfold putNO at e
 split at e
 ·rename_i ds c3
  obtain ⟨wk,T3,e3,e⟩:=bnd_of e
  unfold putNK at e
  split at e
  ·rename_i xv s _
   split at e
   ·rename_i c2
    cases e
    obtain ⟨u,k1,a,rfl,k2,k3,kvs,k4,k5⟩:=rs1.re i _ c3
    refine ⟨_,k1,O,ts,ρ,T1,_,_,rs1.hc,rs1.re,e3,fun y H3 s3 hc3 r3=>?_⟩
    have rs3:=rs1.step s3 hc3
    cases (show Rep X.K O H3 y (.str s) from r3)
    have k4':H3 a=some (.dK kvs):=s3 _ _ k3 k4
    have k5':RepK X.K O H3 kvs ds:=k5.mono (hc1.le s3)
    have hlen:kvs.length < sizeLine:=by
     rw [repK_len k5']
     exact Nat.lt_of_le_of_lt c2 (by decide)
    have rx:Rep X.K O H3 v xv:=RepW.mono (w:=.d xv) r1 hc1 s3
    refine ⟨a,_,rfl,DPut.k (k:=(Sum.inr s:Key)) k4' hlen,?_⟩
    exact q O σ _ (rs3.putO c3 k1 (.inr (.inl ⟨_,rfl⟩)) fun le=>⟨_,upd_same,putN_of (Rep.mono le rx) (k5'.mono le)⟩)
   ·cases e
  ·cases e
 ·cases e
end
noncomputable def dropW (n:Nat):W→Option W
 | .tp k=>if k < n then some (.tp k) else none
 | w=>some w
noncomputable def dropR (n:Nat) (ρ:Rho):Rho:=ρ.map fun o=>o.bind (dropW n)
noncomputable def openEnd (n:Nat) (o:Option ((Fl×Rho)×Tp)):Option ((Fl×Rho)×Tp):=match o with
 | some ((fl,ρ'),T3)=>(match lastR T3 with
  | some (T4,_)=>if T4.length=n then some ((fl,dropR n ρ'),T4) else none
  | none=>none)
 | none=>none
section
variable {K:PySem.W.Frag} {O₀:Addr→Prop} {H₀:Hp} {F:List ((Addr→Prop)×Hp)} {ts:List Addr} {O:Addr→Prop} {H:Hp} {σ:L2.St} {ρ:Rho} {T:Tp}
theorem RS.openR {i:Nat} {p:Addr} {vs:List V} {xs:List PyData} (r:RS K O₀ H₀ F ts O H σ ρ T) (hp:H p=none) (rv:Reps K O H vs xs) :
  RS K (fun b=>O₀ b∨b=p) H₀ F (ts++[p]) (fun b=>O b∨b=p) (upd H p (.lst vs)) (σ.set i (some (.ref p))) (ρ.set i (some (.tp T.length))) (T++[xs]):=by
 have nO:=r.hc.fresh hp
 have nt:p∉ts:=fun z=>nO (r.hc.own _ z)
 have le:Le O H (fun b=>O b∨b=p) (upd H p (.lst vs)):=fun a o n e=>by
  have z1:a≠p:=ne_of_none e hp
  exact ⟨fun q=>q.elim n z1,by rw [upd_ne z1]; exact e⟩
 have hw:∀ ys,W.tp T.length≠.loc ys:=fun _ z=>nomatch z
 refine ⟨⟨fun b hb=>?_,fun b hb=>?_,?_,by simp [r.hc.len],fun j b zs q1 q2=>?_⟩,fun j w e=>?_,fun b hb=>hb.elim (fun z=>.inl (r.sub b z)) .inr,fun b hb=>?_,fun b o n e=>?_,fun j xs a e1 e2=>?_,fun j k xs ys v e1 e2 e3 e4=>?_,fun f hf=>(r.frs f hf).trans le,by simp [r.len]⟩
 ·rcases List.mem_append.mp hb with z | z
  ·exact .inl (r.hc.own b z)
  ·exact .inr (List.mem_singleton.mp z)
 ·by_cases z:b=p
  ·rw [z,upd_same]; exact .inl ⟨_,rfl⟩
  ·rw [upd_ne z]; exact r.hc.trk b (hb.resolve_right z)
 ·rw [List.nodup_append]
  exact ⟨r.hc.nd,by simp,fun b hb c hc z=>nt (by rw [← List.mem_singleton.mp hc,← z]; exact hb)⟩
 ·by_cases hj:j < ts.length
  ·rw [List.getElem?_append_left hj] at q1
   rw [List.getElem?_append_left (by rw [← r.hc.len]; exact hj)] at q2
   exact (r.hc.tape j b zs q1 q2).mono (fun o h1=>by rw [upd_ne (ne_of_none h1 hp)]; exact h1) le
  ·have hj2:j=ts.length:=by
    have:=(List.getElem?_eq_some_iff.mp q1).1
    simp at this
    omega
   subst hj2
   have e1:b=p:=by simpa using q1.symm
   have e2:zs=xs:=by rw [r.hc.len] at q2; simpa using q2.symm
   subst e1 e2
   exact .inl ⟨rv.notO,vs,upd_same,rv.mono le⟩
 ·by_cases z:i=j
  ·subst z
   have hl:i < ρ.length:=by
    have:=(List.getElem?_eq_some_iff.mp e).1
    simpa using this
   rw [List.getElem?_set_self hl] at e
   cases e
   exact ⟨.ref p,by rw [List.getElem?_set_self (by rw [r.len]; exact hl)],p,by rw [← r.hc.len]; simp,rfl⟩
  ·rw [List.getElem?_set_ne z] at e
   obtain ⟨x,h1,h2⟩:=r.re j w e
   refine ⟨x,by rw [List.getElem?_set_ne z]; exact h1,?_⟩
   cases w with
   | d y=>exact Rep.mono le h2
   | tp k=>
    obtain ⟨a,k1,k2⟩:=h2
    exact ⟨a,by rw [List.getElem?_append_left (List.getElem?_eq_some_iff.mp k1).1]; exact k1,k2⟩
   | loc ys=>
    obtain ⟨a,e1,m1,m2,m3⟩:=h2
    have na:a≠p:=fun z=>nO (z ▸ m1)
    refine ⟨a,e1,.inl m1,fun z=>?_,m3.mono (fun o' q=>by rw [upd_ne na]; exact q) le⟩
    rcases List.mem_append.mp z with z | z
    ·exact m2 z
    ·exact na (List.mem_singleton.mp z)
 ·rcases List.mem_append.mp hb with z | z
  ·exact .inl (r.ots b z)
  ·exact .inr (List.mem_singleton.mp z)
 ·have nb:b∉ts:=fun z=>n (List.mem_append_left _ z)
  have e1:=r.same b o nb e
  rw [upd_ne (ne_of_none e1 hp)]
  exact e1
 ·obtain ⟨n,e⟩:=set_loc hw e1
  rw [List.getElem?_set_ne (Ne.symm n)] at e2
  obtain ⟨f1,f2⟩:=r.fresh j xs a e e2
  refine ⟨f1,fun z=>z.elim f2 fun z=>?_⟩
  obtain ⟨v,h1,a',ea,m1,_⟩:=r.re j _ e
  rw [e2] at h1
  cases h1
  cases ea
  exact nO (z ▸ m1)
 ·obtain ⟨n1,e1⟩:=set_loc hw e1
  obtain ⟨n2,e2⟩:=set_loc hw e2
  rw [List.getElem?_set_ne (Ne.symm n1)] at e3
  rw [List.getElem?_set_ne (Ne.symm n2)] at e4
  exact r.dist j k xs ys v e1 e2 e3 e4
theorem RS.closeR {p:Addr} {row:List PyData} (ots:∀ b∈ts,O₀ b) (nt:p∉ts) (h0:H₀ p=none) (n0:¬ O₀ p) (r:RS K (fun b=>O₀ b∨b=p) H₀ F (ts++[p]) O H σ ρ (T++[row])):RS K O₀ H₀ F ts O H σ (dropR T.length ρ) T:=by
 have lenT:ts.length=T.length:=by have:=r.hc.len; simp at this; exact this
 have at_:∀ {j:Nat} {w:W},(dropR T.length ρ)[j]? = some (some w)→ρ[j]? = some (some w)∧∀ k,w=.tp k→k < T.length:=fun {j w} e=>by
  unfold dropR at e
  rw [List.getElem?_map] at e
  cases hu:ρ[j]? with
  | none=>rw [hu] at e; cases e
  | some u=>
   cases u with
   | none=>rw [hu] at e; cases e
   | some u=>
    rw [hu] at e
    have e':dropW T.length u=some w:=Option.some.inj e
    cases u with
    | d x=>cases e'; exact ⟨rfl,fun k z=>nomatch z⟩
    | loc x=>cases e'; exact ⟨rfl,fun k z=>nomatch z⟩
    | tp k=>
     have e2:(if k < T.length then some (W.tp k) else none)=some w:=e'
     split at e2
     ·rename_i hk
      cases e2
      exact ⟨rfl,fun k' z=>by cases z; exact hk⟩
     ·cases e2
 refine ⟨⟨fun b hb=>r.hc.own b (List.mem_append_left _ hb),r.hc.trk,(List.nodup_append.mp r.hc.nd).1,lenT,fun j b zs q1 q2=>?_⟩,fun j w e=>?_,fun b hb=>r.sub b (.inl hb),ots,fun b o n e=>?_,fun j xs a e1 e2=>?_,fun j k xs ys v e1 e2 e3 e4=>?_,r.frs,by simp [dropR,r.len]⟩
 ·have hj:j < ts.length:=(List.getElem?_eq_some_iff.mp q1).1
  exact r.hc.tape j b zs (by rw [List.getElem?_append_left hj]; exact q1) (by rw [List.getElem?_append_left (by rw [← lenT]; exact hj)]; exact q2)
 ·obtain ⟨e1,hk⟩:=at_ e
  obtain ⟨v,h1,h2⟩:=r.re j w e1
  refine ⟨v,h1,?_⟩
  cases w with
  | d x=>exact h2
  | tp k=>
   obtain ⟨a,k1,k2⟩:=h2
   have:=hk k rfl
   exact ⟨a,by rw [List.getElem?_append_left (by rw [lenT]; exact this)] at k1; exact k1,k2⟩
  | loc x=>
   obtain ⟨a,k1,k2,k3,k4⟩:=h2
   exact ⟨a,k1,k2,fun z=>k3 (List.mem_append_left _ z),k4⟩
 ·refine r.same b o (fun z=>?_) e
  rcases List.mem_append.mp z with z | z
  ·exact n z
  ·rw [List.mem_singleton.mp z,h0] at e; cases e
 ·obtain ⟨f1,f2⟩:=r.fresh j xs a (at_ e1).1 e2
  exact ⟨f1,fun z=>f2 (.inl z)⟩
 ·exact r.dist j k xs ys v (at_ e1).1 (at_ e2).1 e3 e4
end
section
variable {X:Cx} {pos:Pos} {rest:List Stmt} {fr:FS}
theorem open_ok {i:Nat} {p:Addr} {vs:List V} {xs:List PyData} {D:Ends} {O₀:Addr→Prop} {H₀:Hp} {F:List ((Addr→Prop)×Hp)} {ts:List Addr} {O:Addr→Prop} {H:Hp} {σ:L2.St} {ρ:Rho} {T:Tp} {fl:Fl} {ρ':Rho} {T':Tp}
  (rs:RS X.K O₀ H₀ F ts O H σ ρ T) (hp:H p=none) (rv:Reps X.K O H vs xs) (e:openEnd T.length (fr (ρ.set i (some (.tp T.length))) (T++[xs]))=some ((fl,ρ'),T')) (q:EndsD X.K O₀ H₀ F ts D ρ' T' fl):liftS X.K fr D (σ.set i (some (.ref p))) (upd H p (.lst vs)):=by
 have nO:=rs.hc.fresh hp
 have nt:p∉ts:=fun z=>nO (rs.hc.own _ z)
 have h0:H₀ p=none:=by
  cases e:H₀ p with
  | none=>rfl
  | some o=>rw [rs.same p o nt e] at hp; cases hp
 have n0:¬ O₀ p:=fun z=>nO (rs.sub p z)
 have rs1:=rs.openR (i:=i) hp rv
 generalize hE:fr (ρ.set i (some (.tp T.length))) (T++[xs])=E at e
 unfold openEnd at e
 split at e
 ·rename_i fl1 ρ1 T3
  split at e
  ·rename_i T4 row hT
   split at e
   ·rename_i hlen
    have eT:=lastR_of hT
    subst eT
    cases e
    have lb:∀ {G:Hp},Le (fun b=>O₀ b∨b=p) G O₀ G:=fun a o n e=>⟨fun z=>n (.inl z),e⟩
    have lenB:∀ {G:Hp} {B:Addr→Prop},HC X.K B (ts++[p]) G (T'++[row])→ts.length=T'.length:=fun h=>by have:=h.len; simp at this; exact this
    have sameB:∀ {G:Hp},SameX (ts++[p]) H₀ G→SameX ts H₀ G:=fun s b o n e=>s b o (fun z=>by
     rcases List.mem_append.mp z with z | z
     ·exact n z
     ·rw [List.mem_singleton.mp z,h0] at e; cases e) e
    refine ⟨_,H₀,F,ts++[p],_,_,_,fl,ρ1,T'++[row],rs1,hE,?_⟩
    have lenE:T.length=T'.length:=hlen.symm
    cases fl with
    | nx=>exact fun O' σ' H' r=>q O' σ' H' (by rw [lenE]; exact RS.closeR rs.ots nt h0 n0 r)
    | bk=>exact fun O' σ' H' r=>q O' σ' H' (by rw [lenE]; exact RS.closeR rs.ots nt h0 n0 r)
    | ct=>exact fun O' σ' H' r=>q O' σ' H' (by rw [lenE]; exact RS.closeR rs.ots nt h0 n0 r)
    | rt y=>
     intro v H' s1 c1 r1
     refine q v H' (sameB s1) ⟨rs.ots,fun b hb=>c1.trk b (.inl hb),rs.hc.nd,lenB c1,fun j b zs q1 q2=>?_⟩ (Rep.mono lb r1)
     have hj:j < ts.length:=(List.getElem?_eq_some_iff.mp q1).1
     exact (c1.tape j b zs (by rw [List.getElem?_append_left hj]; exact q1) (by rw [List.getElem?_append_left (by rw [← lenB c1]; exact hj)]; exact q2)).mono (fun _ h=>h) lb
    | ro y=>
     intro A v H' s1 hA c1 o1
     have lb2:Le (fun b=>(O₀ b∨b=p)∨A b) H' (fun b=>O₀ b∨A b) H':=fun b o n e=>⟨fun z=>n (z.elim (fun z=>.inl (.inl z)) .inr),e⟩
     refine q A v H' (sameB s1) (fun b hb=>⟨(hA b hb).1,fun z=>(hA b hb).2 (.inl z)⟩) ⟨fun b hb=>.inl (rs.ots b hb),fun b hb=>c1.trk b (hb.elim (fun z=>.inl (.inl z)) .inr),rs.hc.nd,lenB c1,fun j b zs q1 q2=>?_⟩ (OwnV.mono lb2 o1)
     have hj:j < ts.length:=(List.getElem?_eq_some_iff.mp q1).1
     exact (c1.tape j b zs (by rw [List.getElem?_append_left hj]; exact q1) (by rw [List.getElem?_append_left (by rw [← lenB c1]; exact hj)]; exact q2)).mono (fun _ h=>h) lb2
   ·cases e
  ·cases e
 ·cases e
end
end D
namespace D
open PySem PySem.Spec PyProof.Rows L2
end D
namespace D
open PySem PySem.Spec PyProof.Rows L2
section
variable {X:Cx} {pos:Pos}
end
end D
namespace D
open PySem PySem.Spec PyProof.Rows L2
section
variable {X:Cx}
end
theorem fnOk_imp {P:Program} {w:World} {K:PySem.W.Frag} {mg:Str→Option Value} {base:Heap} {CX:CXT} {k:Nat} {f:Addr} {fd:FuncData} {ps:List Str} {sp sp':Sp} (F:FnOk P w K mg base CX k f fd ps sp) (i:∀ vs H Q E,sp' vs H Q E→sp vs H Q E):FnOk P w K mg base CX k f fd ps sp':=
 ⟨fun vs H Q E h=>F.1 vs H Q E (i _ _ _ _ h),fun A outer s H args us vs Q E a b c d h=>F.2 A outer s H args us vs Q E a b c d (i _ _ _ _ h)⟩
theorem law_plain {K:PySem.W.Frag} {m:FnM} (hm:∀ ns:List Int,ns.length≤63→∃ T',m [.d (script ns)] []=some (.bool true,T')):∀ vs H Q E,spLaw K vs H Q E→spM K 1 m vs H Q E:=by
 intro vs H Q E h
 obtain ⟨a,ns,rfl,hS,hl,q⟩:=h
 obtain ⟨T',e⟩:=hm ns hl
 have ra:LstAt K (fun _=>False) H a (ns.map V.int):=by
  rcases hS with h | h
  ·exact .inl ⟨fun z=>z,h⟩
  ·exact .inr (.inr h)
 refine ⟨fun _=>False,[],[],[.d (script ns)],.bool true,T',⟨fun b hb=>(by cases hb),fun b hb=>hb.elim,List.nodup_nil,rfl,fun i a xs e1 _=>by simp at e1⟩,.cons (show Rep K (fun _=>False) H (.ref a) (script ns) from .lst ra (reps_ints ns)) .nil,rfl,e,fun v H' _ _ r=>?_⟩
 cases r
 exact q H'
end D
namespace D
open PySem PySem.Spec PyProof.Rows L2
noncomputable def shrD:PyData→PyData→Option PyData:=iop fun i j=>if 0≤j then some (.int (i / 2 ^ j.toNat)) else none
@[simp] theorem ev_shrI {i j:Int}:shrD (.int i) (.int j)=if 0≤j then some (.int (i / 2 ^ j.toNat)) else none:=rfl
end D
namespace D
open PySem PySem.Spec PyProof.Rows L2
section
variable {X:Cx}
end
end D
namespace L2
open PySem PySem.Spec PyProof.Rows
structure CSn (osc:Scope) (N:List Str) (xs:List Str) (scope:Scope) (N':List Str):Prop where
 kind:scope.kind=.function
 nocell:∀ y∈scope.names,y.2≠.cell
 names:∀ y∈scope.names,y.2=.local→scope.names.lookup y.1=some .local
 hx:∀ x∈xs,scope.names.lookup x=some .local
 only:∀ y∈scope.names,y.2=.local→y.1∈xs∨y.1 = ".0"
 free:∀ y∈scope.names,y.2=.free→osc.names.lookup y.1=some .cell∨osc.names.lookup y.1=some .free
 nd:(xs++N').Nodup
 n0:(".0" : Str)∉N'
 len:N'.length=N.length
 rel:∀ p∈N'.zip N,p.1=p.2∨∀ q∈scope.names,q.1≠p.1
theorem CSn.at {osc:Scope} {N N':List Str} {xs:List Str} {scope:Scope} (S:CSn osc N xs scope N') {j:Nat} {y:Str} (h:N'[j]? = some y):N[j]? = some y∨∀ q∈scope.names,q.1≠y:=by
 have hl:j < N'.length:=(List.getElem?_eq_some_iff.mp h).1
 have hl2:j < N.length:=by rw [← S.len]; exact hl
 have m:(N'.zip N)[j]? = some (y,N[j]):=by
  rw [List.getElem?_zip_eq_some]
  exact ⟨h,List.getElem?_eq_getElem hl2⟩
 rcases S.rel _ (List.mem_of_getElem? m) with z | z
 ·left
  rw [List.getElem?_eq_getElem hl2]
  exact congrArg some z.symm
 ·exact .inr z
section
variable {X:Cx} {pins:List (Addr×Obj)} {σ:St} {H:Hp} {s:Shared} {xs:List Str} {scope:Scope} {N':List Str}
end
section
variable {X:Cx} {pins:List (Addr×Obj)} {σ:St} {H:Hp} {s:Shared} {xs:List Str} {scope:Scope} {N':List Str}
end
section
variable {X:Cx} {xs:List Str} {scope:Scope} {N':List Str} {tg elt iter:Expr} {ifs:List Expr} {pos:Pos} {wi:TI} {g:TG} {te:TE} {tt:TT}
end
end L2
namespace D
open PySem PySem.Spec PyProof.Rows L2
end D
namespace D
open PySem PySem.Spec PyProof.Rows L2
section
variable {X:Cx} {pos:Pos}
end
end D
namespace D
open PySem PySem.Spec PyProof.Rows L2
section
variable {X:Cx} {pos:Pos}
end
end D
namespace D
open PySem PySem.Spec PyProof.Rows L2
section
variable {X:Cx}
theorem mt_insert:MtM X "list.insert" (fun x vs H Q=>∃ (l:Addr) (xs:List V) (i:Int) (k:Nat) (y:V),x=.ref l∧vs=[.int i,y]∧H l=some (.lst xs)∧i.toNat=k∧0≤i∧k≤xs.length∧xs.length≤1000∧Q .non (upd H l (.lst (xs.take k++y::xs.drop k)))):=by
 intro pins s σ H x vs v us Q I rx rv h
 obtain ⟨l,xs,i,k,y,rfl,rfl,hH,hki,hi0,hk,hz,q⟩:=h
 cases rx
 obtain ⟨u,w,rfl,ru,rw'⟩:=vals2 rv
 obtain ⟨t,rfl⟩:=ru
 obtain ⟨z,its,n,r,hl,e⟩:=I.lstM hH
 have hsl:(1001:Nat)≤sizeLine:=by decide
 have hfit:Builtin.List.listFitsIndex i=true:=fitsIndex_both (by omega) (by omega)
 have hfit':¬ (!Builtin.List.listFitsIndex i)=true:=by rw [hfit]; exact Bool.false_ne_true
 have hsz:its.toArray.size≤sizeLine:=by
  rw [List.size_toArray]
  exact Nat.le_trans (by omega) hsl
 clear hfit
 refine call_meets F.slot_list_insert ⟨_,e,rfl⟩ F.entry_list_insert (F.args_list_insert_3 _ _ _) (AutoSeq1.list_insert_list_int_val_1 l its.toArray n i t w hfit' hsz) ⟨e,?_⟩
 refine ⟨.non,_,I.lset (its':=its.take k++w::its.drop k) hH e ?_ ((r.take k).append (.cons rw' (r.drop k))) ?_,rfl,q⟩
 ·have hk':min k its.length=k:=by omega
  have h0:¬ (i < 0):=by omega
  simp only [h0,if_false,hki,List.size_toArray,hk']
  apply Array.ext'
  simp
  exact List.take_of_length_le (by simp)
 ·refine Nat.le_trans ?_ hsl
  simp only [List.length_append,List.length_take,List.length_cons,List.length_drop]
  omega
variable {pos:Pos} {e e':Expr} {fe fk:FE}
noncomputable def insK (i:Nat) (ρ:Rho) (w1 w2:W) (T:Tp) (o:Option (Option W)):Option ((Fl×Rho)×Tp):=match w1,w2,o with
 | .d (.int k),.d x,some (some (.loc (.list xs)))=>if 0≤k∧k≤xs.length∧xs.length≤1000 then some ((.nx,ρ.set i (some (.loc (.list (xs.take k.toNat++x::xs.drop k.toNat))))),T) else none
 | _,_,_=>none
theorem insK_of {i:Nat} {ρ ρ':Rho} {w1 w2:W} {T T':Tp} {fl:Fl} {o:Option (Option W)} (h:insK i ρ w1 w2 T o=some ((fl,ρ'),T')):∃ k x xs,w1=.d (.int k)∧w2=.d x∧o=some (some (.loc (.list xs)))∧(0≤k∧k≤xs.length∧xs.length≤1000)∧((fl,ρ'),T')=((Fl.nx,ρ.set i (some (W.loc (.list (xs.take k.toNat++x::xs.drop k.toNat))))),T):=by
 unfold insK at h
 split at h
 ·split at h
  ·rename_i h2
   exact ⟨_,_,_,rfl,rfl,rfl,h2,(Option.some.inj h).symm⟩
  ·cases h
 ·cases h
noncomputable def fIns (i:Nat) (f g:FE):FS:=fun ρ T=>bnd (f ρ T) fun w1 T1=>bnd (g ρ T1) fun w2 T2=>insK i ρ w1 w2 T2 ρ[i]?
theorem few2 {e f:Expr} {env:Env} {cpos:Pos} (h:noStar e=true) (h2:noStar f=true):((backTo cpos (starEach [e,f] env)).all (fun x=>!x.1) && (backToKw cpos (keywordEach [] env)).all (fun x=>x.1.isSome)
   && decide (([e,f]:List Expr).length + ([]:List Keyword).length + (if ([]:List Keyword).isEmpty then 0 else 1) < 30))=true:=by
 rw [star_back h,star_one h2]
 rfl
theorem ds_ins {i:Nat} {x:Str} {p apos:Pos} (hk:DE X e fk) (he:DE X e' fe) (hN:X.N[i]? = some x:=by rfl) (hv:Vis X.env.scope x:=by first | exact Or.inl rfl | exact Or.inr (Or.inl rfl) | exact Or.inr (Or.inr rfl)) (hd:(x == ("__debug__" : Str))=false:=by decide)
  (hcd:(x == ("__classdict__" : Str))=false:=by decide) {cpos:Pos}
  (hbase:attributeBase (.Name x p) "insert" X.env (eval (.Name x p) X.env)=eval (.Name x p) X.env:=by rfl)
  (hfew:((backTo cpos (starEach [e,e'] X.env)).all (fun x=>!x.1) && (backToKw cpos (keywordEach [] X.env)).all (fun x=>x.1.isSome)
   && decide (([e,e']:List Expr).length + ([]:List Keyword).length + (if ([]:List Keyword).isEmpty then 0 else 1) < 30))=true:=by exact few2 rfl rfl)
  (hline:(apos.endLine == cpos.line)=true:=by rfl) (hse:starEach [e,e'] X.env=(false,eval e X.env)::starEach [e'] X.env:=by exact star_cons rfl) (hse2:starEach [e'] X.env=(false,eval e' X.env)::starEach [] X.env:=by exact star_cons rfl) (hplain:(backTo cpos (starEach [e'] X.env)).any (·.1)=false:=by exact star_any rfl)
  (hs:swapsWith (.Call (.Attribute (.Name x p) "insert" apos) [e,e'] [] cpos) none pos.line X.env=pure false:=by rfl) :
  DS X (.Expr (.Call (.Attribute (.Name x p) "insert" apos) [e,e'] [] cpos) pos) (fIns i fk fe):=by
 refine ⟨?_⟩
 refine ps_imp (ps_expr (pe_bm PySem.F.plainAttrs_list PySem.F.slot_list_insert PySem.F.type_list_insert mt_insert (pv i hN hv hd hcd) (pa_cons hk.pe (pa_cons he.pe pa_nil hse2) hse) hbase hfew hline hse hplain) hs) fun D σ H=>?_
 rintro ⟨O₀,H₀,F,ts,O,ρ,T,fl,ρ',T',rs,e,q⟩
 obtain ⟨w1,T1,e1,e⟩:=bnd_of e
 obtain ⟨w2,T2,e2,e⟩:=bnd_of e
 obtain ⟨k,x0,xs,rfl,rfl,h1,h2,e3⟩:=insK_of e
 cases e3
 obtain ⟨v,k1,a,rfl,k2,k3,vs,k4,k5⟩:=rs.re i _ h1
 refine ⟨_,k1,.inl ⟨rfl,vs,SqL.of k4⟩,O,ts,ρ,T,_,_,rs.hc,rs.re,e1,fun u H1 s1 hc1 r1=>?_⟩
 have rs1:=rs.step s1 hc1
 refine ⟨O,ts,ρ,T1,_,_,hc1,rs1.re,e2,fun u2 H2 s2 hc2 r2=>?_⟩
 have rs2:=rs1.step s2 hc2
 cases (show Rep X.K O H1 u (.int k) from r1)
 have l5:=k5.length
 have k5':Reps X.K O H2 vs xs:=(k5.mono (rs.hc.le s1)).mono (hc1.le s2)
 exact ⟨a,vs,k,k.toNat,u2,rfl,rfl,s2 _ _ k3 (s1 _ _ k3 k4),rfl,h2.1,by omega,by omega,q O _ _ (rs2.put (us:=[]) h1 k1 ((k5'.take _).append (.cons r2 (k5'.drop _))))⟩
end
section
variable {K:PySem.W.Frag} {O₀:Addr→Prop} {H₀:Hp} {F:List ((Addr→Prop)×Hp)} {ts:List Addr} {O A:Addr→Prop} {H H1:Hp} {σ:L2.St} {ρ:Rho} {T T1:Tp}
theorem RS.widen (r:RS K O₀ H₀ F ts O H σ ρ T) (s:SameX ts H H1) (hA:∀ b,A b→H b=none∧¬ O b) (c:HC K (fun b=>O b∨A b) ts H1 T1):RS K O₀ H₀ F ts (fun b=>O b∨A b) H1 σ ρ T1:=by
 have le:Le O H (fun b=>O b∨A b) H1:=fun a o n e=>⟨fun z=>z.elim n fun z=>(by rw [(hA a z).1] at e; cases e),s a o (fun z=>n (r.hc.own a z)) e⟩
 refine ⟨c,fun i w e=>?_,fun b hb=>.inl (r.sub b hb),r.ots,r.same.trans s,r.fresh,r.dist,fun f hf=>(r.frs f hf).trans le,r.len⟩
 obtain ⟨v,h1,h2⟩:=r.re i w e
 refine ⟨v,h1,?_⟩
 cases w with
 | d x=>exact Rep.mono le h2
 | tp k=>exact h2
 | loc ys=>
  obtain ⟨a,ea,m1,m2,m3⟩:=h2
  exact ⟨a,ea,.inl m1,m2,m3.mono (fun o q=>s _ _ m2 q) le⟩
theorem RS.hold {i:Nat} {a:Addr} {xs:PyData} (r:RS K O₀ H₀ F ts O H σ ρ T) (ha:O a) (nt:a∉ts) (hf:H₀ a=none∧¬ O₀ a) (nh:∀ (j:Nat) (ys:PyData),ρ[j]? = some (some (W.loc ys))→σ[j]? = some (some (V.ref a))→False) (rv:OwnAt K O H a xs) :
  RS K O₀ H₀ F ts O H (σ.set i (some (.ref a))) (ρ.set i (some (.loc xs))) T:=by
 refine ⟨r.hc,fun j w e=>?_,r.sub,r.ots,r.same,fun j ys b e1 e2=>?_,fun j k ys zs v e1 e2 e3 e4=>?_,r.frs,by simp [r.len]⟩
 ·by_cases z:i=j
  ·subst z
   have hl:i < ρ.length:=by
    have:=(List.getElem?_eq_some_iff.mp e).1
    simpa using this
   rw [List.getElem?_set_self hl] at e
   cases e
   exact ⟨.ref a,by rw [List.getElem?_set_self (by rw [r.len]; exact hl)],a,rfl,ha,nt,rv⟩
  ·rw [List.getElem?_set_ne z] at e
   obtain ⟨x,h1,h2⟩:=r.re j w e
   exact ⟨x,by rw [List.getElem?_set_ne z]; exact h1,h2⟩
 ·by_cases z:i=j
  ·subst z
   have hl:i < ρ.length:=by
    have:=(List.getElem?_eq_some_iff.mp e1).1
    simpa using this
   rw [List.getElem?_set_self (by rw [r.len]; exact hl)] at e2
   cases e2
   exact hf
  ·rw [List.getElem?_set_ne z] at e1 e2
   exact r.fresh j ys b e1 e2
 ·by_cases z:i=j
  ·by_cases z':i=k
   ·rw [← z,← z']
   ·exfalso
    subst z
    have hl:i < ρ.length:=by
     have:=(List.getElem?_eq_some_iff.mp e1).1
     simpa using this
    rw [List.getElem?_set_self (by rw [r.len]; exact hl)] at e3
    cases e3
    rw [List.getElem?_set_ne z'] at e2 e4
    exact nh k zs e2 e4
  ·by_cases z':i=k
   ·exfalso
    subst z'
    have hl:i < ρ.length:=by
     have:=(List.getElem?_eq_some_iff.mp e2).1
     simpa using this
    rw [List.getElem?_set_self (by rw [r.len]; exact hl)] at e4
    cases e4
    rw [List.getElem?_set_ne z] at e1 e3
    exact nh j ys e1 e3
   ·rw [List.getElem?_set_ne z] at e1 e3
    rw [List.getElem?_set_ne z'] at e2 e4
    exact r.dist j k ys zs v e1 e2 e3 e4
theorem RS.keep (r:RS K O₀ H₀ F ts O H σ ρ T) (hA:∀ b,A b→O b):HC K (fun b=>O₀ b∨A b) ts H T∧Le O H (fun b=>O₀ b∨A b) H:=by
 have le:Le O H (fun b=>O₀ b∨A b) H:=fun a o n e=>⟨fun z=>n (z.elim (r.sub a) (hA a)),e⟩
 exact ⟨⟨fun b hb=>.inl (r.ots b hb),fun b hb=>r.hc.trk b (hb.elim (r.sub b) (hA b)),r.hc.nd,r.hc.len,fun i a xs e1 e2=>(r.hc.tape i a xs e1 e2).mono (fun _ h=>h) le⟩,le⟩
end
noncomputable def retO2K (i j:Nat) (ρ:Rho) (T:Tp) (o1 o2:Option (Option W)):Option ((Fl×Rho)×Tp):=match o1,o2 with
 | some (some (.loc x)),some (some (.loc y))=>if i=j then none else some ((.ro (.tuple [x,y]),ρ),T)
 | _,_=>none
noncomputable def fRetO2 (i j:Nat):FS:=fun ρ T=>retO2K i j ρ T ρ[i]? ρ[j]?
section
variable {X:Cx} {pos:Pos}
theorem ds_retO2 {i j:Nat} {x y:Str} {k:Nat} {px py tp:Pos} (hN:X.N[i]? = some x:=by rfl) (hv:Vis X.env.scope x:=by first | exact Or.inl rfl | exact Or.inr (Or.inl rfl) | exact Or.inr (Or.inr rfl)) (hd:(x == ("__debug__" : Str))=false:=by decide) (hcd:(x == ("__classdict__" : Str))=false:=by decide)
  (hN2:X.N[j]? = some y:=by rfl) (hv2:Vis X.env.scope y:=by first | exact Or.inl rfl | exact Or.inr (Or.inl rfl) | exact Or.inr (Or.inr rfl)) (hd2:(y == ("__debug__" : Str))=false:=by decide) (hcd2:(y == ("__classdict__" : Str))=false:=by decide)
  (hs1:starEach [.Name x px,.Name y py] X.env=(false,eval (.Name x px) X.env)::starEach [.Name y py] X.env:=by exact star_cons rfl) (hs2:starEach [.Name y py] X.env=(false,eval (.Name y py) X.env)::starEach [] X.env:=by exact star_cons rfl) :
  DS X (.Return (some (.Tuple [.Name x px,.Name y py] k tp)) pos) (fRetO2 i j):=by
 refine ⟨?_⟩
 refine ps_imp (ps_ret (pe_tup (pa_cons (pv i hN hv hd hcd) (pa_cons (pv j hN2 hv2 hd2 hcd2) pa_nil hs2) hs1))) fun D σ H=>?_
 rintro ⟨O₀,H₀,F,ts,O,ρ,T,fl,ρ',T',rs,e,q⟩
 unfold fRetO2 retO2K at e
 split at e
 ·rename_i x1 y1 h1 h2
  split at e
  ·cases e
  ·rename_i hij
   cases e
   obtain ⟨v1,k1,a,rfl,a2,a3,a4⟩:=rs.re i _ h1
   obtain ⟨v2,k2,b,rfl,b2,b3,b4⟩:=rs.re j _ h2
   have hab:a≠b:=fun z=>hij (rs.dist i j x1 y1 (.ref a) h1 h2 k1 (by rw [z]; exact k2))
   refine ⟨_,k1,_,k2,by show (2:Nat)≤sizeLine; decide,fun p hp=>?_⟩
   have nO:=rs.hc.fresh hp
   have np:∀ {c:Addr},O c→c≠p:=fun hc z=>nO (z ▸ hc)
   obtain ⟨c1,le1⟩:=rs.keep (A:=fun c=>c=a∨c=b) (fun c hc=>by rcases hc with rfl | rfl <;> assumption)
   have s2:SameX ts H (upd H p (.tup [.ref a,.ref b])):=.new hp _
   have le2:=c1.leNew hp (.tup [.ref a,.ref b])
   refine q (fun c=>c=a∨c=b) (.ref p) _ (rs.same.trans s2) (fun c hc=>?_) (c1.new hp _) ⟨p,a,b,rfl,hab,fun c=>Iff.rfl,c1.fresh hp,upd_same,?_,?_⟩
   ·rcases hc with rfl | rfl
    ·exact rs.fresh i x1 _ h1 k1
    ·exact rs.fresh j y1 _ h2 k2
   ·exact a4.mono (fun o h=>by rw [upd_ne (np a2)]; exact h) (le1.trans le2)
   ·exact b4.mono (fun o h=>by rw [upd_ne (np b2)]; exact h) (le1.trans le2)
 ·cases e
end
noncomputable def fnEndO (o:Option ((Fl×Rho)×Tp)):Option (PyData×Tp):=bnd o fun p T=>match p with
 | (.ro x,_)=>some (x,T)
 | _=>none
noncomputable def mkFnO (N:Nat) (f:FS):FnM:=fun ws T=>if noLoc ws=true then fnEndO (f (ws.map some++List.replicate (N - ws.length) none) T) else none
inductive SpOP (K:PySem.W.Frag) (n:Nat) (m:FnM) (vs:List V) (H:Hp) (Q:VK):Prop where
 | mk (O:Addr→Prop) (ts:List Addr) (T:Tp) (ws:List W) (x:PyData) (T':Tp) (hc:HC K O ts H T) (r:RepWs K O ts H vs ws) (hl:ws.length=n) (e:m ws T=some (x,T'))
  (q:∀ (A:Addr→Prop) v H',SameX ts H H'→(∀ b,A b→H b=none∧¬ O b)→HC K (fun b=>O b∨A b) ts H' T'→OwnV K (fun b=>O b∨A b) A H' v x→Q v H'):SpOP K n m vs H Q
noncomputable def spO (K:PySem.W.Frag) (n:Nat) (m:FnM):Sp:=fun vs H Q _=>SpOP K n m vs H Q
theorem dfnO {P:Program} {w:World} {K:PySem.W.Frag} {mg:Str→Option Value} {base:Heap} {x qual:Str} {st:Stmt} {f:Addr} {fd:FuncData} {N ps:List Str} {k:Nat} {m:FS} (F:Fun K x qual st f fd) (S:FnScope N ps (defScope st))
  (hbody:∀ (cdv:Value) (A:Around) (outer:List Env) (s:Shared) (H:Hp) (E:XK),Room k (A.deeper (envOfC qual (defScope st) s.heap.objs.size f cdv))→DSs (cxOf CX0 P w K mg base N qual (defScope st) f cdv A outer s H E).nox (defBody st) m) :
  FnOk P w K mg base CX0 (k + 1) f fd ps (spO K ps.length (mkFnO N.length m)):=by
 refine F.ok S (fun vs H Q E h=>?_) (fun cdv A outer s H vs Q E hr h=>⟨_,(hbody cdv A outer s H E hr).pe,?_⟩)
 ·obtain ⟨O,ts,T,ws,x,T',hc,rw',hl,_⟩:=h
  rw [← hl]
  exact Paired.length rw'
 obtain ⟨O,ts,T,ws,x,T',hc,rw',hl,e,q⟩:=h
 unfold mkFnO at e
 split at e
 ·rename_i hn
  obtain ⟨⟨fl,ρ'⟩,T1,e1,e⟩:=bnd_of e
  have hlen:vs.length=ws.length:=Paired.length rw'
  have noL:∀ {i:Nat} {xs:PyData},(ws.map some++List.replicate (N.length - ws.length) none)[i]? = some (some (W.loc xs))→False:=fun {i xs} e=>noLoc_mem hn (List.mem_of_getElem? (start_get e))
  refine ⟨O,H,[],ts,O,_,T,fl,ρ',T1,⟨hc,fun i u e=>?_,fun _ h=>h,hc.own,.refl _ _,fun i xs a e1 _=>(noL e1).elim,fun i j xs ys v e1 _ _ _=>(noL e1).elim,fun f hf=>absurd hf (by simp),by simp [L2.start,hlen]⟩,e1,?_⟩
  ·obtain ⟨v,h1,h2⟩:=repws_get rw' (start_get e)
   refine ⟨v,?_,h2⟩
   unfold L2.start
   have hi:i < vs.length:=(List.getElem?_eq_some_iff.mp h1).1
   rw [List.getElem?_append_left (by simpa using hi),List.getElem?_map,h1]
   rfl
  ·cases fl with
   | ro y=>cases e; exact q
   | _=>cases e
 ·cases e
section
variable {X:Cx} {pos:Pos}
end
end D
namespace D
open PySem PySem.Spec PyProof.Rows L2
section
variable {X:Cx}
noncomputable abbrev FP:=Rho→Tp→Option (List (Str×PyData)×Tp)
noncomputable def dctOf (l:List (Str×PyData)):List (PyData×PyData):=l.map fun p=>(.str p.1,p.2)
noncomputable def keyS (p:Str×V):Key×V:=(Sum.inr p.1,p.2)
structure DP (X:Cx) (pos:Pos) (keys:List (Option Expr)) (values:List Expr) (g:FP):Prop where
 ex:∃ trs,PPs X pos keys values trs∧∀ (σ:L2.St) (H:Hp) (Q:List (V×V)→Hp→Prop) (O:Addr→Prop) (ts:List Addr) (ρ:Rho) (T:Tp) (l:List (Str×PyData)) (T':Tp),HC X.K O ts H T→RelE X.K O ts H σ ρ→g ρ T=some (l,T') →
  (∀ (kvs:List (Str×V)) (H':Hp),SameX ts H H'→HC X.K O ts H' T'→kvs.map (·.1)=l.map (·.1)→RepK X.K O H' (kvs.map keyS) (dctOf l)→Q (kvs.map fun p=>(V.str p.1,p.2)) H')→tPairs trs σ H Q
theorem mergeK_nd:∀ (l acc:List (Str×V)),(acc.map (·.1)++l.map (·.1)).Nodup→mergeK (acc.map keyS) (l.map keyS)=(acc++l).map keyS
 | [],acc,_=>by simp [mergeK]
 | p::l,acc,h=>by
  have h1:putK (acc.map keyS) (Sum.inr p.1:Key) p.2=(acc++[p]).map keyS:=by
   unfold putK
   rw [if_neg]
   ·rw [List.map_append]
    rfl
   ·intro hc
    obtain ⟨kv,m,e⟩:=List.any_eq_true.mp hc
    obtain ⟨q,m2,rfl⟩:=List.mem_map.mp m
    have e':q.1=p.1:=Sum.inr.inj (of_decide_eq_true e)
    have:=(List.nodup_append.mp h).2.2 q.1 (List.mem_map.mpr ⟨q,m2,rfl⟩) p.1 (by simp)
    exact this e'
  have:=mergeK_nd l (acc++[p]) (by simpa using h)
  have e:mergeK (acc.map keyS) ((p::l).map keyS)=mergeK (putK (acc.map keyS) (Sum.inr p.1:Key) p.2) (l.map keyS):=rfl
  rw [e,h1,this]
  simp
end
end D
namespace D
open PySem PySem.Spec PyProof.Rows L2
noncomputable def setOK (i:Nat) (ρ:Rho) (x:PyData) (T:Tp):Option ((Fl×Rho)×Tp):=match x with
 | .list xs=>some ((.nx,ρ.set i (some (.loc (.list xs)))),T)
 | .dict ds=>some ((.nx,ρ.set i (some (.loc (.dict ds)))),T)
 | _=>none
noncomputable def fSetO (i:Nat) (m:FnM) (g:FA):FS:=fun ρ T=>bnd (g ρ T) fun ws T1=>bnd (m ws T1) (setOK i ρ)
theorem setOK_of {i:Nat} {ρ ρ':Rho} {x:PyData} {T T':Tp} {fl:Fl} (h:setOK i ρ x T=some ((fl,ρ'),T')):(∀ K O A H v,OwnV K O A H v x→∃ a,v=.ref a∧(∀ c,A c↔c=a)∧OwnAt K O H a x)∧fl=.nx∧ρ'=ρ.set i (some (.loc x))∧T'=T:=by
 cases x with
 | list xs=>cases h; exact ⟨fun _ _ _ _ _ h=>h,rfl,rfl,rfl⟩
 | dict ds=>cases h; exact ⟨fun _ _ _ _ _ h=>h,rfl,rfl,rfl⟩
 | _=>cases h
section
variable {X:Cx} {pos:Pos}
theorem ds_setO {i:Nat} {name x:Str} {ps:List Str} {kk:Nat} {m:FnM} {e:Expr} {es:List Expr} {g:FA} {p cpos pos':Pos} (F:Fn X.prog X.w X.K X.mg X.base name ps kk (spO X.K ps.length m)) (hr:Room kk X.A) (hg:Gl X name) (hN:X.N.Nodup) (ha:DA X (e::es) g) (hl:LenA g ps.length) (hdb:(name == ("__debug__" : Str))=false:=by decide)
  (he:starEach (e::es) X.env=(false,eval e X.env)::starEach es X.env:=by exact star_cons rfl) (hpl:(backTo cpos (starEach es X.env)).any (·.1)=false:=by exact star_any rfl) (hi:X.N[i]? = some x:=by rfl) (hx:Loc X.env.scope x:=by first | exact Or.inl rfl | exact Or.inr rfl)
  (hs:swapsWith (.Call (.Name name p) (e::es) [] cpos) (some (.Name x pos')) pos.line X.env=pure false:=by rfl) (hf:X.fn x=true∨X.env.scope.names.lookup x=some .local:=by first | exact .inl rfl | exact .inr rfl | assumption) :
  DS X (.Assign [.Name x pos'] (.Call (.Name name p) (e::es) [] cpos) pos) (fSetO i m g):=by
 refine ⟨?_⟩
 refine ps_imp (ps_set hN hi hx (pe_fn F hr hg ha.pe hdb he hpl) hs hf) fun D σ H=>?_
 rintro ⟨O₀,H₀,F,ts,O,ρ,T,fl,ρ',T',rs,e,q⟩
 obtain ⟨ws,T1,e1,e⟩:=bnd_of e
 obtain ⟨x0,T2,e2,e⟩:=bnd_of e
 obtain ⟨ow,rfl,rfl,rfl⟩:=setOK_of e
 refine ⟨O,ts,ρ,T,ws,T1,rs.hc,rs.re,e1,fun vs H1 s1 hc1 r1=>?_⟩
 have rs1:=rs.step s1 hc1
 refine ⟨O,ts,T1,ws,_,_,hc1,by rw [List.append_nil]; exact r1,hl _ _ _ _ e1,e2,fun A v H2 s2 hA hc2 ov=>?_⟩
 obtain ⟨a,rfl,hAA,oa⟩:=ow _ _ _ _ _ ov
 have rs2:=rs1.widen s2 hA hc2
 have hAa:=hA a ((hAA a).mpr rfl)
 have nta:a∉ts:=fun z=>hAa.2 (hc1.own a z)
 have h0:H₀ a=none:=by
  cases z:H₀ a with
  | none=>rfl
  | some o=>have:=rs1.same a o nta z; rw [hAa.1] at this; cases this
 exact q _ _ _ (rs2.hold (i:=i) (.inr ((hAA a).mpr rfl)) nta ⟨h0,fun z=>hAa.2 (rs1.sub a z)⟩ (fun j ys q1 q2=>by
  obtain ⟨v,h1,b,ea,h2,h3,h4⟩:=rs1.re j _ q1
  rw [q2] at h1
  cases h1
  cases ea
  obtain ⟨o',h5⟩:=h4.some
  rw [hAa.1] at h5
  cases h5) oa)
theorem mt_clearD:MtM X "dict.clear" (fun x vs H Q=>∃ (a:Addr) (kvs:List (Key×V)),x=.ref a∧vs=[]∧H a=some (.dK kvs)∧Q .non (upd H a (.dK []))):=by
 intro pins s σ H x vs v us Q I rx rv h
 obtain ⟨a,kvs,rfl,rfl,hA,q⟩:=h
 cases rx
 have hus:=rv.zero
 subst hus
 obtain ⟨za,hda,va,ra,da⟩:=dk_of I.hok hA
 refine call_meetsIn PySem.F.slot_dict_clear da.typeIs PySem.F.entry_dict_clear (PySem.F.args_dict_clear_1 _) (meets_dict_clear (mixKind X.prog X.w) a) ⟨va,da,by rw [← ra.length]; exact za,fun h' d1 hs=>?_⟩
 have he:∃ q,h'.get? a=some q:=let ⟨q,_,_,hq,_⟩:=d1; ⟨q,hq⟩
 exact ⟨.non,_,d_write I (by rw [hA]; exact True.intro) hs he (dk_new (kvs:=[]) (by simp) hda .nil d1),rfl,q⟩
end
end D
namespace D
open PySem PySem.Spec PyProof.Rows L2
noncomputable def openOK (i:Nat) (fr:FS) (ρ:Rho) (x:PyData) (T:Tp):Option ((Fl×Rho)×Tp):=match x with
 | .list xs=>openEnd T.length (fr (ρ.set i (some (.tp T.length))) (T++[xs]))
 | _=>none
noncomputable def fOpenO (i:Nat) (m:FnM) (g:FA) (fr:FS):FS:=fun ρ T=>bnd (g ρ T) fun ws T1=>bnd (m ws T1) (openOK i fr ρ)
theorem openOK_of {i:Nat} {fr:FS} {ρ:Rho} {x:PyData} {T:Tp} {r:(Fl×Rho)×Tp} (h:openOK i fr ρ x T=some r):∃ xs,x=.list xs∧openEnd T.length (fr (ρ.set i (some (.tp T.length))) (T++[xs]))=some r:=by
 cases x with
 | list xs=>exact ⟨xs,rfl,h⟩
 | _=>cases h
section
variable {X:Cx} {pos:Pos} {rest:List Stmt} {fr:FS}
theorem dss_openO {i:Nat} {name x:Str} {ps:List Str} {kk:Nat} {m:FnM} {e:Expr} {es:List Expr} {g:FA} {p cpos pos':Pos} (F:Fn X.prog X.w X.K X.mg X.base name ps kk (spO X.K ps.length m)) (hr:Room kk X.A) (hg:Gl X name) (hN:X.N.Nodup) (ha:DA X (e::es) g) (hl:LenA g ps.length) (hrest:DSs X rest fr) (hdb:(name == ("__debug__" : Str))=false:=by decide)
  (he:starEach (e::es) X.env=(false,eval e X.env)::starEach es X.env:=by exact star_cons rfl) (hpl:(backTo cpos (starEach es X.env)).any (·.1)=false:=by exact star_any rfl) (hi:X.N[i]? = some x:=by rfl) (hx:Loc X.env.scope x:=by first | exact Or.inl rfl | exact Or.inr rfl)
  (hs:swapsWith (.Call (.Name name p) (e::es) [] cpos) (some (.Name x pos')) pos.line X.env=pure false:=by rfl) (hf:X.fn x=true∨X.env.scope.names.lookup x=some .local:=by first | exact .inl rfl | exact .inr rfl | assumption) :
  DSs X (.Assign [.Name x pos'] (.Call (.Name name p) (e::es) [] cpos) pos::rest) (fOpenO i m g fr):=by
 refine ⟨?_⟩
 refine pss_imp (pss_cons (ps_set hN hi hx (pe_fn F hr hg ha.pe hdb he hpl) hs hf) hrest.pe) fun D σ H=>?_
 rintro ⟨O₀,H₀,F,ts,O,ρ,T,fl,ρ',T',rs,e,q⟩
 obtain ⟨ws,T1,e1,e⟩:=bnd_of e
 obtain ⟨x0,T2,e2,e⟩:=bnd_of e
 obtain ⟨xs,rfl,e⟩:=openOK_of e
 refine ⟨O,ts,ρ,T,ws,T1,rs.hc,rs.re,e1,fun vs H1 s1 hc1 r1=>?_⟩
 have rs1:=rs.step s1 hc1
 refine ⟨O,ts,T1,ws,_,_,hc1,by rw [List.append_nil]; exact r1,hl _ _ _ _ e1,e2,fun A v H2 s2 hA hc2 ov=>?_⟩
 obtain ⟨a,rfl,hAA,us,k1,k2⟩:=ov
 have hAa:=hA a ((hAA a).mpr rfl)
 have nta:a∉ts:=fun z=>hAa.2 (hc1.own a z)
 let H3:Hp:=fun b=>if b=a then none else H2 b
 have h3:∀ {b:Addr},b≠a→H3 b=H2 b:=fun n=>if_neg n
 have ha3:H3 a=none:=if_pos rfl
 have eH:upd H3 a (.lst us)=H2:=funext fun b=>by
  by_cases z:b=a
  ·subst z; rw [upd_same]; exact k1.symm
  ·rw [upd_ne z]; exact h3 z
 have le:Le (fun b=>O b∨A b) H2 O H3:=fun b o n z=>⟨fun y=>n (.inl y),by rw [h3 (show b≠a from fun y=>n (.inr ((hAA b).mpr y)))]; exact z⟩
 have s3:SameX ts H1 H3:=fun b o n z=>by
  have nb:b≠a:=fun y=>by rw [y,hAa.1] at z; cases z
  rw [h3 nb]
  exact s2 b o n z
 have c3:HC X.K O ts H3 T2:=⟨hc1.own,fun b hb=>by
   have nb:b≠a:=fun y=>hAa.2 (y ▸ hb)
   rw [h3 nb]
   exact hc2.trk b (.inl hb),hc2.nd,hc2.len,fun j b ys q1 q2=>(hc2.tape j b ys q1 q2).mono (fun o h=>by rw [h3 (show b≠a from fun y=>nta (by rw [← y]; exact List.mem_of_getElem? q1))]; exact h) le⟩
 have:=open_ok (X:=X) (rs1.step s3 c3) ha3 (k2.mono le) e q
 rw [eH] at this
 exact this
end
end D
namespace D
open PySem PySem.Spec PyProof.Rows L2
noncomputable def retOLK (ρ:Rho) (o:Option (List PyData)) (T:Tp):Option ((Fl×Rho)×Tp):=match o with
 | some xs=>if xs.length≤1000 then some ((.ro (.list xs),ρ),T) else none
 | none=>none
noncomputable def fRetOL (g:FA):FS:=fun ρ T=>bnd (g ρ T) fun ws T1=>retOLK ρ (datas ws) T1
section
variable {X:Cx} {pos:Pos}
theorem ds_retOL {es:List Expr} {g:FA} {lpos:Pos} (ha:DA X es g):DS X (.Return (some (.List es lpos)) pos) (fRetOL g):=by
 refine ⟨?_⟩
 refine ps_imp (ps_ret (pe_lst ha.pe)) fun D σ H=>?_
 rintro ⟨O₀,H₀,F,ts,O,ρ,T,fl,ρ',T',rs,e,q⟩
 obtain ⟨ws,T1,e1,e⟩:=bnd_of e
 refine ⟨O,ts,ρ,T,ws,T1,rs.hc,rs.re,e1,fun vs H1 s1 hc1 r1=>?_⟩
 have rs1:=rs.step s1 hc1
 unfold retOLK at e
 split at e
 ·rename_i xs h1
  split at e
  ·rename_i h2
   cases e
   have rv:=datas_of r1 h1
   refine ⟨le_line (by rw [rv.length]; exact h2),fun p hp=>?_⟩
   have nO:=rs1.hc.fresh hp
   have nt:p∉ts:=fun z=>nO (rs1.hc.own p z)
   have h0:H₀ p=none:=by
    cases z:H₀ p with
    | none=>rfl
    | some o=>rw [rs1.same p o nt z] at hp; cases hp
   have le:Le O H1 (fun b=>O₀ b∨b=p) (upd H1 p (.lst vs)):=fun b o n z=>by
    have nb:b≠p:=ne_of_none z hp
    exact ⟨fun y=>y.elim (fun y=>n (rs1.sub b y)) nb,by rw [upd_ne nb]; exact z⟩
   refine q (fun b=>b=p) (.ref p) _ (rs1.same.trans (.new hp _)) (fun b hb=>by rw [hb]; exact ⟨h0,fun z=>nO (rs1.sub p z)⟩) ⟨fun b hb=>.inl (rs1.ots b hb),fun b hb=>?_,rs1.hc.nd,rs1.hc.len,fun j b ys q1 q2=>?_⟩ ⟨p,rfl,fun c=>Iff.rfl,vs,upd_same,rv.mono le⟩
   ·by_cases z:b=p
    ·subst z; rw [upd_same]; exact .inl ⟨_,rfl⟩
    ·rw [upd_ne z]; exact rs1.hc.trk b (rs1.sub b (hb.resolve_right z))
   ·exact (rs1.hc.tape j b ys q1 q2).mono (fun o h=>by rw [upd_ne (ne_of_none h hp)]; exact h) le
  ·cases e
 ·cases e
end
end D
namespace D
open PySem PySem.Spec PyProof.Rows L2
theorem lk_list_keys:typeLookup (.type "list") "keys" = pure none:=am_miss_of_fast (by decide +kernel)
theorem lk_list_getattr:typeLookup (.type "list") "__getattr__" = pure none:=am_miss_of_fast (by decide +kernel)
theorem ga_list_keys {a:Addr} {u:Tok} {prog:Program} {w:World} {A:Around} {E:Value→Shared→Prop} {Q:Fin→Shared→Prop} {s:Shared} {its:Array Value} {n:Nat} {sl:Array (Option Value)} (ho:s.heap.get? a=some { cls:=.type "list",dict:=none,data:=.seq its n,slots:=sl }) (hh:A.handled=none)
  (h:∀ h' tk e,Heap.NewAttrErr s.heap h' e (.ref a) "keys"→E (.ref e) { s with heap:=h',toks:=tk }) :
  wpAny (model prog w) A (Builtin.«object.__getattribute__» ⟨[.ref a,.str "keys" u],[]⟩) Q E s:=by
 obtain ⟨hp,g,d,tk,os⟩:=s
 have hT:(⟨hp,g,d,tk,os⟩:Shared).TypeIs (.ref a) "list":=⟨_,ho,rfl⟩
 have f4:=lk_list_keys
 unfold Builtin.«object.__getattribute__»
 repeat (any_goals (first | assumption | wp_step))
 exact wpAny_raiseAttrError hh h (attrMsg_fits (by decide +kernel) (by decide +kernel))
theorem attr_list_keys {a:Addr} {prog:Program} {w:World} {A:Around} {E:Value→Shared→Prop} {Q:Option Value→Shared→Prop} {s:Shared} {its:Array Value} {n:Nat} {sl:Array (Option Value)} (ho:s.heap.get? a=some { cls:=.type "list",dict:=none,data:=.seq its n,slots:=sl }) (hh:A.handled=none)
  (h:∀ h' tk,(∀ b o,s.heap.get? b=some o→h'.get? b=some o)→Q none { s with heap:=h',toks:=tk }) :
  wpAny (model prog w) A (getAttr? (.ref a) "keys") Q E s:=by
 obtain ⟨hp,g,d,tk,os⟩:=s
 have hT:(⟨hp,g,d,tk,os⟩:Shared).TypeIs (.ref a) "list":=⟨_,ho,rfl⟩
 have f1:=sub_AttributeError
 have f3:=F.slot_list_getattribute.lookup
 have f4:=F.slot_list_getattribute.bind (.ref a)
 have f5:=lk_list_getattr
 unfold getAttr? getAttrBy?
 repeat (any_goals (first | assumption | wp_step))
 refine codeAny_call_builtin F.slot_list_getattribute.plain F.entry_list_ga (F.slot_list_getattribute.check _ _ _ _ _ _ _ _ (show (⟨hp,g,d,tk + 1,os⟩:Shared).TypeIs (.ref a) "list" from ⟨_,ho,rfl⟩) (F.args_list_getattribute_2 _ _) (ga_list_keys (s:=⟨hp,g,d,tk + 1,os⟩) ho hh fun h' tk' e hx=>?_))
 obtain ⟨t',u',he⟩:=hx.there
 show wpAny _ _ (getattributeRaised _ _ _ _ _ _ _) _ _ _
 unfold getattributeRaised
 repeat (any_goals (first | assumption | wp_step))
 exact h _ _ hx.keeps
end D
namespace D
open PySem PySem.Spec PyProof.Rows L2
theorem entry_upd_loop:entryFor table "dict.update.loop" = some Builtin.«dict.update.loop»:=entryFor_of_tree (by kernel_rfl)
section
set_option maxRecDepth 100000
variable {prog:Program} {w:World} {K:Type} [DecidableEq K] {knd:KeyKind prog w K} {A:Around} {E:Value→Shared→Prop} {s:Shared}
theorem upd_loop {d it l:Addr} {its:Array Value} {R:Result→Shared→Prop} (hh:A.handled=none) (kvs:List (K×Value)) (hd:d≠it) (hz:kvs.length≤sizeLine) {h0:Heap}
  (hlen:its.size=kvs.length) (hls:∀ h',(∀ b o,b≠d→b≠it→h0.get? b=some o→h'.get? b=some o)→h'.IsList l its∧∀ (i:Nat) (kv:K×Value),kvs[i]? = some kv→∃ T key,(its[i]?:Option Value)=some (Value.ref T)∧IsTup h' T #[key,kv.2]∧knd.is kv.1 key=true)
  (hR:∀ h' tk,h'.DictOf knd d (merged [] kvs)→(∀ b o,b≠d→b≠it→h0.get? b=some o→h'.get? b=some o)→R (.ok (.ret .none)) { s with heap:=h',toks:=tk }) :
  ∀ (n i:Nat) (j:Int) (tok:Tok) (h':Heap) (tk:Nat),i + n=kvs.length→(∀ b o,b≠d→b≠it→h0.get? b=some o→h'.get? b=some o)→h'.IsListIter it l i→h'.DictOf knd d (merged [] (kvs.take i)) →
   codeAny (model prog w) A (.builtin "dict.update.loop" ⟨[.ref d,.ref it,.int j tok,.none],[]⟩) R { s with heap:=h',toks:=tk }
 | 0,i,j,tok,h',tk,hi,hk,hit,hdd=>by
  refine codeAny_builtin entry_upd_loop ?_
  obtain ⟨hl,hT⟩:=hls h' hk
  unfold Builtin.«dict.update.loop»
  dsimp only
  refine wpAny_bind (wpAny_pyNext_list_end (s:={ s with heap:=h',toks:=tk }) hh hit hl (by rw [Array.getElem?_eq_none]; omega) fun h'' eb=>?_)
  dsimp only
  refine wpAny_bind ?_
  unfold Builtin.Dict.addKeywords
  refine wpAny_pure (wpAny_pure ?_)
  have e:kvs.take i=kvs:=List.take_of_length_le (by omega)
  rw [e] at hdd
  obtain ⟨o,es,ep,ho,r⟩:=hdd
  exact hR h'' tk ⟨o,es,ep,eb _ _ hd ho,r⟩ fun b ob b1 b2 q=>eb b ob b2 (hk b ob b1 b2 q)
 | n + 1,i,j,tok,h',tk,hi,hk,hit,hdd=>by
  refine codeAny_builtin entry_upd_loop ?_
  obtain ⟨hl,hT⟩:=hls h' hk
  have hlt:i < kvs.length:=by omega
  obtain ⟨T,key,e1,_,e3⟩:=hT i kvs[i] (List.getElem?_eq_getElem hlt)
  unfold Builtin.«dict.update.loop»
  dsimp only
  refine wpAny_bind (wpAny_pyNext_list_item (s:={ s with heap:=h',toks:=tk }) hit hl e1 fun h2 hit2 sb=>?_)
  have hk2:∀ b o,b≠d→b≠it→h0.get? b=some o→h2.get? b=some o:=fun b ob b1 b2 q=>(sb.2 b b2).trans (hk b ob b1 b2 q)
  obtain ⟨hl2,hT2⟩:=hls h2 hk2
  obtain ⟨T',key',e1',e2,e3⟩:=hT2 i kvs[i] (List.getElem?_eq_getElem hlt)
  rw [e1] at e1'
  cases e1'
  dsimp only
  refine wpAny_bind (wpAny_holding ?_)
  refine wpAny_bind (wpAny_tryCatch (wpAny_bind (wpAny_typeOf e2.typeIs ?_)))
  rw [if_pos (by decide)]
  obtain ⟨oT,hoT,cT,nT,dT⟩:=id e2
  refine wpAny_bind (m:=seqItems? (.ref T)) (wpAny_bind (wpAny_load (s:={ s with heap:=h2,toks:=tk }) hoT ?_))
  rw [dT]
  refine wpAny_pure (wpAny_pure ?_)
  dsimp only [Option.getD]
  have hmz:(merged [] (kvs.take i)).length≤sizeLine:=by
   have:=merged_length_le ([]:List (K×Value)) (kvs.take i)
   simp at this
   omega
  refine wpAny_holding (wpAny_dictSet_pairs (s:={ s with heap:=h2,toks:=tk }) e3 (hdd.sameBut sb hd) (fun h3 hd3 sb3=>?_) hmz)
  refine wpAny_pure ⟨Code.quiet_builtin _ (by decide +kernel),?_⟩
  rw [← merged_take_succ [] kvs i kvs[i] (List.getElem?_eq_getElem hlt)] at hd3
  exact upd_loop hh kvs hd hz hlen hls hR n (i + 1) _ _ h3 _ (by omega) (fun b ob b1 b2 q=>(sb3.2 b b1).trans (hk2 b ob b1 b2 q)) (hit2.extBut sb3.extBut (Ne.symm hd)) hd3
theorem call_dict_pairs {l:Addr} {its:Array Value} {n:Nat} {sl:Array (Option Value)} {Q:Value→Shared→Prop} (hh:A.handled=none) (kvs:List (K×Value)) (hz:kvs.length≤sizeLine) (hlen:its.size=kvs.length)
  (ho:s.heap.get? l=some { cls:=.type "list",dict:=none,data:=.seq its n,slots:=sl }) (hT:∀ (i:Nat) (kv:K×Value),kvs[i]? = some kv→∃ T key,(its[i]?:Option Value)=some (Value.ref T)∧IsTup s.heap T #[key,kv.2]∧knd.is kv.1 key=true)
  (h:∀ h' tk,h'.DictOf knd s.heap.objs.size (merged [] kvs)→(∀ b o,s.heap.get? b=some o→h'.get? b=some o)→Q (.ref s.heap.objs.size) { s with heap:=h',toks:=tk }) :
  wpAny (model prog w) A (call (.type "dict") [.ref l]) Q E s:=by
 refine callType_codes (Q₁:=fun obj s₁=>obj=.ref s.heap.objs.size∧s₁ = { s with heap:=s.heap.push { cls:=.type "dict",data:=.dict #[] } }) F.kt_called_dict (F.kt_typeCall_dict_1 _) F.entry_dict_init (kt_code_dict_new _ ⟨rfl,rfl⟩) ?_
 rintro obj s₁ ⟨rfl,rfl⟩
 have hnew:(s.heap.push { cls:=.type "dict",data:=.dict #[] }).DictOf knd s.heap.objs.size []:=Heap.DictOf.new s.heap
 have up:∀ b o,s.heap.get? b=some o→(s.heap.push { cls:=.type "dict",data:=.dict #[] }).get? b=some o:=fun b o e=>Heap.get?_push_of_some _ e
 refine ⟨hnew.typeIs,F.args_dict_init_2 _ _,?_⟩
 unfold Builtin.«dict.__init__»
 refine wpAny_bind ?_
 unfold Builtin.Dict.selfAndRest
 refine wpAny_bind (wpAny_notOrdered_dict hnew.typeIs ?_)
 show wpAny _ _ (pure (s.heap.objs.size,[Value.ref l])) _ _ _
 refine wpAny_pure ?_
 show wpAny _ _ (Builtin.Dict.updateFrom "dict.__init__" s.heap.objs.size (.ref l) [] .none) _ _ _
 unfold Builtin.Dict.updateFrom
 refine wpAny_bind (wpAny_typeOf (T:="list") ⟨_,up _ _ ho,rfl⟩ ?_)
 rw [if_pos (by decide)]
 refine wpAny_bind (attr_list_keys (up _ _ ho) hh fun h1 tk1 k1=>?_)
 simp only [Option.isNone_none,if_true]
 refine wpAny_bind (wpAny_rule ?_)
 have ho1:h1.get? l=some _:=k1 _ _ (up _ _ ho)
 refine wpAny_bind (wpAny_pyIter_list (s:={ s with heap:=h1,toks:=tk1 }) (items:=its) ⟨_,ho1,rfl,n,rfl⟩ ?_)
 refine wpAny_pure ⟨Code.quiet_builtin _ (by decide +kernel),?_⟩
 have hne:s.heap.objs.size≠h1.objs.size:=by
  obtain ⟨o,es,ep,q,_⟩:=hnew
  exact Nat.ne_of_lt (Heap.lt_size (k1 _ _ q))
 refine upd_loop (s:=s) (h0:=h1) (l:=l) (its:=its) (by simpa [Around.in1] using hh) kvs hne hz hlen (fun h' hk'=>⟨⟨_,hk' l _ ?_ ?_ ho1,rfl,n,rfl⟩,fun i kv e=>?_⟩) (fun h' tk hd hk'=>⟨rfl,h h' tk hd fun b o e=>hk' b o (Nat.ne_of_lt (Heap.lt_size e)) (Nat.ne_of_lt (Heap.lt_size (k1 _ _ (up _ _ e)))) (k1 b o (up b o e))⟩) kvs.length 0 _ _ _ _ (by omega) (fun b o _ _ e=>Heap.get?_push_of_some _ e) ?_ ?_
 ·exact Nat.ne_of_lt (Heap.lt_size ho)
 ·exact Nat.ne_of_lt (Heap.lt_size ho1)
 ·obtain ⟨T,key,e1,⟨oT,e2,r⟩,e3⟩:=hT i kv e
  exact ⟨T,key,e1,⟨oT,hk' T _ (Nat.ne_of_lt (Heap.lt_size e2)) (Nat.ne_of_lt (Heap.lt_size (k1 _ _ (up _ _ e2)))) (k1 _ _ (up _ _ e2)),r⟩,e3⟩
 ·exact ⟨_,Heap.get?_push_size _ rfl,rfl,rfl⟩
 ·obtain ⟨o,es,ep,q,r⟩:=hnew
  exact ⟨o,es,ep,Heap.get?_push_of_some _ (k1 _ _ q),r⟩
end
end D
namespace D
open PySem PySem.Spec PyProof.Rows L2
noncomputable def PrAt (K:PySem.W.Frag) (H:Hp) (v:V) (p:Str×V):Prop:=∃ t,v=.ref t∧SqT K H t [.str p.1,p.2]
section
variable {X:Cx}
theorem pairs_vals {pins:List (Addr×Obj)} {σ:L2.St} {H:Hp} {s:Shared} (I:Inv X pins σ H s):∀ {vs:List V} {kvs:List (Str×V)} {its:List Value},Paired (PrAt X.K H) vs kvs→Vals vs its →
  ∃ rs:List (Key×Value),KV (kvs.map keyS) rs∧rs.length=its.length∧∀ (i:Nat) (kv:Key×Value),rs[i]? = some kv→∃ T key,its[i]? = some (Value.ref T)∧IsTup s.heap T #[key,kv.2]∧(mixKind X.prog X.w).is kv.1 key=true
 | _,_,_,.nil,.nil=>⟨[],.nil,rfl,fun i kv e=>by simp at e⟩
 | _,p::_,u::_,.cons h t,.cons r q=>by
  obtain ⟨rs,k1,k2,k3⟩:=pairs_vals I t q
  obtain ⟨a,rfl,hs⟩:=h
  obtain ⟨its,rv,tp,_⟩:=I.tuple hs
  obtain ⟨u1,u2,rfl,r1,r2⟩:=vals2 rv
  cases (show u=Value.ref a from r)
  refine ⟨(Sum.inr p.1,u2)::rs,.cons ⟨rfl,r2⟩ k1,by simp [k2],fun i kv e=>?_⟩
  cases i with
  | zero=>
   simp at e
   subst e
   exact ⟨a,u1,rfl,tp,kV_is (k:=Sum.inr p.1) r1⟩
  | succ i=>
   simp at e
   obtain ⟨T,key,e1,e2,e3⟩:=k3 i kv e
   exact ⟨T,key,by simpa using e1,e2,e3⟩
theorem call_dictP (hcm:X.calm=true):CallR X (.type "dict") (fun xs H Q=>∃ (a:Addr) (vs:List V) (kvs:List (Str×V)),xs=[V.ref a]∧SqL X.K H a vs∧Paired (PrAt X.K H) vs kvs∧kvs.length≤sizeLine∧∀ p,H p=none→Q (.ref p) (upd H p (.dK (mergeK [] (kvs.map keyS))))):=by
 intro pins s σ H xs us Q I r h
 obtain ⟨a,vs,kvs,rfl,hs,hp,hz,q⟩:=h
 obtain ⟨u,rfl,ru⟩:=vals1 r
 cases ru
 obtain ⟨its,rv,pl,_⟩:=I.list hs
 obtain ⟨⟨cls,dd,data,sl⟩,n,e,c,d1,d2⟩:=pl
 simp only at c d1 d2
 subst c d1 d2
 obtain ⟨rs,k1,k2,k3⟩:=pairs_vals I hp rv
 have hl:(kvs.map keyS).length=rs.length:=k1.length
 rw [List.length_map] at hl
 refine call_dict_pairs (knd:=mixKind X.prog X.w) (I.ok.hd hcm) rs (by omega) (by simp [k2]) e (fun i kv ei=>by
  obtain ⟨T,key,e1,e2,e3⟩:=k3 i kv ei
  exact ⟨T,key,by simpa using e1,e2,e3⟩) fun h' tk dd' keep=>?_
 have hn:H s.heap.objs.size=none:=I.hok.fresh (Nat.le_refl _)
 have h1:=length_mergeK (kvs.map keyS) []
 rw [List.length_nil,List.length_map] at h1
 refine ⟨.ref s.heap.objs.size,_,I.laid (t':=tk) (o:=.dK (mergeK [] (kvs.map keyS))) keep (Nat.le_refl _) (dk_new (by omega) (beq_eq_false_iff_ne.mpr (Ne.symm (Nat.ne_of_lt I.big))) (k1.merge .nil) dd'),rfl,q _ hn⟩
noncomputable def pairD:PyData→Option (Str×PyData)
 | .tuple [.str k,x]=>some (k,x)
 | _=>none
noncomputable def pairsD:List PyData→Option (List (Str×PyData))
 | []=>some []
 | d::r=>match pairD d with
  | some p=>(match pairsD r with
   | some ps=>some (p::ps)
   | none=>none)
  | none=>none
theorem pairD_of {d:PyData} {p:Str×PyData} (h:pairD d=some p):d=.tuple [.str p.1,p.2]:=by
 unfold pairD at h
 split at h
 ·cases h; rfl
 ·cases h
theorem pairs_of {K:PySem.W.Frag} {O:Addr→Prop} {H:Hp}:∀ {vs:List V} {ds:List PyData} {ps:List (Str×PyData)},Reps K O H vs ds→pairsD ds=some ps→∃ kvs:List (Str×V),Paired (PrAt K H) vs kvs∧kvs.map (·.1)=ps.map (·.1)∧RepK K O H (kvs.map keyS) (dctOf ps)
 | _,_,_,.nil,e=>by cases e; exact ⟨[],.nil,rfl,.nil⟩
 | _,_,ps,.cons (d:=d) r t,e=>by
  unfold pairsD at e
  split at e
  ·rename_i p hp
   split at e
   ·rename_i q hq
    cases e
    obtain ⟨kvs,h1,h2,h3⟩:=pairs_of t hq
    rw [pairD_of hp] at r
    cases r with
    | @tup a _ _ tt rr=>
     cases rr with
     | cons ra rr=>
      cases rr with
      | @cons v _ _ _ rb rr=>
       cases rr
       cases ra
       exact ⟨(p.1,v)::kvs,.cons ⟨a,rfl,tt.sq⟩ h1,by simp [h2],.cons (k:=Sum.inr p.1) rb h3⟩
   ·cases e
  ·cases e
noncomputable def okP2 (l:List (Str×PyData)):Bool:=decide ((l.map (·.1)).Nodup) && decide (l.length≤1000)
end
end D
namespace D
open PySem PySem.Spec PyProof.Rows L2
section
set_option maxRecDepth 100000
variable {prog:Program} {w:World} {A:Around} {E:Value→Shared→Prop} {s:Shared}
end
section
set_option maxRecDepth 100000
variable {X:Cx}
end
end D
namespace D
open PySem PySem.Spec PyProof.Rows L2
section
variable {X:Cx}
end
end D
namespace D
open PySem PySem.Spec PyProof.Rows L2
section
set_option maxRecDepth 100000
variable {X:Cx}
end
end D
namespace XE
open PySem PySem.Spec PyProof.Rows L2
noncomputable abbrev vE:List Value:=[.type "ValueError",.type "Exception",.type "BaseException",.type "object"]
noncomputable def XCl (K:PySem.W.Frag) (C:Addr) (tl:List Value):Prop:=
 ∃ nm q N bs sn sub ab col dd k0 k1 k2 k3 k5,K.lookup C=some (excClassObj nm q C N bs tl true sn sub ab col dd k0 k1 k2 k3 k5 "ValueError.__new__")∧PySem.W.nsOkIn K N=true
section
variable {prog:Program} {w:World} {A:Around} {E:Value→Shared→Prop} {h:Heap} {g:Array GenState} {d:Drawn} {t:Nat} {os:OsState} {K:PySem.W.Frag} {C R fI:Addr}
end
end XE
namespace XE
open PySem PySem.Spec PyProof.Rows L2
noncomputable def XAt (e C:Addr) (od:Option Addr):Heap→Prop:=fun h=>∃ t,h.get? e=some { cls:=.ref C,dict:=od,data:=.fields #[.ref t,.none,.none,.none,.bool false,.none] }
theorem XAt.stay {e C:Addr} {od:Option Addr} {h1 h2:Heap} (x:XAt e C od h1) (k:∀ o,h1.get? e=some o→h2.get? e=some o):XAt e C od h2:=let ⟨t,y⟩:=x; ⟨t,k _ y⟩
theorem XAt.ok {P:Program} {w:World} {H:Hp} {e C:Addr} {od:Option Addr} {h:Heap} (x:XAt e C od h):ObjOk P w H h e (.ext (XAt e C od)):=⟨x,let ⟨_,y⟩:=x; ⟨_,y⟩,fun _ _ a k=>a.stay k⟩
theorem XAt.of {P:Program} {w:World} {H:Hp} {e C:Addr} {od:Option Addr} {h:Heap} (ok:HOk P w H h) (x:H e=some (.ext (XAt e C od))):XAt e C od h:=(ok _ _ x).1
section
variable {X:Cx} {C R:Addr}
end
section
open Builtin Builtin.ObjectAttr
variable {prog:Program} {w:World} {A:Around} {E:Value→Shared→Prop} {h:Heap} {g:Array GenState} {d:Drawn} {t:Nat} {os:OsState} {K:PySem.W.Frag} {C R e:Addr} {name:Str} {v:Value} {vs:Array Value}
end
end XE
namespace XE
open PySem PySem.Spec PyProof.Rows L2
section
variable {X:Cx} {C R:Addr}
end
end XE
namespace XE
open PySem PySem.Spec PyProof.Rows L2
noncomputable def spI (C:Addr) (f:Str):Sp:=fun vs H Q _=>∃ a x,vs=[.ref a,.str x]∧H a=some (.ext (XAt a C none))∧(reprText x).length + 1000≤sizeLine ∧
 ∀ dx,H dx=none→dx≠a→Q .non (upd (upd H dx (.xd [(f,.str x)])) a (.ext (XAt a C (some dx))))
structure XIni (P:Program) (w:World) (K:PySem.W.Frag) (mg:Str→Option Value) (base:Heap) (C R:Addr) (f:Str) (k:Nat):Prop where
 ex:∃ fI fd ps,FnOk P w K mg base CX0 k fI fd ps (spI C f)∧Binds K fd ps []∧PySem.W.findIn K (.ref C) "__init__" = some (some (.ref fI))∧PySem.W.isFn K (.ref fI)=true
 c:XCl K C (.ref R::vE)
 r:XCl K R vE
 ri:PySem.W.ownIn K "__init__" (.ref R)=some none
 kp:PySem.W.keepIn K (.ref C)=true
section
variable {X:Cx} {C R:Addr} {f:Str} {k:Nat}
end
end XE
namespace XE
open PySem PySem.Spec PyProof.Rows L2
structure Kp (xs fs:List Addr) (h h':Heap):Prop where
 keep:∀ b o,h.get? b=some o→b∉xs→b∉fs→h'.get? b=some o
 slot:∀ b o,h.get? b=some o→b∉xs→b∈fs→∃ sl,h'.get? b=some { o with slots:=sl }
 there:∀ b o,h.get? b=some o→∃ o',h'.get? b=some o'
theorem Kp.trans {xs fs:List Addr} {h h1 h2:Heap} (a:Kp xs fs h h1) (b:Kp xs fs h1 h2):Kp xs fs h h2 where
 keep:=fun c o q n m=>b.keep c o (a.keep c o q n m) n m
 slot:=fun c o q n m=>let ⟨_,e⟩:=a.slot c o q n m; let ⟨sl,e2⟩:=b.slot c _ e n m; ⟨sl,e2⟩
 there:=fun c o q=>let ⟨_,e⟩:=a.there c o q; b.there c _ e
theorem Kp.more {xs ys fs:List Addr} {h h':Heap} (a:Kp xs fs h h') (k:∀ x∈xs,x∈ys):Kp ys fs h h':=
 ⟨fun b o q n m=>a.keep b o q (fun z=>n (k b z)) m,fun b o q n m=>a.slot b o q (fun z=>n (k b z)) m,a.there⟩
theorem Kp.less {xs ys fs:List Addr} {h h1 h2:Heap} (k:∀ b o,h.get? b=some o→h1.get? b=some o) (a:Kp xs fs h1 h2) (n:∀ x∈xs,x∈ys∨h.get? x=none):Kp ys fs h h2:=by
 have ne:∀ b o,h.get? b=some o→b∉ys→b∉xs:=fun b o q m z=>by
  rcases n b z with z | z
  ·exact m z
  ·rw [q] at z; cases z
 exact ⟨fun b o q m1 m2=>a.keep b o (k b o q) (ne b o q m1) m2,fun b o q m1 m2=>a.slot b o (k b o q) (ne b o q m1) m2,fun b o q=>a.there b o (k b o q)⟩
section
variable {M:Model} {A:Around} {E:Value→Shared→Prop} {s:Shared} {base:Heap} {env:Env} {outer:List Env} {L e C dx T:Addr}
end
end XE
namespace XE
open PySem PySem.Spec PyProof.Rows L2
section
variable {P:Program} {w:World} {K:PySem.W.Frag} {mg:Str→Option Value} {base:Heap} {N:List Str} {qual:Str} {scope:Scope} {f C R:Addr} {cdv:Value} {A:Around} {outer:List Env} {s0:Shared} {H0:Hp} {E:XK}
end
end XE
namespace XE
open PySem PySem.Spec PyProof.Rows L2
section
variable {X:Cx} {pins:List (Addr×Obj)} {σ:L2.St} {H:Hp} {s:Shared}
end
end XE
namespace XE
open PySem PySem.Spec PyProof.Rows L2
section
variable {X:Cx} {C R fa:Addr} {k:Nat} {fd:FuncData} {ps:List Str} {sp:Sp}
end
end XE
namespace XE
open PySem PySem.Spec PyProof.Rows L2
section
variable {prog:Program} {w:World} {A:Around} {E:Value→Shared→Prop} {h:Heap} {g:Array GenState} {d:Drawn} {t:Nat} {os:OsState} {K:PySem.W.Frag} {C R x:Addr} {ox:Obj} {od:Option Obj} {name:Str}
structure XIs (K:PySem.W.Frag) (C:Addr):Prop where
 bm:PySem.W.mroIn K C (.type "BaseException")=some true
 gt:PySem.W.findIn K (.ref C) "__getattr__" = some none
 ga:PySem.W.findIn K (.ref C) "__getattribute__" = some (some (.builtin "BaseException.__getattribute__"))
 hc:(PySem.W.clsIn K C).isSome=true
 ca:PySem.W.findIn K (.ref C) "__class__" = some (some (.builtin "object.__class__"))
 hn:PySem.W.specialIn K (.builtin "object.__class__") "__get__" = some (some (.builtin "getset_descriptor.__get__"))
 tk:PySem.W.takesIn K (.builtin "object.__class__")=some true
 hm:PySem.W.mroIn K C (.type "object")=some true
end
end XE
namespace XE
open PySem PySem.Spec PyProof.Rows L2
section
variable {X:Cx} {C e dx:Addr} {oe:Obj}
structure Cau (X:Cx) (C e dx:Addr) (oe:Obj):Prop where
 pin:(e,oe)∈X.pn
 cls:oe.cls=.ref C
 dict:oe.dict=some dx
 data:∃ vs,oe.data=.fields vs
 is:XIs X.K C
 hd:PySem.W.hasDictIn X.K C=true
end
end XE
namespace XE
open PySem PySem.Spec PyProof.Rows L2 D
structure XB (K:PySem.W.Frag) (C R:Addr) (f:Str) (Ds:List Addr):Prop where
 c:XCl K C (.ref R::vE)
 r:XCl K R vE
 ri:PySem.W.ownIn K "__init__" (.ref R)=some none
 kp:PySem.W.keepIn K (.ref C)=true
 is:XIs K C
 hd:PySem.W.hasDictIn K C=true
 nn:PySem.W.findIn K (.ref C) f=some none
 sa:PySem.W.findIn K (.ref C) "__setattr__" = some (some (.builtin "object.__setattr__"))
 rd:PySem.W.readsIn K R (.type "type")=true
 fc:PySem.W.findCls K (.ref R) (.type "type") "__init__" = some (.val (.builtin "ValueError.__init__"))
 kC:PySem.W.kitOne K (.ref C) (.ref C)=some true
 kV:PySem.W.kitOne K (.ref C) (.type "ValueError")=some true
 kD:PySem.W.kitAny K (.ref C) (Ds.map Value.ref)=some false
end XE
namespace XE
open PySem PySem.Spec PyProof.Rows L2
section
variable {X:Cx} {C R:Addr}
end
end XE
namespace XE
open PySem PySem.Spec PyProof.Rows L2 D
noncomputable def spG (P:V→Prop) (C:Addr) (f:Str):Sp:=fun vs H Q _=>∃ a v,vs=[.ref a,v]∧H a=some (.ext (XAt a C none))∧P v ∧
 ∀ dx,H dx=none→dx≠a→Q .non (upd (upd H dx (.xd [(f,v)])) a (.ext (XAt a C (some dx))))
structure XIniG (A:V→Prop) (P:Program) (w:World) (K:PySem.W.Frag) (mg:Str→Option Value) (base:Heap) (C R:Addr) (f:Str) (k:Nat):Prop where
 ex:∃ fI fd ps,FnOk P w K mg base CX0 k fI fd ps (spG A C f)∧Binds K fd ps []∧PySem.W.findIn K (.ref C) "__init__" = some (some (.ref fI))∧PySem.W.isFn K (.ref fI)=true
 c:XCl K C (.ref R::vE)
 r:XCl K R vE
 ri:PySem.W.ownIn K "__init__" (.ref R)=some none
 kp:PySem.W.keepIn K (.ref C)=true
section
variable {X:Cx} {C R:Addr} {f:Str} {k:Nat}
end
end XE
namespace XE
open PySem PySem.Spec PyProof.Rows L2 D
end XE
namespace D
open PySem PySem.Spec PyProof.Rows L2
noncomputable def closeC (n:Nat) (o:Option (PyData×Tp)):Option (W×Tp):=match o with
 | some (y,T)=>if T.length=n + 1 then some (.d y,T.take n) else none
 | none=>none
noncomputable def openCE (mf:FnM) (xs:List PyData) (ws:List W) (T:Tp):Option (W×Tp):=if noLoc ws=true then closeC T.length (mf (.tp T.length::ws) (T++[xs])) else none
noncomputable def openCK (mf:FnM) (g:FA) (ρ:Rho) (x:PyData) (T:Tp):Option (W×Tp):=match x with
 | .list xs=>bnd (g ρ T) (openCE mf xs)
 | _=>none
noncomputable def fOpenC (mf mh:FnM) (g1 g2:FA):FE:=fun ρ T=>bnd (g1 ρ T) fun ws T1=>bnd (mh ws T1) (openCK mf g2 ρ)
theorem openCK_of {mf:FnM} {g:FA} {ρ:Rho} {x:PyData} {T T':Tp} {w:W} (h:openCK mf g ρ x T=some (w,T')):∃ xs ws T3 y T5,x=.list xs∧g ρ T=some (ws,T3)∧noLoc ws=true∧mf (.tp T3.length::ws) (T3++[xs])=some (y,T5)∧T5.length=T3.length + 1∧w=.d y∧T'=T5.take T3.length:=by
 cases x with
 | list xs=>
  obtain ⟨ws,T3,e1,e⟩:=bnd_of (show bnd (g ρ T) (openCE mf xs)=_ from h)
  unfold openCE at e
  split at e
  ·rename_i hn
   unfold closeC at e
   split at e
   ·rename_i y T5 e2
    split at e
    ·rename_i hl
     cases e
     exact ⟨xs,ws,T3,y,T5,rfl,e1,hn,e2,hl,rfl,rfl⟩
    ·cases e
   ·cases e
  ·cases e
 | _=>cases h
section
variable {X:Cx}
theorem de_openC {fname hname:Str} {ps qs:List Str} {kf kh:Nat} {mf mh:FnM} {a:Expr} {as es:List Expr} {g1 g2:FA} {p p2 c2 cpos:Pos} (Ff:Fn X.prog X.w X.K X.mg X.base fname ps kf (spM X.K ps.length mf)) (Fh:Fn X.prog X.w X.K X.mg X.base hname qs kh (spO X.K qs.length mh)) (hrf:Room kf X.A) (hrh:Room kh X.A) (hgf:Gl X fname) (hgh:Gl X hname)
  (ha:DA X (a::as) g1) (hl1:LenA g1 qs.length) (he:DA X es g2) (hl2:LenA (fCons (fC .none) g2) ps.length) (hdf:(fname == ("__debug__" : Str))=false:=by decide) (hdh:(hname == ("__debug__" : Str))=false:=by decide)
  (hsh:starEach (a::as) X.env=(false,eval a X.env)::starEach as X.env:=by exact star_cons rfl) (hplh:(backTo c2 (starEach as X.env)).any (·.1)=false:=by exact star_any rfl)
  (hsf:starEach (.Call (.Name hname p2) (a::as) [] c2::es) X.env=(false,eval (.Call (.Name hname p2) (a::as) [] c2) X.env)::starEach es X.env:=by exact star_cons rfl) (hplf:(backTo cpos (starEach es X.env)).any (·.1)=false:=by exact star_any rfl) :
  DE X (.Call (.Name fname p) (.Call (.Name hname p2) (a::as) [] c2::es) [] cpos) (fOpenC mf mh g1 g2):=by
 refine ⟨?_⟩
 refine pe_imp (pe_fn Ff hrf hgf (pa_cons (pe_fn Fh hrh hgh ha.pe hdh hsh hplh) he.pe hsf) hdf hsf hplf) fun σ H Q=>?_
 rintro ⟨O,ts,ρ,T,w,T',hc,re,e,q⟩
 obtain ⟨ws,T1,e1,e⟩:=bnd_of e
 obtain ⟨x,T2,e2,e⟩:=bnd_of e
 obtain ⟨xs,ws2,T3,y,T5,rfl,e3,hno,e4,hlen,rfl,rfl⟩:=openCK_of e
 refine ⟨O,ts,ρ,T,ws,T1,hc,re,e1,fun vs H1 s1 hc1 r1=>?_⟩
 refine ⟨O,ts,T1,ws,_,_,hc1,by rw [List.append_nil]; exact r1,hl1 _ _ _ _ e1,e2,fun A v H2 s2 hA hc2 ov=>?_⟩
 obtain ⟨b,rfl,hAA,us,k1,k2⟩:=ov
 have hAb:=hA b ((hAA b).mpr rfl)
 have ntb:b∉ts:=fun z=>hAb.2 (hc1.own b z)
 have le2:Le O H1 (fun c=>O c∨A c) H2:=fun c o n z=>⟨fun y=>y.elim n fun y=>(by rw [(hA c y).1] at z; cases z),s2 c o (fun y=>n (hc1.own c y)) z⟩
 have re2:RelE X.K (fun c=>O c∨A c) ts H2 σ ρ:=fun i w e=>by
  obtain ⟨v,h1,h2⟩:=(re.mono hc s1) i w e
  refine ⟨v,h1,?_⟩
  cases w with
  | d x=>exact Rep.mono le2 h2
  | tp k=>exact h2
  | loc ys=>
   obtain ⟨a',ea,m1,m2,m3⟩:=h2
   exact ⟨a',ea,.inl m1,m2,m3.mono (fun o q=>s2 _ _ m2 q) le2⟩
 refine ⟨_,ts,ρ,T2,ws2,T3,hc2,re2,e3,fun vs2 H3 s3 hc3 r3=>?_⟩
 have kb3:H3 b=some (.lst us):=s3 b _ ntb k1
 have ru3:=k2.mono (hc2.le s3)
 have lt3:ts.length=T3.length:=hc3.len
 have hc4:HC X.K (fun c=>O c∨A c) (ts++[b]) H3 (T3++[xs]):=by
  refine ⟨fun c hc'=>?_,hc3.trk,?_,by simp [lt3],fun i c ys q1 q2=>?_⟩
  ·rcases List.mem_append.mp hc' with z | z
   ·exact hc3.own c z
   ·rw [List.mem_singleton.mp z]; exact .inr ((hAA b).mpr rfl)
  ·exact List.nodup_append.mpr ⟨hc3.nd,by simp,fun c hc' d hd z=>ntb (by rw [← List.mem_singleton.mp hd,← z]; exact hc')⟩
  ·by_cases hi:i < ts.length
   ·rw [List.getElem?_append_left hi] at q1
    rw [List.getElem?_append_left (by omega)] at q2
    exact hc3.tape i c ys q1 q2
   ·have hi':i=ts.length:=by
     have:=(List.getElem?_eq_some_iff.mp q1).1
     simp at this
     omega
    subst hi'
    rw [List.getElem?_append_right (Nat.le_refl _)] at q1
    rw [List.getElem?_append_right (by omega)] at q2
    simp [lt3] at q1 q2
    subst q1 q2
    exact .inl ⟨ru3.notO,us,kb3,ru3⟩
 have rw4:RepWs X.K (fun c=>O c∨A c) (ts++[b]) H3 (.ref b::vs2) (.tp T3.length::ws2):=by
  refine .cons ⟨b,by rw [List.getElem?_append_right (by omega)]; simp [lt3],rfl⟩ ?_
  clear e4 hlen q e3
  induction r3 with
  | nil=>exact .nil
  | @cons v w vs ws h t ih=>
   cases w with
   | d x=>exact .cons h (ih hno)
   | tp i=>
    obtain ⟨c,h1,h2⟩:=h
    exact .cons ⟨c,by rw [List.getElem?_append_left (List.getElem?_eq_some_iff.mp h1).1]; exact h1,h2⟩ (ih hno)
   | loc _=>cases hno
 have hlw:(W.tp T3.length::ws2).length=ps.length:=by
  have:=hl2 ρ T2 (.d .none::ws2) T3 (by show bnd (some (W.d .none,T2)) _=_; rw [bnd_mk,e3]; rfl)
  simpa using this
 refine ⟨_,ts++[b],T3++[xs],.tp T3.length::ws2,y,T5,hc4,by rw [List.append_nil]; exact rw4,hlw,e4,fun v H4 s4 hc5 r5=>?_⟩
 have le5:Le (fun c=>O c∨A c) H4 O H4:=fun c o n z=>⟨fun y=>n (.inl y),z⟩
 refine q v H4 (fun c o n z=>?_) ⟨hc.own,fun c hc'=>hc5.trk c (.inl hc'),hc.nd,?_,fun i c ys q1 q2=>?_⟩ (Rep.mono le5 r5)
 ·have h1:=s1 c o n z
  have nb:c≠b:=fun y=>by rw [y,hAb.1] at h1; cases h1
  refine s4 c o (fun y=>?_) (s3 c o n (s2 c o n h1))
  rcases List.mem_append.mp y with z | z
  ·exact n z
  ·exact nb (List.mem_singleton.mp z)
 ·rw [List.length_take,hlen,lt3]
  omega
 ·have hi:i < ts.length:=(List.getElem?_eq_some_iff.mp q1).1
  rw [List.getElem?_take_of_lt (by omega)] at q2
  exact (hc5.tape i c ys (by rw [List.getElem?_append_left hi]; exact q1) q2).mono (fun _ h=>h) le5
end
end D
namespace D
open PySem PySem.Spec PyProof.Rows L2
section
variable {X:Cx}
variable {pos:Pos} {e:Expr} {fe:FE}
end
end D
namespace D
open PySem PySem.Spec PyProof.Rows L2
section
variable {prog:Program} {w:World} {A:Around} {E:Value→Shared→Prop}
end
section
variable {X:Cx} {pos:Pos}
end
end D
namespace D
open PySem PySem.Spec PyProof.Rows L2
section
variable {X:Cx} {pos:Pos} {e:Expr} {fe:FE}
end
end D
namespace D
open PySem PySem.Spec PyProof.Rows L2
section
variable {X:Cx}
end
end D
namespace D
open PySem PySem.Spec PyProof.Rows L2
section
variable {X:Cx} {pos:Pos} {e:Expr} {fe:FE}
end
end D
namespace D
open PySem PySem.Spec PyProof.Rows L2
noncomputable def dropN (ds:List (PyData×PyData)) (s:Str):List (PyData×PyData):=ds.filter fun p=>match p.1 with
 | .str x=>decide (x≠s)
 | _=>true
theorem dropN_of {K:PySem.W.Frag} {O:Addr→Prop} {H:Hp} {s:Str}:∀ {kvs:List (Key×V)} {ds:List (PyData×PyData)},RepK K O H kvs ds→RepK K O H (dropK kvs (Sum.inr s:Key)) (dropN ds s)
 | _,_,.nil=>.nil
 | _,_,.cons (k:=k) (v:=v) (d:=d) (kvs:=kvs) (ds:=ds) r t=>by
  have ih:=dropN_of (s:=s) t
  rcases k with i | x
  ·have e1:dropK (((Sum.inl i:Key),v)::kvs) (Sum.inr s:Key)=((Sum.inl i:Key),v)::dropK kvs (Sum.inr s:Key):=by simp [dropK]
   have e2:dropN ((keyD (Sum.inl i),d)::ds) s=(keyD (Sum.inl i),d)::dropN ds s:=rfl
   rw [e1,e2]
   exact .cons r ih
  ·by_cases hx:x=s
   ·have e1:dropK (((Sum.inr x:Key),v)::kvs) (Sum.inr s:Key)=dropK kvs (Sum.inr s:Key):=by simp [dropK,hx]
    have e2:dropN ((keyD (Sum.inr x),d)::ds) s=dropN ds s:=by simp [dropN,keyD,hx]
    rw [e1,e2]
    exact ih
   ·have e1:dropK (((Sum.inr x:Key),v)::kvs) (Sum.inr s:Key)=((Sum.inr x:Key),v)::dropK kvs (Sum.inr s:Key):=by simp [dropK,hx]
    have e2:dropN ((keyD (Sum.inr x),d)::ds) s=(keyD (Sum.inr x),d)::dropN ds s:=by simp [dropN,keyD,hx]
    rw [e1,e2]
    exact .cons r ih
section
variable {X:Cx} {pos:Pos} {e:Expr} {fe:FE}
end
section
variable {X:Cx} {pos:Pos}
end
end D
namespace D
open PySem PySem.Spec PyProof.Rows L2
section
variable {X:Cx} {pos:Pos}
noncomputable def prsO (o:Option PyData):Option (List (Str×PyData)):=match o with
 | some (.list ds)=>pairsD ds
 | _=>none
end
end D
namespace D
open PySem PySem.Spec PyProof.Rows L2
noncomputable def CDivG (_ j:Int):Prop:=0 < j∧j < 18446744073709551616
noncomputable def fdivG:PyData→PyData→Option PyData:=iop fun i j=>if 0 < j∧j < 18446744073709551616 then some (.int (i / j)) else none
theorem noPyl {x y:Int} (h:y.natAbs < 18446744073709551616):Builtin.divisionGoesByPylong x y=false:=by
 refine PyProof.noPylong_of_log2 ?_
 by_cases h0:y.natAbs=0
 ·rw [h0]; decide +kernel
 ·have h30:y.natAbs.log2 < 64:=(Nat.log2_lt h0).mpr h
  omega
section
variable {X:Cx}
theorem op_fdivG:OpR X (binaryOp .FloorDiv) (rI CDivG fun i j=>.int (i / j)):=opI fun i j _ _ _ _ _ hc q=>by
 have h1:(0:Int) < j:=hc.1
 have h2:j < 18446744073709551616:=hc.2
 exact floordiv_int (by omega) (by rw [Int.fdiv_eq_ediv_of_nonneg i (by omega)]; exact q) (.inl (noPyl (by omega)))
theorem o_fdivG:OpD X (binaryOp .FloorDiv) fdivG:=⟨_,op_fdivG,snd_rI fun i j d e=>by
 split at e
 ·rename_i h; cases e; exact ⟨h,fun _ _=>.int _⟩
 ·cases e⟩
end
end D
namespace L2
open PySem PySem.Spec PyProof.Rows
section
variable {prog:Program} {w:World} {A:Around} {E:Value→Shared→Prop} {s:Shared}
end
section
variable {X:Cx} {e:Expr} {te:TE} {x y:Str} {p p' pos pos':Pos}
end
end L2
namespace D
open PySem PySem.Spec PyProof.Rows L2
noncomputable def lrevD:PyData→Option PyData
 | .list xs=>some (.list xs.reverse)
 | _=>none
@[simp] theorem ev_lrev {xs:List PyData}:lrevD (.list xs)=some (.list xs.reverse):=rfl
section
variable {X:Cx} {pos pos' p p':Pos} {e:Expr} {f:FE}
end
end D
namespace D
open PySem PySem.Spec PyProof.Rows L2
section
variable {X:Cx} {pos:Pos}
end
end D
namespace D
open PySem PySem.Spec PyProof.Rows L2
noncomputable def dd:List Str→List Str
 | []=>[]
 | a::r=>if a∈r then dd r else a::dd r
end D
namespace D
open PySem PySem.Spec PyProof.Rows L2
section
variable {X:Cx} {pos:Pos}
end
end D
namespace L2
open PySem PySem.Spec PyProof.Rows
theorem orStandIn_led (t:SetTable) (n:Nat):(t.orStandIn n).led=t.led:=by
 unfold SetTable.orStandIn
 split <;> rfl
theorem layNew_led (t:SetTable) (es:Array (Int×Value)) (h:Int) (x:Value):(layNew t es h x).2.1.led=t.led:=by
 unfold layNew
 split
 ·exact orStandIn_led _ _
 ·rfl
theorem laid_led {mask finger moves:Nat} {led plain:Bool} {hashes:Array Int} {t':SetTable} {order:Array Nat} (e:SetTable.laid mask finger moves led plain hashes=some (t',order)):t'.led=led:=by
 unfold SetTable.laid at e
 cases h:SetTable.layClean mask hashes with
 | none=>rw [h] at e; cases e
 | some o=>rw [h] at e; cases e; rfl
theorem relayAll_led (t:SetTable) (es:Array (Int×Value)) (wanted:Nat):(relayAll t es wanted).2.1.led=t.led:=by
 unfold relayAll
 split
 ·rename_i t' order e
  dsimp only
  split
  ·exact laid_led e
  ·rfl
 ·rfl
theorem laid_plain {mask finger moves:Nat} {led plain:Bool} {hashes:Array Int} {t':SetTable} {order:Array Nat} (e:SetTable.laid mask finger moves led plain hashes=some (t',order)):t'.plain=plain:=by
 unfold SetTable.laid at e
 cases h:SetTable.layClean mask hashes with
 | none=>rw [h] at e; cases e
 | some o=>rw [h] at e; cases e; rfl
theorem relayAll_plain (t:SetTable) (es:Array (Int×Value)) (wanted:Nat) (h:t.plain=false):(relayAll t es wanted).2.1.plain=false:=by
 unfold relayAll
 split
 ·rename_i t' order e
  dsimp only
  split
  ·exact (laid_plain e).trans h
  ·rfl
 ·rfl
noncomputable def SetIs (P:Program) (w:World) (h:Heap) (a:Addr) (es:Array (Int×Value)) (led:Bool):Prop:=
 ∃ o ep t,h.get? a=some o∧o.ExactSet∧o.data=.set es ep t∧ElemsOf (strKind P w) es.toList∧es.size < scanBound∧t.fits es.size=true∧t.led=led∧(es.size=0∨t.plain=false)
section
variable {P:Program} {w:World} {A:Around} {E:Value→Shared→Prop} {s:Shared}
theorem setIs_store {a:Addr} {o:Obj} {es es1:Array (Int×Value)} {ep:Nat} {t t2:SetTable} {h:Heap} (ho:h.get? a=some o) (hex:o.ExactSet) (hd:o.data=.set es ep t) (hel:ElemsOf (strKind P w) es1.toList) (hb:es1.size < scanBound) (hf:t2.fits es1.size=true) (hpn:t2.plain=false) :
  (h.update a (Obj.putSet es1 t2)).get? a=some { o with data:=.set es1 (ep + 1) t2 }∧SetIs P w (h.update a (Obj.putSet es1 t2)) a es1 t2.led:=by
 obtain ⟨g1,_⟩:=SetOf_store (knd:=strKind P w) (S':=fun k'=>es1.toList.any fun e=>(strKind P w).is k' e.2) ho hex hd hel (fun k'=>List.any_eq_true) hb hf
 exact ⟨g1,_,_,_,g1,hex,rfl,hel,hb,hf,rfl,.inr hpn⟩
theorem add_tail {g:Bool→Sem Unit} (hg:∀ (b:Bool) (s₁:Shared) (Q':Unit→Shared→Prop),Q' () s₁→wpAny (model P w) A (g b) Q' E s₁) {a:Addr} {o:Obj} {es es1:Array (Int×Value)} {ep:Nat} {t t2:SetTable} (ho:s.heap.get? a=some o) (hex:o.ExactSet) (hd:o.data=.set es ep t)
  (hel:ElemsOf (strKind P w) es1.toList) (hb:es1.size < scanBound) (hf:t2.fits es1.size=true) (hpn:t2.plain=false) {wasDummy:Bool} {R:Option Bool→Shared→Prop}
  (h:∀ h' es',Heap.SameBut a s.heap h'→SetIs P w h' a es' t2.led→es'.toList.Perm es1.toList→R (some true) { s with heap:=h' }) :
  wpAny (model P w) A (do
    storeSet a es1 t2
    if (!wasDummy && t2.tooFull)=true then do
      g (relayAll t2 es1 (SetTable.grown es1.size)).2.2
      storeSet a (relayAll t2 es1 (SetTable.grown es1.size)).1 (relayAll t2 es1 (SetTable.grown es1.size)).2.1
      pure (some true)
     else pure (some true)) R E s:=by
 obtain ⟨k1,k2⟩:=setIs_store (P:=P) (w:=w) ho hex hd hel hb hf hpn
 have b1:=Heap.SameBut.update s.heap a (Obj.putSet es1 t2)
 refine wpAny_bind (wpAny_storeSet_of ho hd ?_ (fits_of_scanBound hb))
 by_cases hc:(!wasDummy && t2.tooFull)=true
 ·rw [if_pos hc]
  have hp:=relayAll_perm t2 es1 (SetTable.grown es1.size)
  have hz:(relayAll t2 es1 (SetTable.grown es1.size)).1.size < scanBound:=by rw [← Array.length_toList,hp.length_eq,Array.length_toList]; exact hb
  refine wpAny_bind (hg _ _ _ (wpAny_bind (wpAny_storeSet_of k1 rfl ?_ (fits_of_scanBound hz))))
  obtain ⟨_,k3⟩:=setIs_store (P:=P) (w:=w) k1 hex rfl (hel.perm hp) hz (relayAll_fits t2 es1 (SetTable.grown es1.size)) (relayAll_plain t2 es1 _ hpn)
  rw [relayAll_led] at k3
  exact wpAny_pure (h _ _ (b1.trans (Heap.SameBut.update _ a _)) k3 hp)
 ·rw [if_neg hc]
  exact wpAny_pure (h _ _ b1 k2 (List.Perm.refl _))
theorem add_str {a:Addr} {es:Array (Int×Value)} {led:Bool} {x:Str} {tk:Tok} {Q:Bool→Shared→Prop} (hS:SetIs P w s.heap a es led) (hroom:es.size + 1 < scanBound)
  (h0:(∃ e∈es.toList,(strKind P w).is x e.2=true)→Q false s)
  (h1:(∀ e∈es.toList,(strKind P w).is x e.2=false)→∀ h' es',Heap.SameBut a s.heap h'→SetIs P w h' a es' led→es'.toList.Perm (es.toList++[((strKind P w).hash x,.str x tk)])→Q true { s with heap:=h' }) :
  wpAny (model P w) A (setAddHashed a (.str x tk) ((strKind P w).hash x)) Q E s:=by
 obtain ⟨o,ep,t,ho,hex,hd,hel,hb,hf,hl,_⟩:=hS
 have hk:(strKind P w).is x (.str x tk)=true:=strKind_is P w x tk
 have hsc:(Value.str x tk).scannable=true:=rfl
 unfold setAddHashed setAddHashedIn
 refine wpAny_holding (wpAny_bind (wpAny_setState_of ho hd hf ?_))
 dsimp only
 rw [byScan_of hsc hb hel,if_pos rfl]
 unfold setAddByScan
 refine wpAny_bind (wpAny_bind (wpAny_rule (wpAny_bind (wpAny_setScan_of hk ho hd hf hel ?_))))
 cases hr:List.findIdx? (fun e=>(strKind P w).is x e.2) es.toList with
 | some j=>
  obtain ⟨hj,hpj,_⟩:=List.findIdx?_eq_some_iff_getElem.mp hr
  exact wpAny_pure (wpAny_pure (h0 ⟨_,List.getElem_mem hj,hpj⟩))
 | none=>
  have hno:∀ e∈es.toList,(strKind P w).is x e.2=false:=fun e he=>by
   have:=List.findIdx?_eq_none_iff.mp hr e he
   simpa using this
  have hgw:∀ (b:Bool) (s₁:Shared) (Q':Unit→Shared→Prop),Q' () s₁→wpAny (model P w) A (match b with | true=>rule "set.scan.the-table-gave-way" | false=>pure ()) Q' E s₁:=fun b s₁ Q' hq=>by
   cases b <;> first | exact wpAny_pure hq | exact wpAny_rule hq
  have hperm:=layNew_perm t es ((strKind P w).hash x) (.str x tk)
  have hfits:=layNew_fits t es ((strKind P w).hash x) (.str x tk)
  have hled:=layNew_led t es ((strKind P w).hash x) (.str x tk)
  dsimp only
  generalize layNew t es ((strKind P w).hash x) (.str x tk)=L at hperm hfits hled ⊢
  obtain ⟨es1,t1,wasDummy,gave⟩:=L
  dsimp only at hperm hfits hled ⊢
  rw [Array.toList_push] at hperm
  have hel1:ElemsOf (strKind P w) es1.toList:=(hel.push hk hsc).perm hperm
  have hb1:es1.size < scanBound:=by rw [← Array.length_toList,hperm.length_eq,List.length_append,Array.length_toList]; simpa using hroom
  refine wpAny_bind (hgw _ _ _ ?_)
  have fin:∀ h' es',Heap.SameBut a s.heap h'→SetIs P w h' a es' led→es'.toList.Perm es1.toList→Q true { s with heap:=h' }:=fun h' es' q1 q2 q3=>h1 hno h' es' q1 q2 (q3.trans hperm)
  split
  ·refine wpAny_bind ?_
   rw [hashByValue_scannable 8 hsc]
   refine wpAny_pure ?_
   refine add_tail (fun b s₁ Q' hq=>by cases b <;> first | exact wpAny_pure hq | exact wpAny_rule hq) ho hex hd hel1 hb1 ?_ rfl fun h' es' q1 q2 q3=>?_
   ·split
    ·exact hfits
    ·exact SetTable.fits_plain_off hfits
   ·have e:∀ c:Bool,(if c=true then t1 else { t1 with plain:=false }).led=led:=fun c=>by cases c <;> exact hled.trans hl
    rw [e] at q2
    exact wpAny_pure (fin h' es' q1 q2 q3)
  ·rename_i hnp
   refine wpAny_bind (wpAny_pure ?_)
   simp only [↓reduceIte]
   refine add_tail (fun b s₁ Q' hq=>by cases b <;> first | exact wpAny_pure hq | exact wpAny_rule hq) ho hex hd hel1 hb1 hfits (by simpa using hnp) fun h' es' q1 q2 q3=>?_
   rw [hled,hl] at q2
   exact wpAny_pure (fin h' es' q1 q2 q3)
end
end L2
namespace L2
open PySem PySem.Spec PyProof.Rows
noncomputable def keyV:Value→Str
 | .str k _=>k
 | _=>""
section
variable {P:Program} {w:World} {A:Around} {s:Shared}
end
end L2
namespace L2
open PySem PySem.Spec PyProof.Rows
section
set_option maxRecDepth 100000
variable {P:Program} {w:World} {A:Around} {E:Value→Shared→Prop} {s:Shared}
end
end L2
namespace L2
open PySem PySem.Spec PyProof.Rows
section
set_option maxRecDepth 100000
set_option maxHeartbeats 3200000
variable {P:Program} {w:World} {A:Around} {E:Value→Shared→Prop} {s:Shared}
end
end L2
namespace L2
open PySem PySem.Spec PyProof.Rows
section
set_option maxRecDepth 100000
set_option maxHeartbeats 3200000
variable {P:Program} {w:World} {A:Around} {E:Value→Shared→Prop} {s:Shared}
end
end L2
namespace L2
open PySem PySem.Spec PyProof.Rows
section
set_option maxRecDepth 100000
noncomputable def SetAt (h:Heap) (a:Addr) (es:Array (Int×Value)) (ep:Nat) (t:SetTable):Prop:=∃ o,h.get? a=some o∧o.ExactSet∧o.data=.set es ep t
noncomputable def SIt (h:Heap) (I a:Addr) (first:Value) (i n ep:Nat):Prop:=∃ o,h.get? I=some o∧o.cls=.type "set_iterator"∧o.data=.fields #[first,.int (i:Int) 0,.ref a,.int (n:Int) 0,.int (ep:Int) 0]
variable {P:Program} {w:World} {A:Around} {E:Value→Shared→Prop} {s:Shared}
theorem SIt.typeIs {I a:Addr} {first:Value} {i n ep:Nat} (x:SIt s.heap I a first i n ep):s.TypeIs (.ref I) "set_iterator":=let ⟨o,ho,hc,_⟩:=x; ⟨o,ho,hc⟩
theorem SIt.at {h h':Heap} {I a:Addr} {first:Value} {i n ep:Nat} (x:SIt h I a first i n ep) (k:∀ o,h.get? I=some o→h'.get? I=some o):SIt h' I a first i n ep:=let ⟨o,ho,hc⟩:=x; ⟨o,k o ho,hc⟩
theorem SetAt.at {h h':Heap} {a:Addr} {es:Array (Int×Value)} {ep:Nat} {t:SetTable} (x:SetAt h a es ep t) (k:∀ o,h.get? a=some o→h'.get? a=some o):SetAt h' a es ep t:=let ⟨o,ho,hc⟩:=x; ⟨o,k o ho,hc⟩
end
end L2
namespace L2
open PySem PySem.Spec PyProof.Rows
section
set_option maxRecDepth 100000
variable {P:Program} {w:World} {A:Around} {E:Value→Shared→Prop} {s:Shared}
noncomputable def TupAt (h:Heap) (q:Addr) (pl:Array Value):Prop:=∃ o n,h.get? q=some o∧o.data=.seq pl n
end
end L2
namespace L2
open PySem PySem.Spec PyProof.Rows
section
set_option maxRecDepth 100000
variable {P:Program} {w:World} {A:Around} {E:Value→Shared→Prop} {s:Shared}
end
end L2
namespace L2
open PySem PySem.Spec PyProof.Rows
section
set_option maxRecDepth 100000
variable {P:Program} {w:World} {A:Around} {E:Value→Shared→Prop} {s:Shared}
end
end L2
namespace D
open PySem PySem.Spec PyProof.Rows L2
section
set_option maxRecDepth 100000
variable {X:Cx}
end
end D
namespace D
open PySem PySem.Spec PyProof.Rows L2
noncomputable def EqW (P:Program) (w:World) (A:Around) (s:Shared) (y x:Value) (b:Bool):Prop:=∀ (E:Value→Shared→Prop) (Q:Bool→Shared→Prop),Q b s→wpAny (model P w) A (eqBool y x) Q E s
noncomputable def hitD (e:List (PyData×PyData)):List (PyData×PyData)→Option Bool
 | []=>some true
 | (.str k,v)::r=>match keyAt e k with
  | none=>some false
  | some u=>if SeqAt.shaped v=true∧SeqAt.shaped u=true then (hitD e r).map fun b=>PyData.eqv v u && b else none
 | _=>none
noncomputable def eqDD (d e:List (PyData×PyData)):Option Bool:=if hitD d d=some true then (if d.length=e.length then hitD e d else some false) else none
noncomputable def eqP1:PyData→PyData→Option Bool
 | .dict d,.dict e=>eqDD d e
 | x,y=>if SeqAt.shaped x=true∧SeqAt.shaped y=true then some (PyData.eqv x y) else none
noncomputable def eqPs:List PyData→List PyData→Option (List Bool)
 | [],[]=>some []
 | x::r,y::t=>match eqP1 x y,eqPs r t with
  | some a,some b=>some (a::b)
  | _,_=>none
 | _,_=>none
noncomputable def neP (x y:PyData):Option PyData:=match x,y with
 | .tuple xs,.tuple ys=>(eqPs xs ys).map fun bs=>.bool (!bs.all id)
 | _,_=>none
section
set_option maxRecDepth 100000
variable {P:Program} {w:World} {A:Around} {E:Value→Shared→Prop} {s:Shared}
open PySem.SeqAt in
open PySem.SeqAt in
theorem rc_tupN {l b:Addr} {items items2:Array Value} {e:Nat→Bool} {Q:Value→Shared→Prop} (hl:s.heap.IsTuple l items) (hb:s.heap.IsTuple b items2) (hu:A.units < cLine) (hz:items.size=items2.size)
  (he:∀ j (h1:j < items.size) (h2:j < items2.size),EqW P w A.in1 s items[j] items2[j] (e j)) (h:Q (.bool (!((List.range items.size).all e))) s):wpAny (model P w) A (compareOp .NotEq (.ref l) (.ref b)) Q E s:=by
 obtain ⟨⟨cls,dd,data,sl⟩,ho,hc,n,hd⟩:=id hl
 obtain ⟨⟨cls2,dd2,data2,sl2⟩,ho2,hc2,n2,hd2⟩:=id hb
 simp only at hc hd hc2 hd2
 subst hc hd hc2 hd2
 have t1:s.TypeIs (.ref l) "tuple":=⟨_,ho,rfl⟩
 have t2:s.TypeIs (.ref b) "tuple":=⟨_,ho2,rfl⟩
 refine wpAny_richCompare_same_room (op:=.NotEq) t1 t2 F.slot_tuple_ne (wpAny_call_entry F.slot_tuple_ne t1 F.entry_tuple_ne ?_ (F.args_tuple_ne_2 _ _)) hu
 obtain ⟨hp,g,d,tk,os⟩:=s
 have f2:=AutoSeq1.sub_tuple_tuple
 have hZ:(items.toList.zip items2.toList).length=items.size:=by simp [hz]
 wp_walk using AutoSeq1.wpAny_loadPart' ho,AutoSeq1.wpAny_loadPart' ho2,wpAny_forIn_list _ (fun rest b s'=>b.1=none∧s'=⟨hp,g,d,tk,os⟩∧∃ i,rest=(items.toList.zip items2.toList).drop i∧Q (.bool (!(((List.range items.size).drop i).all e))) ⟨hp,g,d,tk,os⟩) _
 case turn=>
  rintro ⟨y,x⟩ rest b s' ⟨hb',rfl,i,hz',hR⟩
  have hlt:i < (items.toList.zip items2.toList).length:=(Nat.lt_or_ge i _).elim id fun h'=>by rw [List.drop_of_length_le h'] at hz'; cases hz'
  have h1:i < items.size:=hZ ▸ hlt
  have h2:i < items2.size:=hz ▸ h1
  rw [List.drop_eq_getElem_cons hlt] at hz'
  injection hz' with hyx hrest
  obtain ⟨hy,hx⟩:y=items[i]∧x=items2[i]:=by simpa using hyx
  subst hy hx
  have hd:(List.range items.size).drop i=i::(List.range items.size).drop (i + 1):=by simp [List.drop_eq_getElem_cons,h1]
  rw [hd,List.all_cons] at hR
  refine wpAny_bind (he i h1 h2 _ _ ?_)
  cases hy:e i <;> rw [hy] at hR <;> wp_walk
  ·first | exact ⟨_,rfl,(fun x=>nomatch x),by simpa using hR⟩ | exact ⟨(fun x=>nomatch x),by simpa using hR⟩ | exact ⟨_,rfl,by simpa using hR⟩
  ·exact ⟨rfl,rfl,i + 1,hrest,by simpa using hR⟩
 case fin=>
  rintro ⟨b1,b2⟩ s' ⟨hb',rfl,i,hz',hR⟩
  simp only at hb'
  subst hb'
  have hge:items.size≤i:=(Nat.lt_or_ge i (items.toList.zip items2.toList).length).elim (fun h'=>by rw [List.drop_eq_getElem_cons h'] at hz'; cases hz') fun h'=>hZ ▸ h'
  rw [List.drop_of_length_le (by simpa using hge)] at hR
  wp_walk
  first | exact ⟨_,rfl,(fun x=>by cases x),by simpa [Builtin.Tuple.tupleCompareSizes,hz] using hR⟩ | exact ⟨_,rfl,by simp [Builtin.Tuple.tupleCompareSizes],by simpa [Builtin.Tuple.tupleCompareSizes,hz] using hR⟩
 case h=>
  exact ⟨rfl,rfl,0,rfl,by simpa using h⟩
theorem eqW_of {y x:Value} {b:Bool} (h:SeqAt.EqAt A s y x b):EqW P w A s y x b:=fun E Q q=>h P w E Q q
theorem eqW_dict {a b:Addr} {ka kb:List (Key×Value)} {r:Bool} (hne:a≠b) (ha:(a == sysModules)=false) (hb:(b == sysModules)=false) (da:s.heap.DictOf (mixKind P w) a ka) (db:s.heap.DictOf (mixKind P w) b kb) (hu:A.units < cLine)
  (hits:ka.length=kb.length→PySem.W.KeqHits A.in1 s kb ka r):EqW P w A s (.ref a) (.ref b) (ka.length == kb.length && r):=fun E Q hq=>by
 unfold eqBool
 refine wpAny_holding ?_
 refine wpAny_ite_split (fun hab=>absurd (by have:=eq_of_beq hab; injection this) hne) (fun _=>?_)
 exact wpAny_bind (PySem.W.keq_eq ha hb da db hu hits (wpAny_truthy_bool hq))
end
section
variable {X:Cx} {pins:List (Addr×Obj)} {σ:L2.St} {H:Hp} {s:Shared} {O:Addr→Prop} {A:Around}
theorem hits_of (I:Inv X pins σ H s) (hu:A.in1.units + 64 < cLine) {kb:List (Key×V)} {e:List (PyData×PyData)} {ub:List (Key×Value)} (re:RepK X.K O H kb e) (vb:KV kb ub):∀ {ka:List (Key×V)} {d:List (PyData×PyData)} {ua:List (Key×Value)} {b:Bool},RepK X.K O H ka d→KV ka ua→hitD e d=some b→PySem.W.KeqHits A.in1 s ub ua b
 | _,_,_,_,.nil,.nil,h=>by cases h; exact .nil
 | _,_,_,b,.cons (k:=k) (v:=v) (d:=x) (ds:=ds) q t,.cons hkv vt,h=>by
  obtain ⟨e1,e2⟩:=hkv
  rename_i p _
  obtain ⟨k',u⟩:=p
  simp only at e1 e2
  subst e1
  cases k with
  | inl i=>cases h
  | inr y=>
   simp only [keyD,hitD] at h
   have hv:=vb.val (Sum.inr y:Key)
   rcases keyAt_of (s:=y) re with ⟨h1,h2⟩ | ⟨v',d',h1,h2,h3⟩
   ·rw [h1] at h
    cases h
    rw [h2] at hv
    exact .miss (RelO.none_of hv)
   ·rw [h1] at h
    dsimp only at h
    rw [h2] at hv
    obtain ⟨u',g1,g2⟩:=RelO.some_of hv
    split at h
    ·rename_i hs
     cases hr:hitD e ds with
     | none=>rw [hr] at h; cases h
     | some b'=>
      rw [hr] at h
      cases h
      obtain ⟨as,r1,_⟩:=Rep.reads I q e2
      obtain ⟨bs,r2,_⟩:=Rep.reads I h3 g2
      exact .hit g1 (PySem.W.keq_at r1 r2 hs.1 hs.2 hu) (hits_of I hu re vb t vt hr)
    ·cases h
theorem eqW_rep {k:Nat} (hr:Room k X.A) (I:Inv X pins σ H s) {v v':V} {x y:PyData} {u u':Value} {b:Bool} (h1:Rep X.K O H v x) (r1:RelV v u) (h2:Rep X.K O H v' y) (r2:RelV v' u') (h:eqP1 x y=some b):EqW X.prog X.w X.A.in1 s u u' b:=by
 have hun:=hr.un
 obtain ⟨as,q1,_⟩:=Rep.reads I h1 r1
 obtain ⟨bs,q2,_⟩:=Rep.reads I h2 r2
 have flat:SeqAt.shaped x=true∧SeqAt.shaped y=true→b=PyData.eqv x y→EqW X.prog X.w X.A.in1 s u u' b:=fun hs e=>by
  subst e
  exact eqW_of (PySem.W.keq_at (A:=X.A) q1 q2 hs.1 hs.2 (by simp; omega))
 by_cases hd:∃ d e,x=.dict d∧y=.dict e
 ·obtain ⟨d,e,rfl,rfl⟩:=hd
  have h':eqDD d e=some b:=h
  unfold eqDD at h'
  split at h'
  ·rename_i hself
   cases h1 with
   | @dct a oa ka _ n1 t1 k1=>
    cases h2 with
    | @dct b' ob kb _ n2 t2 k2=>
     cases r1
     cases r2
     obtain ⟨za,la,ua,va,da⟩:=dk_rd I.hok (.inr ⟨_,t1⟩)
     obtain ⟨zb,lb,ub,vb,db⟩:=dk_rd I.hok (.inr ⟨_,t2⟩)
     by_cases hab:a=b'
     ·subst hab
      have e0:d=e:=by
       have:=(PySem.Reads.unique q1 _ _ q2).1
       injection this
      subst e0
      rw [if_pos rfl,hself] at h'
      cases h'
      exact eqW_of (SeqAt.EqAt.same _)
     ·have ela:ua.length=d.length:=by rw [← va.length]; exact repK_len k1
      have elb:ub.length=e.length:=by rw [← vb.length]; exact repK_len k2
      by_cases hl:d.length=e.length
      ·rw [if_pos hl] at h'
       have:=eqW_dict (r:=b) (A:=X.A.in1) hab la lb da db (by simp; omega) (fun _=>hits_of (A:=X.A.in1) I (by simp; omega) k2 vb k1 va h')
       rw [ela,elb,hl,beq_self_eq_true,Bool.true_and] at this
       exact this
      ·rw [if_neg hl] at h'
       cases h'
       have:=eqW_dict (r:=true) (A:=X.A.in1) hab la lb da db (by simp; omega) (fun q=>absurd (by rw [← ela,← elb]; exact q) hl)
       rw [ela,elb,beq_eq_false_iff_ne.mpr hl,Bool.false_and] at this
       exact this
  ·cases h'
 ·have h':(if SeqAt.shaped x=true∧SeqAt.shaped y=true then some (PyData.eqv x y) else none)=some b:=by
   unfold eqP1 at h
   split at h
   ·exact absurd ⟨_,_,rfl,rfl⟩ hd
   ·exact h
  split at h'
  ·rename_i hs
   cases h'
   exact flat hs rfl
  ·cases h'
theorem eqW_all {k:Nat} (hr:Room k X.A) (I:Inv X pins σ H s):∀ {vs vs':List V} {xs ys:List PyData} {us us':List Value} {bs:List Bool},Reps X.K O H vs xs→Vals vs us→Reps X.K O H vs' ys→Vals vs' us'→eqPs xs ys=some bs →
  us.length=us'.length∧bs.length=us.length∧∀ (j:Nat) (h1:j < us.length) (h2:j < us'.length),EqW X.prog X.w X.A.in1 s us[j] us'[j] (bs.getD j false)
 | _,_,_,_,_,_,_,.nil,.nil,.nil,.nil,e=>by cases e; exact ⟨rfl,rfl,fun j h1 _=>absurd h1 (Nat.not_lt_zero _)⟩
 | _,_,_,_,_,_,_,.nil,.nil,.cons _ _,_,e=>by cases e
 | _,_,_,_,_,_,_,.cons _ _,_,.nil,.nil,e=>by cases e
 | _,_,_,_,_,_,_,.cons r t,.cons rv tv,.cons r' t',.cons rv' tv',e=>by
  unfold eqPs at e
  split at e
  ·rename_i a b ha hb
   cases e
   obtain ⟨l1,l2,f⟩:=eqW_all hr I t tv t' tv' hb
   refine ⟨by simp [l1],by simp [l2],fun j h1 h2=>?_⟩
   cases j with
   | zero=>exact eqW_rep hr I r rv r' rv' ha
   | succ j=>exact f j (by simpa using h1) (by simpa using h2)
  ·cases e
theorem all_range {bs:List Bool}:(List.range bs.length).all (fun j=>bs.getD j false)=bs.all id:=by
 induction bs with
 | nil=>rfl
 | cons b r ih=>
  rw [List.length_cons,List.range_succ_eq_map,List.all_cons,List.all_map,List.all_cons]
  have:(fun j=>(b::r).getD j false) ∘ Nat.succ=fun j=>r.getD j false:=rfl
  rw [this,ih]
  rfl
theorem op_neP {k:Nat} (hr:Room k X.A):OpR X (compareOp .NotEq) (fun x y H Q=>∃ O xs ys bs,Vw X.K O H x (.tuple xs)∧Vw X.K O H y (.tuple ys)∧eqPs xs ys=some bs∧Q (.bl (!bs.all id)) H):=by
 intro pins s σ H x y v u Q I rx ry h
 obtain ⟨O,xs,ys,bs,h1,h2,e,q⟩:=h
 obtain ⟨a,vs,rfl,t1,p1⟩:=h1.tup
 obtain ⟨b,vs',rfl,t2,p2⟩:=h2.tup
 cases rx
 cases ry
 obtain ⟨us,v1,i1,_⟩:=I.tuple t1.sq
 obtain ⟨us',v2,i2,_⟩:=I.tuple t2.sq
 obtain ⟨l1,l2,f⟩:=eqW_all hr I p1 v1 p2 v2 e
 have hu:=hr.un
 refine rc_tupN (e:=fun j=>bs.getD j false) i1 i2 (by omega) (by simpa using l1) (fun j h1 h2=>by simpa using f j (by simpa using h1) (by simpa using h2)) ?_
 rw [List.size_toArray,← l2,all_range]
 exact ⟨.bl _,H,I,rfl,q⟩
theorem neP_of {x y d:PyData} (h:neP x y=some d):∃ xs ys bs,x=.tuple xs∧y=.tuple ys∧eqPs xs ys=some bs∧d=.bool (!bs.all id):=by
 unfold neP at h
 split at h
 ·rename_i xs ys
  cases e:eqPs xs ys with
  | none=>rw [e] at h; cases h
  | some bs=>rw [e] at h; cases h; exact ⟨xs,ys,bs,rfl,rfl,e,rfl⟩
 ·cases h
theorem o_neP {k:Nat} (hr:Room k X.A):OpD X (compareOp .NotEq) neP:=⟨_,op_neP hr,fun O ts H T v1 v2 x y d Q hc h1 h2 e q=>by
 obtain ⟨xs,ys,bs,rfl,rfl,e',rfl⟩:=neP_of e
 exact ⟨O,xs,ys,bs,h1,h2,e',q _ H (.refl _ _) hc (.bl _)⟩⟩
end
end D
namespace D
open PySem PySem.Spec PyProof.Rows L2
section
set_option maxRecDepth 100000
variable {P:Program} {w:World} {A:Around} {E:Value→Shared→Prop} {s:Shared}
end
section
variable {X:Cx} {pos:Pos}
end
end D
namespace D
open PySem PySem.Spec PyProof.Rows L2
section
variable {X:Cx} {pos:Pos}
end
end D
namespace D
open PySem PySem.Spec PyProof.Rows L2
section
variable {X:Cx} {pos:Pos} {e:Expr} {fe:FE}
theorem mt_popN:MtM X "dict.pop" (fun x vs H Q=>∃ (a:Addr) (kvs:List (Key×V)) (s:Str),x=.ref a∧vs=[.str s,.non]∧H a=some (.dK kvs)∧((∃ v,valV kvs (Sum.inr s:Key)=some v∧Q v (upd H a (.dK (dropK kvs (Sum.inr s:Key)))))∨(valV kvs (Sum.inr s:Key)=none∧Q .non H))):=by
 intro pins s σ H x vs v us Q I rx rv h
 obtain ⟨a,kvs,z,rfl,rfl,hA,h⟩:=h
 cases rx
 obtain ⟨u,w,rfl,ru,rw'⟩:=vals2 rv
 rcases h with ⟨y,hy,q⟩ | ⟨hy,q⟩
 ·exact d_pop I hA (k:=Sum.inr z) ru hy (.inr ⟨_,rfl⟩) fun w' s' I' r'=>⟨_,_,I',r',q⟩
 ·exact d_popD I hA (k:=Sum.inr z) ru hy fun s' I'=>⟨_,_,I',rw',q⟩
noncomputable def popNK (i:Nat) (ρ:Rho) (w:W) (T:Tp) (o:Option (Option W)):Option ((Fl×Rho)×Tp):=match w,o with
 | .d (.str s),some (some (.loc (.dict ds)))=>some ((.nx,ρ.set i (some (.loc (.dict (if (keyAt ds s).isSome=true then dropN ds s else ds))))),T)
 | _,_=>none
theorem popNK_of {i:Nat} {ρ ρ':Rho} {w:W} {T T':Tp} {fl:Fl} {o:Option (Option W)} (h:popNK i ρ w T o=some ((fl,ρ'),T')):∃ s ds,w=.d (.str s)∧o=some (some (.loc (.dict ds)))∧((fl,ρ'),T')=((Fl.nx,ρ.set i (some (W.loc (.dict (if (keyAt ds s).isSome=true then dropN ds s else ds))))),T):=by
 unfold popNK at h
 split at h
 ·exact ⟨_,_,rfl,rfl,(Option.some.inj h).symm⟩
 ·cases h
noncomputable def fPopN (i:Nat) (f:FE):FS:=fun ρ T=>bnd (f ρ T) fun w T1=>popNK i ρ w T1 ρ[i]?
theorem ds_popN {i:Nat} {x:Str} {p apos cpos kp:Pos} {j:_} (he:DE X e fe) (hN:X.N[i]? = some x:=by rfl) (hv:Vis X.env.scope x:=by first | exact Or.inl rfl | exact Or.inr (Or.inl rfl) | exact Or.inr (Or.inr rfl)) (hd:(x == ("__debug__" : Str))=false:=by decide)
  (hcd:(x == ("__classdict__" : Str))=false:=by decide) (hbase:attributeBase (.Name x p) "pop" X.env (eval (.Name x p) X.env)=eval (.Name x p) X.env:=by rfl)
  (hfew:((backTo cpos (starEach [e,.Constant .none j kp] X.env)).all (fun x=>!x.1) && (backToKw cpos (keywordEach [] X.env)).all (fun x=>x.1.isSome)
   && decide (([e,.Constant .none j kp]:List Expr).length + ([]:List Keyword).length + (if ([]:List Keyword).isEmpty then 0 else 1) < 30))=true:=by exact few2 rfl rfl)
  (hline:(apos.endLine == cpos.line)=true:=by rfl) (hse:starEach [e,.Constant .none j kp] X.env=(false,eval e X.env)::starEach [.Constant .none j kp] X.env:=by exact star_cons rfl) (hse2:starEach [.Constant .none j kp] X.env=(false,eval (.Constant .none j kp) X.env)::starEach [] X.env:=by exact star_cons rfl) (hplain:(backTo cpos (starEach [.Constant .none j kp] X.env)).any (·.1)=false:=by exact star_any rfl)
  (hs:swapsWith (.Call (.Attribute (.Name x p) "pop" apos) [e,.Constant .none j kp] [] cpos) none pos.line X.env=pure false:=by rfl) :
  DS X (.Expr (.Call (.Attribute (.Name x p) "pop" apos) [e,.Constant .none j kp] [] cpos) pos) (fPopN i fe):=by
 refine ⟨?_⟩
 refine ps_imp (ps_expr (pe_bm PySem.F.plainAttrs_dict PySem.F.slot_dict_pop PySem.F.type_dict_pop mt_popN (pv i hN hv hd hcd) (pa_cons he.pe (pa_cons pe_non pa_nil hse2) hse) hbase hfew hline hse hplain) hs) fun D σ H=>?_
 rintro ⟨O₀,H₀,F,ts,O,ρ,T,fl,ρ',T',rs,e,q⟩
 obtain ⟨w,T1,e1,e⟩:=bnd_of e
 obtain ⟨s,ds,rfl,h2,e3⟩:=popNK_of e
 cases e3
 obtain ⟨v',m1,b,rfl,m2,m3,kvs,m4,m5⟩:=rs.re i _ h2
 refine ⟨_,m1,.inr (.inr (.inl ⟨rfl,.inl ⟨kvs,m4⟩⟩)),O,ts,ρ,T,_,_,rs.hc,rs.re,e1,fun u H1 s1 hc1 r1=>?_⟩
 cases (show Rep X.K O H1 u (.str s) from r1)
 have rs1:=rs.step s1 hc1
 have m4':=s1 _ _ m3 m4
 have m5':=m5.mono (rs.hc.le s1)
 refine ⟨b,kvs,s,rfl,rfl,m4',?_⟩
 rcases keyAt_of (s:=s) m5' with ⟨z1,z2⟩ | ⟨vy,dy,z1,z2,ry⟩
 ·refine .inr ⟨z2,q O _ _ ?_⟩
  rw [z1,if_neg (by decide)]
  have e4:ρ.set i (some (W.loc (.dict ds)))=ρ:=by
   refine List.ext_getElem? fun j=>?_
   by_cases z:i=j
   ·subst z
    rw [List.getElem?_set_self (List.getElem?_eq_some_iff.mp h2).1,h2]
   ·rw [List.getElem?_set_ne z]
  rw [e4]
  exact rs1
 ·refine .inl ⟨vy,z2,q O _ _ ?_⟩
  rw [z1,if_pos (show (some dy).isSome=true from rfl)]
  exact rs1.putO h2 m1 (o:=.dK (dropK kvs (Sum.inr s:Key))) (ys:=.dict (dropN ds s)) (.inr (.inl ⟨_,rfl⟩)) fun le=>⟨_,upd_same,dropN_of (m5'.mono le)⟩
end
section
variable {K:PySem.W.Frag} {O₀:Addr→Prop} {H₀:Hp} {F:List ((Addr→Prop)×Hp)} {ts:List Addr} {O:Addr→Prop} {H H1:Hp} {σ:L2.St} {ρ:Rho} {T T1:Tp}
theorem unset_of {i j:Nat} {w:W} (e:(ρ.set i none)[j]? = some (some w)):i≠j∧ρ[j]? = some (some w):=by
 by_cases z:i=j
 ·subst z
  rw [List.getElem?_set_self'] at e
  cases h:ρ[i]? with
  | none=>rw [h] at e; cases e
  | some u=>rw [h] at e; cases e
 ·rw [List.getElem?_set_ne z] at e
  exact ⟨z,e⟩
theorem RS.unset {i:Nat} {v:V} (r:RS K O₀ H₀ F ts O H σ ρ T):RS K O₀ H₀ F ts O H (σ.set i (some v)) (ρ.set i none) T where
 hc:=r.hc
 re:=fun j u e=>by
  obtain ⟨z,e⟩:=unset_of e
  obtain ⟨x,h1,h2⟩:=r.re j u e
  exact ⟨x,by rw [List.getElem?_set_ne z]; exact h1,h2⟩
 sub:=r.sub
 ots:=r.ots
 same:=r.same
 fresh:=fun j xs a e1 e2=>by
  obtain ⟨z,e⟩:=unset_of e1
  rw [List.getElem?_set_ne z] at e2
  exact r.fresh j xs a e e2
 dist:=fun j k xs ys u e1 e2 e3 e4=>by
  obtain ⟨z1,e1⟩:=unset_of e1
  obtain ⟨z2,e2⟩:=unset_of e2
  rw [List.getElem?_set_ne z1] at e3
  rw [List.getElem?_set_ne z2] at e4
  exact r.dist j k xs ys u e1 e2 e3 e4
 frs:=r.frs
 len:=by simp [r.len]
end
section
variable {X:Cx} {pos:Pos}
noncomputable def retOPK (ρ:Rho) (x:PyData) (T:Tp):Option ((Fl×Rho)×Tp):=match x with
 | .tuple [.dict d,.dict e]=>some ((.ro (.tuple [.dict d,.dict e]),ρ),T)
 | _=>none
theorem retOPK_of {ρ ρ':Rho} {x:PyData} {T T':Tp} {fl:Fl} (h:retOPK ρ x T=some ((fl,ρ'),T')):∃ d e,x=.tuple [.dict d,.dict e]∧fl=.ro x∧ρ'=ρ∧T'=T:=by
 unfold retOPK at h
 split at h
 ·cases h; exact ⟨_,_,rfl,rfl,rfl,rfl⟩
 ·cases h
noncomputable def fRetOP (m:FnM) (g:FA):FS:=fun ρ T=>bnd (g ρ T) fun ws T1=>bnd (m ws T1) (retOPK ρ)
theorem ds_retOP {name:Str} {ps:List Str} {kk:Nat} {m:FnM} {e:Expr} {es:List Expr} {g:FA} {p cpos:Pos} (F:Fn X.prog X.w X.K X.mg X.base name ps kk (spO X.K ps.length m)) (hr:Room kk X.A) (hg:Gl X name) (ha:DA X (e::es) g) (hl:LenA g ps.length) (hdb:(name == ("__debug__" : Str))=false:=by decide)
  (he:starEach (e::es) X.env=(false,eval e X.env)::starEach es X.env:=by exact star_cons rfl) (hpl:(backTo cpos (starEach es X.env)).any (·.1)=false:=by exact star_any rfl) :
  DS X (.Return (some (.Call (.Name name p) (e::es) [] cpos)) pos) (fRetOP m g):=by
 refine ⟨?_⟩
 refine ps_imp (ps_ret (pe_fn F hr hg ha.pe hdb he hpl)) fun D σ H=>?_
 rintro ⟨O₀,H₀,F,ts,O,ρ,T,fl,ρ',T',rs,e,q⟩
 obtain ⟨ws,T1,e1,e⟩:=bnd_of e
 obtain ⟨x0,T2,e2,e⟩:=bnd_of e
 obtain ⟨d,d',rfl,rfl,rfl,rfl⟩:=retOPK_of e
 refine ⟨O,ts,_,T,ws,T1,rs.hc,rs.re,e1,fun vs H1 s1 hc1 r1=>?_⟩
 have rs1:=rs.step s1 hc1
 refine ⟨O,ts,T1,ws,_,_,hc1,by rw [List.append_nil]; exact r1,hl _ _ _ _ e1,e2,fun A v H2 s2 hA hc2 ov=>?_⟩
 have rs2:=rs1.widen s2 hA hc2
 obtain ⟨c,le⟩:=rs2.keep (A:=A) (fun c hc=>.inr hc)
 refine q A v H2 (rs1.same.trans s2) (fun c hc=>?_) c (OwnV.mono (fun b u n z=>le b u n z) ov)
 obtain ⟨h1,h2⟩:=hA c hc
 have nt:c∉ts:=fun z=>h2 (hc1.own c z)
 refine ⟨?_,fun z=>h2 (rs1.sub c z)⟩
 cases z:H₀ c with
 | none=>rfl
 | some o=>have:=rs1.same c o nt z; rw [h1] at this; cases this
noncomputable def callOPK (x:PyData) (T:Tp):Option (W×Tp):=match x with
 | .tuple [.dict d,.dict e]=>some (.d (.tuple [.dict d,.dict e]),T)
 | _=>none
theorem callOPK_of {x:PyData} {T T':Tp} {w:W} (h:callOPK x T=some (w,T')):∃ d e,x=.tuple [.dict d,.dict e]∧w=.d x∧T'=T:=by
 unfold callOPK at h
 split at h
 ·cases h; exact ⟨_,_,rfl,rfl,rfl⟩
 ·cases h
noncomputable def fCallOP (m:FnM) (g:FA):FE:=fun ρ T=>bnd (g ρ T) fun ws T1=>bnd (m ws T1) callOPK
theorem de_callOP {name:Str} {ps:List Str} {k:Nat} {m:FnM} {e:Expr} {es:List Expr} {g:FA} {p cpos:Pos} (F:Fn X.prog X.w X.K X.mg X.base name ps k (spO X.K ps.length m)) (hr:Room k X.A) (hg:Gl X name) (ha:DA X (e::es) g) (hl:LenA g ps.length) (hdb:(name == ("__debug__" : Str))=false:=by decide)
  (he:starEach (e::es) X.env=(false,eval e X.env)::starEach es X.env:=by exact star_cons rfl) (hpl:(backTo cpos (starEach es X.env)).any (·.1)=false:=by exact star_any rfl):DE X (.Call (.Name name p) (e::es) [] cpos) (fCallOP m g):=by
 refine ⟨?_⟩
 refine pe_imp (pe_gh (pe_fn F hr hg ha.pe hdb he hpl)) fun σ H Q=>?_
 rintro ⟨O,ts,ρ,T,w,T',hc,re,e,q⟩
 obtain ⟨ws,T1,e1,e⟩:=bnd_of e
 obtain ⟨x,T2,e2,e⟩:=bnd_of e
 obtain ⟨d,d',rfl,rfl,rfl⟩:=callOPK_of e
 refine ⟨O,ts,ρ,T,ws,T1,hc,re,e1,fun vs H1 s1 hc1 r1=>?_⟩
 refine ⟨O,ts,T1,ws,_,_,hc1,by rw [List.append_nil]; exact r1,hl _ _ _ _ e1,e2,fun A v H2 s2 hA hc2 ov=>?_⟩
 obtain ⟨p,a,b,rfl,hab,hAA,np,hp,⟨ka,h1,h2⟩,⟨kb,h3,h4⟩⟩:=ov
 have hAa:=hA a ((hAA a).mpr (.inl rfl))
 have hAb:=hA b ((hAA b).mpr (.inr rfl))
 have nta:a∉ts:=fun z=>hAa.2 (hc1.own a z)
 have ntb:b∉ts:=fun z=>hAb.2 (hc1.own b z)
 have hpa:p≠a:=fun z=>np (.inr ((hAA p).mpr (.inl z)))
 have hpb:p≠b:=fun z=>np (.inr ((hAA p).mpr (.inr z)))
 refine .frz h1 fun o=>.frz ((upd_ne (Ne.symm hab)).trans h3) fun o'=>.done ?_
 have old:∀ c,c≠a→c≠b→upd (upd H2 a (.frz o (.dK ka))) b (.frz o' (.dK kb)) c=H2 c:=fun c z z'=>by rw [upd_ne z',upd_ne z]
 have le:Le (fun b=>O b∨A b) H2 O (upd (upd H2 a (.frz o (.dK ka))) b (.frz o' (.dK kb))):=fun c u n z=>⟨fun y=>n (.inl y),by
  rw [old c (fun y=>n (.inr ((hAA c).mpr (.inl y)))) (fun y=>n (.inr ((hAA c).mpr (.inr y))))]; exact z⟩
 refine q _ _ (fun c u n z=>?_) ⟨hc1.own,fun c hb=>?_,hc2.nd,hc2.len,fun j c ys q1 q2=>?_⟩ (.tup (.inl ⟨fun z=>np (.inl z),.inl ((old p hpa hpb).trans hp)⟩) (.cons (.dct hAa.2 ((upd_ne hab).trans upd_same) (h2.mono le)) (.cons (.dct hAb.2 upd_same (h4.mono le)) .nil)))
 ·have z1:=s1 c u n z
  rw [old c (fun y=>by rw [y,hAa.1] at z1; cases z1) (fun y=>by rw [y,hAb.1] at z1; cases z1)]
  exact s2 c u n z1
 ·rw [old c (fun y=>hAa.2 (y ▸ hb)) (fun y=>hAb.2 (y ▸ hb))]
  exact hc2.trk c (.inl hb)
 ·have hm:=List.mem_of_getElem? q1
  exact (hc2.tape j c ys q1 q2).mono (fun _ h=>by rw [old c (fun z=>nta (z ▸ hm)) (fun z=>ntb (z ▸ hm))]; exact h) le
end
end D
namespace D
open PySem PySem.Spec PyProof.Rows L2
section
variable {X:Cx} {pos pos2 pos3:Pos}
noncomputable def putPr (b:Bool) (s:Str) (x:PyData) (y:PyData):Option PyData:=match y with
 | .tuple [.dict d,.dict e]=>if (if b then e else d).length≤1000 then some (if b then .tuple [.dict d,.dict (putN e s x)] else .tuple [.dict (putN d s x),.dict e]) else none
 | _=>none
noncomputable def ownPutK2 (ix:Nat) (b:Bool) (ρ:Rho) (y:PyData) (w wk:W) (T:Tp):Option ((Fl×Rho)×Tp):=match w,wk with
 | .d x,.d (.str s)=>if ix < ρ.length then (putPr b s x y).map fun z=>((.ro z,ρ),T) else none
 | _,_=>none
noncomputable def fOwnPut (ix:Nat) (b:Bool) (m:FnM) (g:FA) (fk fv:FE):FS:=fun ρ T=>bnd (g ρ T) fun ws T1=>bnd (m ws T1) fun y T2=>bnd (fv (ρ.set ix none) T2) fun w T3=>bnd (fk (ρ.set ix none) T3) fun wk T4=>ownPutK2 ix b (ρ.set ix none) y w wk T4
theorem putPr_of {b:Bool} {s:Str} {x y z:PyData} (h:putPr b s x y=some z):∃ d e,y=.tuple [.dict d,.dict e]∧(if b then e else d).length≤1000∧z=(if b then .tuple [.dict d,.dict (putN e s x)] else .tuple [.dict (putN d s x),.dict e]):=by
 unfold putPr at h
 split at h
 ·rename_i d e
  by_cases hl:(if b then e else d).length≤1000
  ·rw [if_pos hl] at h
   exact ⟨d,e,rfl,hl,(Option.some.inj h).symm⟩
  ·rw [if_neg hl] at h
   cases h
 ·cases h
theorem ownPutK2_of {ix:Nat} {b:Bool} {ρ ρ':Rho} {y:PyData} {w wk:W} {T T':Tp} {fl:Fl} (h:ownPutK2 ix b ρ y w wk T=some ((fl,ρ'),T')):ix < ρ.length∧∃ x s d e,w=.d x∧wk=.d (.str s)∧y=.tuple [.dict d,.dict e]∧(if b then e else d).length≤1000∧fl=.ro (if b then .tuple [.dict d,.dict (putN e s x)] else .tuple [.dict (putN d s x),.dict e])∧ρ'=ρ∧T'=T:=by
 unfold ownPutK2 at h
 split at h
 ·split at h
  ·rename_i x s hi
   cases hz:putPr b s x y with
   | none=>rw [hz] at h; cases h
   | some z=>
    rw [hz] at h
    obtain ⟨d,e,h1,h2,h3⟩:=putPr_of hz
    cases h
    exact ⟨hi,_,_,_,_,rfl,rfl,h1,h2,by rw [h3],rfl,rfl⟩
  ·cases h
 ·cases h
theorem dss_ownPut {ix:Nat} {b:Bool} {name x:Str} {ps:List Str} {kk k:Nat} {m:FnM} {e:Expr} {es:List Expr} {g:FA} {fk fv:FE} {kx ve:Expr} {p cpos pos' p2 sp ip pos'' p3:Pos} {j:_} (F:Fn X.prog X.w X.K X.mg X.base name ps kk (spO X.K ps.length m)) (hr:Room kk X.A) (hg:Gl X name) (hN:X.N.Nodup) (ha:DA X (e::es) g) (hl:LenA g ps.length) (hr2:Room k X.A) (hk:DE X kx fk) (hve:DE X ve fv) (hdb:(name == ("__debug__" : Str))=false:=by decide)
  (he:starEach (e::es) X.env=(false,eval e X.env)::starEach es X.env:=by exact star_cons rfl) (hpl:(backTo cpos (starEach es X.env)).any (·.1)=false:=by exact star_any rfl) (hi:X.N[ix]? = some x:=by rfl) (hx:Loc X.env.scope x:=by first | exact Or.inl rfl | exact Or.inr rfl)
  (hs:swapsWith (.Call (.Name name p) (e::es) [] cpos) (some (.Name x pos')) pos.line X.env=pure false:=by rfl) (hf:X.fn x=true∨X.env.scope.names.lookup x=some .local:=by first | exact .inl rfl | exact .inr rfl | assumption)
  (hv:Vis X.env.scope x:=by first | exact Or.inl rfl | exact Or.inr (Or.inl rfl) | exact Or.inr (Or.inr rfl)) (hd:(x == ("__debug__" : Str))=false:=by decide) (hcd:(x == ("__classdict__" : Str))=false:=by decide)
  (hs2:swapsWith ve (some (.Subscript (.Subscript (.Name x p2) (.Constant (.int (if b then 1 else 0)) j ip) sp) kx pos'')) pos2.line X.env=pure false:=by rfl) :
  DSs X [.Assign [.Name x pos'] (.Call (.Name name p) (e::es) [] cpos) pos,.Assign [.Subscript (.Subscript (.Name x p2) (.Constant (.int (if b then 1 else 0)) j ip) sp) kx pos''] ve pos2,.Return (some (.Name x p3)) pos3] (fOwnPut ix b m g fk fv):=by
 refine ⟨?_⟩
 refine pss_imp (pss_cons (ps_set hN hi hx (pe_fn F hr hg ha.pe hdb he hpl) hs hf) (pss_cons (ps_dput (hu_of hr2) (pe_ix ix_seq (pv ix hi hv hd hcd) pe_int (fun _ _=>rfl)) hk.pe hve.pe hs2) (pss_one (ps_ret (pv ix hi hv hd hcd))))) fun D σ H=>?_
 rintro ⟨O₀,H₀,F,ts,O,ρ,T,fl,ρ',T',rs,e,q⟩
 obtain ⟨ws,T1,e1,e⟩:=bnd_of e
 obtain ⟨y0,T2,e2,e⟩:=bnd_of e
 obtain ⟨w,T3,e3,e⟩:=bnd_of e
 obtain ⟨wk,T4,e4,e⟩:=bnd_of e
 obtain ⟨hix,xv,s,d,d',rfl,rfl,rfl,hlen,rfl,rfl,rfl⟩:=ownPutK2_of e
 rw [List.length_set] at hix
 refine ⟨O,ts,ρ,T,ws,T1,rs.hc,rs.re,e1,fun vs H1 s1 hc1 r1=>?_⟩
 have rs1:=rs.step s1 hc1
 refine ⟨O,ts,T1,ws,_,_,hc1,by rw [List.append_nil]; exact r1,hl _ _ _ _ e1,e2,fun A v H2 s2 hA hc2 ov=>?_⟩
 have rs2:=rs1.widen s2 hA hc2
 obtain ⟨c,a,a',rfl,hab,hAA,np,hp,⟨ka,h1,h2⟩,⟨kb,h3,h4⟩⟩:=ov
 have hAa:=(hAA a).mpr (.inl rfl)
 have hAb:=(hAA a').mpr (.inr rfl)
 have nta:a∉ts:=fun z=>(hA a hAa).2 (hc1.own a z)
 have ntb:a'∉ts:=fun z=>(hA a' hAb).2 (hc1.own a' z)
 have ntc:c∉ts:=fun z=>np (hc2.own c z)
 have rs3:=rs2.unset (i:=ix) (v:=.ref c)
 have hσ:(σ.set ix (some (V.ref c)))[ix]? = some (some (.ref c)):=List.getElem?_set_self (by rw [rs.len]; exact hix)
 refine ⟨_,ts,_,T2,_,T3,rs3.hc,rs3.re,e3,fun v3 H3 s3 hc3 r3=>?_⟩
 have rs4:=rs3.step s3 hc3
 refine ⟨_,hσ,?_⟩
 refine .inr (.inl ⟨c,[.ref a,.ref a'],(if b then 1 else 0),.ref (if b then a' else a),rfl,rfl,.inl (.inl (s3 _ _ ntc hp)),by cases b <;> rfl,?_⟩)
 refine ⟨_,ts,_,T3,_,_,rs4.hc,rs4.re,e4,fun v4 H4 s4 hc4 r4=>?_⟩
 have rs5:=rs4.step s4 hc4
 cases (show Rep X.K (fun b=>O b∨A b) H4 v4 (.str s) from r4)
 have rx:Rep X.K (fun b=>O b∨A b) H4 v3 xv:=RepW.mono (w:=.d xv) r3 hc3 s4
 have le24:Le (fun b=>O b∨A b) H2 (fun b=>O b∨A b) H4:=(hc2.le s3).trans (hc3.le s4)
 have g1:H4 a=some (.dK ka):=s4 _ _ nta (s3 _ _ nta h1)
 have g3:H4 a'=some (.dK kb):=s4 _ _ ntb (s3 _ _ ntb h3)
 have g2:RepK X.K (fun b=>O b∨A b) H4 ka d:=h2.mono le24
 have g4:RepK X.K (fun b=>O b∨A b) H4 kb d':=h4.mono le24
 have gp:H4 c=some (.tup [.ref a,.ref a']):=s4 _ _ ntc (s3 _ _ ntc hp)
 have fin:∀ (z:Addr) (kz:List (Key×V)),A z→(∀ w,w=a∨w=a'→w≠z→H4 w=upd H4 z (.dK kz) w)→∀ y:PyData,(Le (fun b=>O b∨A b) H4 (fun b=>O₀ b∨A b) (upd H4 z (.dK kz))→OwnV X.K (fun b=>O₀ b∨A b) A (upd H4 z (.dK kz)) (.ref c) y)→(∀ (A:Addr→Prop) v H',SameX ts H₀ H'→(∀ b,A b→H₀ b=none∧¬ O₀ b)→HC X.K (fun b=>O₀ b∨A b) ts H' T'→OwnV X.K (fun b=>O₀ b∨A b) A H' v y→D.rt v H')→D.rt (.ref c) (upd H4 z (.dK kz)):=fun z kz hz _ y ov q=>by
  have le:Le (fun b=>O b∨A b) H4 (fun b=>O₀ b∨A b) (upd H4 z (.dK kz)):=fun w o n e=>⟨fun y=>n (y.elim (fun y=>.inl (rs.sub w y)) .inr),by rw [upd_ne (show w≠z from fun y=>n (.inr (y ▸ hz)))]; exact e⟩
  obtain ⟨ck,_⟩:=rs5.keep (A:=A) (fun w hw=>.inr hw)
  refine q A (.ref c) _ (fun w o n e=>?_) (fun w hw=>?_) ⟨ck.own,fun w hw=>?_,ck.nd,ck.len,fun i w ys q1 q2=>?_⟩ (ov le)
  ·have e1:=rs1.same w o n e
   rw [upd_ne (show w≠z from fun y=>by rw [y,(hA z hz).1] at e1; cases e1)]
   exact s4 _ _ n (s3 _ _ n (s2 _ _ n e1))
  ·obtain ⟨k1,k2⟩:=hA w hw
   have nt:w∉ts:=fun z=>k2 (hc1.own w z)
   refine ⟨?_,fun z=>k2 (rs1.sub w z)⟩
   cases e:H₀ w with
   | none=>rfl
   | some o=>have:=rs1.same w o nt e; rw [k1] at this; cases this
  ·by_cases y:w=z
   ·rw [y,upd_same]; exact .inr (.inl ⟨_,rfl⟩)
   ·rw [upd_ne y]; exact ck.trk w hw
  ·have hm:=List.mem_of_getElem? q1
   have nz:w≠z:=fun y=>(hA z hz).2 (hc1.own z (y ▸ hm))
   exact (hc4.tape i w ys q1 q2).mono (fun _ h=>by rw [upd_ne nz]; exact h) le
 cases b with
 | false=>
  have hlen':ka.length < sizeLine:=by rw [repK_len g2]; exact Nat.lt_of_le_of_lt hlen (by decide)
  refine ⟨a,_,rfl,DPut.k (k:=(Sum.inr s:Key)) g1 hlen',?_⟩
  refine ⟨_,hσ,fin a _ hAa (fun w _ n=>(upd_ne n).symm) (.tuple [.dict (putN d s xv),.dict d']) (fun le=>⟨c,a,a',rfl,hab,hAA,fun z=>np (z.elim (fun y=>.inl (rs.sub c y)) .inr),?_,⟨_,upd_same,putN_of (Rep.mono le rx) (g2.mono le)⟩,⟨_,(upd_ne (Ne.symm hab)).trans g3,g4.mono le⟩⟩) q⟩
  rw [upd_ne (show c≠a from fun z=>np (.inr ((hAA c).mpr (.inl z))))]
  exact gp
 | true=>
  have hlen':kb.length < sizeLine:=by rw [repK_len g4]; exact Nat.lt_of_le_of_lt hlen (by decide)
  refine ⟨a',_,rfl,DPut.k (k:=(Sum.inr s:Key)) g3 hlen',?_⟩
  refine ⟨_,hσ,fin a' _ hAb (fun w _ n=>(upd_ne n).symm) (.tuple [.dict d,.dict (putN d' s xv)]) (fun le=>⟨c,a,a',rfl,hab,hAA,fun z=>np (z.elim (fun y=>.inl (rs.sub c y)) .inr),?_,⟨_,(upd_ne hab).trans g1,g2.mono le⟩,⟨_,upd_same,putN_of (Rep.mono le rx) (g4.mono le)⟩⟩) q⟩
  rw [upd_ne (show c≠a' from fun z=>np (.inr ((hAA c).mpr (.inr z))))]
  exact gp
end
end D
namespace D
open PySem PySem.Spec PyProof.Rows L2
inductive LnT (P:Hp→(Bool→Hp→Prop)→Prop):Hp→(Bool→Hp→Prop)→Prop where
 | done {H:Hp} {Q:Bool→Hp→Prop}:P H Q→LnT P H Q
 | frz {H:Hp} {Q:Bool→Hp→Prop} {a:Addr} {kvs:List (Key×V)}:H a=some (.dK kvs)→(∀ o,LnT P (upd H a (.frz o (.dK kvs))) (fun b H2=>H2 a=some (.frz o (.dK kvs))∧Q b (upd H2 a (.dK kvs))))→LnT P H Q
theorem pt_ln {X:Cx} {e:Expr} {t:TT} (h:PT X e t):PT X e (fun σ H Q=>LnT (t σ) H Q):=fun pins s σ H Q I q=>by
 have key:∀ {H:Hp} {Q:Bool→Hp→Prop},LnT (t σ) H Q→Inv X pins σ H s→wpAny (model X.prog X.w) X.A (isTrue e X.env (eval e X.env)) (TP X pins σ Q) X.xe s:=by
  intro H Q q
  induction q with
  | done q=>exact fun I=>h pins s σ _ _ I q
  | frz ea _ ih=>
   intro I
   obtain ⟨o,I'⟩:=inv_frz I ea
   refine thn (ih o I') fun u s' ⟨H2,I2,e2,q2⟩=>?_
   exact ⟨_,inv_thaw I ea I2 e2,q2⟩
 exact key q I
noncomputable def noLocR (ρ:Rho):Bool:=ρ.all fun o=>match o with
 | some (.loc _)=>false
 | _=>true
noncomputable def pairT (ix:Nat) (ft:FT) (fb fr:FS) (ρ:Rho) (T:Tp) (o:Option (Bool×Tp)):Option ((Fl×Rho)×Tp):=match o with
 | some (true,_)=>(match fb (ρ.set ix none) T with
  | some ((.rt z,ρ'),T')=>some ((.rt z,ρ'),T')
  | _=>none)
 | some (false,_)=>fr (ρ.set ix none) T
 | none=>none
noncomputable def pairK (ix:Nat) (ft:FT) (fb fr:FS) (ρ:Rho) (y:PyData) (T:Tp):Option ((Fl×Rho)×Tp):=match y with
 | .tuple [.dict d,.dict e]=>if ix < ρ.length∧noLocR ρ=true then pairT ix ft fb fr ρ T (ft (lendR (ρ.set ix (some (.d (.tuple [.dict d,.dict e]))))) []) else none
 | _=>none
noncomputable def fPairClr (ix:Nat) (m:FnM) (g:FA) (ft:FT) (fb fr:FS):FS:=fun ρ T=>bnd (g ρ T) fun ws T1=>bnd (m ws T1) fun y T2=>pairK ix ft fb fr ρ y T2
section
variable {X:Cx} {pos pos2 pos3 pos4:Pos}
theorem dss_pairClr {ix:Nat} {name x:Str} {ps:List Str} {kk:Nat} {m:FnM} {e ce:Expr} {es:List Expr} {body rest:List Stmt} {g:FA} {ft:FT} {fb fr:FS} {p cpos pos' p2 p3 sp ip sp3 ip3 apos cpos3 apos4 cpos4:Pos} {j j':_} (F:Fn X.prog X.w X.K X.mg X.base name ps kk (spO X.K ps.length m)) (hr:Room kk X.A) (hg:Gl X name) (hN:X.N.Nodup) (ha:DA X (e::es) g) (hl:LenA g ps.length) (hce:DT X ce ft) (hb:DSs X body fb) (hrest:DSs X rest fr) (hdb:(name == ("__debug__" : Str))=false:=by decide)
  (he:starEach (e::es) X.env=(false,eval e X.env)::starEach es X.env:=by exact star_cons rfl) (hpl:(backTo cpos (starEach es X.env)).any (·.1)=false:=by exact star_any rfl) (hi:X.N[ix]? = some x:=by rfl) (hx:Loc X.env.scope x:=by first | exact Or.inl rfl | exact Or.inr rfl)
  (hs:swapsWith (.Call (.Name name p) (e::es) [] cpos) (some (.Name x pos')) pos.line X.env=pure false:=by rfl) (hf:X.fn x=true∨X.env.scope.names.lookup x=some .local:=by first | exact .inl rfl | exact .inr rfl | assumption)
  (hv:Vis X.env.scope x:=by first | exact Or.inl rfl | exact Or.inr (Or.inl rfl) | exact Or.inr (Or.inr rfl)) (hd:(x == ("__debug__" : Str))=false:=by decide) (hcd:(x == ("__classdict__" : Str))=false:=by decide)
  (hbase:attributeBase (.Subscript (.Name x p2) (.Constant (.int 0) j ip) sp) "clear" X.env (eval (.Subscript (.Name x p2) (.Constant (.int 0) j ip) sp) X.env)=eval (.Subscript (.Name x p2) (.Constant (.int 0) j ip) sp) X.env:=by rfl) (hline:(apos.endLine == cpos3.line)=true:=by rfl)
  (hs3:swapsWith (.Call (.Attribute (.Subscript (.Name x p2) (.Constant (.int 0) j ip) sp) "clear" apos) [] [] cpos3) none pos3.line X.env=pure false:=by rfl)
  (hbase4:attributeBase (.Subscript (.Name x p3) (.Constant (.int 1) j' ip3) sp3) "clear" X.env (eval (.Subscript (.Name x p3) (.Constant (.int 1) j' ip3) sp3) X.env)=eval (.Subscript (.Name x p3) (.Constant (.int 1) j' ip3) sp3) X.env:=by rfl) (hline4:(apos4.endLine == cpos4.line)=true:=by rfl)
  (hs4:swapsWith (.Call (.Attribute (.Subscript (.Name x p3) (.Constant (.int 1) j' ip3) sp3) "clear" apos4) [] [] cpos4) none pos4.line X.env=pure false:=by rfl) :
  DSs X (.Assign [.Name x pos'] (.Call (.Name name p) (e::es) [] cpos) pos::.If ce body [] pos2::.Expr (.Call (.Attribute (.Subscript (.Name x p2) (.Constant (.int 0) j ip) sp) "clear" apos) [] [] cpos3) pos3::.Expr (.Call (.Attribute (.Subscript (.Name x p3) (.Constant (.int 1) j' ip3) sp3) "clear" apos4) [] [] cpos4) pos4::rest) (fPairClr ix m g ft fb fr):=by
 refine ⟨?_⟩
 refine pss_imp (pss_cons (ps_set hN hi hx (pe_fn F hr hg ha.pe hdb he hpl) hs hf) (pss_cons (ps_if (pt_ln hce.pe) hb.pe pss_nil) (pss_cons (ps_expr (pe_bm0 PySem.F.plainAttrs_dict PySem.F.slot_dict_clear PySem.F.type_dict_clear mt_clearD (pe_ix ix_seq (pv ix hi hv hd hcd) pe_int (fun _ _=>rfl)) hbase hline) hs3) (pss_cons (ps_expr (pe_bm0 PySem.F.plainAttrs_dict PySem.F.slot_dict_clear PySem.F.type_dict_clear mt_clearD (pe_ix ix_seq (pv ix hi hv hd hcd) pe_int (fun _ _=>rfl)) hbase4 hline4) hs4) hrest.pe)))) fun D σ H=>?_
 rintro ⟨O₀,H₀,F,ts,O,ρ,T,fl,ρ',T',rs,e,q⟩
 obtain ⟨ws,T1,e1,e⟩:=bnd_of e
 obtain ⟨y0,T2,e2,e⟩:=bnd_of e
 refine ⟨O,ts,ρ,T,ws,T1,rs.hc,rs.re,e1,fun vs H1 s1 hc1 r1=>?_⟩
 have rs1:=rs.step s1 hc1
 refine ⟨O,ts,T1,ws,_,_,hc1,by rw [List.append_nil]; exact r1,hl _ _ _ _ e1,e2,fun A v H2 s2 hA hc2 ov=>?_⟩
 unfold pairK at e
 split at e
 rotate_left
 ·cases e
 rename_i d d'
 split at e
 rotate_left
 ·cases e
 rename_i hchk
 obtain ⟨hix,hno⟩:=hchk
 obtain ⟨c,a,a',rfl,hab,hAA,np,hp,⟨ka,h1,h2⟩,⟨kb,h3,h4⟩⟩:=ov
 have hAa:=(hAA a).mpr (.inl rfl)
 have hAb:=(hAA a').mpr (.inr rfl)
 have nta:a∉ts:=fun z=>(hA a hAa).2 (hc1.own a z)
 have ntb:a'∉ts:=fun z=>(hA a' hAb).2 (hc1.own a' z)
 have hca:c≠a:=fun z=>np (.inr ((hAA c).mpr (.inl z)))
 have hcb:c≠a':=fun z=>np (.inr ((hAA c).mpr (.inr z)))
 have hσ:(σ.set ix (some (V.ref c)))[ix]? = some (some (.ref c)):=List.getElem?_set_self (by rw [rs.len]; exact hix)
 have st:∀ Hx:Hp,(∀ w u,w≠a→w≠a'→H2 w=some u→Hx w=some u)→RS X.K O₀ H₀ F ts O Hx (σ.set ix (some (.ref c))) (ρ.set ix none) T2:=fun Hx hk=>by
  have le:Le (fun b=>O b∨A b) H2 O Hx:=fun w u n z=>⟨fun y=>n (.inl y),hk w u (fun y=>n (.inr (y ▸ hAa))) (fun y=>n (.inr (y ▸ hAb))) z⟩
  refine RS.unset (rs1.step (fun w u n z=>?_) ⟨hc1.own,fun w hw=>(hc2.trk w (.inl hw)).to fun u z=>hk w u (fun y=>(hA a hAa).2 (y ▸ hw)) (fun y=>(hA a' hAb).2 (y ▸ hw)) z,hc2.nd,hc2.len,fun i w ys q1 q2=>?_⟩)
  ·exact hk w u (fun y=>by rw [y,(hA a hAa).1] at z; cases z) (fun y=>by rw [y,(hA a' hAb).1] at z; cases z) (s2 w u n z)
  ·have hm:=List.mem_of_getElem? q1
   exact (hc2.tape i w ys q1 q2).mono (fun u z=>hk w u (fun y=>nta (y ▸ hm)) (fun y=>ntb (y ▸ hm)) z) le
 refine .frz h1 fun o=>.frz ((upd_ne (Ne.symm hab)).trans h3) fun o'=>.done ?_
 have old:∀ w,w≠a→w≠a'→upd (upd H2 a (.frz o (.dK ka))) a' (.frz o' (.dK kb)) w=H2 w:=fun w z z'=>by rw [upd_ne z',upd_ne z]
 have le2:Le (fun b=>O b∨A b) H2 (fun _=>False) (upd (upd H2 a (.frz o (.dK ka))) a' (.frz o' (.dK kb))):=fun w u n z=>⟨fun y=>y,by
  rw [old w (fun y=>n (.inr (y ▸ hAa))) (fun y=>n (.inr (y ▸ hAb)))]; exact z⟩
 have le1:Le O H1 (fun _=>False) (upd (upd H2 a (.frz o (.dK ka))) a' (.frz o' (.dK kb))):=fun w u n z=>⟨fun y=>y,by
  rw [old w (fun y=>by rw [y,(hA a hAa).1] at z; cases z) (fun y=>by rw [y,(hA a' hAb).1] at z; cases z)]
  exact s2 w u (fun y=>n (hc1.own w y)) z⟩
 cases et:ft (lendR (ρ.set ix (some (.d (.tuple [.dict d,.dict d']))))) [] with
 | none=>rw [et] at e; cases e
 | some bt=>
  obtain ⟨b,Tb⟩:=bt
  rw [et] at e
  refine ⟨fun _=>False,[],_,[],b,Tb,⟨fun b hb=>(by cases hb),fun b hb=>hb.elim,List.nodup_nil,rfl,fun i a xs e1 _=>by simp at e1⟩,fun jj w ew=>?_,et,fun H' s' _=>?_⟩
  ·unfold lendR at ew
   rw [List.getElem?_map] at ew
   by_cases z:ix=jj
   ·subst z
    rw [List.getElem?_set_self hix] at ew
    cases ew
    exact ⟨.ref c,hσ,.tup (.inl ⟨fun z=>z,.inl ((old c hca hcb).trans hp)⟩) (.cons (.dct (fun z=>z) ((upd_ne hab).trans upd_same) (h2.mono le2)) (.cons (.dct (fun z=>z) upd_same (h4.mono le2)) .nil))⟩
   ·rw [List.getElem?_set_ne z] at ew
    cases hu:ρ[jj]? with
    | none=>rw [hu] at ew; cases ew
    | some u=>
     cases u with
     | none=>rw [hu] at ew; cases ew
     | some u=>
      rw [hu] at ew
      have e':lendW u=some w:=Option.some.inj ew
      obtain ⟨v,g1,g2⟩:=rs1.re jj u hu
      refine ⟨v,by rw [List.getElem?_set_ne z]; exact g1,?_⟩
      cases u with
      | d x=>cases e'; exact Rep.mono le1 g2
      | tp k=>cases e'
      | loc x=>
       have:=List.all_eq_true.mp hno _ (List.mem_of_getElem? hu)
       cases this
  ·have g3:H' a'=some (.frz o' (.dK kb)):=s' _ _ (by simp) upd_same
   have g1:upd H' a' (.dK kb) a=some (.frz o (.dK ka)):=by
    rw [upd_ne hab]
    exact s' _ _ (by simp) ((upd_ne hab).trans upd_same)
   refine ⟨g3,g1,?_⟩
   have k3:∀ w u,w≠a→w≠a'→H2 w=some u→upd (upd H' a' (.dK kb)) a (.dK ka) w=some u:=fun w u z z' q=>by
    rw [upd_ne z,upd_ne z']
    exact s' _ _ (by simp) ((old w z z').trans q)
   cases b with
   | true=>
    have e0:(match fb (ρ.set ix none) T2 with
     | some ((.rt z,ρ'),T')=>some ((Fl.rt z,ρ'),T')
     | _=>none)=some ((fl,ρ'),T'):=e
    split at e0
    ·rename_i z ρ1 T3 eb
     cases e0
     exact iteT ⟨O₀,H₀,F,ts,O,_,T2,.rt z,_,_,st _ k3,eb,q⟩
    ·cases e0
   | false=>
    refine iteF ?_
    have e0:fr (ρ.set ix none) T2=some ((fl,ρ'),T'):=e
    have hp3:=k3 c _ hca hcb hp
    refine ⟨_,hσ,.inr (.inl ⟨c,[.ref a,.ref a'],0,.ref a,rfl,rfl,.inl (.inl hp3),rfl,.inr (.inr (.inl ⟨rfl,.inl ⟨ka,upd_same⟩⟩)),a,ka,rfl,rfl,upd_same,?_⟩)⟩
    have hp4:upd (upd (upd H' a' (.dK kb)) a (.dK ka)) a (.dK []) c=some (.tup [.ref a,.ref a']):=(upd_ne hca).trans hp3
    have hb4:upd (upd (upd H' a' (.dK kb)) a (.dK ka)) a (.dK []) a'=some (.dK kb):=by rw [upd_ne (Ne.symm hab),upd_ne (Ne.symm hab),upd_same]
    refine ⟨_,hσ,.inr (.inl ⟨c,[.ref a,.ref a'],1,.ref a',rfl,rfl,.inl (.inl hp4),rfl,.inr (.inr (.inl ⟨rfl,.inl ⟨kb,hb4⟩⟩)),a',kb,rfl,rfl,hb4,?_⟩)⟩
    exact ⟨O₀,H₀,F,ts,O,_,T2,fl,ρ',T',st _ (fun w u z z' q=>by rw [upd_ne z',upd_ne z]; exact k3 w u z z' q),e0,q⟩
end
end D
namespace D
open PySem PySem.Spec PyProof.Rows L2
section
variable {X:Cx} {pos:Pos}
noncomputable def retDPK (ρ:Rho) (T:Tp) (o:Option (List (Str×PyData))):Option ((Fl×Rho)×Tp):=match o with
 | some l=>if okP2 l=true then some ((.ro (.dict (dctOf l)),ρ),T) else none
 | none=>none
noncomputable def fRetDP (f:FE):FS:=fun ρ T=>bnd (f ρ T) fun w T1=>retDPK ρ T1 (prsO (view T1 w))
theorem ds_retDP {e:Expr} {fe:FE} {p cpos:Pos} (hm:X.mg "dict" = none) (he:DE X e fe) (hcm:X.calm=true:=by rfl) (hg:Gl X "dict":=by rfl)
  (hse:starEach [e] X.env=(false,eval e X.env)::starEach [] X.env:=by exact star_cons rfl) (hpl:(backTo cpos (starEach [] X.env)).any (·.1)=false:=by exact star_any rfl) :
  DS X (.Return (some (.Call (.Name "dict" p) [e] [] cpos)) pos) (fRetDP fe):=by
 refine ⟨?_⟩
 refine ps_imp (ps_ret (pe_callTy (call_dictP hcm) hg hm boot_dict (pa_cons he.pe pa_nil hse) (by decide) (by decide) hse hpl)) fun D σ H=>?_
 rintro ⟨O₀,H₀,F,ts,O,ρ,T,fl,ρ',T',rs,e,q⟩
 obtain ⟨w,T1,e1,e⟩:=bnd_of e
 refine ⟨O,ts,ρ,T,w,T1,rs.hc,rs.re,e1,fun v H1 s1 hc1 r1=>?_⟩
 have rs1:=rs.step s1 hc1
 unfold retDPK at e
 split at e
 ·rename_i l hl
  split at e
  ·rename_i ho
   cases e
   have nd:=of_decide_eq_true ((Bool.and_eq_true _ _ ▸ ho).1)
   have hz:=of_decide_eq_true ((Bool.and_eq_true _ _ ▸ ho).2)
   unfold prsO at hl
   split at hl
   ·rename_i ds hv
    obtain ⟨a,vs,rfl,t,r⟩:=(hc1.view r1 hv).lst
    obtain ⟨kvs,h1,h2,h3⟩:=pairs_of r hl
    have hlen:kvs.length=l.length:=by have:=congrArg List.length h2; simpa using this
    refine ⟨a,vs,kvs,rfl,t,h1,by rw [hlen]; exact Nat.le_trans hz (by decide),fun c hp=>?_⟩
    have hm:mergeK [] (kvs.map keyS)=kvs.map keyS:=by
     have:=mergeK_nd kvs [] (by rw [List.map_nil,List.nil_append,h2]; exact nd)
     simpa using this
    rw [hm]
    have nt:c∉ts:=fun z=>by
     obtain ⟨u,z'⟩:=(hc1.trk c (hc1.own c z)).ex
     rw [hp] at z'; cases z'
    have nO:¬ O c:=hc1.fresh hp
    have h0:H₀ c=none:=by
     cases z:H₀ c with
     | none=>rfl
     | some o=>have:=rs1.same c o nt z; rw [hp] at this; cases this
    have le:Le O H1 (fun b=>O₀ b∨b=c) (upd H1 c (.dK (kvs.map keyS))):=fun w u n z=>⟨fun y=>y.elim (fun y=>n (rs1.sub w y)) (fun y=>by rw [y,hp] at z; cases z),by rw [upd_ne (ne_of_none z hp)]; exact z⟩
    refine q (fun b=>b=c) (.ref c) _ (rs1.same.trans (.new hp _)) (fun b hb=>by rw [hb]; exact ⟨h0,fun z=>nO (rs1.sub c z)⟩) ⟨fun b hb=>.inl (rs1.ots b hb),fun b hb=>?_,hc1.nd,hc1.len,fun i w ys q1 q2=>?_⟩ ⟨c,rfl,fun _=>Iff.rfl,_,upd_same,h3.mono le⟩
    ·by_cases z:b=c
     ·rw [z,upd_same]; exact .inr (.inl ⟨_,rfl⟩)
     ·rw [upd_ne z]
      exact hc1.trk b (rs1.sub b (hb.resolve_right z))
    ·exact (hc1.tape i w ys q1 q2).mono (fun u z=>by rw [upd_ne (ne_of_none z hp)]; exact z) le
   ·cases hl
  ·cases e
 ·cases e
end
end D
namespace G
open PySem PySem.Spec PyProof.Rows L2 D
noncomputable def m_is_whole:FnM:=mkFn 1 (fRet (fAndV (fUn (isiD .int) (fVar 0)) (fNotV (fUn (isiD .bl) (fVar 0)))))
noncomputable def m_has_only:FnM:=mkFn 2 (fRet (fCB allD (fCons (fComp (fIter (fVar 0)) fTrue (fBin inD (fVar 0) (fVar 2))) fNil)))
noncomputable def m_is_name:FnM:=mkFn 1 (fRet (fAndV (fUn (isiD .str) (fVar 0)) (fAndV (fChain leD leD (fC (.int 1)) (fCB lenD (fCons (fVar 0) fNil)) (fC (.int 8))) (fCall m_has_only (fCons (fVar 0) (fCons (fC (.str (Str.ofString "abcdefghijklmnopqrstuvwxyz"))) fNil))))))
noncomputable def m_is_single:FnM:=mkFn 1 (fSeq (fIf (fTru (fCall m_is_whole (fCons (fVar 0) fNil))) (fRet (fBin leD (fCB absD (fCons (fVar 0) fNil)) (fBin powD (fC (.int 10)) (fC (.int 18))))) fNext) (fRet (fAndV (fUn (isiD .str) (fVar 0)) (fAndV (fBin leD (fCB lenD (fCons (fVar 0) fNil)) (fC (.int 20))) (fCall m_has_only (fCons (fVar 0) (fCons (fC (.str (Str.ofString "abcdefghijklmnopqrstuvwxyz0123456789-"))) fNil)))))))
noncomputable def m_is_built:Nat→FnM
 | 0=>fun _ _=>none
 | n + 1=>mkFn 2 (fSeq (fIf (fNotT (fTru (fUn (isiD .tup) (fVar 0)))) (fRet (fCall m_is_single (fCons (fVar 0) fNil))) fNext) (fSeq (fIf (fOrT (fTst (fBin eqD (fVar 1) (fC (.int 0)))) (fTst (fBin gtD (fCB lenD (fCons (fVar 0) fNil)) (fC (.int 8))))) (fRet (fC (.bool false))) fNext) (fRet (fCB allD (fCons (fComp (fIter (fVar 0)) fTrue (fCall (m_is_built n) (fCons (fVar 0) (fCons (fBin subD (fVar 2) (fC (.int 1))) fNil)))) fNil)))))
noncomputable def m_many_of:Nat→FnM
 | 0=>fun _ _=>none
 | n + 1=>mkFn 1 (fSeq (fIf (fNotT (fTru (fUn (isiD .tup) (fVar 0)))) (fRet (fC (.int 1))) fNext) (fRet (fBin addD (fC (.int 1)) (fCB sumD (fCons (fComp (fIter (fVar 0)) fTrue (fCall (m_many_of n) (fCons (fVar 0) fNil))) fNil)))))
noncomputable def m_is_value:FnM:=mkFn 1 (fRet (fAndV (fCall (m_is_built 25) (fCons (fVar 0) (fCons (fC (.int 4)) fNil))) (fBin leD (fCall (m_many_of 25) (fCons (fVar 0) fNil)) (fC (.int 40)))))
noncomputable def m_is_filled:FnM:=mkFn 3 (fSeq (fIf (fTst (fBin eqD (fVar 0) (fC (.str (Str.ofString "put"))))) (fRet (fCall m_is_value (fCons (fVar 1) fNil))) fNext) (fSeq (fIf (fTst (fBin eqD (fVar 0) (fC (.str (Str.ofString "got"))))) (fRet (fAndV (fCall m_is_whole (fCons (fVar 1) fNil)) (fChain leD ltD (fC (.int 0)) (fVar 1) (fVar 2)))) fNext) (fRet (fAndV (fBin eqD (fVar 0) (fC (.str (Str.ofString "row")))) (fAndV (fUn (isiD .tup) (fVar 1)) (fBin leD (fCB lenD (fCons (fVar 1) fNil)) (fC (.int 8))))))))
noncomputable def m_is_shaped:FnM:=mkFn 2 (fSeq (fIf (fOrT (fNotT (fTru (fUn (isiD .tup) (fVar 0)))) (fOrT (fTst (fBin ltD (fCB lenD (fCons (fVar 0) fNil)) (fC (.int 2)))) (fNotT (fTru (fUn (isiD .str) (fBin ixD (fVar 0) (fC (.int 0)))))))) (fRet (fC (.bool false))) fNext) (fSeq (fIf (fTst (fUn (inT [((Str.ofString "many"),1),((Str.ofString "part"),2),((Str.ofString "sum"),2),((Str.ofString "join"),2),((Str.ofString "same"),2),((Str.ofString "less"),2)]) (fBin ixD (fVar 0) (fC (.int 0))))) (fRet (fBin eqD (fCB lenD (fCons (fVar 0) fNil)) (fBin addD (fC (.int 1)) (fUn (atT [((Str.ofString "many"),1),((Str.ofString "part"),2),((Str.ofString "sum"),2),((Str.ofString "join"),2),((Str.ofString "same"),2),((Str.ofString "less"),2)]) (fBin ixD (fVar 0) (fC (.int 0))))))) fNext) (fRet (fAndV (fBin eqD (fCB lenD (fCons (fVar 0) fNil)) (fC (.int 2))) (fCall m_is_filled (fCons (fBin ixD (fVar 0) (fC (.int 0))) (fCons (fBin ixD (fVar 0) (fC (.int 1))) (fCons (fVar 1) fNil))))))))
noncomputable def m_exprs_within:FnM:=mkFn 1 (fSeq (fIf (fOrT (fTst (fBin eqD (fBin ixD (fVar 0) (fC (.int 0))) (fC (.str (Str.ofString "put"))))) (fTst (fBin eqD (fBin ixD (fVar 0) (fC (.int 0))) (fC (.str (Str.ofString "got")))))) (fRet (fSeqD .list fNil)) fNext) (fSeq (fIf (fTst (fBin eqD (fBin ixD (fVar 0) (fC (.int 0))) (fC (.str (Str.ofString "row"))))) (fRet (fCB listD (fCons (fBin ixD (fVar 0) (fC (.int 1))) fNil))) fNext) (fRet (fCB listD (fCons (fSl (fVar 0) (fP (fC (.int 1))) fNoP) fNil)))))
noncomputable def m_got_behind:FnM:=mkFn 2 (fRet (fIfE (fTst (fBin inD (fVar 0) (fC (.tuple [.str (Str.ofString "want"),.str (Str.ofString "peek")])))) (fBin addD (fVar 1) (fC (.int 1))) (fVar 1)))
noncomputable def m_places_within:FnM:=mkFn 4 (fSeq (fSet 1 (fBin ixD (fVar 0) (fC (.int 1)))) (fSeq (fSet 2 (fBin ixD (fVar 0) (fC (.int 2)))) (fSeq (fIf (fTst (fBin eqD (fBin ixD (fVar 0) (fC (.int 0))) (fC (.str (Str.ofString "expr"))))) (fRet (fComp (fIter (fCall m_exprs_within (fCons (fVar 1) fNil))) fTrue (fSeqD .tuple (fCons (fC (.str (Str.ofString "expr"))) (fCons (fVar 0) (fCons (fVar 3) fNil)))))) fNext) (fSeq (fIf (fTst (fBin eqD (fBin ixD (fVar 1) (fC (.int 0))) (fC (.str (Str.ofString "fail"))))) (fRet (fSeqD .list fNil)) fNext) (fSeq (fSet 3 (fCall m_got_behind (fCons (fBin ixD (fVar 1) (fC (.int 0))) (fCons (fVar 2) fNil)))) (fRet (fBin addD (fSeqD .list (fCons (fSeqD .tuple (fCons (fC (.str (Str.ofString "expr"))) (fCons (fBin ixD (fVar 1) (fC (.int 1))) (fCons (fVar 2) fNil)))) fNil)) (fComp (fIter (fSl (fVar 1) (fP (fC (.int 2))) fNoP)) fTrue (fSeqD .tuple (fCons (fC (.str (Str.ofString "recipe"))) (fCons (fVar 0) (fCons (fVar 4) fNil))))))))))))
noncomputable def m_layer_within:FnM:=mkFn 3 (fSeq (fSetL 1 fNil) (fSeq (fFor 2 (fIter (fVar 0)) (fExt 1 (fCall m_places_within (fCons (fVar 2) fNil)))) (fRet (fVar 1))))
noncomputable def m_is_recipe_shaped:FnM:=mkFn 1 (fSeq (fIf (fOrT (fNotT (fTru (fUn (isiD .tup) (fVar 0)))) (fOrT (fTst (fBin ltD (fCB lenD (fCons (fVar 0) fNil)) (fC (.int 2)))) (fNotT (fTru (fUn (isiD .str) (fBin ixD (fVar 0) (fC (.int 0)))))))) (fRet (fC (.bool false))) fNext) (fSeq (fIf (fOrT (fTst (fUn (ninT [((Str.ofString "say"),0),((Str.ofString "fail"),0),((Str.ofString "want"),1),((Str.ofString "peek"),1),((Str.ofString "when"),2)]) (fBin ixD (fVar 0) (fC (.int 0))))) (fTst (fBin neD (fCB lenD (fCons (fVar 0) fNil)) (fBin addD (fC (.int 2)) (fUn (atT [((Str.ofString "say"),0),((Str.ofString "fail"),0),((Str.ofString "want"),1),((Str.ofString "peek"),1),((Str.ofString "when"),2)]) (fBin ixD (fVar 0) (fC (.int 0)))))))) (fRet (fC (.bool false))) fNext) (fRet (fOrV (fBin neD (fBin ixD (fVar 0) (fC (.int 0))) (fC (.str (Str.ofString "fail")))) (fCall m_is_name (fCons (fBin ixD (fVar 0) (fC (.int 1))) fNil))))))
noncomputable def m_is_fitting:FnM:=mkFn 1 (fSeq (fIf (fTst (fBin gtD (fBin ixD (fVar 0) (fC (.int 2))) (fC (.int 12)))) (fRet (fC (.bool false))) fNext) (fSeq (fIf (fTst (fBin eqD (fBin ixD (fVar 0) (fC (.int 0))) (fC (.str (Str.ofString "expr"))))) (fRet (fCall m_is_shaped (fCons (fBin ixD (fVar 0) (fC (.int 1))) (fCons (fBin ixD (fVar 0) (fC (.int 2))) fNil)))) fNext) (fRet (fCall m_is_recipe_shaped (fCons (fBin ixD (fVar 0) (fC (.int 1))) fNil)))))
noncomputable def m_is_recipe:FnM:=mkFn 4 (fSeq (fSet 1 (fSeqD .list (fCons (fSeqD .tuple (fCons (fC (.str (Str.ofString "recipe"))) (fCons (fVar 0) (fCons (fC (.int 0)) fNil)))) fNil))) (fSeq (fSet 2 (fC (.int 0))) (fSeq (fFor 3 (fRng1 (fC (.int 20))) (fSeq (fSet 2 (fBin addD (fVar 2) (fCB lenD (fCons (fVar 1) fNil)))) (fSeq (fIf (fOrT (fTst (fBin gtD (fVar 2) (fC (.int 60)))) (fNotT (fTru (fCB allD (fCons (fComp (fIter (fVar 1)) fTrue (fCall m_is_fitting (fCons (fVar 0) fNil))) fNil))))) (fRet (fC (.bool false))) fNext) (fSet 1 (fCall m_layer_within (fCons (fVar 1) fNil)))))) (fRet (fBin eqD (fCB lenD (fCons (fVar 1) fNil)) (fC (.int 0)))))))
noncomputable def m_names_of:FnM:=mkFn 1 (fRet (fCB sortD (fCons (fBin addD (fCB listK (fCons (fBin ixD (fVar 0) (fC (.int 0))) fNil)) (fCB listK (fCons (fBin ixD (fVar 0) (fC (.int 1))) fNil))) fNil)))
noncomputable def m_sort_at:FnM:=mkFn 2 (fSeq (fIf (fTst (fBin inA (fVar 1) (fBin ixD (fVar 0) (fC (.int 0))))) (fRet (fC (.str (Str.ofString "told")))) fNext) (fSeq (fIf (fTst (fBin inA (fVar 1) (fBin ixD (fVar 0) (fC (.int 1))))) (fRet (fC (.str (Str.ofString "made")))) fNext) (fRet (fC (.str (Str.ofString "lacks"))))))
noncomputable def m_refuse_no_name:FnM:=mkFn 1 (fIf (fNotT (fTru (fCall m_is_name (fCons (fVar 0) fNil)))) fNone fNext)
noncomputable def m_rest_of:FnM:=mkFnO 4 (fSeq (fSetDC 2 (fBin ixD (fVar 0) (fC (.int 0)))) (fSeq (fSetDC 3 (fBin ixD (fVar 0) (fC (.int 1)))) (fSeq (fPopN 2 (fVar 1)) (fSeq (fPopN 3 (fVar 1)) (fRetO2 2 3)))))
noncomputable def m_room_for:FnM:=mkFnO 2 (fSeq (fIf (fAndT (fTst (fBin eqD (fCall m_sort_at (fCons (fVar 0) (fCons (fVar 1) fNil))) (fC (.str (Str.ofString "lacks"))))) (fTst (fBin geD (fCB lenD (fCons (fCall m_names_of (fCons (fVar 0) fNil)) fNil)) (fC (.int 40))))) fNone fNext) (fRetOP m_rest_of (fCons (fVar 0) (fCons (fVar 1) fNil))))
noncomputable def m_told_with:FnM:=mkFnO 4 (fSeq (fDrop (fCall m_refuse_no_name (fCons (fVar 1) fNil))) (fSeq (fIf (fNotT (fTru (fCall m_is_value (fCons (fVar 2) fNil)))) fNone fNext) (fOwnPut 3 false m_room_for (fCons (fVar 0) (fCons (fVar 1) fNil)) (fVar 1) (fVar 2))))
noncomputable def m_made_with:FnM:=mkFnO 4 (fSeq (fDrop (fCall m_refuse_no_name (fCons (fVar 1) fNil))) (fSeq (fIf (fNotT (fTru (fCall m_is_recipe (fCons (fVar 2) fNil)))) fNone fNext) (fOwnPut 3 true m_room_for (fCons (fVar 0) (fCons (fVar 1) fNil)) (fVar 1) (fVar 2))))
noncomputable def m_without:FnM:=mkFnO 2 (fSeq (fDrop (fCall m_refuse_no_name (fCons (fVar 1) fNil))) (fSeq (fIf (fTst (fBin eqD (fCall m_sort_at (fCons (fVar 0) (fCons (fVar 1) fNil))) (fC (.str (Str.ofString "lacks"))))) fNone fNext) (fRetOP m_rest_of (fCons (fVar 0) (fCons (fVar 1) fNil)))))
noncomputable def m__law_feed:FnM:=mkFnO 2 (fSeq (fIf (fTst (fBin eqD (fCB lenD (fCons (fVar 0) fNil)) (fC (.int 0)))) (fRetOL (fCons (fC (.int 0)) (fCons (fC (.int 0)) (fCons (fVar 1) fNil)))) fNext) (fRetOL (fCons (fBin ixD (fVar 0) (fBin modD (fVar 1) (fCB lenD (fCons (fVar 0) fNil)))) (fCons (fC (.int 0)) (fCons (fVar 1) fNil)))))
noncomputable def m__law_next:FnM:=mkFn 4 (fSeq (fPut (fVar 0) (fC (.int 1)) (fBin addD (fBin ixD (fVar 0) (fC (.int 1))) (fC (.int 1)))) (fSeq (fIf (fTst (fBin geD (fBin ixD (fVar 0) (fC (.int 0))) (fBin powD (fC (.int 10)) (fC (.int 18))))) (fSeq (fSet 2 (fBin modD (fBin ixD (fVar 0) (fC (.int 0))) (fVar 1))) (fSeq (fPut (fVar 0) (fC (.int 0)) (fBin fdivG (fBin ixD (fVar 0) (fC (.int 0))) (fVar 1))) (fRet (fVar 2)))) fNext) (fSeq (fSet 3 (fBin addD (fBin addD (fBin modD (fBin ixD (fVar 0) (fC (.int 0))) (fC (.int 2147483647))) (fBin mulD (fC (.int 40692)) (fBin ixD (fVar 0) (fC (.int 1))))) (fBin mulD (fC (.int 7919)) (fBin ixD (fVar 0) (fC (.int 2)))))) (fSeq (fSet 3 (fBin modD (fBin mulD (fBin addD (fVar 3) (fC (.int 12345))) (fC (.int 48271))) (fC (.int 2147483647)))) (fRet (fBin modD (fBin modD (fBin mulD (fBin modD (fBin addD (fBin mulD (fVar 3) (fC (.int 69621))) (fBin ixD (fVar 0) (fC (.int 1)))) (fC (.int 2147483399))) (fC (.int 16807))) (fC (.int 2147483563))) (fVar 1)))))))
noncomputable def m__law_names:FnM:=mkFn 8 (fSeq (fSet 2 (fSeqD .list (fCons (fC (.str (Str.ofString "made"))) (fCons (fC (.str (Str.ofString "told"))) (fCons (fC (.str (Str.ofString "say"))) (fCons (fC (.str (Str.ofString "want"))) (fCons (fC (.str (Str.ofString "fails"))) (fCons (fC (.str (Str.ofString "got"))) (fCons (fC (.str (Str.ofString "put"))) (fCons (fC (.str (Str.ofString "lacks"))) fNil)))))))))) (fSeq (fSet 3 (fC (.str (Str.ofString "abcdefghijklmnopqrstuvwxyz")))) (fSeq (fSetL 4 fNil) (fSeq (fFor 5 (fRng1 (fVar 1)) (fSeq (fSet 6 (fCall m__law_next (fCons (fVar 0) (fCons (fC (.int 5)) fNil)))) (fSeq (fSet 7 (fBin ixD (fVar 3) (fCall m__law_next (fCons (fVar 0) (fCons (fC (.int 26)) fNil))))) (fSeq (fIf (fTst (fBin eqD (fVar 6) (fC (.int 0)))) (fSet 7 (fBin ixD (fVar 2) (fCall m__law_next (fCons (fVar 0) (fCons (fC (.int 8)) fNil))))) fNext) (fSeq (fIf (fAndT (fTst (fBin eqD (fVar 6) (fC (.int 1)))) (fTst (fBin gtD (fCB lenD (fCons (fVar 4) fNil)) (fC (.int 0))))) (fSet 7 (fSl (fBin addD (fBin ixD (fVar 4) (fUn negD (fC (.int 1)))) (fVar 7)) fNoP (fP (fC (.int 8))))) fNext) (fSeq (fIf (fTst (fBin eqD (fVar 6) (fC (.int 2)))) (fSet 7 (fBin mulD (fBin addD (fVar 7) (fBin ixD (fVar 3) (fCall m__law_next (fCons (fVar 0) (fCons (fC (.int 26)) fNil))))) (fC (.int 4)))) fNext) (fSeq (fIf (fTst (fBin inD (fVar 7) (fVar 4))) (fSet 7 (fBin ixD (fComp (fIter (fVar 3)) (fTst (fBin notInD (fVar 0) (fVar 5))) (fVar 0)) (fC (.int 0)))) fNext) (fIns 4 (fCall m__law_next (fCons (fVar 0) (fCons (fBin addD (fCB lenD (fCons (fVar 4) fNil)) (fC (.int 1))) fNil))) (fVar 7))))))))) (fRet (fVar 4))))))
noncomputable def m__law_value:FnM:=mkFn 4 (fSeq (fSet 2 (fSeqD .list (fCons (fC (.int 0)) (fCons (fC (.int 1)) (fCons (fC (.str (Str.ofString ""))) (fCons (fSeqD .tuple fNil) (fCons (fC (.int 2)) (fCons (fC (.str (Str.ofString "a"))) (fCons (fSeqD .tuple (fCons (fC (.int 0)) fNil)) (fCons (fSeqD .tuple (fCons (fC (.int 1)) (fCons (fC (.str (Str.ofString ""))) fNil))) (fCons (fUn negD (fC (.int 7))) (fCons (fBin powD (fC (.int 10)) (fC (.int 18))) (fCons (fC (.str (Str.ofString "x-0"))) (fCons (fSeqD .tuple (fCons (fSeqD .tuple fNil) (fCons (fSeqD .tuple (fCons (fC (.str (Str.ofString "b"))) (fCons (fC (.int 3)) fNil))) fNil))) (fCons (fSeqD .tuple (fCons (fC (.int 0)) (fCons (fC (.int 1)) (fCons (fC (.int 2)) fNil)))) (fCons (fBin subD (fC (.int 1)) (fBin powD (fC (.int 10)) (fC (.int 18)))) fNil)))))))))))))))) (fSeq (fSet 3 (fCall m__law_next (fCons (fVar 0) (fCons (fC (.int 18)) fNil)))) (fSeq (fIf (fTst (fBin ltD (fVar 3) (fC (.int 14)))) (fRet (fBin ixD (fVar 2) (fVar 3))) fNext) (fSeq (fIf (fTst (fBin eqD (fVar 3) (fC (.int 14)))) (fRet (fCall m__law_next (fCons (fVar 0) (fCons (fBin powD (fC (.int 10)) (fC (.int 18))) fNil)))) fNext) (fRet (fBin ixD (fVar 1) (fCall m__law_next (fCons (fVar 0) (fCons (fCB lenD (fCons (fVar 1) fNil)) fNil)))))))))
noncomputable def m__law_expr:Nat→FnM
 | 0=>fun _ _=>none
 | n + 1=>mkFn 7 (fSeq (fSet 4 (fCall m__law_next (fCons (fVar 0) (fCons (fC (.int 12)) fNil)))) (fSeq (fIf (fAndT (fTst (fBin ltD (fVar 4) (fC (.int 4)))) (fTst (fBin gtD (fVar 1) (fC (.int 0))))) (fRet (fSeqD .tuple (fCons (fC (.str (Str.ofString "got"))) (fCons (fCall m__law_next (fCons (fVar 0) (fCons (fVar 1) fNil))) fNil)))) fNext) (fSeq (fIf (fOrT (fTst (fBin eqD (fVar 3) (fC (.int 0)))) (fTst (fBin ltD (fVar 4) (fC (.int 7))))) (fRet (fSeqD .tuple (fCons (fC (.str (Str.ofString "put"))) (fCons (fCall m__law_value (fCons (fVar 0) (fCons (fVar 2) fNil))) fNil)))) fNext) (fSeq (fSet 5 (fCall (m__law_expr n) (fCons (fVar 0) (fCons (fVar 1) (fCons (fVar 2) (fCons (fBin subD (fVar 3) (fC (.int 1))) fNil)))))) (fSeq (fIf (fTst (fBin eqD (fVar 4) (fC (.int 7)))) (fRet (fSeqD .tuple (fCons (fC (.str (Str.ofString "many"))) (fCons (fVar 5) fNil)))) fNext) (fSeq (fSet 6 (fCall (m__law_expr n) (fCons (fVar 0) (fCons (fVar 1) (fCons (fVar 2) (fCons (fBin subD (fVar 3) (fC (.int 1))) fNil)))))) (fSeq (fIf (fTst (fBin eqD (fVar 4) (fC (.int 8)))) (fRet (fSeqD .tuple (fCons (fC (.str (Str.ofString "row"))) (fCons (fSl (fSeqD .tuple (fCons (fVar 5) (fCons (fVar 6) fNil))) fNoP (fP (fCall m__law_next (fCons (fVar 0) (fCons (fC (.int 3)) fNil))))) fNil)))) fNext) (fRet (fSeqD .tuple (fCons (fBin ixD (fSeqD .list (fCons (fC (.str (Str.ofString "part"))) (fCons (fC (.str (Str.ofString "sum"))) (fCons (fC (.str (Str.ofString "join"))) (fCons (fC (.str (Str.ofString "same"))) (fCons (fC (.str (Str.ofString "less"))) fNil)))))) (fCall m__law_next (fCons (fVar 0) (fCons (fC (.int 5)) fNil)))) (fCons (fVar 5) (fCons (fVar 6) fNil))))))))))))
noncomputable def m__law_wanted:FnM:=mkFn 4 (fSeq (fSet 3 (fCall m__law_next (fCons (fVar 0) (fCons (fC (.int 10)) fNil)))) (fSeq (fIf (fTst (fBin ltD (fVar 3) (fC (.int 7)))) (fRet (fSeqD .tuple (fCons (fC (.str (Str.ofString "put"))) (fCons (fBin ixD (fVar 2) (fCall m__law_next (fCons (fVar 0) (fCons (fCB lenD (fCons (fVar 2) fNil)) fNil)))) fNil)))) fNext) (fSeq (fIf (fTst (fBin eqD (fVar 3) (fC (.int 7)))) (fRet (fSeqD .tuple (fCons (fC (.str (Str.ofString "join"))) (fCons (fSeqD .tuple (fCons (fC (.str (Str.ofString "put"))) (fCons (fBin ixD (fVar 2) (fCall m__law_next (fCons (fVar 0) (fCons (fCB lenD (fCons (fVar 2) fNil)) fNil)))) fNil))) (fCons (fSeqD .tuple (fCons (fC (.str (Str.ofString "put"))) (fCons (fC (.str (Str.ofString ""))) fNil))) fNil))))) fNext) (fRet (fCall (m__law_expr 25) (fCons (fVar 0) (fCons (fVar 1) (fCons (fVar 2) (fCons (fC (.int 1)) fNil)))))))))
noncomputable def m__law_recipe:Nat→FnM
 | 0=>fun _ _=>none
 | n + 1=>mkFn 10 (fSeq (fSet 6 (fCall m__law_next (fCons (fVar 0) (fCons (fC (.int 8)) fNil)))) (fSeq (fIf (fAndT (fTst (fBin ltD (fVar 6) (fC (.int 4)))) (fTst (fBin gtD (fVar 3) (fC (.int 0))))) (fSeq (fSet 7 (fIfE (fAndT (fTru (fVar 5)) (fTst (fBin eqD (fCall m__law_next (fCons (fVar 0) (fCons (fC (.int 3)) fNil))) (fC (.int 0))))) (fC (.str (Str.ofString "peek"))) (fC (.str (Str.ofString "want"))))) (fSeq (fSet 8 (fCall m__law_wanted (fCons (fVar 0) (fCons (fVar 1) (fCons (fVar 2) fNil))))) (fRet (fSeqD .tuple (fCons (fVar 7) (fCons (fVar 8) (fCons (fCall (m__law_recipe n) (fCons (fVar 0) (fCons (fBin addD (fVar 1) (fC (.int 1))) (fCons (fVar 2) (fCons (fBin subD (fVar 3) (fC (.int 1))) (fCons (fVar 4) (fCons (fVar 5) fNil))))))) fNil))))))) fNext) (fSeq (fIf (fAndT (fTst (fBin inD (fVar 6) (fSeqD .tuple (fCons (fC (.int 4)) (fCons (fC (.int 5)) fNil))))) (fTst (fBin gtD (fVar 4) (fC (.int 0))))) (fSeq (fSet 8 (fCall (m__law_expr 25) (fCons (fVar 0) (fCons (fVar 1) (fCons (fVar 2) (fCons (fC (.int 1)) fNil)))))) (fSeq (fSet 9 (fCall (m__law_recipe n) (fCons (fVar 0) (fCons (fVar 1) (fCons (fVar 2) (fCons (fVar 3) (fCons (fBin subD (fVar 4) (fC (.int 1))) (fCons (fVar 5) fNil)))))))) (fRet (fSeqD .tuple (fCons (fC (.str (Str.ofString "when"))) (fCons (fVar 8) (fCons (fVar 9) (fCons (fCall (m__law_recipe n) (fCons (fVar 0) (fCons (fVar 1) (fCons (fVar 2) (fCons (fVar 3) (fCons (fBin subD (fVar 4) (fC (.int 1))) (fCons (fVar 5) fNil))))))) fNil)))))))) fNext) (fSeq (fIf (fAndT (fTst (fBin eqD (fVar 6) (fC (.int 6)))) (fTst (fBin eqD (fCall m__law_next (fCons (fVar 0) (fCons (fC (.int 2)) fNil))) (fC (.int 0))))) (fRet (fSeqD .tuple (fCons (fC (.str (Str.ofString "fail"))) (fCons (fBin ixD (fVar 2) (fCall m__law_next (fCons (fVar 0) (fCons (fCB lenD (fCons (fVar 2) fNil)) fNil)))) fNil)))) fNext) (fRet (fSeqD .tuple (fCons (fC (.str (Str.ofString "say"))) (fCons (fCall (m__law_expr 25) (fCons (fVar 0) (fCons (fVar 1) (fCons (fVar 2) (fCons (fC (.int 1)) fNil))))) fNil))))))))
noncomputable def m__law_any_recipe:FnM:=mkFn 5 (fSeq (fUnp 3 4 (fBin ixD (fSeqD .list (fCons (fSeqD .tuple (fCons (fC (.int 4)) (fCons (fC (.int 1)) fNil))) (fCons (fSeqD .tuple (fCons (fC (.int 2)) (fCons (fC (.int 2)) fNil))) (fCons (fSeqD .tuple (fCons (fC (.int 1)) (fCons (fC (.int 1)) fNil))) (fCons (fSeqD .tuple (fCons (fC (.int 3)) (fCons (fC (.int 1)) fNil))) (fCons (fSeqD .tuple (fCons (fC (.int 0)) (fCons (fC (.int 1)) fNil))) fNil)))))) (fCall m__law_next (fCons (fVar 0) (fCons (fC (.int 5)) fNil))))) (fRet (fCall (m__law_recipe 25) (fCons (fVar 0) (fCons (fC (.int 0)) (fCons (fVar 1) (fCons (fVar 3) (fCons (fVar 4) (fCons (fVar 2) fNil)))))))))
noncomputable def m__law_book:FnM:=mkFn 9 (fSeq (fSetE 4) (fSeq (fSetE 5) (fSeq (fFor 6 (fRng1 (fCB lenD (fCons (fVar 2) fNil))) (fOpenO 7 m__law_feed (fCons (fVar 0) (fCons (fBin addD (fVar 1) (fVar 6)) fNil)) (fSeq (fSet 8 (fCall m__law_next (fCons (fVar 7) (fCons (fC (.int 8)) fNil)))) (fIf (fTst (fBin ltD (fVar 8) (fC (.int 2)))) (fPutN 4 (fBin ixD (fVar 2) (fVar 6)) (fCall m__law_value (fCons (fVar 7) (fCons (fVar 2) fNil)))) (fIf (fTst (fBin ltD (fVar 8) (fC (.int 7)))) (fPutN 5 (fBin ixD (fVar 2) (fVar 6)) (fCall m__law_any_recipe (fCons (fVar 7) (fCons (fVar 2) (fCons (fVar 3) fNil))))) fNext))))) (fRet (fSeqD .tuple (fCons (fVar 4) (fCons (fVar 5) fNil)))))))
noncomputable def m__law_less:FnM:=mkFnO 2 (fRetDP (fComp (fIter (fVar 0)) (fTst (fBin neD (fVar 0) (fVar 2))) (fSeqD .tuple (fCons (fVar 0) (fCons (fBin ixA (fVar 1) (fVar 0)) fNil)))))
noncomputable def m__law_one:FnM:=mkFnO 5 (fSeq (fIf (fTst (fBin eqD (fVar 0) (fC (.int 0)))) (fRetOP m_told_with (fCons (fVar 1) (fCons (fVar 2) (fCons (fVar 3) fNil)))) fNext) (fSeq (fIf (fTst (fBin eqD (fVar 0) (fC (.int 1)))) (fRetOP m_made_with (fCons (fVar 1) (fCons (fVar 2) (fCons (fVar 4) fNil)))) fNext) (fRetOP m_without (fCons (fVar 1) (fCons (fVar 2) fNil)))))
noncomputable def m__law_due:FnM:=mkFn 7 (fSeq (fSetO 5 m__law_less (fCons (fBin ixD (fVar 1) (fC (.int 0))) (fCons (fVar 2) fNil))) (fSeq (fSetO 6 m__law_less (fCons (fBin ixD (fVar 1) (fC (.int 1))) (fCons (fVar 2) fNil))) (fSeq (fIf (fTst (fBin eqD (fVar 0) (fC (.int 0)))) (fPutN 5 (fVar 2) (fVar 3)) fNext) (fSeq (fIf (fTst (fBin eqD (fVar 0) (fC (.int 1)))) (fPutN 6 (fVar 2) (fVar 4)) fNext) (fRet (fSeqD .tuple (fCons (fVar 5) (fCons (fVar 6) fNil))))))))
noncomputable def m__law_right:FnM:=mkFn 2 (fSeq (fIf (fOrT (fNotT (fTru (fUn (isiD .tup) (fVar 0)))) (fTst (fBin neP (fVar 0) (fVar 1)))) (fRet (fC (.bool false))) fNext) (fRet (fAndV (fUn (isiD .dct) (fBin ixD (fVar 0) (fC (.int 0)))) (fUn (isiD .dct) (fBin ixD (fVar 0) (fC (.int 1)))))))
noncomputable def m_law:FnM:=mkFn 15 (fSeq (fSet 1 (fOpenC m__law_names m__law_feed (fCons (fVar 0) (fCons (fC (.int 0)) fNil)) (fCons (fBin addD (fC (.int 4)) (fOpenC m__law_next m__law_feed (fCons (fVar 0) (fCons (fC (.int 1)) fNil)) (fCons (fC (.int 5)) fNil))) fNil))) (fSeq (fSet 2 (fBin eqD (fOpenC m__law_next m__law_feed (fCons (fVar 0) (fCons (fC (.int 2)) fNil)) (fCons (fC (.int 3)) fNil)) (fC (.int 0)))) (fSeq (fSet 3 (fCall m__law_book (fCons (fVar 0) (fCons (fC (.int 3)) (fCons (fSl (fVar 1) (fP (fC (.int 1))) fNoP) (fCons (fVar 2) fNil)))))) (fSeq (fFor 4 (fRng1 (fC (.int 8))) (fOpenO 5 m__law_feed (fCons (fVar 0) (fCons (fBin addD (fC (.int 12)) (fVar 4)) fNil)) (fSeq (fSet 6 (fBin ixD (fVar 1) (fCall m__law_next (fCons (fVar 5) (fCons (fCB lenD (fCons (fVar 1) fNil)) fNil))))) (fSeq (fSet 7 (fCall m__law_next (fCons (fVar 5) (fCons (fC (.int 3)) fNil)))) (fSeq (fIf (fAndT (fTst (fBin notInB (fVar 6) (fBin ixD (fVar 3) (fC (.int 0))))) (fTst (fBin notInB (fVar 6) (fBin ixD (fVar 3) (fC (.int 1)))))) (fSet 7 (fBin modD (fVar 7) (fC (.int 2)))) fNext) (fSeq (fSet 8 (fCall m__law_value (fCons (fVar 5) (fCons (fVar 1) fNil)))) (fSeq (fSet 9 (fCall m__law_any_recipe (fCons (fVar 5) (fCons (fVar 1) (fCons (fVar 2) fNil))))) (fSeq (fSet 10 (fCall m__law_due (fCons (fVar 7) (fCons (fVar 3) (fCons (fVar 6) (fCons (fVar 8) (fCons (fVar 9) fNil))))))) (fSeq (fSet 11 (fSeqD .tuple (fCons (fDctC (fBin ixD (fVar 3) (fC (.int 0)))) (fCons (fDctC (fBin ixD (fVar 3) (fC (.int 1)))) fNil)))) (fSeq (fFor 12 (fRng1 (fC (.int 2))) (fPairClr 13 m__law_one (fCons (fVar 7) (fCons (fVar 11) (fCons (fVar 6) (fCons (fVar 8) (fCons (fVar 9) fNil))))) (fOrT (fNotT (fTru (fCall m__law_right (fCons (fVar 13) (fCons (fVar 10) fNil))))) (fTst (fBin neP (fVar 11) (fVar 3)))) (fRet (fC (.bool false))) fNext)) (fSeq (fIf (fTst (fBin ltD (fVar 7) (fC (.int 2)))) (fSeq (fSet 14 (fCallOP m__law_one (fCons (fVar 7) (fCons (fVar 10) (fCons (fVar 6) (fCons (fVar 8) (fCons (fVar 9) fNil))))))) (fIf (fNotT (fTru (fCall m__law_right (fCons (fVar 14) (fCons (fVar 10) fNil))))) (fRet (fC (.bool false))) fNext)) fNext) (fSeq (fIf (fAndT (fTst (fBin inA (fVar 6) (fBin ixD (fVar 3) (fC (.int 0))))) (fNotT (fTru (fCall m__law_right (fCons (fCallOP m_told_with (fCons (fVar 10) (fCons (fVar 6) (fCons (fBin ixA (fBin ixD (fVar 3) (fC (.int 0))) (fVar 6)) fNil)))) (fCons (fVar 3) fNil)))))) (fRet (fC (.bool false))) fNext) (fSeq (fIf (fAndT (fTst (fBin inA (fVar 6) (fBin ixD (fVar 3) (fC (.int 1))))) (fNotT (fTru (fCall m__law_right (fCons (fCallOP m_made_with (fCons (fVar 10) (fCons (fVar 6) (fCons (fBin ixA (fBin ixD (fVar 3) (fC (.int 1))) (fVar 6)) fNil)))) (fCons (fVar 3) fNil)))))) (fRet (fC (.bool false))) fNext) (fSet 3 (fVar 10))))))))))))))) (fRet (fC (.bool true)))))))
end G
namespace G
open PySem PySem.Spec PyProof.Rows L2 D
noncomputable def B_l_names1:FS:=(fSeq (fSet 6 (fCall m__law_next (fCons (fVar 0) (fCons (fC (.int 5)) fNil)))) (fSeq (fSet 7 (fBin ixD (fVar 3) (fCall m__law_next (fCons (fVar 0) (fCons (fC (.int 26)) fNil))))) (fSeq (fIf (fTst (fBin eqD (fVar 6) (fC (.int 0)))) (fSet 7 (fBin ixD (fVar 2) (fCall m__law_next (fCons (fVar 0) (fCons (fC (.int 8)) fNil))))) fNext) (fSeq (fIf (fAndT (fTst (fBin eqD (fVar 6) (fC (.int 1)))) (fTst (fBin gtD (fCB lenD (fCons (fVar 4) fNil)) (fC (.int 0))))) (fSet 7 (fSl (fBin addD (fBin ixD (fVar 4) (fUn negD (fC (.int 1)))) (fVar 7)) fNoP (fP (fC (.int 8))))) fNext) (fSeq (fIf (fTst (fBin eqD (fVar 6) (fC (.int 2)))) (fSet 7 (fBin mulD (fBin addD (fVar 7) (fBin ixD (fVar 3) (fCall m__law_next (fCons (fVar 0) (fCons (fC (.int 26)) fNil))))) (fC (.int 4)))) fNext) (fSeq (fIf (fTst (fBin inD (fVar 7) (fVar 4))) (fSet 7 (fBin ixD (fComp (fIter (fVar 3)) (fTst (fBin notInD (fVar 0) (fVar 5))) (fVar 0)) (fC (.int 0)))) fNext) (fIns 4 (fCall m__law_next (fCons (fVar 0) (fCons (fBin addD (fCB lenD (fCons (fVar 4) fNil)) (fC (.int 1))) fNil))) (fVar 7))))))))
theorem l_names_eq:m__law_names=mkFn 8 (fSeq (fSet 2 (fSeqD .list (fCons (fC (.str (Str.ofString "made"))) (fCons (fC (.str (Str.ofString "told"))) (fCons (fC (.str (Str.ofString "say"))) (fCons (fC (.str (Str.ofString "want"))) (fCons (fC (.str (Str.ofString "fails"))) (fCons (fC (.str (Str.ofString "got"))) (fCons (fC (.str (Str.ofString "put"))) (fCons (fC (.str (Str.ofString "lacks"))) fNil)))))))))) (fSeq (fSet 3 (fC (.str (Str.ofString "abcdefghijklmnopqrstuvwxyz")))) (fSeq (fSetL 4 fNil) (fSeq (fFor 5 (fRng1 (fVar 1)) B_l_names1) (fRet (fVar 4)))))):=rfl
noncomputable def B_l_book1:FS:=(fSeq (fSet 8 (fCall m__law_next (fCons (fVar 7) (fCons (fC (.int 8)) fNil)))) (fIf (fTst (fBin ltD (fVar 8) (fC (.int 2)))) (fPutN 4 (fBin ixD (fVar 2) (fVar 6)) (fCall m__law_value (fCons (fVar 7) (fCons (fVar 2) fNil)))) (fIf (fTst (fBin ltD (fVar 8) (fC (.int 7)))) (fPutN 5 (fBin ixD (fVar 2) (fVar 6)) (fCall m__law_any_recipe (fCons (fVar 7) (fCons (fVar 2) (fCons (fVar 3) fNil))))) fNext)))
noncomputable def B_l_book2:FS:=(fOpenO 7 m__law_feed (fCons (fVar 0) (fCons (fBin addD (fVar 1) (fVar 6)) fNil)) B_l_book1)
theorem l_book_eq:m__law_book=mkFn 9 (fSeq (fSetE 4) (fSeq (fSetE 5) (fSeq (fFor 6 (fRng1 (fCB lenD (fCons (fVar 2) fNil))) B_l_book2) (fRet (fSeqD .tuple (fCons (fVar 4) (fCons (fVar 5) fNil))))))):=rfl
noncomputable def B_p_law1:FS:=(fPairClr 13 m__law_one (fCons (fVar 7) (fCons (fVar 11) (fCons (fVar 6) (fCons (fVar 8) (fCons (fVar 9) fNil))))) (fOrT (fNotT (fTru (fCall m__law_right (fCons (fVar 13) (fCons (fVar 10) fNil))))) (fTst (fBin neP (fVar 11) (fVar 3)))) (fRet (fC (.bool false))) fNext)
noncomputable def B_p_law2:FS:=(fSeq (fSet 6 (fBin ixD (fVar 1) (fCall m__law_next (fCons (fVar 5) (fCons (fCB lenD (fCons (fVar 1) fNil)) fNil))))) (fSeq (fSet 7 (fCall m__law_next (fCons (fVar 5) (fCons (fC (.int 3)) fNil)))) (fSeq (fIf (fAndT (fTst (fBin notInB (fVar 6) (fBin ixD (fVar 3) (fC (.int 0))))) (fTst (fBin notInB (fVar 6) (fBin ixD (fVar 3) (fC (.int 1)))))) (fSet 7 (fBin modD (fVar 7) (fC (.int 2)))) fNext) (fSeq (fSet 8 (fCall m__law_value (fCons (fVar 5) (fCons (fVar 1) fNil)))) (fSeq (fSet 9 (fCall m__law_any_recipe (fCons (fVar 5) (fCons (fVar 1) (fCons (fVar 2) fNil))))) (fSeq (fSet 10 (fCall m__law_due (fCons (fVar 7) (fCons (fVar 3) (fCons (fVar 6) (fCons (fVar 8) (fCons (fVar 9) fNil))))))) (fSeq (fSet 11 (fSeqD .tuple (fCons (fDctC (fBin ixD (fVar 3) (fC (.int 0)))) (fCons (fDctC (fBin ixD (fVar 3) (fC (.int 1)))) fNil)))) (fSeq (fFor 12 (fRng1 (fC (.int 2))) B_p_law1) (fSeq (fIf (fTst (fBin ltD (fVar 7) (fC (.int 2)))) (fSeq (fSet 14 (fCallOP m__law_one (fCons (fVar 7) (fCons (fVar 10) (fCons (fVar 6) (fCons (fVar 8) (fCons (fVar 9) fNil))))))) (fIf (fNotT (fTru (fCall m__law_right (fCons (fVar 14) (fCons (fVar 10) fNil))))) (fRet (fC (.bool false))) fNext)) fNext) (fSeq (fIf (fAndT (fTst (fBin inA (fVar 6) (fBin ixD (fVar 3) (fC (.int 0))))) (fNotT (fTru (fCall m__law_right (fCons (fCallOP m_told_with (fCons (fVar 10) (fCons (fVar 6) (fCons (fBin ixA (fBin ixD (fVar 3) (fC (.int 0))) (fVar 6)) fNil)))) (fCons (fVar 3) fNil)))))) (fRet (fC (.bool false))) fNext) (fSeq (fIf (fAndT (fTst (fBin inA (fVar 6) (fBin ixD (fVar 3) (fC (.int 1))))) (fNotT (fTru (fCall m__law_right (fCons (fCallOP m_made_with (fCons (fVar 10) (fCons (fVar 6) (fCons (fBin ixA (fBin ixD (fVar 3) (fC (.int 1))) (fVar 6)) fNil)))) (fCons (fVar 3) fNil)))))) (fRet (fC (.bool false))) fNext) (fSet 3 (fVar 10)))))))))))))
noncomputable def B_p_law3:FS:=(fOpenO 5 m__law_feed (fCons (fVar 0) (fCons (fBin addD (fC (.int 12)) (fVar 4)) fNil)) B_p_law2)
theorem p_law_eq:m_law=mkFn 15 (fSeq (fSet 1 (fOpenC m__law_names m__law_feed (fCons (fVar 0) (fCons (fC (.int 0)) fNil)) (fCons (fBin addD (fC (.int 4)) (fOpenC m__law_next m__law_feed (fCons (fVar 0) (fCons (fC (.int 1)) fNil)) (fCons (fC (.int 5)) fNil))) fNil))) (fSeq (fSet 2 (fBin eqD (fOpenC m__law_next m__law_feed (fCons (fVar 0) (fCons (fC (.int 2)) fNil)) (fCons (fC (.int 3)) fNil)) (fC (.int 0)))) (fSeq (fSet 3 (fCall m__law_book (fCons (fVar 0) (fCons (fC (.int 3)) (fCons (fSl (fVar 1) (fP (fC (.int 1))) fNoP) (fCons (fVar 2) fNil)))))) (fSeq (fFor 4 (fRng1 (fC (.int 8))) B_p_law3) (fRet (fC (.bool true))))))):=rfl
end G
namespace G
open PySem PySem.Spec PyProof.Rows L2 D
noncomputable abbrev Dc:=List (PyData×PyData)
theorem sz:sizeLine=16777216:=by decide
theorem len_app (a b:Str):(a++b).length=a.length + b.length:=by
 show (a++b).cps.size=_
 rw [PySem.Str.cps_append,Array.size_append]
 rfl
theorem atI_in {α:Type} {xs:List α} {i:Int} (h0:0≤i) (h1:i < xs.length):∃ x,atI xs i=some x∧x∈xs:=by
 unfold atI ixN
 rw [if_pos h0,if_pos h1]
 have hl:i.toNat < xs.length:=by omega
 exact ⟨xs[i.toNat],by simp [hl],List.getElem_mem hl⟩
theorem for_inv {i:Nat} {body:FS} {I:Nat→Rho→Tp→Prop} {N:Nat}:∀ (ds:List PyData) (k:Nat) (ρ:Rho) (T:Tp),k + ds.length≤N→I k ρ T →
  (∀ k d ρ T,d∈ds→k < N→I k ρ T→∃ ρ' T',body (ρ.set i (some (.d d))) T=some ((.nx,ρ'),T')∧I (k + 1) ρ' T')→∃ ρ' T',forL i body ds ρ T=some ((.nx,ρ'),T')∧I (k + ds.length) ρ' T'
 | [],k,ρ,T,_,h,_=>⟨ρ,T,rfl,h⟩
 | d::r,k,ρ,T,hN,h,hs=>by
  rw [List.length_cons] at hN
  obtain ⟨ρ1,T1,e1,h1⟩:=hs k d ρ T List.mem_cons_self (by omega) h
  obtain ⟨ρ2,T2,e2,h2⟩:=for_inv (body:=body) (I:=I) r (k + 1) ρ1 T1 (by omega) h1 fun k d ρ T hd=>hs k d ρ T (List.mem_cons_of_mem _ hd)
  refine ⟨ρ2,T2,?_,by rw [List.length_cons,show k + (r.length + 1)=k + 1 + r.length by omega]; exact h2⟩
  unfold forL
  rw [e1]
  exact e2
theorem nums_mem {n:Nat} {d:PyData} (h:d∈numsD 0 n):∃ j:Int,d=.int j∧0≤j∧j < n:=by
 obtain ⟨k,hk,rfl⟩:=List.mem_map.mp h
 have:=List.mem_range.mp hk
 exact ⟨0 + (k:Int),rfl,by omega,by omega⟩
theorem nums_len (n:Nat):(numsD 0 n).length=n:=by simp [numsD]
theorem rng_ok {j:Int} (h0:0≤j) (h1:j≤1000):rngOk j=true:=by
 unfold rngOk
 simp
 omega
noncomputable def Fr (xs:List PyData):Prop:=∃ c n k:Int,xs=[.int c,.int n,.int k]
theorem op2I {o:PyData→PyData→Option PyData} {c:Int} {xs:List PyData} {r:Tp} {y:PyData}:op2 o ((.int c::xs)::r) (.tp 0) (.d y)=mkD ((.int c::xs)::r) (o (.list (.int c::xs)) y):=rfl
theorem isO_int {c:Int} {r:List PyData}:isO (.int c::r)=false:=rfl
theorem ev_fdivG {i j:Int}:fdivG (.int i) (.int j)=if 0 < j∧j < 18446744073709551616 then some (.int (i / j)) else none:=rfl
theorem ix0:ixN 3 0=some 0:=rfl
theorem pow18:powD (.int 10) (.int 18)=some (.int 1000000000000000000):=rfl
theorem L_next {xs:List PyData} (h:Fr xs) {m:Int} (h1:0 < m) (h2:m≤1000000000000000000):∃ r xs',m__law_next [.tp 0,.d (.int m)] [xs]=some (.int r,[xs'])∧Fr xs'∧0≤r∧r < m:=by
 obtain ⟨c,n,k,rfl⟩:=h
 by_cases hc:1000000000000000000≤c
 ·refine ⟨c % m,[.int (c / m),.int (n + 1),.int k],?_,⟨_,_,_,rfl⟩,Int.emod_nonneg _ (by omega),Int.emod_lt_of_pos _ h1⟩
  have h3:m < 18446744073709551616:=by omega
  simp [m__law_next,fPut,op2I,isO_int,at0,at1,at2,ix0,ix1,ix2,pow18,hc,h1,h3,ev_fdivG]
 ·have e:∃ z:Int,m__law_next [.tp 0,.d (.int m)] [[.int c,.int n,.int k]]=some (.int (z % m),[[.int c,.int (n + 1),.int k]]):=by
   refine ⟨?_,?_⟩
   rotate_left
   ·simp [m__law_next,fPut,op2I,isO_int,at0,at1,at2,ix0,ix1,ix2,pow18,hc,h1]
    rfl
  obtain ⟨z,e⟩:=e
  exact ⟨z % m,_,e,⟨_,_,_,rfl⟩,Int.emod_nonneg _ (by omega),Int.emod_lt_of_pos _ h1⟩
@[simp] theorem ev_mkO {N:Nat} {s:FS} {ws:List W} {T:Tp}:mkFnO N s ws T=if noLoc ws=true then fnEndO (s (ws.map some++List.replicate (N - ws.length) none) T) else none:=rfl
@[simp] theorem ev_endO {x:PyData} {r:Rho} {T:Tp}:fnEndO (some ((.ro x,r),T))=some (x,T):=rfl
@[simp] theorem ev_retOL {a:FA} {ρ:Rho} {T:Tp}:fRetOL a ρ T=bnd (a ρ T) fun ws T1=>retOLK ρ (datas ws) T1:=rfl
@[simp] theorem ev_retOLK {xs:List PyData} {ρ:Rho} {T:Tp}:retOLK ρ (some xs) T=if xs.length≤1000 then some ((.ro (.list xs),ρ),T) else none:=rfl
@[simp] theorem ev_seqRO {s:FS} {x:PyData} {ρ:Rho} {T:Tp}:seqK s (.ro x,ρ) T=some ((.ro x,ρ),T):=rfl
theorem L_feed (ns:List Int) (k:Int) (hk:0≤k):∃ xs,Fr xs∧∀ T,m__law_feed [.d (.list (ns.map PyData.int)),.d (.int k)] T=some (.list xs,T):=by
 cases ns with
 | nil=>exact ⟨_,⟨0,0,k,rfl⟩,fun T=>by simp [m__law_feed]⟩
 | cons a r=>
  have hp:(0:Int) < (((a::r).map PyData.int).length:Int):=by simp
  obtain ⟨d,e1,hm⟩:=atI_in (xs:=(a::r).map PyData.int) (i:=k % (((a::r).map PyData.int).length:Int)) (Int.emod_nonneg _ (by omega)) (Int.emod_lt_of_pos _ hp)
  obtain ⟨c,_,rfl⟩:=List.mem_map.mp hm
  refine ⟨_,⟨c,0,k,rfl⟩,fun T=>?_⟩
  generalize (a::r).map PyData.int=l at hp e1
  have h0:¬ (l.length:Int)=0:=by omega
  have h3:0 < l.length:=by omega
  have h0':l≠[]:=fun z=>by rw [z] at hp; simp at hp
  simp [m__law_feed,hp,e1,h0,h0',h3]
end G
namespace G
open PySem PySem.Spec PyProof.Rows L2 D
open K1 (has LET TXT single built manyF lsz isName isVal tdp deepF ldp)
mutual
noncomputable def smB:PyData→Bool
 | .str x=>decide (x.length≤60000) && x.cps.toList.all fun c=>decide (c < 128)
 | .tuple ds=>smBs ds
 | _=>true
noncomputable def smBs:List PyData→Bool
 | []=>true
 | d::r=>smB d && smBs r
end
noncomputable def Sm (d:PyData):Prop:=smB d=true
theorem Sm.both {x:Str} (h:Sm (.str x)):x.length≤60000∧∀ c∈x.cps.toList,c < 128:=by
 have h':(decide (x.length≤60000) && x.cps.toList.all fun c=>decide (c < 128))=true:=by
  have:smB (.str x)=true:=h
  rw [smB] at this
  exact this
 rw [Bool.and_eq_true,List.all_eq_true] at h'
 exact ⟨of_decide_eq_true h'.1,fun c hc=>of_decide_eq_true (h'.2 c hc)⟩
theorem Sm.str {x:Str} (h:Sm (.str x)):x.cps.size≤60000:=h.both.1
theorem Sm.mkS {x:Str} (h:x.length≤60000) (h2:∀ c∈x.cps.toList,c < 128):Sm (.str x):=by
 show smB (.str x)=true
 rw [smB,Bool.and_eq_true,List.all_eq_true]
 exact ⟨decide_eq_true h,fun c hc=>decide_eq_true (h2 c hc)⟩
theorem Sm.ok {x:Str} (h:Sm (.str x)):PyData.strOk x=true:=by
 unfold PyData.strOk
 rw [Array.all_eq_true']
 intro c hc
 exact decide_eq_true (Nat.lt_trans (h.both.2 c (by simpa using hc)) (by decide))
theorem smBs_mem:∀ {ds:List PyData} {d:PyData},smBs ds=true→d∈ds→smB d=true
 | e::r,d,h,hd=>by
  have h':(smB e && smBs r)=true:=by simpa [smBs] using h
  rw [Bool.and_eq_true] at h'
  rcases List.mem_cons.mp hd with z | z
  ·rw [z]; exact h'.1
  ·exact smBs_mem h'.2 z
theorem Sm.part {ds:List PyData} {d:PyData} (h:Sm (.tuple ds)) (hd:d∈ds):Sm d:=smBs_mem (by simpa [Sm,smB] using h) hd
theorem smBs_of:∀ {ds:List PyData},(∀ d∈ds,Sm d)→smBs ds=true
 | [],_=>by simp [smBs]
 | d::r,h=>by
  have h1:smB d=true:=h d List.mem_cons_self
  simp [smBs,h1,smBs_of (ds:=r) fun x hx=>h x (List.mem_cons_of_mem _ hx)]
theorem Sm.tup {ds:List PyData} (h:∀ d∈ds,Sm d):Sm (.tuple ds):=by simp [Sm,smB,smBs_of h]
noncomputable def whole:PyData→Bool
 | .int _=>true
 | _=>false
theorem L_whole (x:PyData) (T:Tp):m_is_whole [.d x] T=some (.bool (whole x),T):=by cases x <;> rfl
theorem signs_all (y x:Str):(D.signs x).all (strHas y)=has y x:=by
 unfold D.signs has
 rw [List.all_map]
 congr 1
 funext c
 exact hasS_one y c
theorem L_has {x y:Str} (T:Tp) (h:x.length≤sizeLine):m_has_only [.d (.str x),.d (.str y)] T=some (.bool (has y x),T):=by
 have hc:compL fTrue (fBin inD (fVar 0) (fVar 2)) [some (.d (.str x)),some (.d (.str y))] (D.signs x) T=some ((D.signs x).map fun d=>.bool (strHas y d),T):=compL_map fun d hd=>by
  obtain ⟨c,_,rfl⟩:=signs_mem hd
  rfl
 simp [m_has_only,h,hc,signs_all]
theorem L_single {d:PyData} (T:Tp) (h:Sm d):m_is_single [.d d] T=some (.bool (single d),T):=by
 cases d with
 | str x=>
  have hz:x.length≤sizeLine:=Nat.le_trans h.str (by decide)
  have hh:∀ T,m_has_only [.d (.str x),.d (.str (Str.ofString "abcdefghijklmnopqrstuvwxyz0123456789-"))] T=some (.bool (has TXT x),T):=fun T=>L_has T hz
  have e:single (.str x)=(decide (x.length≤20) && has TXT x):=rfl
  have hi:isiK .str .str=true:=rfl
  by_cases hk:x.length≤20
  ·have hk':(x.length:Int)≤20:=by omega
   simp [m_is_single,L_whole,whole,hh,hz,hi,e,hk,hk']
  ·have hk':¬ (x.length:Int)≤20:=by omega
   simp [m_is_single,L_whole,whole,hh,hz,hi,e,hk,hk']
 | _=>rfl
theorem kd_tup {d:PyData} (h:kd d=.tup):∃ ds,d=.tuple ds:=by cases d <;> first | exact ⟨_,rfl⟩ | cases h
theorem not_tup {d:PyData} (h:kd d≠.tup):isiK (kd d) .tup=false:=by
 revert h
 cases kd d <;> simp [isiK]
theorem built_other {n:Nat} {d:PyData} (h:kd d≠.tup):built n d=single d:=by
 cases d <;> first | (cases n <;> rfl) | exact absurd rfl h
theorem many_other {n:Nat} {d:PyData} (h:kd d≠.tup):manyF n d=1:=by
 cases d <;> first | (cases n <;> rfl) | exact absurd rfl h
theorem tdp0 {d:PyData} (h:tdp 0 d=true):kd d≠.tup:=by
 intro z
 cases d <;> first | cases h; done | cases z
theorem isi_tt:isiK .tup .tup=true:=rfl
theorem L_built:∀ (n k:Nat) (d:PyData) (T:Tp),Sm d→n < k→m_is_built k [.d d,.d (.int n)] T=some (.bool (built n d),T)
 | n,0,d,T,_,hk=>absurd hk (Nat.not_lt_zero _)
 | n,k + 1,d,T,hg,hk=>by
  by_cases ht:kd d=.tup
  ·obtain ⟨ds,rfl⟩:=kd_tup ht
   cases n with
   | zero=>simp [m_is_built,isi_tt,built]
   | succ n=>
    have e:built (n + 1) (.tuple ds)=(decide (ds.length≤8) && ds.all (built n)):=rfl
    have h0:¬ ((n + 1:Nat):Int)=0:=by omega
    have h0':¬ (n:Int) + 1=0:=by omega
    by_cases h8:ds.length≤8
    ·have h8':¬ (8:Int) < (ds.length:Int):=by omega
     have hs:((n + 1:Nat):Int) - 1=(n:Int):=by omega
     have hc:compL fTrue (fCall (m_is_built k) (fCons (fVar 0) (fCons (fBin subD (fVar 2) (fC (.int 1))) fNil))) [some (.d (.tuple ds)),some (.d (.int ((n + 1:Nat):Int)))] ds T=some (ds.map fun x=>.bool (built n x),T):=compL_map fun x hx=>by
      have:=L_built n k x T (hg.part hx) (by omega)
      simp [hs,this]
     simp [m_is_built,isi_tt,e,h0,h0',h8,h8'] at hc ⊢
     simp [hc]
    ·have h8':(8:Int) < (ds.length:Int):=by omega
     simp [m_is_built,isi_tt,e,h0,h0',h8,h8']
  ·simp [m_is_built,not_tup ht,built_other ht,L_single T hg]
theorem L_many:∀ (n k:Nat) (d:PyData) (T:Tp),tdp n d=true→n < k→m_many_of k [.d d] T=some (.int (manyF n d),T)
 | n,0,d,T,_,hk=>absurd hk (Nat.not_lt_zero _)
 | n,k + 1,d,T,hg,hk=>by
  by_cases ht:kd d=.tup
  ·cases n with
   | zero=>exact absurd ht (tdp0 hg)
   | succ n=>
    obtain ⟨ds,rfl⟩:=kd_tup ht
    have hg':ds.all (tdp n)=true:=hg
    have e:manyF (n + 1) (.tuple ds)=1 + (ds.map (manyF n)).sum:=rfl
    have hc:compL fTrue (fCall (m_many_of k) (fCons (fVar 0) fNil)) [some (.d (.tuple ds))] ds T=some (ds.map fun x=>.int (manyF n x),T):=compL_map fun x hx=>by
     have:=L_many n k x T (List.all_eq_true.mp hg' x hx) (by omega)
     simp [this]
    simp [m_many_of,isi_tt,e,hc]
  ·simp [m_many_of,not_tup ht,many_other ht]
theorem L_value {d:PyData} (T:Tp) (h:Sm d):m_is_value [.d d] T=some (.bool (isVal d),T):=by
 have h1:=L_built 4 25 d T h (by decide)
 have h1':m_is_built 25 [.d d,.d (.int 4)] T=some (.bool (built 4 d),T):=h1
 have e:isVal d=(built 4 d && decide (manyF 4 d≤40)):=rfl
 cases hb:built 4 d with
 | false=>simp [m_is_value,h1',e,hb]
 | true=>
  have h2:=L_many 4 25 d T (K1.built_tdp 4 d hb) (by decide)
  simp [m_is_value,h1',h2,e,hb]
end G
namespace G
open PySem PySem.Spec PyProof.Rows L2 D
open K1 (has LET TXT single built manyF lsz isName isVal tdp deepF ldp)
@[simp] theorem ofs_inj {a b:String}:Str.ofString a=Str.ofString b↔a=b:=by
 constructor
 ·intro h
  have h2:(Str.ofString a).cps.toList=(Str.ofString b).cps.toList:=by rw [h]
  rw [signs_ofString,signs_ofString] at h2
  have inj:Function.Injective Char.toNat:=fun x y e=>Char.ext (UInt32.toNat_inj.mp e)
  exact String.toList_inj.mp ((List.map_inj_right (fun x y e=>inj e)).mp h2)
 ·rintro rfl; rfl
theorem sz_line {n:Nat} (h:n≤2000):n≤sizeLine:=Nat.le_trans h (by decide)
theorem isi_ss:isiK .str .str=true:=rfl
theorem cut_drop {α:Type} {xs:List α} {i:Int} (h0:0≤i) (h1:i≤(xs.length:Int)):cutL xs (some i) none=xs.drop i.toNat:=by
 unfold cutL
 have e:i=(i.toNat:Int):=by omega
 rw [HT.sIx_none]
 rw [e,HT.sIx_nat]
 have:min i.toNat xs.length=i.toNat:=by omega
 rw [Int.toNat_natCast,this]
 exact List.take_of_length_le (by simp)
end G
namespace G
open PySem PySem.Spec PyProof.Rows L2 D
open K1 (has LET TXT single built manyF lsz isName isVal tdp deepF ldp)
section
variable {α:Type} (ok:α→Bool) (kids:α→List α)
noncomputable def cnt:Nat→α→Nat
 | 0,_=>100
 | n + 1,a=>if ok a=true then 1 + ((kids a).map (cnt n)).sum else 100
noncomputable def lay:Nat→Nat→List α→Bool
 | 0,_,l=>decide (l.length=0)
 | n + 1,c,l=>if (decide (60 < c + l.length) || !l.all ok)=true then false else lay n (c + l.length) (l.flatMap kids)
theorem sum_const {f:α→Nat} {k:Nat}:∀ {l:List α},(∀ a∈l,f a=k)→(l.map f).sum=l.length * k
 | [],_=>by simp
 | a::r,h=>by
  have ih:=sum_const (l:=r) fun x hx=>h x (List.mem_cons_of_mem _ hx)
  simp only [List.map_cons,List.sum_cons,List.length_cons,ih,h a List.mem_cons_self,Nat.add_mul]
  omega
theorem sum_mem {f:α→Nat}:∀ {l:List α} {a:α},a∈l→f a≤(l.map f).sum
 | b::r,a,h=>by
  simp only [List.map_cons,List.sum_cons]
  rcases List.mem_cons.mp h with e | e
  ·subst e; omega
  ·have:=sum_mem (f:=f) e
   omega
theorem sum_flat {f:α→Nat}:∀ (l:List α),(∀ a∈l,ok a=true)→(l.map (cnt ok kids (n + 1))).sum=l.length + ((l.flatMap kids).map (cnt ok kids n)).sum
 | [],_=>by simp
 | a::r,h=>by
  have ih:=sum_flat (f:=f) (n:=n) r fun x hx=>h x (List.mem_cons_of_mem _ hx)
  simp only [List.map_cons,List.sum_cons,List.length_cons,ih,List.flatMap_cons,List.map_append,List.sum_append]
  rw [show cnt ok kids (n + 1) a=1 + ((kids a).map (cnt ok kids n)).sum from if_pos (h a List.mem_cons_self)]
  omega
theorem lay_cnt:∀ (n c:Nat) (l:List α),c≤60→lay ok kids n c l=decide (c + (l.map (cnt ok kids n)).sum≤60)
 | 0,c,l,hc=>by
  rw [sum_const (f:=cnt ok kids 0) (k:=100) fun a _=>rfl]
  show decide (l.length=0)=_
  congr 1
  apply propext
  omega
 | n + 1,c,l,hc=>by
  show (if (decide (60 < c + l.length) || !l.all ok)=true then false else lay ok kids n (c + l.length) (l.flatMap kids))=_
  by_cases ha:∀ a∈l,ok a=true
  ·have hl:l.all ok=true:=List.all_eq_true.mpr ha
   have e:=sum_flat (f:=fun _=>0) ok kids (n:=n) l ha
   rw [hl]
   by_cases hb:60 < c + l.length
   ·rw [decide_eq_true hb,e]
    rw [decide_eq_false (by omega)]
    rfl
   ·rw [decide_eq_false hb,e]
    show lay ok kids n (c + l.length) (l.flatMap kids)=_
    rw [lay_cnt n (c + l.length) (l.flatMap kids) (by omega)]
    congr 1
    apply propext
    omega
  ·have hl:l.all ok=false:=by
    cases hh:l.all ok with
    | false=>rfl
    | true=>exact absurd (List.all_eq_true.mp hh) ha
   rw [hl]
   have:∃ a∈l,ok a=false:=by
    rw [List.all_eq_false] at hl
    obtain ⟨a,h1,h2⟩:=hl
    exact ⟨a,h1,by simpa using h2⟩
   obtain ⟨a,h1,h2⟩:=this
   have q:=sum_mem (f:=cnt ok kids (n + 1)) h1
   have q2:cnt ok kids (n + 1) a=100:=if_neg (by rw [h2]; exact Bool.false_ne_true)
   rw [show decide (c + (l.map (cnt ok kids (n + 1))).sum≤60)=false from decide_eq_false (by omega)]
   simp
end
noncomputable def wn (w:Str):Nat:=if w=Str.ofString "many" then 1 else if w=Str.ofString "part"∨w=Str.ofString "sum"∨w=Str.ofString "join"∨w=Str.ofString "same"∨w=Str.ofString "less" then 2 else 0
noncomputable abbrev WTb:List (Str×Int):=[((Str.ofString "many"),1),((Str.ofString "part"),2),((Str.ofString "sum"),2),((Str.ofString "join"),2),((Str.ofString "same"),2),((Str.ofString "less"),2)]
theorem in_wt (w:Str):inT WTb (.str w)=some (.bool (decide (wn w≠0))):=by
 show some (PyData.bool (WTb.any fun p=>decide (w=p.1)))=_
 congr 2
 unfold wn
 by_cases h1:w=Str.ofString "many"
 ·simp [h1]
 by_cases h2:w=Str.ofString "part"
 ·subst h2; simp [h1]
 by_cases h3:w=Str.ofString "sum"
 ·subst h3; simp [h1]
 by_cases h4:w=Str.ofString "join"
 ·subst h4; simp [h1]
 by_cases h5:w=Str.ofString "same"
 ·subst h5; simp [h1]
 by_cases h6:w=Str.ofString "less"
 ·subst h6; simp [h1]
 ·simp [h1,h2,h3,h4,h5,h6]
theorem at_wt {w:Str} (h:wn w≠0):atT WTb (.str w)=some (.int (wn w)):=by
 show ((WTb.find? fun p=>decide (w=p.1)).map fun p=>PyData.int p.2)=_
 unfold wn at h ⊢
 by_cases h1:w=Str.ofString "many"
 ·simp [h1]
 by_cases h2:w=Str.ofString "part"
 ·subst h2; simp [h1,List.find?_cons]
 by_cases h3:w=Str.ofString "sum"
 ·subst h3; simp [h1,h2,List.find?_cons]
 by_cases h4:w=Str.ofString "join"
 ·subst h4; simp [h1,h2,h3,List.find?_cons]
 by_cases h5:w=Str.ofString "same"
 ·subst h5; simp [h1,h2,h3,h4,List.find?_cons]
 by_cases h6:w=Str.ofString "less"
 ·subst h6; simp [h1,h2,h3,h4,h5,List.find?_cons]
 ·simp [h1,h2,h3,h4,h5,h6] at h
noncomputable def isTupB:PyData→Bool
 | .tuple _=>true
 | _=>false
noncomputable def lenT:PyData→Int
 | .tuple ds=>ds.length
 | _=>0
noncomputable def gotB (m:Int):PyData→Bool
 | .int i=>decide (0≤i) && decide (i < m)
 | _=>false
noncomputable def fil (m:Int) (w:Str) (x:PyData):Bool:=
 if w=Str.ofString "put" then isVal x else if w=Str.ofString "got" then gotB m x else decide (w=Str.ofString "row") && (isTupB x && decide (lenT x≤8))
noncomputable def shp (m:Int):PyData→Bool
 | .tuple (.str w::x::r)=>if wn w≠0 then decide (r.length + 1=wn w) else decide (r.length=0) && fil m w x
 | _=>false
noncomputable def kids:PyData→List PyData
 | .tuple (.str w::x::r)=>if w=Str.ofString "put"∨w=Str.ofString "got" then [] else if w=Str.ofString "row" then (match x with | .tuple es=>es | _=>[]) else x::r
 | _=>[]
theorem at_0 {α:Type} {a:α} {r:List α}:atI (a::r) 0=some a:=by simp [atI,ixN]
theorem at_1 {α:Type} {a b:α} {r:List α}:atI (a::b::r) 1=some b:=by
 unfold atI ixN
 rw [if_pos (by decide),if_pos (by simp only [List.length_cons]; omega)]
 rfl
theorem cut_1 {α:Type} {a:α} {r:List α}:cutL (a::r) (some 1) none=r:=by
 rw [cut_drop (by decide) (by simp only [List.length_cons]; omega)]
 rfl
theorem L_filled {m:Int} {w:Str} {x:PyData} (T:Tp) (h:Sm x):m_is_filled [.d (.str w),.d x,.d (.int m)] T=some (.bool (fil m w x),T):=by
 unfold fil
 by_cases h1:w=Str.ofString "put"
 ·simp [m_is_filled,h1,L_value T h]
 by_cases h2:w=Str.ofString "got"
 ·subst h2
  cases x with
  | int i=>
   by_cases h0:0≤i
   ·simp [m_is_filled,L_whole,whole,gotB,h0]
   ·simp [m_is_filled,L_whole,whole,gotB,h0]
  | _=>simp [m_is_filled,L_whole,whole,gotB]
 ·by_cases h3:w=Str.ofString "row"
  ·subst h3
   cases x with
   | tuple ds=>
    simp [m_is_filled,isTupB,lenT,isi_tt]
    exact decide_eq_decide.mpr Iff.rfl
   | _=>simp [m_is_filled,isTupB,lenT,isiK]
  ·simp [m_is_filled,h1,h2,h3]
theorem sm_tail {a b:PyData} {r:List PyData} (h:Sm (.tuple (a::b::r))):Sm b:=h.part (by simp)
theorem L_shaped {m:Int} {d:PyData} (T:Tp) (h:Sm d):m_is_shaped [.d d,.d (.int m)] T=some (.bool (shp m d),T):=by
 by_cases ht:kd d=.tup
 ·obtain ⟨ds,rfl⟩:=kd_tup ht
  match ds,h with
  | [],h=>simp [m_is_shaped,isi_tt,shp]
  | [a],h=>simp [m_is_shaped,isi_tt,shp]
  | a::b::r,h=>
   have hl:¬ ((r.length:Int) + 1 + 1 < 2):=by omega
   by_cases hs:kd a=.str
   ·obtain ⟨w,rfl⟩:∃ w,a=.str w:=by cases a <;> first | exact ⟨_,rfl⟩ | cases hs
    have hf:=L_filled (m:=m) (w:=w) T (sm_tail h)
    by_cases hw:wn w=0
    ·have i1:=in_wt w
     rw [hw] at i1
     simp only [ne_eq,not_true_eq_false,decide_false] at i1
     show _=some (PyData.bool (if wn w≠0 then decide (r.length + 1=wn w) else decide (r.length=0) && fil m w b),T)
     rw [if_neg (by simp [hw])]
     by_cases hr:r.length=0
     ·have hr':(r.length:Int) + 1 + 1=2:=by omega
      simp [m_is_shaped,isi_tt,isi_ss,at_0,at_1,hl,i1,hf,hr,hr']
     ·have hr':¬ ((r.length:Int) + 1 + 1=2):=by omega
      simp [m_is_shaped,isi_tt,isi_ss,at_0,at_1,hl,i1,hr,hr']
    ·have i1:=in_wt w
     have i2:=at_wt hw
     rw [decide_eq_true (show wn w≠0 from hw)] at i1
     show _=some (PyData.bool (if wn w≠0 then decide (r.length + 1=wn w) else decide (r.length=0) && fil m w b),T)
     rw [if_pos hw]
     have e:decide ((r.length:Int) + 1 + 1=1 + (wn w:Int))=decide (r.length + 1=wn w):=by
      congr 1
      apply propext
      omega
     simp [m_is_shaped,isi_tt,isi_ss,at_0,at_1,hl,i1,i2,e]
   ·have hs':isiK (kd a) .str=false:=by cases a <;> first | rfl | exact absurd rfl hs
    have e:shp m (.tuple (a::b::r))=false:=by cases a <;> first | rfl | exact absurd rfl hs
    simp [m_is_shaped,isi_tt,at_0,hl,hs',e]
 ·have e:shp m d=false:=by cases d <;> first | rfl | exact absurd rfl ht
  simp [m_is_shaped,not_tup ht,e]
end G
namespace G
open PySem PySem.Spec PyProof.Rows L2 D
open K1 (has LET TXT single built manyF lsz isName isVal tdp deepF ldp)
theorem shp_form {m:Int} {d:PyData} (h:shp m d=true):∃ w x r,d=.tuple (.str w::x::r)∧(if wn w≠0 then decide (r.length + 1=wn w) else decide (r.length=0) && fil m w x)=true:=by
 unfold shp at h
 split at h
 ·exact ⟨_,_,_,rfl,h⟩
 ·cases h
theorem wn_le (w:Str):wn w≤2:=by
 unfold wn
 split
 ·omega
 ·split <;> omega
theorem shp_row {m:Int} {x:PyData} {r:List PyData} (h:(if wn (Str.ofString "row")≠0 then decide (r.length + 1=wn (Str.ofString "row")) else decide (r.length=0) && fil m (Str.ofString "row") x)=true):∃ es,x=.tuple es∧es.length≤8∧r=[]:=by
 have w0:wn (Str.ofString "row")=0:=by simp [wn]
 rw [w0] at h
 simp [fil] at h
 obtain ⟨h1,h2,h3⟩:=h
 cases x with
 | tuple es=>
  refine ⟨es,rfl,?_,h1⟩
  simp [lenT] at h3
  omega
 | _=>cases h2
theorem kids_eq {w:Str} {x:PyData} {r:List PyData}:kids (.tuple (.str w::x::r))=if w=Str.ofString "put"∨w=Str.ofString "got" then [] else if w=Str.ofString "row" then (match x with | .tuple es=>es | _=>[]) else x::r:=rfl
theorem kids_len {m:Int} {d:PyData} (h:shp m d=true):(kids d).length≤8:=by
 obtain ⟨w,x,r,rfl,g⟩:=shp_form h
 rw [kids_eq]
 split
 ·exact Nat.zero_le _
 ·split
  ·rename_i hw
   subst hw
   obtain ⟨es,rfl,he,_⟩:=shp_row g
   exact he
  ·have:=wn_le w
   split at g
   ·have:=of_decide_eq_true g
    simp only [List.length_cons]
    omega
   ·rw [Bool.and_eq_true] at g
    have:=of_decide_eq_true g.1
    simp only [List.length_cons]
    omega
theorem forL_nx {i:Nat} {body:FS} {d:PyData} {r:List PyData} {ρ ρ1:Rho} {T T1:Tp} (h:body (ρ.set i (some (.d d))) T=some ((.nx,ρ1),T1)):forL i body (d::r) ρ T=forL i body r ρ1 T1:=by
 conv=>lhs; unfold forL
 rw [h]
 rfl
theorem forL_rt {i:Nat} {body:FS} {d x:PyData} {r:List PyData} {ρ ρ1:Rho} {T T1:Tp} (h:body (ρ.set i (some (.d d))) T=some ((.rt x,ρ1),T1)):forL i body (d::r) ρ T=some ((.rt x,ρ1),T1):=by
 conv=>lhs; unfold forL
 rw [h]
 rfl
theorem kids_sm {d:PyData} (h:Sm d):∀ k∈kids d,Sm k:=by
 intro k hk
 unfold kids at hk
 split at hk
 ·rename_i w x r
  split at hk
  ·cases hk
  ·split at hk
   ·have hx:Sm x:=h.part (by simp)
    split at hk
    ·exact hx.part hk
    ·cases hk
   ·exact h.part (List.mem_cons_of_mem _ hk)
 ·cases hk
theorem L_within {m:Int} {d:PyData} (T:Tp) (h:shp m d=true):m_exprs_within [.d d] T=some (.list (kids d),T):=by
 obtain ⟨w,x,r,rfl,h⟩:=shp_form h
 by_cases h1:w=Str.ofString "put"
 ·subst h1
  simp [m_exprs_within,at_0,kids]
 by_cases h2:w=Str.ofString "got"
 ·subst h2
  simp [m_exprs_within,at_0,kids]
 by_cases h3:w=Str.ofString "row"
 ·subst h3
  obtain ⟨es,rfl,he,rfl⟩:=shp_row h
  simp [m_exprs_within,at_0,at_1,kids]
 ·simp [m_exprs_within,at_0,h1,h2,h3,kids,cut_1]
theorem ev_ext {i:Nat} {f:FE} {ρ:Rho} {T T1:Tp} {ys xs:List PyData} (h:f ρ T=some (.d (.list ys),T1)) (h2:ρ[i]? = some (some (.loc (.list xs)))) (h3:xs.length + ys.length≤sizeLine):fExt i f ρ T=some ((.nx,ρ.set i (some (.loc (.list (xs++ys))))),T1):=by
 unfold fExt
 rw [h,ev_bnd]
 simp only [h2]
 rw [if_pos h3]
noncomputable abbrev ec (m:Int):Nat→PyData→Nat:=cnt (shp m) kids
end G
namespace G
open PySem PySem.Spec PyProof.Rows L2 D
open K1 (has LET TXT single built manyF lsz isName isVal tdp deepF ldp)
theorem L_name {d:PyData} (T:Tp) (h:Sm d):m_is_name [.d d] T=some (.bool (isName d),T):=by
 cases d with
 | str x=>
  have hz:x.length≤sizeLine:=Nat.le_trans h.str (by decide)
  have hh:∀ T,m_has_only [.d (.str x),.d (.str (Str.ofString "abcdefghijklmnopqrstuvwxyz"))] T=some (.bool (has LET x),T):=fun T=>L_has T hz
  have e:isName (.str x)=(decide (1≤x.length) && decide (x.length≤8) && has LET x):=rfl
  have hi:isiK .str .str=true:=rfl
  by_cases h1:1≤x.length
  ·have h1':(1:Int)≤(x.length:Int):=by omega
   by_cases h2:x.length≤8
   ·have h2':(x.length:Int)≤8:=by omega
    simp [m_is_name,hh,hz,hi,e,h1,h1',h2,h2']
   ·have h2':¬ (x.length:Int)≤8:=by omega
    simp [m_is_name,hh,hz,hi,e,h1,h1',h2,h2']
  ·have h1':¬ (1:Int)≤(x.length:Int):=by omega
   simp [m_is_name,hh,hz,hi,e,h1,h1']
 | _=>rfl
noncomputable def rn (w:Str):Option Nat:=if w=Str.ofString "say"∨w=Str.ofString "fail" then some 0 else if w=Str.ofString "want"∨w=Str.ofString "peek" then some 1 else if w=Str.ofString "when" then some 2 else none
noncomputable abbrev RTb:List (Str×Int):=[((Str.ofString "say"),0),((Str.ofString "fail"),0),((Str.ofString "want"),1),((Str.ofString "peek"),1),((Str.ofString "when"),2)]
theorem in_rt (w:Str):ninT RTb (.str w)=some (.bool (!(rn w).isSome)):=by
 show some (PyData.bool (!RTb.any fun p=>decide (w=p.1)))=_
 congr 2
 unfold rn
 by_cases h1:w=Str.ofString "say"
 ·simp [h1]
 by_cases h2:w=Str.ofString "fail"
 ·subst h2; simp
 by_cases h3:w=Str.ofString "want"
 ·subst h3; simp
 by_cases h4:w=Str.ofString "peek"
 ·subst h4; simp
 by_cases h5:w=Str.ofString "when"
 ·subst h5; simp
 ·simp [h1,h2,h3,h4,h5]
theorem at_rt {w:Str} {n:Nat} (h:rn w=some n):atT RTb (.str w)=some (.int n):=by
 show ((RTb.find? fun p=>decide (w=p.1)).map fun p=>PyData.int p.2)=_
 unfold rn at h
 by_cases h1:w=Str.ofString "say"
 ·subst h1; simp at h; subst h; simp [List.find?_cons]
 by_cases h2:w=Str.ofString "fail"
 ·subst h2; simp at h; subst h; simp [List.find?_cons]
 by_cases h3:w=Str.ofString "want"
 ·subst h3; simp at h; subst h; simp [List.find?_cons]
 by_cases h4:w=Str.ofString "peek"
 ·subst h4; simp at h; subst h; simp [List.find?_cons]
 by_cases h5:w=Str.ofString "when"
 ·subst h5; simp at h; subst h; simp [List.find?_cons]
 ·simp [h1,h2,h3,h4,h5] at h
noncomputable def asks (w:Str):Bool:=decide (w=Str.ofString "want") || decide (w=Str.ofString "peek")
noncomputable def rsh:PyData→Bool
 | .tuple (.str w::x::r)=>decide (rn w=some r.length) && (!decide (w=Str.ofString "fail") || isName x)
 | _=>false
noncomputable abbrev Pla:=Bool×PyData×Nat
noncomputable def kw:Bool→String
 | true=>"expr"
 | false=>"recipe"
noncomputable def pd:Pla→PyData
 | (b,d,g)=>.tuple [.str (Str.ofString (kw b)),d,.int (g:Int)]
noncomputable def rok:Pla→Bool
 | (true,d,g)=>decide (g≤12) && shp (g:Int) d
 | (false,d,g)=>decide (g≤12) && rsh d
noncomputable def more (w:Str) (g:Nat):Nat:=if asks w=true then g + 1 else g
noncomputable def rkids:Pla→List Pla
 | (true,d,g)=>(kids d).map fun x=>(true,x,g)
 | (false,.tuple (.str w::x::r),g)=>if w=Str.ofString "fail" then [] else (true,x,g)::r.map fun y=>(false,y,more w g)
 | (false,_,_)=>[]
theorem L_rshaped {d:PyData} (T:Tp) (h:Sm d):m_is_recipe_shaped [.d d] T=some (.bool (rsh d),T):=by
 by_cases ht:kd d=.tup
 ·obtain ⟨ds,rfl⟩:=kd_tup ht
  match ds,h with
  | [],h=>simp [m_is_recipe_shaped,isi_tt,rsh]
  | [a],h=>simp [m_is_recipe_shaped,isi_tt,rsh]
  | a::b::r,h=>
   have hl:¬ ((r.length:Int) + 1 + 1 < 2):=by omega
   by_cases hs:kd a=.str
   ·obtain ⟨w,rfl⟩:∃ w,a=.str w:=by cases a <;> first | exact ⟨_,rfl⟩ | cases hs
    have hb:Sm b:=h.part (by simp)
    have hn:=L_name T hb
    have e:rsh (.tuple (.str w::b::r))=(decide (rn w=some r.length) && (!decide (w=Str.ofString "fail") || isName b)):=rfl
    have i1:=in_rt w
    cases hw:rn w with
    | none=>
     rw [hw] at i1 e
     simp at i1
     rw [e]
     simp [m_is_recipe_shaped,isi_tt,isi_ss,at_0,hl,i1]
    | some n=>
     have i2:=at_rt hw
     rw [hw] at i1 e
     simp at i1
     rw [e]
     by_cases hr:n=r.length
     ·subst hr
      have hne:(r.length:Int) + 1 + 1=2 + (r.length:Int):=by omega
      have hl2:¬ (2 + (r.length:Int) < 2):=by omega
      have hl3:2≤2 + (r.length:Int):=by omega
      by_cases hf:w=Str.ofString "fail"
      ·subst hf
       simp [m_is_recipe_shaped,isi_tt,isi_ss,at_0,at_1,hl,i1,i2,hne,hn,hl2,hl3]
      ·simp [m_is_recipe_shaped,isi_tt,isi_ss,at_0,at_1,hl,i1,i2,hne,hf,hl2,hl3]
     ·have hne:¬ ((r.length:Int) + 1 + 1=2 + (n:Int)):=by omega
      simp [m_is_recipe_shaped,isi_tt,isi_ss,at_0,at_1,hl,i1,i2,hne,hr]
   ·have hs':isiK (kd a) .str=false:=by cases a <;> first | rfl | exact absurd rfl hs
    have e:rsh (.tuple (a::b::r))=false:=by cases a <;> first | rfl | exact absurd rfl hs
    simp [m_is_recipe_shaped,isi_tt,at_0,hl,hs',e]
 ·have e:rsh d=false:=by cases d <;> first | rfl | exact absurd rfl ht
  simp [m_is_recipe_shaped,not_tup ht,e]
theorem L_fitting {p:Pla} (T:Tp) (h:Sm p.2.1):m_is_fitting [.d (pd p)] T=some (.bool (rok p),T):=by
 obtain ⟨b,d,g⟩:=p
 have h':Sm d:=h
 by_cases hg:g≤12
 ·have hg':¬ (12:Int) < (g:Int):=by omega
  cases b with
  | true=>simp [m_is_fitting,pd,kw,at0,at1,at2,hg',rok,hg,L_shaped T h']
  | false=>simp [m_is_fitting,pd,kw,at0,at1,at2,hg',rok,hg,L_rshaped T h']
 ·have hg':(12:Int) < (g:Int):=by omega
  cases b <;> simp [m_is_fitting,pd,at0,at1,at2,hg',rok,hg]
theorem in2w (x a b:Str):inD (.str x) (.tuple [.str a,.str b])=some (.bool (decide (x=a) || decide (x=b))):=by
 have e:inD (.str x) (.tuple [.str a,.str b])=some (.bool (decide (a=x) || (decide (b=x) || false))):=rfl
 rw [e,Bool.or_false]
 congr 2
 rw [decide_eq_decide.mpr (show a=x↔x=a from ⟨fun z=>z.symm,fun z=>z.symm⟩),decide_eq_decide.mpr (show b=x↔x=b from ⟨fun z=>z.symm,fun z=>z.symm⟩)]
theorem L_behind {w:Str} {g:Nat} (T:Tp):m_got_behind [.d (.str w),.d (.int (g:Int))] T=some (.int ((more w g:Nat):Int),T):=by
 have h:m_got_behind [.d (.str w),.d (.int (g:Int))] T=if asks w=true then some (.int ((g:Int) + 1),T) else some (.int (g:Int),T):=by
  unfold asks
  by_cases h1:w=Str.ofString "want" <;> by_cases h2:w=Str.ofString "peek" <;> simp [m_got_behind,in2w,h1,h2]
 rw [h]
 unfold more
 split <;> simp
theorem cut_2 {α:Type} {a b:α} {r:List α}:cutL (a::b::r) (some 2) none=r:=by
 rw [cut_drop (by decide) (by simp only [List.length_cons]; omega)]
 rfl
theorem rsh_form {d:PyData} (h:rsh d=true):∃ w x r,d=.tuple (.str w::x::r)∧rn w=some r.length∧(w=Str.ofString "fail"→isName x=true):=by
 unfold rsh at h
 split at h
 ·rename_i w x r
  rw [Bool.and_eq_true] at h
  refine ⟨w,x,r,rfl,of_decide_eq_true h.1,fun hw=>?_⟩
  have:=h.2
  rw [decide_eq_true hw] at this
  simpa using this
 ·cases h
theorem rn_le {w:Str} {n:Nat} (h:rn w=some n):n≤2:=by
 unfold rn at h
 split at h
 ·cases h; omega
 ·split at h
  ·cases h; omega
  ·split at h
   ·cases h; omega
   ·cases h
theorem rok_e {d:PyData} {g:Nat} (h:rok (true,d,g)=true):g≤12∧shp (g:Int) d=true:=by
 have h':(decide (g≤12) && shp (g:Int) d)=true:=h
 rw [Bool.and_eq_true] at h'
 exact ⟨of_decide_eq_true h'.1,h'.2⟩
theorem rok_r {d:PyData} {g:Nat} (h:rok (false,d,g)=true):g≤12∧rsh d=true:=by
 have h':(decide (g≤12) && rsh d)=true:=h
 rw [Bool.and_eq_true] at h'
 exact ⟨of_decide_eq_true h'.1,h'.2⟩
theorem L_places {p:Pla} (T:Tp) (h:rok p=true):m_places_within [.d (pd p)] T=some (.list ((rkids p).map pd),T):=by
 obtain ⟨b,d,g⟩:=p
 cases b with
 | true=>
  obtain ⟨_,hs⟩:=rok_e h
  have e:=L_within T hs
  have hc:compL fTrue (fSeqD .tuple (fCons (fC (.str (Str.ofString "expr"))) (fCons (fVar 0) (fCons (fVar 3) fNil)))) [some (.d (pd (true,d,g))),some (.d d),some (.d (.int (g:Int))),none] (kids d) T=some ((kids d).map fun x=>pd (true,x,g),T):=compL_map fun x hx=>by
   simp [pd,kw]
  have e2:(rkids (true,d,g)).map pd=(kids d).map fun x=>pd (true,x,g):=by
   show ((kids d).map fun x=>(true,x,g)).map pd=_
   rw [List.map_map]
   rfl
  rw [e2]
  simp only [pd,kw] at hc ⊢
  simp [m_places_within,at0,at1,at2,e,hc]
 | false=>
  obtain ⟨_,hs⟩:=rok_r h
  obtain ⟨w,x,r,rfl,hn,_⟩:=rsh_form hs
  have hr:=rn_le hn
  by_cases hf:w=Str.ofString "fail"
  ·subst hf
   simp [m_places_within,pd,kw,at0,at1,at2,at_0,rkids]
  ·have e2:(rkids (false,.tuple (.str w::x::r),g)).map pd=pd (true,x,g)::r.map fun y=>pd (false,y,more w g):=by
    show (if w=Str.ofString "fail" then [] else (true,x,g)::r.map fun y=>(false,y,more w g)).map pd=_
    rw [if_neg hf,List.map_cons,List.map_map]
    rfl
   have hc:compL fTrue (fSeqD .tuple (fCons (fC (.str (Str.ofString "recipe"))) (fCons (fVar 0) (fCons (fVar 4) fNil)))) [some (.d (pd (false,.tuple (.str w::x::r),g))),some (.d (.tuple (.str w::x::r))),some (.d (.int (g:Int))),some (.d (.int ((more w g:Nat):Int)))] r T=some (r.map fun y=>pd (false,y,more w g),T):=compL_map fun y hy=>by
    simp [pd,kw]
   rw [e2]
   simp only [pd,kw] at hc ⊢
   have hz:1 + r.length≤sizeLine:=sz_line (by omega)
   simp [m_places_within,at0,at1,at2,at_0,at_1,hf,L_behind,cut_2,hc,hz]
theorem rkids_len {p:Pla} (h:rok p=true):((rkids p).map pd).length≤8:=by
 rw [List.length_map]
 obtain ⟨b,d,g⟩:=p
 cases b with
 | true=>
  obtain ⟨_,hs⟩:=rok_e h
  have:=kids_len hs
  show ((kids d).map fun x=>((true,x,g):Pla)).length≤8
  rw [List.length_map]
  exact this
 | false=>
  obtain ⟨_,hs⟩:=rok_r h
  obtain ⟨w,x,r,rfl,hn,_⟩:=rsh_form hs
  have hr:=rn_le hn
  show (if w=Str.ofString "fail" then [] else ((true,x,g):Pla)::r.map fun y=>(false,y,more w g)).length≤8
  split
  ·simp
  ·simp only [List.length_cons,List.length_map]
   omega
theorem rkids_sm {p:Pla} (h:Sm p.2.1):∀ q∈rkids p,Sm q.2.1:=by
 obtain ⟨b,d,g⟩:=p
 intro q hq
 cases b with
 | true=>
  obtain ⟨x,hx,rfl⟩:=List.mem_map.mp hq
  exact kids_sm h x hx
 | false=>
  unfold rkids at hq
  split at hq
  ·rename_i heq
   cases heq
  ·rename_i w x r g' heq
   cases heq
   split at hq
   ·cases hq
   ·rcases List.mem_cons.mp hq with z | z
    ·rw [z]; exact Sm.part h (by simp)
    ·obtain ⟨y,hy,rfl⟩:=List.mem_map.mp z
     exact Sm.part h (by simp [hy])
  ·cases hq
theorem ext_loopA {α:Type} {pd:α→PyData} {f:α→List PyData} {g:FnM} {T:Tp} {L:Option D.W}:∀ (l:List α) (acc:List PyData) (o:Option D.W),(∀ d∈l,g [.d (pd d)] T=some (.list (f d),T)∧(f d).length≤8)→acc.length + 8 * l.length≤2000 →
  ∃ o',forL 2 (fExt 1 (fCall g (fCons (fVar 2) fNil))) (l.map pd) [L,some (.loc (.list acc)),o] T=some ((.nx,[L,some (.loc (.list (acc++l.flatMap f))),o']),T)
 | [],acc,o,_,_=>⟨o,by simp [forL]⟩
 | d::r,acc,o,h,hl=>by
  obtain ⟨h1,h2⟩:=h d List.mem_cons_self
  simp only [List.length_cons] at hl
  obtain ⟨o',ih⟩:=ext_loopA (pd:=pd) r (acc++f d) (some (.d (pd d))) (fun x hx=>h x (List.mem_cons_of_mem _ hx)) (by rw [List.length_append]; omega)
  refine ⟨o',?_⟩
  have e:=ev_ext (i:=1) (f:=fCall g (fCons (fVar 2) fNil)) (ρ:=[L,some (.loc (.list acc)),some (.d (pd d))]) (T:=T) (T1:=T) (ys:=f d) (xs:=acc) (by simp [h1]) rfl (sz_line (by omega))
  rw [List.flatMap_cons,← List.append_assoc,← ih,List.map_cons]
  exact forL_nx e
theorem L_layer {l:List Pla} (T:Tp) (h:∀ d∈l,rok d=true) (hl:l.length≤60):m_layer_within [.d (.list (l.map pd))] T=some (.list ((l.flatMap rkids).map pd),T):=by
 obtain ⟨o',e⟩:=ext_loopA (g:=m_places_within) (pd:=pd) (f:=fun p=>(rkids p).map pd) (T:=T) (L:=some (.d (.list (l.map pd)))) l [] none (fun d hd=>⟨L_places T (h d hd),rkids_len (h d hd)⟩) (by simp; omega)
 rw [List.nil_append] at e
 have e2:(l.flatMap fun p=>(rkids p).map pd)=(l.flatMap rkids).map pd:=by rw [List.map_flatMap]
 rw [e2] at e
 simp [m_layer_within,e]
end G
namespace G
open PySem PySem.Spec PyProof.Rows L2 D
open K1 (has LET TXT single built manyF lsz isName isVal tdp deepF ldp)
noncomputable def recB:FS:=(fSeq (fSet 2 (fBin addD (fVar 2) (fCB lenD (fCons (fVar 1) fNil)))) (fSeq (fIf (fOrT (fTst (fBin gtD (fVar 2) (fC (.int 60)))) (fNotT (fTru (fCB allD (fCons (fComp (fIter (fVar 1)) fTrue (fCall m_is_fitting (fCons (fVar 0) fNil))) fNil))))) (fRet (fC (.bool false))) fNext) (fSet 1 (fCall m_layer_within (fCons (fVar 1) fNil)))))
theorem compL_mapA {α:Type} {e:FE} {ρ:Rho} {T:Tp} {q:α→PyData} {g:α→PyData}:∀ {ds:List α},(∀ d∈ds,e (some (.d (q d))::ρ) T=some (.d (g d),T))→compL fTrue e ρ (ds.map q) T=some (ds.map g,T)
 | [],_=>rfl
 | d::r,h=>by
  have ih:=compL_mapA (ds:=r) fun x hx=>h x (List.mem_cons_of_mem _ hx)
  have h0:=h d List.mem_cons_self
  rw [List.map_cons,List.map_cons]
  unfold compL
  simp [h0,ih]
theorem rec_loop {T:Tp} {d0:PyData}:∀ (ds:List PyData) (l:List Pla) (c:Nat) (o:Option D.W),c≤60→(∀ x∈l,Sm x.2.1) →
  (∃ ρ',forL 3 recB ds [some (.d d0),some (.d (.list (l.map pd))),some (.d (.int c)),o] T=some ((.rt (.bool false),ρ'),T)∧lay rok rkids ds.length c l=false) ∨
  (∃ (l':List Pla) (c':Int) (o':Option D.W),forL 3 recB ds [some (.d d0),some (.d (.list (l.map pd))),some (.d (.int c)),o] T=some ((.nx,[some (.d d0),some (.d (.list (l'.map pd))),some (.d (.int c')),(o':Option D.W)]),T)∧lay rok rkids ds.length c l=decide (l'.length=0))
 | [],l,c,o,_,_=>.inr ⟨l,c,o,rfl,rfl⟩
 | d::ds,l,c,o,hc,hs=>by
  have hcm:compL fTrue (fCall m_is_fitting (fCons (fVar 0) fNil)) [some (.d d0),some (.d (.list (l.map pd))),some (.d (.int ((c:Int) + (l.length:Int)))),some (.d d)] (l.map pd) T=some (l.map fun x=>.bool (rok x),T):=compL_mapA fun x hx=>by
   simp [L_fitting T (hs x hx)]
  by_cases hb:60 < c + l.length
  ·have hb':(60:Int) < (c:Int) + (l.length:Int):=by omega
   refine .inl ⟨[some (.d d0),some (.d (.list (l.map pd))),some (.d (.int ((c:Int) + (l.length:Int)))),some (.d d)],forL_rt (by simp [recB,hb']),?_⟩
   show (if (decide (60 < c + l.length) || !l.all rok)=true then false else _)=false
   rw [decide_eq_true hb]
   rfl
  ·have hb':¬ (60:Int) < (c:Int) + (l.length:Int):=by omega
   by_cases ha:l.all rok=true
   ·have ha':=List.all_eq_true.mp ha
    have e1:=L_layer T ha' (by omega)
    have step:recB [some (.d d0),some (.d (.list (l.map pd))),some (.d (.int c)),some (.d d)] T=some ((.nx,[some (.d d0),some (.d (.list ((l.flatMap rkids).map pd))),some (.d (.int ((c + l.length:Nat):Int))),some (.d d)]),T):=by
     generalize (l.flatMap rkids).map pd=Z at e1 ⊢
     simp [recB,hb',hcm,ha,e1]
    have ih:=rec_loop (T:=T) (d0:=d0) ds (l.flatMap rkids) (c + l.length) (some (.d d)) (by omega) (fun x hx=>by
     obtain ⟨y,hy,hxy⟩:=List.mem_flatMap.mp hx
     exact rkids_sm (hs y hy) x hxy)
    have el:lay rok rkids (d::ds).length c l=lay rok rkids ds.length (c + l.length) (l.flatMap rkids):=by
     show (if (decide (60 < c + l.length) || !l.all rok)=true then false else _)=_
     rw [decide_eq_false hb,ha]
     rfl
    rw [el,forL_nx step]
    exact ih
   ·have ha2:l.all rok=false:=by
     cases h:l.all rok with
     | false=>rfl
     | true=>exact absurd h ha
    refine .inl ⟨[some (.d d0),some (.d (.list (l.map pd))),some (.d (.int ((c:Int) + (l.length:Int)))),some (.d d)],forL_rt (by simp [recB,hb',hcm,ha2]),?_⟩
    show (if (decide (60 < c + l.length) || !l.all rok)=true then false else _)=false
    rw [ha2]
    simp
noncomputable abbrev rc:Nat→Pla→Nat:=cnt rok rkids
theorem L_is_recipe {d:PyData} (T:Tp) (h:Sm d):m_is_recipe [.d d] T=some (.bool (decide (rc 20 (false,d,0)≤60)),T):=by
 have key:=rec_loop (T:=T) (d0:=d) (numsD 0 20) [(false,d,0)] 0 none (by decide) (fun x hx=>by rw [List.mem_singleton.mp hx]; exact h)
 have r20:rngOk 20=true:=by decide
 have e:=lay_cnt rok rkids 20 0 [(false,d,0)] (by decide)
 simp only [List.map_cons,List.map_nil,List.sum_cons,List.sum_nil,Nat.zero_add,Nat.add_zero] at e
 have en:(numsD 0 20).length=20:=nums_len 20
 rw [en,e] at key
 have hm:m_is_recipe=mkFn 4 (fSeq (fSet 1 (fSeqD .list (fCons (fSeqD .tuple (fCons (fC (.str (Str.ofString "recipe"))) (fCons (fVar 0) (fCons (fC (.int 0)) fNil)))) fNil))) (fSeq (fSet 2 (fC (.int 0))) (fSeq (fFor 3 (fRng1 (fC (.int 20))) recB) (fRet (fBin eqD (fCB lenD (fCons (fVar 1) fNil)) (fC (.int 0))))))):=rfl
 rcases key with ⟨ρ',k1,k2⟩ | ⟨l',c',o',k1,k2⟩
 ·have k1':forL 3 recB (numsD 0 20) [some (.d d),some (.d (.list [.tuple [.str (Str.ofString "recipe"),d,.int 0]])),some (.d (.int 0)),none] T=_:=k1
  rw [hm]
  simp [r20,k1']
  simpa using k2
 ·have k1':forL 3 recB (numsD 0 20) [some (.d d),some (.d (.list [.tuple [.str (Str.ofString "recipe"),d,.int 0]])),some (.d (.int 0)),none] T=_:=k1
  rw [hm,k2]
  simp [r20,k1']
end G
namespace D
open PySem PySem.Spec PyProof.Rows L2
noncomputable def cd (x:Str):List Nat:=x.cps.toList
theorem cd_len (x:Str):(cd x).length=x.length:=Array.length_toList
theorem pick_list {α:Type} (xs:List α) (a:Nat):∀ k:Nat,(List.range k).filterMap (fun m=>xs[a + m]?)=(xs.drop a).take k
 | 0=>by simp
 | k + 1=>by
  rw [List.range_succ,List.filterMap_append,pick_list xs a k,List.take_add_one]
  congr 1
  simp only [List.filterMap_cons,List.filterMap_nil,List.getElem?_drop]
  cases xs[a + k]? <;> rfl
theorem slice_cd {x:Str} {i j:Int} (h0:0≤i) (h1:0≤j):cd (Txt.slice x (some i) (some j))=((cd x).drop i.toNat).take (j.toNat - i.toNat):=by
 have hl:x.cps.toList.length=x.length:=Array.length_toList
 have e:Builtin.Str.strSliceIndices (some i) (some j) 1 x.length=(List.range ((min j.toNat x.length) - (min i.toNat x.length))).map fun k=>min i.toNat x.length + k:=by
  unfold Builtin.Str.strSliceIndices sliceRange
  simp only [show (1:Int) > 0 by decide,if_true,show ¬ i < 0 by omega,show ¬ j < 0 by omega,if_false]
  have ea:max 0 (min i (x.length:Int))=((min i.toNat x.length:Nat):Int):=by omega
  have eb:max 0 (min j (x.length:Int))=((min j.toNat x.length:Nat):Int):=by omega
  rw [ea,eb]
  have ec:(if ((min i.toNat x.length:Nat):Int) < ((min j.toNat x.length:Nat):Int) then (((min j.toNat x.length:Nat):Int) - ((min i.toNat x.length:Nat):Int) + 1 - 1) / 1 else 0).toNat=(min j.toNat x.length) - (min i.toNat x.length):=by
   split
   ·rw [Int.ediv_one]; omega
   ·omega
  rw [ec]
  refine List.map_congr_left fun k _=>?_
  omega
 have pk:(Builtin.Str.strSliceIndices (some i) (some j) 1 x.length).filterMap (x.cps[·]?)=(x.cps.toList.drop (min i.toNat x.length)).take ((min j.toNat x.length) - (min i.toNat x.length)):=by
  rw [e,List.filterMap_map,← pick_list]
  congr 1
  funext m
  simp
 have fin:(x.cps.toList.drop (min i.toNat x.length)).take ((min j.toNat x.length) - (min i.toNat x.length))=((cd x).drop i.toNat).take (j.toNat - i.toNat):=by
  unfold cd
  by_cases hi:i.toNat≤x.length
  ·have e1:min i.toNat x.length=i.toNat:=by omega
   rw [e1]
   by_cases hj:j.toNat≤x.length
   ·have e2:min j.toNat x.length=j.toNat:=by omega
    rw [e2]
   ·have e2:min j.toNat x.length=x.length:=by omega
    rw [e2,List.take_of_length_le (by rw [List.length_drop,hl]; omega),List.take_of_length_le (by rw [List.length_drop,hl]; omega)]
  ·have e1:min i.toNat x.length=x.length:=by omega
   rw [e1,List.drop_eq_nil_of_le (by omega),List.drop_eq_nil_of_le (by omega)]
   simp
 unfold Txt.slice
 split
 ·rename_i h
  have h':(Builtin.Str.strSliceIndices (some i) (some j) 1 x.length).length=x.length:=by simpa using h
  rw [e,List.length_map,List.length_range] at h'
  rw [← fin]
  show x.cps.toList=_
  by_cases hz:x.length=0
  ·have:x.cps.toList=[]:=List.length_eq_zero_iff.mp (by omega)
   rw [this]; simp
  ·have e1:min i.toNat x.length=0:=by omega
   have e2:min j.toNat x.length=x.length:=by omega
   rw [e1,e2,List.drop_zero,Nat.sub_zero,List.take_of_length_le (by omega)]
 ·rw [← fin,← pk]
  rfl
end D
namespace G
open PySem PySem.Spec PyProof.Rows L2 D
noncomputable def nm (l:List Str):List PyData:=l.map PyData.str
theorem nm_len (l:List Str):(nm l).length=l.length:=by simp [nm]
theorem in_nm (w:Str) (xs:List Str):inD (.str w) (.list (nm xs))=some (.bool (decide (w∈xs))):=by
 have h:(xs.map PyData.str).all flatD=true:=by simp [flatD]
 show (if flatD (.str w) && (xs.map PyData.str).all flatD then some ((xs.map PyData.str).any fun y=>eqF y (.str w)) else none).map PyData.bool=_
 rw [h]
 simp [flatD,eqF,List.any_map]
 induction xs with
 | nil=>simp
 | cons a r ih=>
  have ih':=ih (by simp [flatD])
  simp only [List.any_cons,ih',List.mem_cons,Function.comp,eqF]
  by_cases e:w=a
  ·subst e; simp
  ·have e':¬ a=w:=fun z=>e z.symm
   simp [e,e']
theorem nin_nm (w:Str) (xs:List Str):notInD (.str w) (.list (nm xs))=some (.bool (!decide (w∈xs))):=by
 have h:=in_nm w xs
 unfold inD at h
 unfold notInD
 cases hb:inS (.str w) (.list (nm xs)) with
 | none=>rw [hb] at h; cases h
 | some b=>
  rw [hb] at h
  simp at h
  simp [h]
theorem at_nm {l:List Str} {i:Int} (h0:0≤i) (h1:i < (l.length:Int)):∃ x,atI (nm l) i=some (.str x)∧x∈l:=by
 obtain ⟨d,e,hm⟩:=atI_in (xs:=nm l) h0 (by rw [nm_len]; exact h1)
 obtain ⟨x,hx,rfl⟩:=List.mem_map.mp hm
 exact ⟨x,e,hx⟩
noncomputable def Lo (x:Str):Prop:=∀ c∈x.cps.toList,c < 128
theorem Lo.app {x y:Str} (h:Lo x) (g:Lo y):Lo (x++y):=fun c hc=>by
 rw [cps_toList_append] at hc
 rcases List.mem_append.mp hc with k | k
 ·exact h c k
 ·exact g c k
noncomputable def sfC (c:Nat):Bool:=decide (c∈K1.LET.cps.toList)
noncomputable def Sf (x:Str):Prop:=∀ c∈x.cps.toList,sfC c=true
theorem sf_lt {c:Nat} (h:sfC c=true):c < 128:=by
 have:(K1.LET.cps.toList.all fun c=>decide (c < 128))=true:=by decide +kernel
 exact of_decide_eq_true (List.all_eq_true.mp this c (of_decide_eq_true h))
theorem Sf.lo {x:Str} (h:Sf x):Lo x:=fun c hc=>sf_lt (h c hc)
theorem sf_of {x:Str} (h:(x.cps.toList.all sfC)=true):Sf x:=fun c hc=>List.all_eq_true.mp h c hc
theorem Sf.app {x y:Str} (h:Sf x) (g:Sf y):Sf (x++y):=fun c hc=>by
 rw [PySem.Str.cps_append,Array.toList_append] at hc
 rcases List.mem_append.mp hc with z | z
 ·exact h c z
 ·exact g c z
noncomputable def Nx (n:Nat) (x:Str):Prop:=x.length≤n∧Sf x∧1≤x.length
theorem Nx.mono {n m:Nat} {x:Str} (h:Nx n x) (l:n≤m):Nx m x:=⟨Nat.le_trans h.1 l,h.2⟩
noncomputable def Ns (l:List Str):Prop:=∀ x∈l,Nx 8 x
noncomputable def LT:Str:=Str.ofString "abcdefghijklmnopqrstuvwxyz"
noncomputable def LTs:List Str:=LT.cps.toList.map fun c=>(⟨#[c]⟩:Str)
theorem lts_nd:LTs.Nodup:=by decide +kernel
theorem lts_len:LTs.length=26:=by decide +kernel
theorem lts_one {x:Str} (h:x∈LTs):x.length=1:=by
 obtain ⟨c,_,rfl⟩:=List.mem_map.mp h
 rfl
theorem lts_nx {x:Str} (h:x∈LTs):Nx 1 x:=by
 have:(LTs.all fun x=>x.cps.toList.all sfC)=true:=by decide +kernel
 exact ⟨by rw [lts_one h]; exact Nat.le_refl 1,sf_of (List.all_eq_true.mp this x h),by rw [lts_one h]; exact Nat.le_refl 1⟩
theorem lt_signs:D.signs LT=nm LTs:=by
 unfold D.signs nm LTs
 rw [List.map_map]
 rfl
theorem lt_len:LT.length=26:=by decide +kernel
theorem lt_at {i:Int} (h0:0≤i) (h1:i < 26):∃ x∈LTs,ixD (.str LT) (.int i)=some (.str x):=by
 have hl:LT.cps.toList.length=26:=by decide +kernel
 obtain ⟨c,e,hm⟩:=atI_in (xs:=LT.cps.toList) h0 (by rw [hl]; exact h1)
 refine ⟨⟨#[c]⟩,List.mem_map.mpr ⟨c,hm,rfl⟩,?_⟩
 rw [ev_ixS,if_pos (by rw [lt_len,sz]; decide),e]
 rfl
theorem nd_out {α:Type} [DecidableEq α]:∀ {L N:List α},L.Nodup→N.length < L.length→∃ x∈L,x∉N
 | [],N,_,h=>absurd h (by simp)
 | a::L,N,nd,h=>by
  rw [List.nodup_cons] at nd
  by_cases ha:a∈N
  ·have hp:(N.erase a).length < L.length:=by
    have h1:=List.length_erase_of_mem ha
    have h2:0 < N.length:=List.length_pos_of_mem ha
    rw [List.length_cons] at h
    omega
   obtain ⟨x,hx,nx⟩:=nd_out nd.2 hp
   refine ⟨x,List.mem_cons_of_mem _ hx,fun z=>nx ?_⟩
   exact (List.mem_erase_of_ne (fun (q:x=a)=>nd.1 (q ▸ hx))).mpr z
  ·exact ⟨a,List.mem_cons_self,ha⟩
theorem free_letter {l:List Str} (h:l.length < 26) (ρ:Rho) (T:Tp) (hv:∀ d,fVar 5 (some (.d d)::ρ) T=some (.loc (.list (nm l)),T)) :
  ∃ x ys,(x∈LTs∧x∉l)∧compL (fTst (fBin notInD (fVar 0) (fVar 5))) (fVar 0) ρ (D.signs LT) T=some (.str x::ys,T):=by
 have c:compL (fTst (fBin notInD (fVar 0) (fVar 5))) (fVar 0) ρ (D.signs LT) T=some ((D.signs LT).filter (fun d=>match d with | .str x=>!decide (x∈l) | _=>false),T):=compL_filter fun d hd=>by
  rw [lt_signs] at hd
  obtain ⟨x,hx,rfl⟩:=List.mem_map.mp hd
  have:op2 notInD T (.d (.str x)) (.loc (.list (nm l)))=mkD T (notInD (.str x) (.list (nm l))):=rfl
  simp [hv,this,nin_nm]
 rw [c]
 obtain ⟨x,hx,nx⟩:=nd_out (N:=l) lts_nd (by rw [lts_len]; exact h)
 have hm:PyData.str x∈(D.signs LT).filter (fun d=>match d with | .str x=>!decide (x∈l) | _=>false):=by
  rw [List.mem_filter,lt_signs]
  exact ⟨List.mem_map.mpr ⟨x,hx,rfl⟩,by simp [nx]⟩
 cases hf:(D.signs LT).filter (fun d=>match d with | .str x=>!decide (x∈l) | _=>false) with
 | nil=>rw [hf] at hm; cases hm
 | cons d r=>
  have hd:d∈(D.signs LT).filter (fun d=>match d with | .str x=>!decide (x∈l) | _=>false):=by rw [hf]; exact List.mem_cons_self
  rw [List.mem_filter,lt_signs] at hd
  obtain ⟨y,hy,rfl⟩:=List.mem_map.mp hd.1
  exact ⟨y,r,⟨hy,by simpa using hd.2⟩,rfl⟩
end G
namespace G
open PySem PySem.Spec PyProof.Rows L2 D
theorem slice_to (z:Str) (n:Nat):(Txt.slice z none (some (n:Int))).length≤n:=by
 have e:Builtin.Str.strSliceIndices none (some (n:Int)) 1 z.length=Builtin.Str.strSliceIndices (some 0) (some (n:Int)) 1 z.length:=by
  have hm:max 0 (min (0:Int) (z.length:Int))=0:=by omega
  unfold Builtin.Str.strSliceIndices sliceRange
  simp [hm]
 have e2:Txt.slice z none (some (n:Int))=Txt.slice z (some 0) (some (n:Int)):=by
  unfold Txt.slice
  rw [e]
 rw [e2,← cd_len,slice_cd (by omega) (by omega),List.length_take]
 omega
theorem slice_ge {z:Str} (h:1≤z.length):1≤(Txt.slice z none (some (8:Int))).length:=by
 have e:Builtin.Str.strSliceIndices none (some (8:Int)) 1 z.length=Builtin.Str.strSliceIndices (some 0) (some (8:Int)) 1 z.length:=by
  have hm:max 0 (min (0:Int) (z.length:Int))=0:=by omega
  unfold Builtin.Str.strSliceIndices sliceRange
  simp [hm]
 have e2:Txt.slice z none (some (8:Int))=Txt.slice z (some 0) (some (8:Int)):=by
  unfold Txt.slice
  rw [e]
 rw [e2,← cd_len,slice_cd (by omega) (by omega),List.length_take,List.length_drop,cd_len]
 show 1≤min ((8:Int).toNat - (0:Int).toNat) _
 simp
 omega
theorem mul4_ge (x:Str):x.length≤(Txt.mul x 4).length:=by
 unfold Txt.mul
 by_cases h:x.length=0
 ·simp [h]
 ·have h2:¬ ((4:Int) == 1 || x.length == 0)=true:=by simp [h]
  rw [if_neg (by decide),if_neg h2]
  show _≤((List.replicate 4 x.cps).foldl (·++·) #[]).size
  have e:x.length=x.cps.size:=rfl
  rw [e]
  simp [List.replicate]
theorem mul4_len (x:Str):(Txt.mul x 4).length≤4 * x.length:=by
 unfold Txt.mul
 by_cases h:x.length=0
 ·simp [h]
 ·have h2:¬ ((4:Int) == 1 || x.length == 0)=true:=by simp [h]
  rw [if_neg (by decide),if_neg h2]
  show ((List.replicate 4 x.cps).foldl (·++·) #[]).size≤_
  have e:x.length=x.cps.size:=rfl
  rw [e]
  simp [List.replicate]
  omega
theorem mul4_lo {x:Str} (h:Sf x):Sf (Txt.mul x 4):=by
 unfold Txt.mul
 by_cases h0:x.length=0
 ·simp [h0]; exact h
 ·have h2:¬ ((4:Int) == 1 || x.length == 0)=true:=by simp [h0]
  rw [if_neg (by decide),if_neg h2]
  intro c hc
  have hc':c∈((List.replicate 4 x.cps).foldl (·++·) #[]).toList:=hc
  simp [List.replicate] at hc'
  exact h c (by simpa using hc')
theorem slice_lo {x:Str} {l u:Option Int} (h:Sf x):Sf (Txt.slice x l u):=fun c hc=>h c (slice_mem hc)
noncomputable def WD:List Str:=[Str.ofString "made",Str.ofString "told",Str.ofString "say",Str.ofString "want",Str.ofString "fails",Str.ofString "got",Str.ofString "put",Str.ofString "lacks"]
theorem wd_len {x:Str} (h:x∈WD):Nx 8 x:=by
 have h1:(WD.all fun x=>decide (x.length≤8))=true:=by decide +kernel
 have h2:(WD.all fun x=>x.cps.toList.all sfC)=true:=by decide +kernel
 have h3:(WD.all fun x=>decide (1≤x.length))=true:=by decide +kernel
 exact ⟨of_decide_eq_true (List.all_eq_true.mp h1 x h),sf_of (List.all_eq_true.mp h2 x h),of_decide_eq_true (List.all_eq_true.mp h3 x h)⟩
theorem seq_nx {a b:FS} {ρ ρ1:Rho} {T T1:Tp} (h:a ρ T=some ((.nx,ρ1),T1)):fSeq a b ρ T=b ρ1 T1:=by
 rw [ev_seq,h]
 rfl
noncomputable def ρN (m:PyData) (l:List Str) (o5:Option W) (w:Int) (x:Str):Rho:=[some (.tp 0),some (.d m),some (.d (.list (nm WD))),some (.d (.str LT)),some (.loc (.list (nm l))),o5,some (.d (.int w)),some (.d (.str x))]
section
variable {m:PyData} {l:List Str} {o5:Option W} {w:Int} {x:Str} {xs:List PyData}
theorem n_word (hf:Fr xs) (hx:Nx 1 x):∃ x' xs',fIf (fTst (fBin eqD (fVar 6) (fC (.int 0)))) (fSet 7 (fBin ixD (fVar 2) (fCall m__law_next (fCons (fVar 0) (fCons (fC (.int 8)) fNil))))) fNext (ρN m l o5 w x) [xs]=some ((.nx,ρN m l o5 w x'),[xs'])∧Nx 8 x'∧(w≠0→x'=x)∧Fr xs':=by
 by_cases hw:w=0
 ·obtain ⟨r,xs',e,h',r0,r1⟩:=L_next hf (m:=8) (by decide) (by decide)
  obtain ⟨y,ey,my⟩:=at_nm (l:=WD) r0 (by simpa [WD] using r1)
  refine ⟨y,xs',?_,wd_len my,fun z=>absurd hw z,h'⟩
  simp [ρN,hw,e,ey]
 ·exact ⟨x,xs,by simp [ρN,hw],hx.mono (by decide),fun _=>rfl,hf⟩
theorem at_last {l:List Str} (h:0 < l.length):∃ y∈l,atI (nm l) (-1)=some (.str y):=by
 unfold atI ixN
 rw [nm_len,if_neg (by omega),if_pos (by omega)]
 have hl:(-1 + (l.length:Int)).toNat < l.length:=by omega
 exact ⟨l[(-1 + (l.length:Int)).toNat],List.getElem_mem hl,by simp [nm,hl]⟩
theorem op2LL {o:PyData→PyData→Option PyData} {ys:List PyData} {T:Tp} {y:PyData}:op2 o T (.loc (.list ys)) (.d y)=mkD T (o (.list ys) y):=rfl
theorem op2RL {o:PyData→PyData→Option PyData} {ys:List PyData} {T:Tp} {y:PyData}:op2 o T (.d y) (.loc (.list ys))=mkD T (o y (.list ys)):=rfl
theorem n_last (hl:Ns l) (hx:Nx 8 x):∃ x',fIf (fAndT (fTst (fBin eqD (fVar 6) (fC (.int 1)))) (fTst (fBin gtD (fCB lenD (fCons (fVar 4) fNil)) (fC (.int 0))))) (fSet 7 (fSl (fBin addD (fBin ixD (fVar 4) (fUn negD (fC (.int 1)))) (fVar 7)) fNoP (fP (fC (.int 8))))) fNext (ρN m l o5 w x) [xs]=some ((.nx,ρN m l o5 w x'),[xs])∧Nx 8 x'∧(w≠1→x'=x):=by
 by_cases hw:w=1
 ·by_cases h0:0 < l.length
  ·obtain ⟨y,my,ey⟩:=at_last h0
   have hy:=hl y my
   have z:y.length + x.length≤sizeLine:=by have:=hy.1; have:=hx.1; rw [sz]; omega
   have z2:(y++x).length≤sizeLine:=by rw [len_app]; exact z
   refine ⟨Txt.slice (y++x) none (some 8),?_,⟨slice_to (y++x) 8,slice_lo (hy.2.1.app hx.2.1),slice_ge (by rw [len_app]; have:=hx.2.2; omega)⟩,fun z=>absurd hw z⟩
   simp [ρN,hw,nm_len,h0,op2LL,ey,z,z2]
  ·have h1:l=[]:=List.eq_nil_of_length_eq_zero (by omega)
   exact ⟨x,by simp [ρN,hw,h1,nm],hx,fun z=>absurd hw z⟩
 ·exact ⟨x,by simp [ρN,hw],hx,fun _=>rfl⟩
theorem n_mul (hf:Fr xs) (hx:Nx 8 x) (h2:w=2→x.length≤1):∃ x' xs',fIf (fTst (fBin eqD (fVar 6) (fC (.int 2)))) (fSet 7 (fBin mulD (fBin addD (fVar 7) (fBin ixD (fVar 3) (fCall m__law_next (fCons (fVar 0) (fCons (fC (.int 26)) fNil))))) (fC (.int 4)))) fNext (ρN m l o5 w x) [xs]=some ((.nx,ρN m l o5 w x'),[xs'])∧Nx 8 x'∧Fr xs':=by
 by_cases hw:w=2
 ·obtain ⟨r,xs',e,h',r0,r1⟩:=L_next hf (m:=26) (by decide) (by decide)
  obtain ⟨y,my,ey⟩:=lt_at r0 r1
  have hy:=lts_nx my
  have hy1:=hy.1
  have hx1:=hx.1
  have z:x.length + y.length≤sizeLine:=by rw [sz]; omega
  have z2:(x++y).length≤1000:=by rw [len_app]; omega
  have z3:=mul4_len (x++y)
  rw [len_app] at z3
  have h2':=h2 hw
  have z4:=mul4_ge (x++y)
  rw [len_app] at z4
  have hx3:=hx.2.2
  refine ⟨Txt.mul (x++y) 4,xs',?_,⟨by omega,mul4_lo (hx.2.1.app hy.2.1),by omega⟩,h'⟩
  simp only [ρN,hw,ev_if,ev_tst,ev_bin,ev_var0,ev_var1,ev_var2,ev_var3,ev_var4,ev_var5,ev_var6,ev_var7,ev_bnd,ev_binK,ev_C,ev_op2,ev_eqI,ev_mkD,ev_tstK,ev_ifK,decide_true,if_true,ev_set,ev_call,ev_cons,ev_consK,ev_nil,e,ey,ev_addS,z,ev_mulS,z2,ev_setD]
  rfl
 ·exact ⟨x,xs,by simp [ρN,hw],hx.mono (by decide),hf⟩
theorem n_dup (h26:l.length < 26) (hx:Nx 8 x):∃ x',fIf (fTst (fBin inD (fVar 7) (fVar 4))) (fSet 7 (fBin ixD (fComp (fIter (fVar 3)) (fTst (fBin notInD (fVar 0) (fVar 5))) (fVar 0)) (fC (.int 0)))) fNext (ρN m l o5 w x) [xs]=some ((.nx,ρN m l o5 w x'),[xs])∧Nx 8 x'∧x'∉l:=by
 by_cases hi:x∈l
 ·obtain ⟨y,ys,⟨my,ny⟩,c⟩:=free_letter h26 (ρN m l o5 w x) [xs] (fun d=>rfl)
  have hy:=lts_nx my
  refine ⟨y,?_,hy.mono (by decide),ny⟩
  have z:LT.length≤sizeLine:=by rw [lt_len,sz]; decide
  have a0:atI (PyData.str y::ys) 0=some (.str y):=by simp [atI,ixN]
  unfold ρN at c
  simp [ρN,op2RL,in_nm,hi,z,c,a0]
 ·exact ⟨x,by simp [ρN,op2RL,in_nm,hi],hx,hi⟩
theorem n_ins (hf:Fr xs) (h6:l.length≤20) (nd:l.Nodup) (nx:x∉l):∃ l' xs',fIns 4 (fCall m__law_next (fCons (fVar 0) (fCons (fBin addD (fCB lenD (fCons (fVar 4) fNil)) (fC (.int 1))) fNil))) (fVar 7) (ρN m l o5 w x) [xs]=some ((.nx,ρN m l' o5 w x),[xs'])∧Fr xs'∧l'.length=l.length + 1∧l'.Nodup∧∀ y∈l',y=x∨y∈l:=by
 obtain ⟨r,xs',e,h',r0,r1⟩:=L_next hf (m:=(l.length:Int) + 1) (by omega) (by omega)
 refine ⟨l.take r.toNat++x::l.drop r.toNat,xs',?_,h',by simp; omega,?_,fun y hy=>?_⟩
 ·have h3:0≤r∧r≤((nm l).length:Int)∧(nm l).length≤1000:=⟨r0,by rw [nm_len]; omega,by rw [nm_len]; omega⟩
  have k:insK 4 (ρN m l o5 w x) (.d (.int r)) (.d (.str x)) [xs'] (some (some (.loc (.list (nm l)))))=some ((.nx,(ρN m l o5 w x).set 4 (some (.loc (.list ((nm l).take r.toNat++.str x::(nm l).drop r.toNat))))),[xs']):=by
   unfold insK
   dsimp only
   rw [if_pos h3]
  unfold fIns
  have e1:fCall m__law_next (fCons (fVar 0) (fCons (fBin addD (fCB lenD (fCons (fVar 4) fNil)) (fC (.int 1))) fNil)) (ρN m l o5 w x) [xs]=some (.d (.int r),[xs']):=by
   simp [ρN,nm_len,e]
  have e2:fVar 7 (ρN m l o5 w x) [xs']=some (.d (.str x),[xs']):=rfl
  rw [e1]
  dsimp only [ev_bnd]
  rw [e2]
  refine Eq.trans k ?_
  simp [ρN,nm]
 ·have e:(x::(l.take r.toNat++l.drop r.toNat)).Nodup:=by
   rw [List.take_append_drop]
   exact List.nodup_cons.mpr ⟨nx,nd⟩
  exact List.perm_middle.symm.nodup e
 ·rcases List.mem_append.mp hy with q | q
  ·exact .inr (List.mem_of_mem_take q)
  ·rcases List.mem_cons.mp q with q | q
   ·exact .inl q
   ·exact .inr (List.mem_of_mem_drop q)
end
theorem L_names {xs:List PyData} (hf:Fr xs) {m:Int} (h0:0≤m) (h1:m≤20):∃ l xs',m__law_names [.tp 0,.d (.int m)] [xs]=some (.list (nm l),[xs'])∧Ns l∧l.Nodup∧(l.length:Int)=m:=by
 have lp:=for_inv (i:=5) (body:=B_l_names1) (N:=20) (I:=fun k ρ T=>∃ l xs o5 o6 o7,ρ=[some (.tp 0),some (.d (.int m)),some (.d (.list (nm WD))),some (.d (.str LT)),some (.loc (.list (nm l))),o5,o6,o7]∧T=[xs]∧Fr xs∧Ns l∧l.length=k∧l.Nodup)
  (numsD 0 m.toNat) 0 [some (.tp 0),some (.d (.int m)),some (.d (.list (nm WD))),some (.d (.str LT)),some (.loc (.list (nm []))),none,none,none] [xs] (by rw [nums_len]; omega) ⟨[],xs,none,none,none,rfl,rfl,hf,(fun _ z=>nomatch z),rfl,by simp⟩ (fun k d ρ T hd hk hI=>by
   obtain ⟨l,xs,o5,o6,o7,rfl,rfl,hf,hn,hl,hnd⟩:=hI
   obtain ⟨w,x1,e1,f1,_,_⟩:=L_next hf (m:=5) (by decide) (by decide)
   obtain ⟨r,x2,e2,f2,r0,r1⟩:=L_next f1 (m:=26) (by decide) (by decide)
   obtain ⟨y,my,ey⟩:=lt_at r0 r1
   have hy:=lts_nx my
   obtain ⟨y3,x3,e3,h3,u3,f3⟩:=n_word (m:=.int m) (l:=l) (o5:=some (.d d)) (w:=w) f2 hy
   obtain ⟨y4,e4,h4,u4⟩:=n_last (m:=.int m) (o5:=some (.d d)) (w:=w) (xs:=x3) hn h3
   obtain ⟨y5,x5,e5,h5,f5⟩:=n_mul (m:=.int m) (l:=l) (o5:=some (.d d)) (w:=w) f3 h4 (fun z=>by rw [u4 (by omega),u3 (by omega)]; exact hy.1)
   obtain ⟨y6,e6,h6,n6⟩:=n_dup (m:=.int m) (o5:=some (.d d)) (w:=w) (xs:=x5) (show l.length < 26 by omega) h5
   obtain ⟨l',x7,e7,f7,h7,d7,m7⟩:=n_ins (m:=.int m) (l:=l) (o5:=some (.d d)) (w:=w) (x:=y6) f5 (by omega) hnd n6
   refine ⟨ρN (.int m) l' (some (.d d)) w y6,[x7],?_,⟨l',x7,_,_,_,rfl,rfl,f7,fun y hy=>?_,by omega,d7⟩⟩
   ·unfold B_l_names1
    have s1:fSet 6 (fCall m__law_next (fCons (fVar 0) (fCons (fC (.int 5)) fNil))) (List.set [some (.tp 0),some (.d (.int m)),some (.d (.list (nm WD))),some (.d (.str LT)),some (.loc (.list (nm l))),o5,o6,o7] 5 (some (.d d))) [xs]=some ((.nx,[some (.tp 0),some (.d (.int m)),some (.d (.list (nm WD))),some (.d (.str LT)),some (.loc (.list (nm l))),some (.d d),some (.d (.int w)),o7]),[x1]):=by
     simp [e1]
    have s2:fSet 7 (fBin ixD (fVar 3) (fCall m__law_next (fCons (fVar 0) (fCons (fC (.int 26)) fNil)))) [some (.tp 0),some (.d (.int m)),some (.d (.list (nm WD))),some (.d (.str LT)),some (.loc (.list (nm l))),some (.d d),some (.d (.int w)),o7] [x1]=some ((.nx,ρN (.int m) l (some (.d d)) w y),[x2]):=by
     simp only [ev_set,ev_bin,ev_var0,ev_var1,ev_var2,ev_var3,ev_bnd,ev_binK,ev_call,ev_cons,ev_consK,ev_nil,ev_C,e2,ev_op2,ey,ev_mkD,ev_setD]
     rfl
    rw [seq_nx s1,seq_nx s2,seq_nx e3,seq_nx e4,seq_nx e5,seq_nx e6,e7]
   ·rcases m7 y hy with rfl | q
    ·exact h6
    ·exact hn y q)
 obtain ⟨ρ',T',e,l,xs',o5,o6,o7,rfl,rfl,_,hn,hl,hnd⟩:=lp
 rw [nums_len] at hl
 refine ⟨l,xs',?_,hn,hnd,by omega⟩
 have ro:rngOk m=true:=rng_ok h0 (by omega)
 have wd:(PyData.list [.str (Str.ofString "made"),.str (Str.ofString "told"),.str (Str.ofString "say"),.str (Str.ofString "want"),.str (Str.ofString "fails"),.str (Str.ofString "got"),.str (Str.ofString "put"),.str (Str.ofString "lacks")])=.list (nm WD):=rfl
 have lt:Str.ofString "abcdefghijklmnopqrstuvwxyz" = LT:=rfl
 have n0:([]:List PyData)=nm []:=rfl
 rw [l_names_eq]
 simp [wd,lt,ro]
 rw [n0,e]
 simp
theorem Nx.name {x:Str} (h:Nx 8 x):K1.isName (.str x)=true:=by
 have h3:K1.has K1.LET x=true:=List.all_eq_true.mpr fun c hc=>h.2.1 c hc
 show (decide (1≤x.length) && decide (x.length≤8) && K1.has K1.LET x)=true
 rw [h3,decide_eq_true h.1,decide_eq_true h.2.2]
 rfl
end G
namespace G
open PySem PySem.Spec PyProof.Rows L2 D
open K1 (isName isVal single built manyF)
noncomputable def MN:List PyData:=[.int 0,.int 1,.str (Str.ofString ""),.tuple [],.int 2,.str (Str.ofString "a"),.tuple [.int 0],.tuple [.int 1,.str (Str.ofString "")],.int (-7),.int 1000000000000000000,.str (Str.ofString "x-0"),.tuple [.tuple [],.tuple [.str (Str.ofString "b"),.int 3]],.tuple [.int 0,.int 1,.int 2],.int (1 - 1000000000000000000)]
theorem mn_va {v:PyData} (h:v∈MN):isVal v=true:=by
 have:(MN.all isVal)=true:=by decide +kernel
 exact List.all_eq_true.mp this v h
theorem int_val {i:Int} (h0:0≤i) (h1:i≤1000000000000000000):isVal (.int i)=true:=by
 show (single (.int i) && decide ((1:Int)≤40))=true
 have:single (.int i)=true:=decide_eq_true (by rw [if_neg (by omega)]; exact h1)
 rw [this]
 rfl
theorem Nx.val {x:Str} (h:Nx 8 x):isVal (.str x)=true:=by
 have sub:∀ c∈K1.LET.cps.toList,c∈K1.TXT.cps.toList:=by decide +kernel
 have h3:K1.has K1.TXT x=true:=List.all_eq_true.mpr fun c hc=>decide_eq_true (sub c (of_decide_eq_true (h.2.1 c hc)))
 show ((decide (x.length≤20) && K1.has K1.TXT x) && decide ((1:Int)≤40))=true
 rw [h3,decide_eq_true (by have:=h.1; omega)]
 rfl
theorem L_lval {xs:List PyData} (hf:Fr xs) {l:List Str} (hn:Ns l) (h0:0 < l.length) (h1:l.length≤20):∃ v xs',m__law_value [.tp 0,.d (.list (nm l))] [xs]=some (v,[xs'])∧isVal v=true∧Fr xs':=by
 have mn:(PyData.list [.int 0,.int 1,.str (Str.ofString ""),.tuple [],.int 2,.str (Str.ofString "a"),.tuple [.int 0],.tuple [.int 1,.str (Str.ofString "")],.int (-7),.int 1000000000000000000,.str (Str.ofString "x-0"),.tuple [.tuple [],.tuple [.str (Str.ofString "b"),.int 3]],.tuple [.int 0,.int 1,.int 2],.int (1 - 1000000000000000000)])=.list MN:=rfl
 obtain ⟨k,x1,e1,f1,k0,k1⟩:=L_next hf (m:=18) (by decide) (by decide)
 have s1:fSet 2 (fSeqD .list (fCons (fC (.int 0)) (fCons (fC (.int 1)) (fCons (fC (.str (Str.ofString ""))) (fCons (fSeqD .tuple fNil) (fCons (fC (.int 2)) (fCons (fC (.str (Str.ofString "a"))) (fCons (fSeqD .tuple (fCons (fC (.int 0)) fNil)) (fCons (fSeqD .tuple (fCons (fC (.int 1)) (fCons (fC (.str (Str.ofString ""))) fNil))) (fCons (fUn negD (fC (.int 7))) (fCons (fBin powD (fC (.int 10)) (fC (.int 18))) (fCons (fC (.str (Str.ofString "x-0"))) (fCons (fSeqD .tuple (fCons (fSeqD .tuple fNil) (fCons (fSeqD .tuple (fCons (fC (.str (Str.ofString "b"))) (fCons (fC (.int 3)) fNil))) fNil))) (fCons (fSeqD .tuple (fCons (fC (.int 0)) (fCons (fC (.int 1)) (fCons (fC (.int 2)) fNil)))) (fCons (fBin subD (fC (.int 1)) (fBin powD (fC (.int 10)) (fC (.int 18)))) fNil))))))))))))))) [some (.tp 0),some (.d (.list (nm l))),none,none] [xs]=some ((.nx,[some (.tp 0),some (.d (.list (nm l))),some (.d (.list MN)),none]),[xs]):=rfl
 have s2:fSet 3 (fCall m__law_next (fCons (fVar 0) (fCons (fC (.int 18)) fNil))) [some (.tp 0),some (.d (.list (nm l))),some (.d (.list MN)),none] [xs]=some ((.nx,[some (.tp 0),some (.d (.list (nm l))),some (.d (.list MN)),some (.d (.int k))]),[x1]):=by simp [e1]
 unfold m__law_value
 rw [ev_mk]
 simp only [ev_noLocT,ev_noLocD,ev_noLoc0,if_true]
 show ∃ v xs',fnEnd (fSeq _ _ [some (.tp 0),some (.d (.list (nm l))),none,none] [xs])=_∧_
 rw [seq_nx s1,seq_nx s2]
 by_cases h14:k < 14
 ·obtain ⟨v,ev,mv⟩:=atI_in (xs:=MN) k0 (by simpa [MN] using h14)
  exact ⟨v,x1,by simp [h14,ev],mn_va mv,f1⟩
 ·by_cases he:k=14
  ·obtain ⟨r,x2,e2,f2,r0,r1⟩:=L_next f1 (m:=1000000000000000000) (by decide) (by decide)
   exact ⟨.int r,x2,by simp [h14,he,pow18,e2],int_val r0 (by omega),f2⟩
  ·obtain ⟨r,x2,e2,f2,r0,r1⟩:=L_next f1 (m:=(l.length:Int)) (by omega) (by omega)
   obtain ⟨y,ey,my⟩:=at_nm r0 r1
   exact ⟨.str y,x2,by simp [h14,he,nm_len,e2,ey],(hn y my).val,f2⟩
noncomputable def twoW (w:String):Prop:=w = "sum"∨w = "join"∨w = "same"∨w = "part"∨w = "less"
noncomputable def exP (v:PyData):PyData:=.tuple [.str (Str.ofString "put"),v]
noncomputable def exG (k:Int):PyData:=.tuple [.str (Str.ofString "got"),.int k]
noncomputable def exM (a:PyData):PyData:=.tuple [.str (Str.ofString "many"),a]
noncomputable def exR (es:List PyData):PyData:=.tuple [.str (Str.ofString "row"),.tuple es]
noncomputable def ex2 (w:String) (a b:PyData):PyData:=.tuple [.str (Str.ofString w),a,b]
inductive Lf (k:Nat):PyData→Prop where
 | put {v:PyData}:isVal v=true→Lf k (exP v)
 | got {i:Int}:0≤i→i < k→Lf k (exG i)
inductive Ex (k:Nat):PyData→Prop where
 | lf {e:PyData}:Lf k e→Ex k e
 | two {w:String} {a b:PyData}:twoW w→Lf k a→Lf k b→Ex k (ex2 w a b)
 | row {es:List PyData}:es.length≤2→(∀ e∈es,Lf k e)→Ex k (exR es)
 | many {a:PyData}:Lf k a→Ex k (exM a)
section
variable {l:List Str} (hn:Ns l) (h0:0 < l.length) (h1:l.length≤20)
include hn h0 h1 in
theorem L_pick {xs:List PyData} (hf:Fr xs):∃ y xs' r,m__law_next [.tp 0,.d (.int (l.length:Int))] [xs]=some (.int r,[xs'])∧atI (nm l) r=some (.str y)∧y∈l∧Fr xs':=by
 obtain ⟨r,x2,e2,f2,r0,r1⟩:=L_next hf (m:=(l.length:Int)) (by omega) (by omega)
 obtain ⟨y,ey,my⟩:=at_nm r0 r1
 exact ⟨y,x2,r,e2,ey,my,f2⟩
include hn h0 h1 in
theorem L_expr0 {xs:List PyData} (hf:Fr xs) (k:Nat) (hk:k≤1000) (n:Nat):∃ e xs',m__law_expr (n + 1) [.tp 0,.d (.int k),.d (.list (nm l)),.d (.int 0)] [xs]=some (e,[xs'])∧Lf k e∧Fr xs':=by
 obtain ⟨w,x1,e1,f1,w0,w1⟩:=L_next hf (m:=12) (by decide) (by decide)
 by_cases hg:w < 4∧0 < k
 ·obtain ⟨r,x2,e2,f2,r0,r1⟩:=L_next f1 (m:=(k:Int)) (by omega) (by omega)
  exact ⟨exG r,x2,by simp [m__law_expr,e1,hg.1,hg.2,e2,exG],.got r0 r1,f2⟩
 ·obtain ⟨v,x2,e2,hv,f2⟩:=L_lval f1 hn h0 h1
  refine ⟨exP v,x2,?_,.put hv,f2⟩
  by_cases h4:w < 4
  ·have hk0:¬ 0 < k:=fun z=>hg ⟨h4,z⟩
   simp [m__law_expr,e1,h4,hk0,e2,exP]
  ·simp [m__law_expr,e1,h4,e2,exP]
theorem five {r:Int} (h0:0≤r) (h1:r < 5):∃ w,twoW w∧atI [PyData.str (Str.ofString "part"),.str (Str.ofString "sum"),.str (Str.ofString "join"),.str (Str.ofString "same"),.str (Str.ofString "less")] r=some (.str (Str.ofString w)):=by
 have:r=0∨r=1∨r=2∨r=3∨r=4:=by omega
 rcases this with rfl | rfl | rfl | rfl | rfl
 ·exact ⟨"part",.inr (.inr (.inr (.inl rfl))),rfl⟩
 ·exact ⟨"sum",.inl rfl,rfl⟩
 ·exact ⟨"join",.inr (.inl rfl),rfl⟩
 ·exact ⟨"same",.inr (.inr (.inl rfl)),rfl⟩
 ·exact ⟨"less",.inr (.inr (.inr (.inr rfl))),rfl⟩
theorem cut3 {r:Int} (h0:0≤r) (h1:r < 3) (a b:PyData):(cutL [a,b] none (some r)).length≤2∧∀ e∈cutL [a,b] none (some r),e=a∨e=b:=by
 have:r=0∨r=1∨r=2:=by omega
 rcases this with rfl | rfl | rfl
 ·have e:cutL [a,b] none (some 0)=[]:=rfl
  rw [e]; exact ⟨by simp,fun _ h=>nomatch h⟩
 ·have e:cutL [a,b] none (some 1)=[a]:=rfl
  rw [e]; exact ⟨by simp,fun e h=>by simp at h; exact .inl h⟩
 ·have e:cutL [a,b] none (some 2)=[a,b]:=rfl
  rw [e]; exact ⟨by simp,fun e h=>by simpa using h⟩
include hn h0 h1 in
theorem L_expr1 {xs:List PyData} (hf:Fr xs) (k:Nat) (hk:k≤1000) (n:Nat):∃ e xs',m__law_expr (n + 2) [.tp 0,.d (.int k),.d (.list (nm l)),.d (.int 1)] [xs]=some (e,[xs'])∧Ex k e∧Fr xs':=by
 obtain ⟨w,x1,e1,f1,w0,w1⟩:=L_next hf (m:=12) (by decide) (by decide)
 by_cases hg:w < 4∧0 < k
 ·obtain ⟨r,x2,e2,f2,r0,r1⟩:=L_next f1 (m:=(k:Int)) (by omega) (by omega)
  refine ⟨exG r,x2,?_,.lf (.got r0 r1),f2⟩
  unfold m__law_expr
  simp [e1,hg.1,hg.2,e2,exG]
 ·by_cases h7:w < 7
  ·obtain ⟨v,x2,e2,hv,f2⟩:=L_lval f1 hn h0 h1
   refine ⟨exP v,x2,?_,.lf (.put hv),f2⟩
   unfold m__law_expr
   by_cases h4:w < 4
   ·have hk0:¬ 0 < k:=fun z=>hg ⟨h4,z⟩
    simp [e1,h4,h7,hk0,e2,exP]
   ·simp [e1,h4,h7,e2,exP]
  ·have h4:¬ w < 4:=by omega
   obtain ⟨a,x2,e2,ha,f2⟩:=L_expr0 hn h0 h1 f1 k hk n
   by_cases h8:w=7
   ·refine ⟨exM a,x2,?_,.many ha,f2⟩
    unfold m__law_expr
    simp [e1,h4,h7,e2,h8,exM]
   ·obtain ⟨b,x3,e3,hb,f3⟩:=L_expr0 hn h0 h1 f2 k hk n
    by_cases h9:w=8
    ·obtain ⟨r,x4,e4,f4,r0,r1⟩:=L_next f3 (m:=3) (by decide) (by decide)
     obtain ⟨c1,c2⟩:=cut3 r0 r1 a b
     refine ⟨exR (cutL [a,b] none (some r)),x4,?_,.row c1 fun e he=>?_,f4⟩
     ·unfold m__law_expr
      simp [e1,h4,h7,e2,h8,e3,h9,e4,exR]
     ·rcases c2 e he with rfl | rfl
      ·exact ha
      ·exact hb
    ·obtain ⟨r,x4,e4,f4,r0,r1⟩:=L_next f3 (m:=5) (by decide) (by decide)
     obtain ⟨v,hv,ev⟩:=five r0 r1
     refine ⟨ex2 v a b,x4,?_,.two hv ha hb,f4⟩
     unfold m__law_expr
     simp [e1,h4,h7,e2,h8,e3,h9,e4,ev,ex2]
include hn h0 h1 in
theorem L_wanted {xs:List PyData} (hf:Fr xs) (k:Nat) (hk:k≤1000):∃ e xs',m__law_wanted [.tp 0,.d (.int k),.d (.list (nm l))] [xs]=some (e,[xs'])∧Ex k e∧Fr xs':=by
 obtain ⟨w,x1,e1,f1,w0,w1⟩:=L_next hf (m:=10) (by decide) (by decide)
 by_cases h7:w < 7
 ·obtain ⟨y,x2,r,e2,ey,my,f2⟩:=L_pick hn h0 h1 f1
  exact ⟨exP (.str y),x2,by simp [m__law_wanted,e1,h7,nm_len,e2,ey,exP],.lf (.put (hn y my).val),f2⟩
 ·by_cases h8:w=7
  ·obtain ⟨y,x2,r,e2,ey,my,f2⟩:=L_pick hn h0 h1 f1
   exact ⟨ex2 "join" (exP (.str y)) (exP (.str (Str.ofString ""))),x2,by simp [m__law_wanted,e1,h7,h8,nm_len,e2,ey,exP,ex2],.two (.inr (.inl rfl)) (.put (hn y my).val) (.put (by decide +kernel)),f2⟩
  ·obtain ⟨e,x2,e2,he,f2⟩:=L_expr1 hn h0 h1 f1 k hk 23
   exact ⟨e,x2,by simp [m__law_wanted,e1,h7,h8,e2],he,f2⟩
noncomputable def sayD (e:PyData):PyData:=.tuple [.str (Str.ofString "say"),e]
noncomputable def failD (w:Str):PyData:=.tuple [.str (Str.ofString "fail"),.str w]
noncomputable def wantD (b:Bool) (e r:PyData):PyData:=.tuple [.str (Str.ofString (if b then "peek" else "want")),e,r]
noncomputable def whenD (e p q:PyData):PyData:=.tuple [.str (Str.ofString "when"),e,p,q]
noncomputable def R:Nat→Nat→Nat
 | a,0=>4 * a + 4
 | a,b + 1=>2 * R a b + 4
theorem R_ge:∀ a b,4≤R a b
 | a,0=>by simp [R]
 | a,b + 1=>by simp [R]
theorem R_step (a:Nat):∀ b,R a b + 4≤R (a + 1) b
 | 0=>by simp [R]; omega
 | b + 1=>by have:=R_step a b; simp only [R]; omega
inductive RC:Nat→Nat→Nat→PyData→Prop where
 | say {h k c:Nat} {e:PyData}:4≤c→Ex k e→RC h k c (sayD e)
 | fail {h k c:Nat} {w:Str}:4≤c→Nx 8 w→RC h k c (failD w)
 | want {h k c c':Nat} {b:Bool} {e r:PyData}:c' + 4≤c→Ex k e→RC h (k + 1) c' r→RC (h + 1) k c (wantD b e r)
 | when {h k c c1 c2:Nat} {e p q:PyData}:c1 + c2 + 4≤c→Ex k e→RC h k c1 p→RC h k c2 q→RC (h + 1) k c (whenD e p q)
theorem RC.up {h k c m d:Nat} {r:PyData} (x:RC h k c r) (l:h≤m) (l2:c≤d):RC m k d r:=by
 induction x generalizing m d with
 | say z h=>exact .say (by omega) h
 | fail z h=>exact .fail (by omega) h
 | want z h _ ih=>
  obtain ⟨j,rfl⟩:∃ j,m=j + 1:=⟨m - 1,by omega⟩
  exact .want (Nat.le_trans z l2) h (ih (by omega) (Nat.le_refl _))
 | when z h _ _ i1 i2=>
  obtain ⟨j,rfl⟩:∃ j,m=j + 1:=⟨m - 1,by omega⟩
  exact .when (Nat.le_trans z l2) h (i1 (by omega) (Nat.le_refl _)) (i2 (by omega) (Nat.le_refl _))
theorem in45 (w:Int):inD (.int w) (.tuple [.int 4,.int 5])=some (.bool (decide (w=4) || decide (w=5))):=by
 have e:inD (.int w) (.tuple [.int 4,.int 5])=some (.bool (decide ((4:Int)=w) || (decide ((5:Int)=w) || false))):=rfl
 rw [e,Bool.or_false]
 congr 2
 rw [decide_eq_decide.mpr (show (4:Int)=w↔w=4 from ⟨fun z=>z.symm,fun z=>z.symm⟩),decide_eq_decide.mpr (show (5:Int)=w↔w=5 from ⟨fun z=>z.symm,fun z=>z.symm⟩)]
include hn h0 h1 in
theorem rc_end {xs:List PyData} {pk:Bool} {h k a b n:Nat} {w:Int} {x1:List PyData} (hk:k≤1000) (e1:m__law_next [.tp 0,.d (.int 8)] [xs]=some (.int w,[x1])) (f1:Fr x1) (hA:¬ (w < 4∧0 < a)) (hB:¬ ((w=4∨w=5)∧0 < b)):∃ r xs',m__law_recipe (n + 1) [.tp 0,.d (.int k),.d (.list (nm l)),.d (.int a),.d (.int b),.d (.bool pk)] [xs]=some (r,[xs'])∧RC h k (R a b) r∧Fr xs':=by
 have cA:∀ {α:Type} (p q:α),(if w < 4 then (if 0 < a then p else q) else q)=q:=fun p q=>by
  by_cases z:w < 4
  ·rw [if_pos z,if_neg fun y=>hA ⟨z,y⟩]
  ·rw [if_neg z]
 by_cases h6:w=6
 ·obtain ⟨r,x2,e2,f2,r0,r1⟩:=L_next f1 (m:=2) (by decide) (by decide)
  by_cases hr:r=0
  ·obtain ⟨y,x3,r3,e3,ey,my,f3⟩:=L_pick hn h0 h1 f2
   refine ⟨failD y,x3,?_,.fail (R_ge a b) (hn y my),f3⟩
   unfold m__law_recipe
   simp [e1,h6,in45,e2,hr,nm_len,e3,ey,failD]
  ·obtain ⟨e,x3,e3,he,f3⟩:=L_expr1 hn h0 h1 f2 k (by omega) 23
   refine ⟨sayD e,x3,?_,.say (R_ge a b) he,f3⟩
   unfold m__law_recipe
   simp [e1,h6,in45,e2,hr,e3,sayD]
 ·obtain ⟨e,x3,e3,he,f3⟩:=L_expr1 hn h0 h1 f1 k (by omega) 23
  refine ⟨sayD e,x3,?_,.say (R_ge a b) he,f3⟩
  unfold m__law_recipe
  by_cases h45:w=4∨w=5
  ·have hb:¬ 0 < b:=fun z=>hB ⟨h45,z⟩
   rcases h45 with rfl | rfl <;> simp [e1,in45,e3,sayD,hb]
  ·have h4:¬ w=4:=fun z=>h45 (.inl z)
   have h5:¬ w=5:=fun z=>h45 (.inr z)
   by_cases hw:w < 4
   ·have ha:¬ 0 < a:=fun z=>hA ⟨hw,z⟩
    simp [e1,hw,ha,h4,h5,h6,in45,e3,sayD]
   ·simp [e1,hw,h4,h5,h6,in45,e3,sayD]
include hn h0 h1 in
theorem L_recipe (pk:Bool):∀ (h:Nat) {xs:List PyData} (_:Fr xs) (k a b n:Nat),a + b=h→k + h≤100→h≤n→∃ r xs',m__law_recipe (n + 1) [.tp 0,.d (.int k),.d (.list (nm l)),.d (.int a),.d (.int b),.d (.bool pk)] [xs]=some (r,[xs'])∧RC h k (R a b) r∧Fr xs':=by
 intro h
 induction h with
 | zero=>
  intro xs hf k a b n hab hk hn'
  obtain ⟨w,x1,e1,f1,w0,w1⟩:=L_next hf (m:=8) (by decide) (by decide)
  exact rc_end hn h0 h1 (by omega) e1 f1 (by omega) (by omega)
 | succ h ih=>
  intro xs hf k a b n hab hk hn'
  obtain ⟨j,rfl⟩:∃ j,n=j + 1:=⟨n - 1,by omega⟩
  obtain ⟨w,x1,e1,f1,w0,w1⟩:=L_next hf (m:=8) (by decide) (by decide)
  by_cases hA:w < 4∧0 < a
  ·obtain ⟨a',rfl⟩:∃ a',a=a' + 1:=⟨a - 1,by omega⟩
   have hpi:(0:Int) < (a':Int) + 1:=by omega
   have ca:(a':Int) + 1 - 1=a':=by omega
   have ck:((k + 1:Nat):Int)=(k:Int) + 1:=by omega
   cases pk with
   | false=>
    obtain ⟨e,x3,e3,he,f3⟩:=L_wanted hn h0 h1 f1 k (by omega)
    obtain ⟨r,x4,e4,hr,f4⟩:=ih f3 (k + 1) a' b j (by omega) (by omega) (by omega)
    rw [ck] at e4
    refine ⟨wantD false e r,x4,?_,.want (R_step a' b) he hr,f4⟩
    unfold m__law_recipe
    simp [e1,hA.1,hpi,e3,e4,ca,wantD]
   | true=>
    obtain ⟨r2,x2,e2,f2,r0,r1⟩:=L_next f1 (m:=3) (by decide) (by decide)
    obtain ⟨e,x3,e3,he,f3⟩:=L_wanted hn h0 h1 f2 k (by omega)
    obtain ⟨r,x4,e4,hr,f4⟩:=ih f3 (k + 1) a' b j (by omega) (by omega) (by omega)
    rw [ck] at e4
    by_cases hr0:r2=0
    ·refine ⟨wantD true e r,x4,?_,.want (R_step a' b) he hr,f4⟩
     unfold m__law_recipe
     simp [e1,hA.1,hpi,e2,hr0,e3,e4,ca,wantD]
    ·refine ⟨wantD false e r,x4,?_,.want (R_step a' b) he hr,f4⟩
     unfold m__law_recipe
     simp [e1,hA.1,hpi,e2,hr0,e3,e4,ca,wantD]
  ·by_cases hB:(w=4∨w=5)∧0 < b
   ·obtain ⟨b',rfl⟩:∃ b',b=b' + 1:=⟨b - 1,by omega⟩
    have hpi:(0:Int) < (b':Int) + 1:=by omega
    have cb:(b':Int) + 1 - 1=b':=by omega
    obtain ⟨e,x2,e2,he,f2⟩:=L_expr1 hn h0 h1 f1 k (by omega) 23
    obtain ⟨p,x3,e3,hp,f3⟩:=ih f2 k a b' j (by omega) (by omega) (by omega)
    obtain ⟨q,x4,e4,hq,f4⟩:=ih f3 k a b' j (by omega) (by omega) (by omega)
    refine ⟨whenD e p q,x4,?_,.when (by simp only [R]; omega) he hp hq,f4⟩
    unfold m__law_recipe
    rcases hB.1 with rfl | rfl
    ·simp [e1,in45,hpi,e2,cb,e3,e4,whenD]
    ·simp [e1,in45,hpi,e2,cb,e3,e4,whenD]
   ·exact rc_end hn h0 h1 (by omega) e1 f1 hA hB
include hn h0 h1 in
theorem L_anyR {xs:List PyData} (hf:Fr xs) (pk:Bool):∃ r xs',m__law_any_recipe [.tp 0,.d (.list (nm l)),.d (.bool pk)] [xs]=some (r,[xs'])∧RC 5 0 60 r∧Fr xs':=by
 obtain ⟨w,x1,e1,f1,w0,w1⟩:=L_next hf (m:=5) (by decide) (by decide)
 have hw:w=0∨w=1∨w=2∨w=3∨w=4:=by omega
 have run:∀ a b:Nat,a + b≤5→R a b≤60→∃ r xs',m__law_recipe 25 [.tp 0,.d (.int 0),.d (.list (nm l)),.d (.int a),.d (.int b),.d (.bool pk)] [x1]=some (r,[xs'])∧RC 5 0 60 r∧Fr xs':=fun a b hab hR=>by
  obtain ⟨r,x2,e2,hr,f2⟩:=L_recipe hn h0 h1 pk (a + b) f1 0 a b 24 rfl (by omega) (by omega)
  exact ⟨r,x2,e2,hr.up hab hR,f2⟩
 have a5:∀ (a b c d e:PyData),atI [a,b,c,d,e] 0=some a∧atI [a,b,c,d,e] 1=some b∧atI [a,b,c,d,e] 2=some c∧atI [a,b,c,d,e] 3=some d∧atI [a,b,c,d,e] 4=some e:=fun _ _ _ _ _=>⟨rfl,rfl,rfl,rfl,rfl⟩
 rcases hw with rfl | rfl | rfl | rfl | rfl
 ·obtain ⟨r,x2,e2,h2⟩:=run 4 1 (by decide) (by decide)
  exact ⟨r,x2,by simp at e2; simp [m__law_any_recipe,fUnp,e1,a5,e2],h2⟩
 ·obtain ⟨r,x2,e2,h2⟩:=run 2 2 (by decide) (by decide)
  exact ⟨r,x2,by simp at e2; simp [m__law_any_recipe,fUnp,e1,a5,e2],h2⟩
 ·obtain ⟨r,x2,e2,h2⟩:=run 1 1 (by decide) (by decide)
  exact ⟨r,x2,by simp at e2; simp [m__law_any_recipe,fUnp,e1,a5,e2],h2⟩
 ·obtain ⟨r,x2,e2,h2⟩:=run 3 1 (by decide) (by decide)
  exact ⟨r,x2,by simp at e2; simp [m__law_any_recipe,fUnp,e1,a5,e2],h2⟩
 ·obtain ⟨r,x2,e2,h2⟩:=run 0 1 (by decide) (by decide)
  exact ⟨r,x2,by simp at e2; simp [m__law_any_recipe,fUnp,e1,a5,e2],h2⟩
end
end G
namespace G
open PySem PySem.Spec PyProof.Rows L2 D
open K1 (has LET TXT single built manyF isName isVal)
structure Go (n:Nat) (d:PyData):Prop where
 sm:Sm d
 cl:d.canLay0=true
 dp:d.depth≤n
theorem Go.up {n m:Nat} {d:PyData} (h:Go n d) (l:n≤m):Go m d:=⟨h.1,h.2,Nat.le_trans h.3 l⟩
theorem Go.shp {d:PyData} (h:Go 64 d):SeqAt.shaped d=true:=by
 unfold SeqAt.shaped
 rw [h.2,decide_eq_true h.3]
 rfl
theorem go_int {n:Nat} {i:Int}:Go n (.int i):=⟨by simp [Sm,smB],by simp [PyData.canLay0],by simp [PyData.depth]⟩
theorem go_str {n:Nat} {x:Str} (h:x.length≤60000) (h2:∀ c∈x.cps.toList,c < 128):Go n (.str x):=⟨.mkS h h2,by have:=(Sm.mkS h h2).ok; simpa [PyData.canLay0] using this,by simp [PyData.depth]⟩
theorem go_all {n:Nat}:∀ {ds:List PyData},(∀ d∈ds,Go n d)→PyData.canLayAll0 ds=true∧PyData.depthAll ds≤n
 | [],_=>⟨by simp [PyData.canLayAll0],by simp [PyData.depthAll]⟩
 | d::r,h=>by
  have ih:=go_all (ds:=r) fun x hx=>h x (List.mem_cons_of_mem _ hx)
  have i0:=h d List.mem_cons_self
  exact ⟨by simp [PyData.canLayAll0,i0.2,ih.1],by have:=i0.3; have:=ih.2; simp only [PyData.depthAll]; omega⟩
theorem go_tup {n:Nat} {ds:List PyData} (h:∀ d∈ds,Go n d):Go (n + 1) (.tuple ds):=by
 have a:=go_all h
 exact ⟨.tup fun d hd=>(h d hd).1,by simp [PyData.canLay0,a.1],by have:=a.2; simp only [PyData.depth]; omega⟩
theorem go_w {n:Nat} (w:String) (h:((Str.ofString w).cps.toList.all fun c=>decide (c < 128))=true) (h2:(Str.ofString w).length≤60000):Go n (.str (Str.ofString w)):=go_str h2 fun c hc=>of_decide_eq_true (List.all_eq_true.mp h c hc)
theorem go_single {n:Nat} {d:PyData} (h:single d=true):Go n d:=by
 cases d with
 | int i=>exact go_int
 | str x=>
  have h2:(decide (x.length≤20) && has TXT x)=true:=h
  rw [Bool.and_eq_true] at h2
  have lt:∀ c∈TXT.cps.toList,c < 128:=by decide +kernel
  refine go_str (Nat.le_trans (of_decide_eq_true h2.1) (by decide)) fun c hc=>lt c ?_
  exact of_decide_eq_true (List.all_eq_true.mp h2.2 c hc)
 | _=>cases h
theorem go_built:∀ (n:Nat) (v:PyData),built n v=true→Go n v:=by
 intro n
 induction n with
 | zero=>
  intro v h
  cases v with
  | tuple ds=>cases h
  | _=>exact go_single h
 | succ m ih=>
  intro v h
  cases v with
  | tuple ds=>
   have h':(decide (ds.length≤8) && ds.all (built m))=true:=h
   rw [Bool.and_eq_true] at h'
   exact go_tup fun d hd=>ih d (List.all_eq_true.mp h'.2 d hd)
  | _=>exact go_single h
theorem go_val {v:PyData} (h:isVal v=true):Go 4 v:=by
 have h':(built 4 v && decide (manyF 4 v≤40))=true:=h
 rw [Bool.and_eq_true] at h'
 exact go_built 4 v h'.1
theorem go_nm {n:Nat} {x:Str} (h:Nx 8 x):Go n (.str x):=⟨(go_val h.val).1,(go_val h.val).2,by simp [PyData.depth]⟩
theorem go_lf {k:Nat} {e:PyData} (h:Lf k e):Go 5 e:=by
 cases h with
 | put h=>exact go_tup fun d hd=>by simp at hd; rcases hd with rfl | rfl; exact go_w "put" (by decide) (by decide); exact go_val h
 | got=>exact go_tup fun d hd=>by simp at hd; rcases hd with rfl | rfl; exact go_w "got" (by decide) (by decide); exact go_int
theorem go_ex {k:Nat} {e:PyData} (h:Ex k e):Go 7 e:=by
 cases h with
 | lf h=>exact (go_lf h).up (by decide)
 | two w a b=>
   refine go_tup fun d hd=>?_
   simp at hd
   rcases hd with rfl | rfl | rfl
   ·rcases w with rfl | rfl | rfl | rfl | rfl <;> exact go_w _ (by decide) (by decide)
   ·exact (go_lf a).up (by decide)
   ·exact (go_lf b).up (by decide)
 | row _ h=>
   refine go_tup fun d hd=>?_
   simp at hd
   rcases hd with rfl | rfl
   ·exact go_w "row" (by decide) (by decide)
   ·exact go_tup fun d hd=>go_lf (h d hd)
 | many h=>
   refine go_tup fun d hd=>?_
   simp at hd
   rcases hd with rfl | rfl
   ·exact go_w "many" (by decide) (by decide)
   ·exact (go_lf h).up (by decide)
theorem go_rc {h k c:Nat} {r:PyData} (x:RC h k c r):Go (h + 8) r:=by
 induction x with
 | say _ h=>
   refine go_tup (n:=_ + 7) fun d hd=>?_
   simp at hd
   rcases hd with rfl | rfl
   ·exact go_w "say" (by decide) (by decide)
   ·exact (go_ex h).up (by omega)
 | fail _ h=>
   refine go_tup (n:=_ + 7) fun d hd=>?_
   simp at hd
   rcases hd with rfl | rfl
   ·exact go_w "fail" (by decide) (by decide)
   ·exact go_nm h
 | @want h k c c' b e r _ he _ ih=>
   refine (go_tup (n:=h + 8) fun d hd=>?_).up (by omega)
   simp at hd
   rcases hd with rfl | rfl | rfl
   ·cases b <;> exact go_w _ (by decide) (by decide)
   ·exact (go_ex he).up (by omega)
   ·exact ih
 | @when h k c c1 c2 e p q _ he _ _ i1 i2=>
   refine (go_tup (n:=h + 8) fun d hd=>?_).up (by omega)
   simp at hd
   rcases hd with rfl | rfl | rfl | rfl
   ·exact go_w "when" (by decide) (by decide)
   ·exact (go_ex he).up (by omega)
   ·exact i1
   ·exact i2
theorem rc_ok {n:Nat} {p:Pla} (h:rok p=true):rc (n + 1) p=1 + ((rkids p).map (rc n)).sum:=if_pos h
theorem rok_of {d:PyData} {g:Nat} (h:g≤12) (s:shp (g:Int) d=true):rok (true,d,g)=true:=by
 show (decide (g≤12) && shp (g:Int) d)=true
 rw [decide_eq_true h,s]; rfl
theorem rokr_of {d:PyData} {g:Nat} (h:g≤12) (s:rsh d=true):rok (false,d,g)=true:=by
 show (decide (g≤12) && rsh d)=true
 rw [decide_eq_true h,s]; rfl
theorem lf_rc {k n:Nat} {e:PyData} (h:Lf k e) (hk:k≤12):rc (n + 1) (true,e,k)=1:=by
 have a:shp (k:Int) e=true∧kids e=[]:=by
  cases h with
  | put h=>simp [shp,exP,wn,fil,h,kids]
  | got h1 h2=>simp [shp,exG,wn,fil,gotB,h1,h2,kids]
 rw [rc_ok (rok_of hk a.1)]
 show 1 + (((kids e).map fun x=>((true,x,k):Pla)).map (rc n)).sum=1
 rw [a.2]; rfl
theorem lfs_rc {k n:Nat} (hk:k≤12):∀ {es:List PyData},(∀ e∈es,Lf k e)→((es.map fun x=>((true,x,k):Pla)).map (rc (n + 1))).sum=es.length
 | [],_=>rfl
 | e::r,h=>by
  have ih:=lfs_rc (n:=n) hk (es:=r) fun x hx=>h x (List.mem_cons_of_mem _ hx)
  have i0:=lf_rc (n:=n) (h e List.mem_cons_self) hk
  simp only [List.map_cons,List.sum_cons,List.length_cons,ih,i0]
  omega
theorem ex_rc {k n:Nat} {e:PyData} (h:Ex k e) (hk:k≤12):rc (n + 2) (true,e,k)≤3:=by
 have go:∀ {es:List PyData},shp (k:Int) e=true→kids e=es→es.length≤2→(∀ x∈es,Lf k x)→rc (n + 2) (true,e,k)≤3:=fun {es} s ke le hl=>by
  rw [rc_ok (rok_of hk s)]
  show 1 + (((kids e).map fun x=>((true,x,k):Pla)).map (rc (n + 1))).sum≤3
  rw [ke,lfs_rc hk hl]
  omega
 cases h with
 | lf h=>rw [lf_rc (n:=n + 1) h hk]; decide
 | @two w a b hw ha hb=>
  refine go (es:=[a,b]) ?_ ?_ (by simp) (fun x hx=>by simp at hx; rcases hx with rfl | rfl; exact ha; exact hb)
  ·rcases hw with rfl | rfl | rfl | rfl | rfl <;> simp [shp,ex2,wn]
  ·rcases hw with rfl | rfl | rfl | rfl | rfl <;> simp [kids,ex2]
 | @row es hl he=>
  have:(es.length:Int)≤8:=by omega
  exact go (es:=es) (by simp [shp,exR,wn,fil,isTupB,lenT,this]) (by simp [kids,exR]) hl he
 | @many a ha=>exact go (es:=[a]) (by simp [shp,exM,wn]) (by simp [kids,exM]) (by simp) (fun x hx=>by simp at hx; subst hx; exact ha)
theorem Nx.isNm {x:Str} (h:Nx 8 x):isName (.str x)=true:=Nx.name h
theorem RC.rc {h k c:Nat} {r:PyData} (x:RC h k c r):∀ {n:Nat},h + k≤12→rc (n + h + 3) (false,r,k)≤c:=by
 induction x with
 | @say h k c e hc he=>
  intro n hk
  rw [rc_ok (rokr_of (by omega) (by simp [rsh,sayD,rn]))]
  have:=ex_rc (n:=n + h) he (by omega)
  simp [rkids,sayD]
  omega
 | @fail h k c w hc hw=>
  intro n hk
  rw [rc_ok (rokr_of (by omega) (by simp [rsh,failD,rn,hw.isNm]))]
  simp [rkids,failD]
  omega
 | @want h k c c' b e r hc he hr ih=>
  intro n hk
  have i:=ih (n:=n) (by omega)
  have:=ex_rc (n:=n + h + 1) he (by omega)
  rw [show n + h + 1 + 2=n + h + 3 by omega] at this
  rw [rc_ok (rokr_of (by omega) (by cases b <;> simp [rsh,wantD,rn]))]
  rw [show n + (h + 1) + 2=n + h + 3 by omega]
  cases b <;> simp [rkids,wantD,more,asks] <;> omega
 | @when h k c c1 c2 e p q hc he hp hq i1 i2=>
  intro n hk
  have a1:=i1 (n:=n) (by omega)
  have a2:=i2 (n:=n) (by omega)
  have:=ex_rc (n:=n + h + 1) he (by omega)
  rw [show n + h + 1 + 2=n + h + 3 by omega] at this
  rw [rc_ok (rokr_of (by omega) (by simp [rsh,whenD,rn]))]
  rw [show n + (h + 1) + 2=n + h + 3 by omega]
  simp [rkids,whenD,more,asks]
  omega
theorem yes_value {v:PyData} (T:Tp) (h:isVal v=true):m_is_value [.d v] T=some (.bool true,T):=by rw [L_value T (go_val h).sm,h]
theorem yes_recipe {r:PyData} (T:Tp) (h:RC 5 0 60 r):m_is_recipe [.d r] T=some (.bool true,T):=by
 rw [L_is_recipe T (go_rc h).sm,decide_eq_true (h.rc (n:=12) (by decide))]
theorem yes_name {x:Str} (T:Tp) (h:Nx 8 x):m_refuse_no_name [.d (.str x)] T=some (.none,T):=by
 have:=L_name T (go_nm (n:=1) h).sm
 rw [h.isNm] at this
 simp [m_refuse_no_name,this]
end G
namespace G
open PySem PySem.Spec PyProof.Rows L2 D
open K1 (isName isVal)
noncomputable abbrev Dl:=List (Str×PyData)
noncomputable def ky (l:Dl):List Str:=l.map (·.1)
theorem key_look (s:Str):∀ l:Dl,keyAt (dctOf l) s=l.lookup s
 | []=>rfl
 | (k,d)::r=>by
  have ih:=key_look s r
  show (if k=s then some d else keyAt (dctOf r) s)=_
  rw [List.lookup_cons,ih]
  by_cases h:k=s
  ·subst h; simp
  ·have h':(s == k)=false:=beq_eq_false_iff_ne.mpr fun z=>h z.symm
   rw [if_neg h,h']
theorem look_mem {s:Str} {d:PyData}:∀ {l:Dl},l.lookup s=some d→(s,d)∈l
 | [],h=>nomatch h
 | (k,e)::r,h=>by
  rw [List.lookup_cons] at h
  by_cases hk:s=k
  ·subst hk
   simp at h
   subst h
   exact List.mem_cons_self
  ·have h':(s == k)=false:=beq_eq_false_iff_ne.mpr hk
   rw [h'] at h
   exact List.mem_cons_of_mem _ (look_mem h)
theorem look_some {s:Str}:∀ {l:Dl},s∈ky l→∃ d,l.lookup s=some d
 | [],h=>nomatch h
 | (k,e)::r,h=>by
  rw [List.lookup_cons]
  by_cases hk:s=k
  ·subst hk; exact ⟨e,by simp⟩
  ·have h':(s == k)=false:=beq_eq_false_iff_ne.mpr hk
   rw [h']
   exact look_some (by
    rcases List.mem_cons.mp h with z | z
    ·exact absurd z hk
    ·exact z)
theorem key_mem {s:Str} {d:PyData} {l:Dl} (h:l.lookup s=some d):s∈ky l:=List.mem_map.mpr ⟨_,look_mem h,rfl⟩
theorem look_iff {s:Str} {l:Dl}:(l.lookup s).isSome=decide (s∈ky l):=by
 by_cases h:s∈ky l
 ·obtain ⟨d,e⟩:=look_some h
  rw [e,decide_eq_true h]; rfl
 ·rw [decide_eq_false h]
  cases e:l.lookup s with
  | none=>rfl
  | some d=>exact absurd (key_mem e) h
theorem look_nd {s:Str} {d:PyData}:∀ {l:Dl},(ky l).Nodup→(s,d)∈l→l.lookup s=some d
 | [],_,h=>nomatch h
 | (k,e)::r,nd,h=>by
  have nd':k∉ky r∧(ky r).Nodup:=List.nodup_cons.mp nd
  rw [List.lookup_cons]
  rcases List.mem_cons.mp h with z | z
  ·cases z; simp
  ·have hk:s∈ky r:=List.mem_map.mpr ⟨_,z,rfl⟩
   have h':(s == k)=false:=beq_eq_false_iff_ne.mpr fun q=>nd'.1 (q ▸ hk)
   rw [h']
   exact look_nd nd'.2 z
theorem put_old (s:Str) (x:PyData):∀ l:Dl,putKey (dctOf l) s x=dctOf (l.map fun p=>if p.1=s then (p.1,x) else p)
 | []=>rfl
 | (k,d)::r=>by
  have ih:=put_old s x r
  show (if k=s then (PyData.str k,x)::putKey (dctOf r) s x else (PyData.str k,d)::putKey (dctOf r) s x)=_
  rw [ih,List.map_cons]
  by_cases h:k=s
  ·simp [h,dctOf]
  ·simp [h,dctOf]
noncomputable def putL (l:Dl) (s:Str) (x:PyData):Dl:=if s∈ky l then l.map fun p=>if p.1=s then (p.1,x) else p else l++[(s,x)]
theorem putN_l (l:Dl) (s:Str) (x:PyData):putN (dctOf l) s x=dctOf (putL l s x):=by
 unfold putN putL
 rw [key_look,look_iff]
 by_cases h:s∈ky l
 ·rw [decide_eq_true h,if_pos rfl,if_pos h,put_old]
 ·rw [decide_eq_false h,if_neg (by decide),if_neg h]
  simp [dctOf]
theorem put_ky (l:Dl) (s:Str) (x:PyData):ky (putL l s x)=if s∈ky l then ky l else ky l++[s]:=by
 unfold putL
 by_cases h:s∈ky l
 ·rw [if_pos h,if_pos h]
  unfold ky
  rw [List.map_map]
  refine List.map_congr_left fun p _=>?_
  simp only [Function.comp]
  split <;> rfl
 ·rw [if_neg h,if_neg h]
  simp [ky]
theorem put_mem {l:Dl} {s:Str} {x:PyData} {p:Str×PyData} (h:p∈putL l s x):p∈l∨p=(s,x):=by
 unfold putL at h
 split at h
 ·obtain ⟨q,hq,e⟩:=List.mem_map.mp h
  split at e
  ·rename_i z
   exact .inr (by rw [← e,z])
  ·exact .inl (e ▸ hq)
 ·rcases List.mem_append.mp h with z | z
  ·exact .inl z
  ·exact .inr (by simpa using z)
structure Dq (P:PyData→Prop) (K:List Str) (l:Dl):Prop where
 nd:(ky l).Nodup
 ok:∀ p∈l,P p.2∧p.1∈K
theorem Dq.nil {P:PyData→Prop} {K:List Str}:Dq P K []:=⟨by simp [ky],fun _ h=>nomatch h⟩
theorem Dq.put {P:PyData→Prop} {K:List Str} {l:Dl} (h:Dq P K l) {s:Str} {x:PyData} (hx:P x) (hs:s∈K):Dq P K (putL l s x):=by
 refine ⟨?_,fun p hp=>?_⟩
 ·rw [put_ky]
  split
  ·exact h.nd
  ·rename_i z
   rw [List.nodup_append]
   exact ⟨h.nd,by simp,fun a ha b hb=>by simp at hb; subst hb; exact fun q=>z (q ▸ ha)⟩
 ·rcases put_mem hp with z | rfl
  ·exact h.ok p z
  ·exact ⟨hx,hs⟩
theorem Dq.look {P:PyData→Prop} {K:List Str} {l:Dl} (h:Dq P K l) {s:Str} {x:PyData} (e:l.lookup s=some x):P x:=(h.ok _ (look_mem e)).1
theorem nd_le {α:Type} [DecidableEq α] {L N:List α} (nd:L.Nodup) (h:∀ x∈L,x∈N):L.length≤N.length:=by
 apply Nat.le_of_not_lt
 intro z
 obtain ⟨x,hx,nx⟩:=nd_out nd z
 exact nx (h x hx)
theorem Dq.len {P:PyData→Prop} {K:List Str} {l:Dl} (h:Dq P K l):l.length≤K.length:=by
 have:=nd_le h.nd (N:=K) fun x hx=>by
  obtain ⟨p,hp,rfl⟩:=List.mem_map.mp hx
  exact (h.ok p hp).2
 simpa [ky] using this
theorem dct_len (l:Dl):(dctOf l).length=l.length:=by simp [dctOf]
@[simp] theorem ev_viewsLD {xs:List (PyData×PyData)} {r:List W} {T:Tp}:views T (.loc (.dict xs)::r)=consO (.dict xs) (views T r):=rfl
@[simp] theorem ev_setE {i:Nat} {ρ:Rho} {T:Tp}:fSetE i ρ T=some ((.nx,ρ.set i (some (.loc (.dict [])))),T):=rfl
@[simp] theorem ev_putN {i:Nat} {fk fv:FE} {ρ:Rho} {T:Tp}:fPutN i fk fv ρ T=bnd (fv ρ T) fun w T1=>putNO i fk ρ w T1 ρ[i]?:=rfl
@[simp] theorem ev_putNO {i:Nat} {fk:FE} {ρ:Rho} {w:D.W} {T:Tp} {ds:Dc}:putNO i fk ρ w T (some (some (.loc (.dict ds))))=bnd (fk ρ T) (putNK i ρ ds w):=rfl
@[simp] theorem ev_putNK {i:Nat} {ρ:Rho} {T:Tp} {ds:Dc} {x:PyData} {s:Str}:putNK i ρ ds (.d x) (.d (.str s)) T=if ds.length≤1000 then some ((.nx,ρ.set i (some (.loc (.dict (putN ds s x))))),T) else none:=rfl
@[simp] theorem ev_openO {i:Nat} {m:FnM} {g:FA} {fr:FS} {ρ:Rho} {T:Tp}:fOpenO i m g fr ρ T=bnd (g ρ T) fun ws T1=>bnd (m ws T1) (openOK i fr ρ):=rfl
theorem openO_ok {i:Nat} {fr:FS} {ρ ρ':Rho} {xs xs':List PyData} {fl:Fl} (h:fr (ρ.set i (some (.tp 0))) [xs]=some ((fl,ρ'),[xs'])):openOK i fr ρ (.list xs) []=some ((fl,dropR 0 ρ'),[]):=by
 show openEnd 0 (fr (ρ.set i (some (.tp 0))) [xs])=_
 rw [h]
 rfl
noncomputable def pr (p:Str×PyData):PyData:=.tuple [.str p.1,p.2]
theorem prs_map:∀ l:Dl,pairsD (l.map pr)=some l
 | []=>rfl
 | (s,d)::r=>by
  have ih:=prs_map r
  show (match pairD (pr (s,d)) with | some p=>(match pairsD (r.map pr) with | some ps=>some (p::ps) | none=>none) | none=>none)=_
  rw [ih]
  rfl
theorem keys_dct (l:Dl):(dctOf l).map (·.1)=nm (ky l):=by
 unfold dctOf nm ky
 rw [List.map_map,List.map_map]
 rfl
theorem cmp_drop {c:FT} {e:FE} {ρ:Rho} {T:Tp} {y:Str} {l:Dl} (hc:∀ s,c (some (.d (.str s))::ρ) T=some (!decide (s=y),T)) (he:∀ s d,(s,d)∈l→e (some (.d (.str s))::ρ) T=some (.d (.tuple [.str s,d]),T)):compL c e ρ (nm (ky l)) T=some ((l.filter fun p=>!decide (p.1=y)).map pr,T):=by
 induction l with
 | nil=>rfl
 | cons p r ih=>
  obtain ⟨s,d⟩:=p
  have ih':=ih fun s d h=>he s d (List.mem_cons_of_mem _ h)
  have h1:=hc s
  have h2:=he s d List.mem_cons_self
  show compL c e ρ (.str s::nm (ky r)) T=_
  unfold compL
  rw [h1]
  by_cases hs:s=y
  ·simp [hs,ih']
  ·simp [hs,h2,ih',pr]
theorem Dq.drop {P:PyData→Prop} {K:List Str} {l:Dl} (h:Dq P K l) (f:Str×PyData→Bool):Dq P K (l.filter f):=by
 refine ⟨?_,fun p hp=>h.ok p (List.mem_filter.mp hp).1⟩
 exact List.Nodup.sublist (List.Sublist.map _ List.filter_sublist) h.nd
@[simp] theorem ev_lendR0:lendR []=[]:=rfl
@[simp] theorem ev_lendR {o:Option W} {r:Rho}:lendR (o::r)=o.bind lendW::lendR r:=rfl
@[simp] theorem ev_lendW {x:PyData}:lendW (.d x)=some (.d x):=rfl
@[simp] theorem ev_lendWL {x:PyData}:lendW (.loc x)=some (.d x):=rfl
theorem openC_ok {mf mh:FnM} {g1 g2:FA} {ρ:Rho} {ws ws2:List W} {xs xs':List PyData} {y:PyData} (h1:g1 ρ []=some (ws,[])) (h2:mh ws []=some (.list xs,[])) (h3:g2 ρ []=some (ws2,[])) (h4:noLoc ws2=true) (h5:mf (.tp 0::ws2) [xs]=some (y,[xs'])):fOpenC mf mh g1 g2 ρ []=some (.d y,[]):=by
 unfold fOpenC
 rw [h1,ev_bnd,h2,ev_bnd]
 show bnd (g2 ρ []) (openCE mf xs)=_
 rw [h3,ev_bnd]
 unfold openCE
 rw [if_pos h4]
 show closeC 0 (mf (.tp 0::ws2) [xs])=_
 rw [h5]
 rfl
theorem at2' {α:Type} {a b:α}:atI [a,b] 0=some a∧atI [a,b] 1=some b:=⟨rfl,rfl⟩
noncomputable def fzO (o:Option W):Option W:=(frzR [o]).headD none
theorem ev_frzC {o:Option W} {r:Rho}:frzR (o::r)=fzO o::frzR r:=rfl
@[simp] theorem ev_fzN:fzO none=none:=rfl
@[simp] theorem ev_fzD {x:PyData}:fzO (some (.d x))=some (.d x):=rfl
@[simp] theorem ev_fzT {i:Nat}:fzO (some (.tp i))=some (.tp i):=rfl
@[simp] theorem ev_fzL {x:PyData}:fzO (some (.loc x))=some (.d x):=rfl
@[simp] theorem ev_notInB {s:Str} {ds:Dc}:notInB (.str s) (.dict ds)=some (.bool (!(keyAt ds s).isSome)):=rfl
@[simp] theorem ev_inAD {s:Str} {ds:Dc}:inA (.str s) (.dict ds)=some (.bool (keyAt ds s).isSome):=rfl
@[simp] theorem ev_ixAD {s:Str} {ds:Dc}:ixA (.dict ds) (.str s)=keyAt ds s:=rfl
@[simp] theorem ev_setDC {i:Nat} {f:FE} {ρ:Rho} {T:Tp}:fSetDC i f ρ T=bnd (f ρ T) fun w T1=>setDCK i ρ (dctO (view T1 w)) T1:=rfl
@[simp] theorem ev_dctO {ds:Dc}:dctO (some (.dict ds))=some ds:=rfl
@[simp] theorem ev_setDCK {i:Nat} {ρ:Rho} {ds:Dc} {T:Tp}:setDCK i ρ (some ds) T=some ((.nx,ρ.set i (some (.loc (.dict ds)))),T):=rfl
@[simp] theorem ev_dctC {f:FE} {ρ:Rho} {T:Tp}:fDctC f ρ T=bnd (f ρ T) fun w T1=>dctCK (dctO (view T1 w)) T1:=rfl
@[simp] theorem ev_dctCK {ds:Dc} {T:Tp}:dctCK (some ds) T=some (.d (.dict ds),T):=rfl
@[simp] theorem ev_listK {ds:Dc}:listK [.dict ds]=some (.list (keysL ds)):=rfl
@[simp] theorem ev_popN {i:Nat} {f:FE} {ρ:Rho} {T:Tp}:fPopN i f ρ T=bnd (f ρ T) fun w T1=>popNK i ρ w T1 ρ[i]?:=rfl
@[simp] theorem ev_popNK {i:Nat} {ρ:Rho} {s:Str} {ds:Dc} {T:Tp}:popNK i ρ (.d (.str s)) T (some (some (.loc (.dict ds))))=some ((.nx,ρ.set i (some (.loc (.dict (if (keyAt ds s).isSome=true then dropN ds s else ds))))),T):=rfl
@[simp] theorem ev_retO2 {i j:Nat} {ρ:Rho} {T:Tp}:fRetO2 i j ρ T=retO2K i j ρ T ρ[i]? ρ[j]?:=rfl
@[simp] theorem ev_retO2K {i j:Nat} {ρ:Rho} {T:Tp} {x y:PyData}:retO2K i j ρ T (some (some (.loc x))) (some (some (.loc y)))=if i=j then none else some ((.ro (.tuple [x,y]),ρ),T):=rfl
@[simp] theorem ev_retOP {m:FnM} {g:FA} {ρ:Rho} {T:Tp}:fRetOP m g ρ T=bnd (g ρ T) fun ws T1=>bnd (m ws T1) (retOPK ρ):=rfl
@[simp] theorem ev_callOP {m:FnM} {g:FA} {ρ:Rho} {T:Tp}:fCallOP m g ρ T=bnd (g ρ T) fun ws T1=>bnd (m ws T1) callOPK:=rfl
@[simp] theorem ev_setO {i:Nat} {m:FnM} {g:FA} {ρ:Rho} {T:Tp}:fSetO i m g ρ T=bnd (g ρ T) fun ws T1=>bnd (m ws T1) (setOK i ρ):=rfl
@[simp] theorem ev_setOK {i:Nat} {ρ:Rho} {ds:Dc} {T:Tp}:setOK i ρ (.dict ds) T=some ((.nx,ρ.set i (some (.loc (.dict ds)))),T):=rfl
@[simp] theorem ev_retDP {f:FE} {ρ:Rho} {T:Tp}:fRetDP f ρ T=bnd (f ρ T) fun w T1=>retDPK ρ T1 (prsO (view T1 w)):=rfl
@[simp] theorem ev_prsO {ds:List PyData}:prsO (some (.list ds))=pairsD ds:=rfl
theorem for_ix {i:Nat} {body:FS} {I:Nat→Rho→Tp→Prop}:∀ (ds:List PyData) (k:Nat) (ρ:Rho) (T:Tp),I k ρ T →
  (∀ j d ρ T,ds[j]? = some d→I (k + j) ρ T→∃ ρ' T',body (ρ.set i (some (.d d))) T=some ((.nx,ρ'),T')∧I (k + j + 1) ρ' T')→∃ ρ' T',forL i body ds ρ T=some ((.nx,ρ'),T')∧I (k + ds.length) ρ' T'
 | [],k,ρ,T,h,_=>⟨ρ,T,rfl,h⟩
 | d::r,k,ρ,T,h,hs=>by
  obtain ⟨ρ1,T1,e1,h1⟩:=hs 0 d ρ T rfl h
  obtain ⟨ρ2,T2,e2,h2⟩:=for_ix (body:=body) (I:=I) r (k + 1) ρ1 T1 h1 fun j d ρ T hd hI=>by
   rw [show k + 1 + j=k + (j + 1) by omega] at hI ⊢
   exact hs (j + 1) d ρ T (by simpa using hd) hI
  refine ⟨ρ2,T2,?_,by rw [List.length_cons,show k + (r.length + 1)=k + 1 + r.length by omega]; exact h2⟩
  unfold forL
  rw [e1]
  exact e2
theorem nums_ix {n j:Nat} {d:PyData} (h:(numsD 0 n)[j]? = some d):d=.int (j:Int)∧j < n:=by
 unfold numsD at h
 rw [List.getElem?_map] at h
 by_cases hj:j < n
 ·rw [List.getElem?_range hj] at h
  simp at h
  exact ⟨h.symm,hj⟩
 ·rw [List.getElem?_eq_none (by simp; omega)] at h
  cases h
structure Bk (l:List Str) (d0 r0:Dl):Prop where
 t:Dq (fun v=>isVal v=true) l d0
 m:Dq (RC 5 0 60) l r0
 no:∀ s∈ky d0,s∉ky r0
noncomputable def bkD (d0 r0:Dl):PyData:=.tuple [.dict (dctOf d0),.dict (dctOf r0)]
noncomputable def scr (ns:List Int):PyData:=.list (ns.map PyData.int)
theorem Dq.up {P:PyData→Prop} {K L:List Str} {l:Dl} (h:Dq P K l) (s:∀ x∈K,x∈L):Dq P L l:=⟨h.nd,fun p hp=>⟨(h.ok p hp).1,s _ (h.ok p hp).2⟩⟩
theorem Bk.up {K L:List Str} {d0 r0:Dl} (h:Bk K d0 r0) (s:∀ x∈K,x∈L):Bk L d0 r0:=⟨h.t.up s,h.m.up s,h.no⟩
theorem Dq.out {P:PyData→Prop} {K:List Str} {l:Dl} (h:Dq P K l) {y:Str} (hy:y∉K):y∉ky l:=fun z=>by
 obtain ⟨p,hp,rfl⟩:=List.mem_map.mp z
 exact hy (h.ok p hp).2
theorem ky_app {l:Dl} {s:Str} {x:PyData}:ky (l++[(s,x)])=ky l++[s]:=by simp [ky]
theorem Dq.add {P:PyData→Prop} {K:List Str} {l:Dl} (h:Dq P K l) {s:Str} {x:PyData} (hx:P x) (hs:s∈K) (ho:s∉ky l):Dq P K (l++[(s,x)]):=by
 have:=h.put hx hs
 unfold putL at this
 rwa [if_neg ho] at this
theorem put_app {l:Dl} {s:Str} {x:PyData} (ho:s∉ky l):putN (dctOf l) s x=dctOf (l++[(s,x)]):=by
 rw [putN_l]
 unfold putL
 rw [if_neg ho]
theorem Bk.addT {K:List Str} {d0 r0:Dl} (h:Bk K d0 r0) {y:Str} {v:PyData} (hv:isVal v=true) (hy:y∈K) (o1:y∉ky d0) (o2:y∉ky r0):Bk K (d0++[(y,v)]) r0:=⟨h.t.add hv hy o1,h.m,fun s hs=>by
 rw [ky_app] at hs
 rcases List.mem_append.mp hs with z | z
 ·exact h.no s z
 ·rw [List.mem_singleton.mp z]; exact o2⟩
theorem Bk.addM {K:List Str} {d0 r0:Dl} (h:Bk K d0 r0) {y:Str} {v:PyData} (hv:RC 5 0 60 v) (hy:y∈K) (o1:y∉ky d0) (o2:y∉ky r0):Bk K d0 (r0++[(y,v)]):=⟨h.t,h.m.add hv hy o2,fun s hs z=>by
 rw [ky_app] at z
 rcases List.mem_append.mp z with z | z
 ·exact h.no s hs z
 ·rw [List.mem_singleton.mp z] at hs; exact o1 hs⟩
section
variable {l:List Str} (hn:Ns l) (h0:0 < l.length) (h1:l.length≤20)
include hn h0 h1 in
theorem bk_step {K:List Str} (hKl:K.length≤20) {d0 r0:Dl} (hb:Bk K d0 r0) {y:Str} (hy:y∈K) (o1:y∉ky d0) (o2:y∉ky r0) {xs:List PyData} (hf:Fr xs) {sc ba:PyData} {pk:Bool} {j:Int} (ey:atI (nm l) j=some (.str y)) {o8:Option W} :
  ∃ d1 r1 w xs',B_l_book1 [some (.d sc),some (.d ba),some (.d (.list (nm l))),some (.d (.bool pk)),some (.loc (.dict (dctOf d0))),some (.loc (.dict (dctOf r0))),some (.d (.int j)),some (.tp 0),o8] [xs]=some ((.nx,[some (.d sc),some (.d ba),some (.d (.list (nm l))),some (.d (.bool pk)),some (.loc (.dict (dctOf d1))),some (.loc (.dict (dctOf r1))),some (.d (.int j)),some (.tp 0),some (.d (.int w))]),[xs'])∧Bk K d1 r1:=by
 obtain ⟨w,x1,e1,f1,w0,w1⟩:=L_next hf (m:=8) (by decide) (by decide)
 have z1:(dctOf d0).length≤1000:=by rw [dct_len]; have:=hb.1.len; omega
 have z2:(dctOf r0).length≤1000:=by rw [dct_len]; have:=hb.2.len; omega
 by_cases h2:w < 2
 ·obtain ⟨v,x2,e2,hv,f2⟩:=L_lval f1 hn h0 h1
  exact ⟨d0++[(y,v)],r0,w,x2,by simp [B_l_book1,e1,h2,e2,ey,z1,put_app o1],hb.addT hv hy o1 o2⟩
 ·by_cases h7:w < 7
  ·obtain ⟨r,x2,e2,hr,f2⟩:=L_anyR hn h0 h1 f1 pk
   exact ⟨d0,r0++[(y,r)],w,x2,by simp [B_l_book1,e1,h2,h7,e2,ey,z2,put_app o2],hb.addM hr hy o1 o2⟩
  ·exact ⟨d0,r0,w,x1,by simp [B_l_book1,e1,h2,h7],hb⟩
include hn h0 h1 in
theorem L_book (nd:l.Nodup) (ns:List Int) {ba:Int} (hba:0≤ba) (pk:Bool):∃ d0 r0,m__law_book [.d (scr ns),.d (.int ba),.d (.list (nm l)),.d (.bool pk)] []=some (bkD d0 r0,[])∧Bk l d0 r0:=by
 have lp:=for_ix (i:=6) (body:=B_l_book2) (I:=fun k ρ T=>∃ d0 r0 o6 w8,ρ=[some (.d (scr ns)),some (.d (.int ba)),some (.d (.list (nm l))),some (.d (.bool pk)),some (.loc (.dict (dctOf d0))),some (.loc (.dict (dctOf r0))),o6,none,w8]∧T=[]∧Bk (l.take k) d0 r0)
  (numsD 0 l.length) 0 [some (.d (scr ns)),some (.d (.int ba)),some (.d (.list (nm l))),some (.d (.bool pk)),some (.loc (.dict [])),some (.loc (.dict [])),none,none,none] [] ⟨[],[],none,none,rfl,rfl,.nil,.nil,fun _ h=>nomatch h⟩ (fun j d ρ T hd hI=>by
   obtain ⟨d0,r0,o6,w8,rfl,rfl,hb⟩:=hI
   obtain ⟨rfl,hj⟩:=nums_ix hd
   rw [Nat.zero_add] at hb ⊢
   obtain ⟨xs,hf,ef⟩:=L_feed ns (ba + j) (by omega)
   have tk:l.take (j + 1)=l.take j++[l[j]]:=List.take_succ_eq_append_getElem hj
   have ny:l[j]∉l.take j:=by
    have nd2:(l.take (j + 1)).Nodup:=List.Nodup.sublist (List.take_sublist _ _) nd
    rw [tk,List.nodup_append] at nd2
    exact fun z=>nd2.2.2 _ z _ (List.mem_singleton.mpr rfl) rfl
   have ey:atI (nm l) (j:Int)=some (.str l[j]):=by
    have:(nm l)[j]? = some (.str l[j]):=by simp [nm,hj]
    exact atI_nat this
   have hb':Bk (l.take (j + 1)) d0 r0:=hb.up fun x hx=>by rw [tk]; exact List.mem_append_left _ hx
   obtain ⟨d1,r1,w,xs',e,hb2⟩:=bk_step hn h0 h1 (by rw [List.length_take]; omega) hb' (by rw [tk]; exact List.mem_append_right _ (List.mem_singleton.mpr rfl)) (hb.t.out ny) (hb.m.out ny) hf (sc:=scr ns) (ba:=.int ba) (pk:=pk) ey (o8:=w8)
   refine ⟨[some (.d (scr ns)),some (.d (.int ba)),some (.d (.list (nm l))),some (.d (.bool pk)),some (.loc (.dict (dctOf d1))),some (.loc (.dict (dctOf r1))),some (.d (.int j)),none,some (.d (.int w))],[],?_,d1,r1,_,_,rfl,rfl,hb2⟩
   have oo:=openO_ok (i:=7) (fr:=B_l_book1) (ρ:=[some (.d (scr ns)),some (.d (.int ba)),some (.d (.list (nm l))),some (.d (.bool pk)),some (.loc (.dict (dctOf d0))),some (.loc (.dict (dctOf r0))),some (.d (.int j)),none,w8]) e
   have ef':=ef []
   unfold B_l_book2
   unfold scr at ef' oo ⊢
   simp only [ev_openO,List.set_cons_succ,List.set_cons_zero,ev_cons,ev_var0,ev_var1,ev_var2,ev_var3,ev_var4,ev_var5,ev_var6,ev_bnd,ev_consK,ev_bin,ev_binK,ev_op2,ev_addI,ev_mkD,ev_nil,ef',oo]
   rfl)
 obtain ⟨ρ',T',e,d0,r0,o6,w8,rfl,rfl,hb⟩:=lp
 rw [nums_len,Nat.zero_add,List.take_length] at hb
 refine ⟨d0,r0,?_,hb⟩
 have ro:rngOk (l.length:Int)=true:=rng_ok (by omega) (by omega)
 have tn:((l.length:Int)).toNat=l.length:=by omega
 rw [l_book_eq]
 simp [nm_len,ro,tn]
 rw [e]
 simp [bkD,ev_frzC]
end
end G
namespace G
open PySem PySem.Spec PyProof.Rows L2 D
open K1 (isName isVal)
noncomputable def dr (l:Dl) (y:Str):Dl:=l.filter fun p=>!decide (p.1=y)
theorem dr_mem {l:Dl} {y:Str} {p:Str×PyData}:p∈dr l y↔p∈l∧p.1≠y:=by simp [dr]
theorem dr_ky {l:Dl} {y:Str}:y∉ky (dr l y):=fun z=>by
 obtain ⟨p,hp,e⟩:=List.mem_map.mp z
 exact (dr_mem.mp hp).2 e
theorem dr_no {l:Dl} {y:Str} (h:y∉ky l):dr l y=l:=by
 unfold dr
 rw [List.filter_eq_self]
 intro p hp
 have:p.1≠y:=fun e=>h (List.mem_map.mpr ⟨p,hp,e⟩)
 simp [this]
theorem dr_dr {l:Dl} {y:Str}:dr (dr l y) y=dr l y:=dr_no dr_ky
theorem dr_add {l:Dl} {y:Str} {v:PyData}:dr (dr l y++[(y,v)]) y=dr l y:=by
 have:dr (dr l y++[(y,v)]) y=dr (dr l y) y++dr [(y,v)] y:=by unfold dr; rw [List.filter_append]
 rw [this,dr_dr]
 simp [dr]
theorem drop_dr (y:Str):∀ l:Dl,dropN (dctOf l) y=dctOf (dr l y)
 | []=>rfl
 | (k,d)::r=>by
  have ih:=drop_dr y r
  unfold dropN dctOf dr at ih ⊢
  by_cases h:k=y
  ·simp [h]
   simpa using ih
  ·simp [h]
   simpa using ih
theorem pop_dr (l:Dl) (y:Str):(if (keyAt (dctOf l) y).isSome=true then dropN (dctOf l) y else dctOf l)=dctOf (dr l y):=by
 rw [key_look,look_iff]
 by_cases h:y∈ky l
 ·rw [decide_eq_true h,if_pos rfl,drop_dr]
 ·rw [decide_eq_false h,if_neg (by decide),dr_no h]
theorem L_rest (d r:Dl) (y:Str) (T:Tp):m_rest_of [.d (bkD d r),.d (.str y)] T=some (bkD (dr d y) (dr r y),T):=by
 unfold bkD
 simp [m_rest_of,at2',pop_dr]
theorem L_sort (d r:Dl) (y:Str) (T:Tp):m_sort_at [.d (bkD d r),.d (.str y)] T=some (.str (Str.ofString (if y∈ky d then "told" else if y∈ky r then "made" else "lacks")),T):=by
 unfold bkD
 by_cases h1:y∈ky d
 ·simp [m_sort_at,at2',key_look,look_iff,h1]
 ·by_cases h2:y∈ky r
  ·simp [m_sort_at,at2',key_look,look_iff,h1,h2]
  ·simp [m_sort_at,at2',key_look,look_iff,h1,h2]
theorem keysL_dct (l:Dl):keysL (dctOf l)=nm (ky l):=keys_dct l
theorem sort_nm {l:List Str} (h:l.length < 64):sortD [.list (nm l)]=some (.list (nm (sortL l))):=by
 have e:strsD (nm l)=some l:=by
  have:=strsD_map (fun x:Str=>x) l
  simpa [nm] using this
 show sortO (strsD (nm l))=_
 rw [e]
 show (if l.length < 64 then _ else _)=_
 rw [if_pos h]
 rfl
theorem L_namesOf {d r:Dl} (h:d.length + r.length < 40) (T:Tp):∃ s,m_names_of [.d (bkD d r)] T=some (.list (nm s),T)∧s.length < 40:=by
 have hl:(ky d++ky r).length < 40:=by simp [ky]; exact h
 have e:nm (ky d)++nm (ky r)=nm (ky d++ky r):=by simp [nm]
 refine ⟨sortL (ky d++ky r),?_,by rw [(sortL_perm _).length_eq]; exact hl⟩
 have z:(nm (ky d)).length + (nm (ky r)).length≤sizeLine:=sz_line (by rw [← List.length_append,e,nm_len]; omega)
 unfold bkD
 simp [m_names_of,at2',keysL_dct,z,e,sort_nm (l:=ky d++ky r) (by omega)]
theorem L_room {d r:Dl} (h:d.length + r.length < 40) (y:Str) (T:Tp):m_room_for [.d (bkD d r),.d (.str y)] T=some (bkD (dr d y) (dr r y),T):=by
 obtain ⟨s,e,hs⟩:=L_namesOf h T
 have e1:=L_sort d r y T
 have e2:=L_rest d r y T
 have hs':¬ (40:Int)≤s.length:=by omega
 have hk:∀ ρ:Rho,retOPK ρ (bkD (dr d y) (dr r y)) T=some ((.ro (bkD (dr d y) (dr r y)),ρ),T):=fun _=>rfl
 by_cases h1:y∈ky d
 ·rw [if_pos h1] at e1
  simp [m_room_for,e1,e2,hk]
 ·rw [if_neg h1] at e1
  by_cases h2:y∈ky r
  ·rw [if_pos h2] at e1
   simp [m_room_for,e1,e2,hk]
  ·rw [if_neg h2] at e1
   simp [m_room_for,e1,e2,e,nm_len,hs',hk]
theorem ownPut_ok {m:FnM} {a b x:PyData} {s:Str} {d r:Dl} {T:Tp} {bt:Bool} (h:m [.d a,.d (.str s)] T=some (bkD d r,T)) (hb:b=.str s) (hl:d.length≤1000∧r.length≤1000) :
  fOwnPut 3 bt m (fCons (fVar 0) (fCons (fVar 1) fNil)) (fVar 1) (fVar 2) [some (.d a),some (.d b),some (.d x),none] T=some ((.ro (if bt then .tuple [.dict (dctOf d),.dict (putN (dctOf r) s x)] else .tuple [.dict (putN (dctOf d) s x),.dict (dctOf r)]),[some (.d a),some (.d b),some (.d x),none]),T):=by
 subst hb
 have z:(if bt then dctOf r else dctOf d).length≤1000:=by cases bt <;> simp [dct_len,hl]
 unfold fOwnPut
 simp [h]
 show (if 3 < 4 then (putPr bt s x (bkD d r)).map _ else none)=_
 unfold putPr bkD
 dsimp only
 rw [if_pos (by decide),if_pos z]
 rfl
theorem L_told {d r:Dl} (h:d.length + r.length < 40) {y:Str} (hy:Nx 8 y) {v:PyData} (hv:isVal v=true) (T:Tp):m_told_with [.d (bkD d r),.d (.str y),.d v] T=some (bkD (dr d y++[(y,v)]) (dr r y),T):=by
 have l1:(dr d y).length≤d.length:=List.length_filter_le _ _
 have l2:(dr r y).length≤r.length:=List.length_filter_le _ _
 have e:=ownPut_ok (bt:=false) (x:=v) (L_room h y T) rfl ⟨by omega,by omega⟩
 rw [put_app (l:=dr d y) dr_ky] at e
 simp [m_told_with,yes_name T hy,yes_value T hv,e]
 rfl
theorem L_made {d r:Dl} (h:d.length + r.length < 40) {y:Str} (hy:Nx 8 y) {v:PyData} (hv:RC 5 0 60 v) (T:Tp):m_made_with [.d (bkD d r),.d (.str y),.d v] T=some (bkD (dr d y) (dr r y++[(y,v)]),T):=by
 have l1:(dr d y).length≤d.length:=List.length_filter_le _ _
 have l2:(dr r y).length≤r.length:=List.length_filter_le _ _
 have e:=ownPut_ok (bt:=true) (x:=v) (L_room h y T) rfl ⟨by omega,by omega⟩
 rw [put_app (l:=dr r y) dr_ky] at e
 simp [m_made_with,yes_name T hy,yes_recipe T hv,e]
 rfl
theorem L_without {d r:Dl} {y:Str} (hy:Nx 8 y) (hi:y∈ky d∨y∈ky r) (T:Tp):m_without [.d (bkD d r),.d (.str y)] T=some (bkD (dr d y) (dr r y),T):=by
 have e1:=L_sort d r y T
 have e2:=L_rest d r y T
 have hk:∀ ρ:Rho,retOPK ρ (bkD (dr d y) (dr r y)) T=some ((.ro (bkD (dr d y) (dr r y)),ρ),T):=fun _=>rfl
 by_cases h1:y∈ky d
 ·rw [if_pos h1] at e1
  simp [m_without,yes_name T hy,e1,e2,hk]
 ·have h2:y∈ky r:=hi.resolve_left h1
  rw [if_neg h1,if_pos h2] at e1
  simp [m_without,yes_name T hy,e1,e2,hk]
noncomputable def du (w:Int) (y:Str) (v r:PyData) (d0 r0:Dl):Dl×Dl:=(if w=0 then dr d0 y++[(y,v)] else dr d0 y,if w=1 then dr r0 y++[(y,r)] else dr r0 y)
theorem L_less {l:Dl} (nd:(ky l).Nodup) (hl:l.length≤1000) (y:Str) (T:Tp):m__law_less [.d (.dict (dctOf l)),.d (.str y)] T=some (.dict (dctOf (dr l y)),T):=by
 have c:=cmp_drop (c:=fTst (fBin neD (fVar 0) (fVar 2))) (e:=fSeqD .tuple (fCons (fVar 0) (fCons (fBin ixA (fVar 1) (fVar 0)) fNil))) (ρ:=[some (.d (.dict (dctOf l))),some (.d (.str y))]) (T:=T) (y:=y) (l:=l) (fun s=>by simp) (fun s d hm=>by
  have k:=look_nd nd hm
  simp [key_look,k])
 have ok:okP2 (dr l y)=true:=by
  have nd':((dr l y).map fun x=>x.1).Nodup:=List.Nodup.sublist (List.Sublist.map _ List.filter_sublist) nd
  have l1:(dr l y).length≤l.length:=List.length_filter_le _ _
  unfold okP2
  rw [decide_eq_true nd',decide_eq_true (by omega)]
  rfl
 have hk:∀ ρ:Rho,retDPK ρ T (some (dr l y))=some ((.ro (.dict (dctOf (dr l y))),ρ),T):=fun ρ=>by
  unfold retDPK
  dsimp only
  rw [if_pos ok]
 have hp:=prs_map (dr l y)
 unfold dr at hp hk ⊢
 simp [m__law_less,keys_dct,c,hp,hk]
section
variable {l:List Str} (h1:l.length≤8) {d0 r0:Dl} (hb:Bk l d0 r0)
include h1 hb in
theorem bk_len:d0.length + r0.length < 40∧d0.length≤8∧r0.length≤8:=by
 have:=hb.t.len
 have:=hb.m.len
 omega
include h1 hb in
theorem L_due {w:Int} {y:Str} {v r:PyData} (T:Tp):m__law_due [.d (.int w),.d (bkD d0 r0),.d (.str y),.d v,.d r] T=some (bkD (du w y v r d0 r0).1 (du w y v r d0 r0).2,T):=by
 obtain ⟨_,b1,b2⟩:=bk_len h1 hb
 have e1:=L_less hb.t.nd (by omega) y T
 have e2:=L_less hb.m.nd (by omega) y T
 have l1:(dctOf (dr d0 y)).length≤1000:=by rw [dct_len]; have:(dr d0 y).length≤d0.length:=List.length_filter_le _ _; omega
 have l2:(dctOf (dr r0 y)).length≤1000:=by rw [dct_len]; have:(dr r0 y).length≤r0.length:=List.length_filter_le _ _; omega
 unfold du bkD
 by_cases w0:w=0
 ·simp [m__law_due,at2',e1,e2,w0,l1,put_app dr_ky,ev_frzC]
 ·by_cases w1:w=1
  ·simp [m__law_due,at2',e1,e2,w1,l2,put_app dr_ky,ev_frzC]
  ·simp [m__law_due,at2',e1,e2,w0,w1,ev_frzC]
theorem Bk.drop {l:List Str} {d0 r0:Dl} (hb:Bk l d0 r0) (y:Str):Bk l (dr d0 y) (dr r0 y):=⟨hb.t.drop _,hb.m.drop _,fun s hs z=>by
 obtain ⟨p,hp,rfl⟩:=List.mem_map.mp hs
 obtain ⟨q,hq,e⟩:=List.mem_map.mp z
 exact hb.no p.1 (List.mem_map.mpr ⟨p,(dr_mem.mp hp).1,rfl⟩) (List.mem_map.mpr ⟨q,(dr_mem.mp hq).1,e⟩)⟩
include hb in
theorem bk_du {w:Int} {y:Str} {v r:PyData} (hy:y∈l) (hv:isVal v=true) (hr:RC 5 0 60 r):Bk l (du w y v r d0 r0).1 (du w y v r d0 r0).2:=by
 have b:=hb.drop y
 unfold du
 by_cases w0:w=0
 ·simp [w0]; exact b.addT hv hy dr_ky dr_ky
 ·by_cases w1:w=1
  ·simp [w1]; exact b.addM hr hy dr_ky dr_ky
  ·simp [w0,w1]; exact b
include h1 hb in
theorem L_one {w:Int} {y:Str} {v r:PyData} (hy:Nx 8 y) (hv:isVal v=true) (hr:RC 5 0 60 r) (h:w < 2∨y∈ky d0∨y∈ky r0) (w0:0≤w) (T:Tp):m__law_one [.d (.int w),.d (bkD d0 r0),.d (.str y),.d v,.d r] T=some (bkD (du w y v r d0 r0).1 (du w y v r d0 r0).2,T):=by
 obtain ⟨b,_,_⟩:=bk_len h1 hb
 have hk:∀ (ρ:Rho) (a c:Dl),retOPK ρ (bkD a c) T=some ((.ro (bkD a c),ρ),T):=fun _ _ _=>rfl
 unfold du
 by_cases z0:w=0
 ·simp [m__law_one,z0,L_told b hy hv T,hk]
 ·by_cases z1:w=1
  ·simp [m__law_one,z1,L_made b hy hr T,hk]
  ·simp [m__law_one,z0,z1,L_without hy (h.resolve_left (by omega)) T,hk]
theorem du_du {w:Int} {y:Str} {v r:PyData}:du w y v r (du w y v r d0 r0).1 (du w y v r d0 r0).2=du w y v r d0 r0:=by
 unfold du
 by_cases z0:w=0
 ·simp [z0,dr_add,dr_dr]
 ·by_cases z1:w=1
  ·simp [z1,dr_add,dr_dr]
  ·simp [z0,z1,dr_dr]
theorem dr_du {w:Int} {y:Str} {v r:PyData}:dr (du w y v r d0 r0).1 y=dr d0 y∧dr (du w y v r d0 r0).2 y=dr r0 y:=by
 unfold du
 by_cases z0:w=0
 ·simp [z0,dr_add,dr_dr]
 ·by_cases z1:w=1
  ·simp [z1,dr_add,dr_dr]
  ·simp [z0,z1,dr_dr]
end
theorem hit_ok {e:Dl}:∀ {d:Dl},(∀ p∈d,e.lookup p.1=some p.2∧Go 64 p.2)→hitD (dctOf e) (dctOf d)=some true
 | [],_=>rfl
 | (k,v)::r,h=>by
  have ih:=hit_ok (e:=e) (d:=r) fun p hp=>h p (List.mem_cons_of_mem _ hp)
  obtain ⟨h1,h2⟩:=h (k,v) List.mem_cons_self
  show hitD (dctOf e) ((.str k,v)::dctOf r)=_
  unfold hitD
  rw [key_look,h1]
  dsimp only
  rw [if_pos ⟨h2.shp,h2.shp⟩,ih]
  simp [SeqAt.eqv_refl v h2.cl]
theorem eq_ok {d e:Dl} (nd:(ky d).Nodup) (hl:d.length=e.length) (h:∀ p∈d,e.lookup p.1=some p.2) (g:∀ p∈d,Go 64 p.2):eqDD (dctOf d) (dctOf e)=some true:=by
 unfold eqDD
 rw [if_pos (hit_ok fun p hp=>⟨look_nd nd hp,g p hp⟩),if_pos (by rw [dct_len,dct_len,hl]),hit_ok fun p hp=>⟨h p hp,g p hp⟩]
theorem ne_ok {a b c d:Dl} (h1:eqDD (dctOf a) (dctOf c)=some true) (h2:eqDD (dctOf b) (dctOf d)=some true):neP (bkD a b) (bkD c d)=some (.bool false):=by
 unfold neP bkD
 dsimp only
 have e1:eqP1 (.dict (dctOf a)) (.dict (dctOf c))=some true:=h1
 have e2:eqP1 (.dict (dctOf b)) (.dict (dctOf d))=some true:=h2
 unfold eqPs
 rw [e1]
 unfold eqPs
 rw [e2]
 rfl
theorem right_ok {a b c d:Dl} (T:Tp) (h:neP (bkD a b) (bkD c d)=some (.bool false)):m__law_right [.d (bkD a b),.d (bkD c d)] T=some (.bool true,T):=by
 have it:isiD .tup (bkD a b)=some (.bool true):=rfl
 unfold bkD at h it ⊢
 simp [m__law_right,it,h,at2']
 rfl
theorem Bk.goT {l:List Str} {d0 r0:Dl} (hb:Bk l d0 r0):∀ p∈d0,Go 64 p.2:=fun p hp=>(go_val (hb.t.ok p hp).1).up (by decide)
theorem Bk.goM {l:List Str} {d0 r0:Dl} (hb:Bk l d0 r0):∀ p∈r0,Go 64 p.2:=fun p hp=>(go_rc (hb.m.ok p hp).1).up (by decide)
theorem bk_self {l:List Str} {d0 r0:Dl} (hb:Bk l d0 r0):neP (bkD d0 r0) (bkD d0 r0)=some (.bool false):=
 ne_ok (eq_ok hb.t.nd rfl (fun p hp=>look_nd hb.t.nd hp) hb.goT) (eq_ok hb.m.nd rfl (fun p hp=>look_nd hb.m.nd hp) hb.goM)
theorem back_len {d:Dl} (nd:(ky d).Nodup) {y:Str} {v:PyData} (h:d.lookup y=some v):(dr d y++[(y,v)]).length=d.length∧(ky (dr d y++[(y,v)])).Nodup∧∀ p∈dr d y++[(y,v)],p∈d:=by
 have n1:(ky (dr d y++[(y,v)])).Nodup:=by
  rw [ky_app,List.nodup_append]
  refine ⟨List.Nodup.sublist (List.Sublist.map _ List.filter_sublist) nd,by simp,fun a ha b hb=>?_⟩
  rw [List.mem_singleton.mp hb]
  exact fun q=>dr_ky (q ▸ ha)
 have m1:∀ p∈dr d y++[(y,v)],p∈d:=fun p hp=>by
  rcases List.mem_append.mp hp with z | z
  ·exact (dr_mem.mp z).1
  ·rw [List.mem_singleton.mp z]; exact look_mem h
 refine ⟨Nat.le_antisymm ?_ ?_,n1,m1⟩
 ·have:=nd_le n1 (N:=ky d) fun x hx=>by
   obtain ⟨p,hp,rfl⟩:=List.mem_map.mp hx
   exact List.mem_map.mpr ⟨p,m1 p hp,rfl⟩
  simpa [ky] using this
 ·have:=nd_le nd (N:=ky (dr d y++[(y,v)])) fun x hx=>by
   obtain ⟨p,hp,rfl⟩:=List.mem_map.mp hx
   rw [ky_app]
   by_cases e:p.1=y
   ·exact List.mem_append_right _ (List.mem_singleton.mpr e)
   ·exact List.mem_append_left _ (List.mem_map.mpr ⟨p,dr_mem.mpr ⟨hp,e⟩,rfl⟩)
  simpa [ky] using this
theorem back_eq {d:Dl} (nd:(ky d).Nodup) {y:Str} {v:PyData} (h:d.lookup y=some v) (g:∀ p∈d,Go 64 p.2):eqDD (dctOf (dr d y++[(y,v)])) (dctOf d)=some true:=by
 obtain ⟨b1,b2,b3⟩:=back_len nd h
 exact eq_ok b2 b1 (fun p hp=>look_nd nd (b3 p hp)) (fun p hp=>g p (b3 p hp))
end G
namespace G
open PySem PySem.Spec PyProof.Rows L2 D
open K1 (isName isVal)
noncomputable def ρL (sc:PyData) (pk:Bool) (tm:PyData) (k:Option PyData) (l:List Str) (o5:Option W) (a6 a7 a8 a9 a10 a11 a12 a14:Option PyData):Rho:=[some (.d sc),some (.d (.list (nm l))),some (.d (.bool pk)),some (.d tm),k.map .d,o5,a6.map .d,a7.map .d,a8.map .d,a9.map .d,a10.map .d,a11.map .d,a12.map .d,none,a14.map .d]
theorem ixB0 {d r:Dl}:ixD (bkD d r) (.int 0)=some (.dict (dctOf d)):=rfl
theorem ixB1 {d r:Dl}:ixD (bkD d r) (.int 1)=some (.dict (dctOf r)):=rfl
theorem bkP {d r:Dl}:PyData.tuple [.dict (dctOf d),.dict (dctOf r)]=bkD d r:=rfl
theorem cop {d r:Dl} {T:Tp}:callOPK (bkD d r) T=some (.d (bkD d r),T):=rfl
section
variable {l:List Str} (hn:Ns l) (h0:0 < l.length) (h1:l.length≤8) {d0 r0:Dl} (hb:Bk l d0 r0) {sc:PyData} {pk:Bool}
include h1 hb in
theorem lw_clr {w:Int} {y:Str} {v r:PyData} (hy:Nx 8 y) (my:y∈l) (hv:isVal v=true) (hr:RC 5 0 60 r) (h:w < 2∨y∈ky d0∨y∈ky r0) (w0:0≤w) {k a12 a14:Option PyData} {xs:List PyData} {d:PyData} :
  B_p_law1 ((ρL sc pk (bkD d0 r0) k l (some (.tp 0)) (some (.str y)) (some (.int w)) (some v) (some r) (some (bkD (du w y v r d0 r0).1 (du w y v r d0 r0).2)) (some (bkD d0 r0)) a12 a14).set 12 (some (.d d))) [xs]=some ((.nx,ρL sc pk (bkD d0 r0) k l (some (.tp 0)) (some (.str y)) (some (.int w)) (some v) (some r) (some (bkD (du w y v r d0 r0).1 (du w y v r d0 r0).2)) (some (bkD d0 r0)) (some d) a14),[xs]):=by
 have e1:=L_one h1 hb hy hv hr h w0 [xs]
 have bd:=bk_du hb (w:=w) (y:=y) (v:=v) (r:=r) my hv hr
 generalize (du w y v r d0 r0).1=d1,(du w y v r d0 r0).2=r1 at e1 bd ⊢
 have e2:=right_ok [] (bk_self bd)
 have e3:=bk_self hb
 unfold B_p_law1 fPairClr ρL
 simp only [List.set_cons_succ,List.set_cons_zero,Option.map_some]
 simp [e1]
 show (if 13 < 15∧noLocR _=true then _ else none)=_
 rw [if_pos ⟨by decide,by cases k <;> cases a14 <;> rfl⟩]
 simp [bkP,e2,e3,pairT]
include hn h0 h1 hb in
theorem lw_turn {xs:List PyData} (hf:Fr xs) {k a6 a7 a8 a9 a10 a11 a12 a14:Option PyData}:∃ d1 r1 b6 b7 b8 b9 b10 b11 b12 b14 xs',B_p_law2 (ρL sc pk (bkD d0 r0) k l (some (.tp 0)) a6 a7 a8 a9 a10 a11 a12 a14) [xs]=some ((.nx,ρL sc pk (bkD d1 r1) k l (some (.tp 0)) b6 b7 b8 b9 b10 b11 b12 b14),[xs'])∧Bk l d1 r1:=by
 have h20:l.length≤20:=by omega
 obtain ⟨y,x1,i1,e1,ey,my,f1⟩:=L_pick hn h0 h20 hf
 have hy:=hn y my
 obtain ⟨w,x2,e2,f2,w0,w1⟩:=L_next f1 (m:=3) (by decide) (by decide)
 obtain ⟨v,x3,e3,hv,f3⟩:=L_lval f2 hn h0 h20
 obtain ⟨r,x4,e4,hr,f4⟩:=L_anyR hn h0 h20 f3 pk
 obtain ⟨z,hz,z0,e5⟩:∃ z:Int,(z < 2∨y∈ky d0∨y∈ky r0)∧0≤z∧(fIf (fAndT (fTst (fBin notInB (fVar 6) (fBin ixD (fVar 3) (fC (.int 0))))) (fTst (fBin notInB (fVar 6) (fBin ixD (fVar 3) (fC (.int 1)))))) (fSet 7 (fBin modD (fVar 7) (fC (.int 2)))) fNext) (ρL sc pk (bkD d0 r0) k l (some (.tp 0)) (some (.str y)) (some (.int w)) a8 a9 a10 a11 a12 a14) [x2]=some ((.nx,ρL sc pk (bkD d0 r0) k l (some (.tp 0)) (some (.str y)) (some (.int z)) a8 a9 a10 a11 a12 a14),[x2]):=by
  by_cases m1:y∈ky d0
  ·exact ⟨w,.inr (.inl m1),w0,by unfold ρL; simp [ixB0,ixB1,key_look,look_iff,m1]⟩
  ·by_cases m2:y∈ky r0
   ·exact ⟨w,.inr (.inr m2),w0,by unfold ρL; simp [ixB0,ixB1,key_look,look_iff,m1,m2]⟩
   ·exact ⟨w % 2,.inl (by omega),by omega,by unfold ρL; simp [ixB0,ixB1,key_look,look_iff,m1,m2]⟩
 have e6:=L_due h1 hb (w:=z) (y:=y) (v:=v) (r:=r) [x4]
 have lc:=fun (a:Option PyData) (d:PyData)=>lw_clr h1 hb (sc:=sc) (pk:=pk) hy my hv hr hz z0 (k:=k) (a12:=a) (a14:=a14) (xs:=x4) (d:=d)
 have bd:=bk_du hb (w:=z) (y:=y) (v:=v) (r:=r) my hv hr
 have ag:=fun (q:z < 2)=>L_one h1 bd hy hv hr (.inl q) z0 [x4]
 rw [du_du] at ag
 obtain ⟨q1,q2⟩:=dr_du (d0:=d0) (r0:=r0) (w:=z) (y:=y) (v:=v) (r:=r)
 generalize (du z y v r d0 r0).1=d1,(du z y v r d0 r0).2=r1 at e6 bd ag lc q1 q2
 obtain ⟨bl,_,_⟩:=bk_len h1 bd
 have rs:=right_ok [x4] (bk_self bd)
 have s0:(fSet 6 (fBin ixD (fVar 1) (fCall m__law_next (fCons (fVar 5) (fCons (fCB lenD (fCons (fVar 1) fNil)) fNil))))) (ρL sc pk (bkD d0 r0) k l (some (.tp 0)) a6 a7 a8 a9 a10 a11 a12 a14) [xs]=some ((.nx,ρL sc pk (bkD d0 r0) k l (some (.tp 0)) (some (.str y)) a7 a8 a9 a10 a11 a12 a14),[x1]):=by
  unfold ρL; simp [nm_len,e1,ey]
 have s1:(fSet 7 (fCall m__law_next (fCons (fVar 5) (fCons (fC (.int 3)) fNil)))) (ρL sc pk (bkD d0 r0) k l (some (.tp 0)) (some (.str y)) a7 a8 a9 a10 a11 a12 a14) [x1]=some ((.nx,ρL sc pk (bkD d0 r0) k l (some (.tp 0)) (some (.str y)) (some (.int w)) a8 a9 a10 a11 a12 a14),[x2]):=by
  unfold ρL; simp [e2]
 have s3:(fSet 8 (fCall m__law_value (fCons (fVar 5) (fCons (fVar 1) fNil)))) (ρL sc pk (bkD d0 r0) k l (some (.tp 0)) (some (.str y)) (some (.int z)) a8 a9 a10 a11 a12 a14) [x2]=some ((.nx,ρL sc pk (bkD d0 r0) k l (some (.tp 0)) (some (.str y)) (some (.int z)) (some v) a9 a10 a11 a12 a14),[x3]):=by
  unfold ρL; simp [e3]
 have s4:(fSet 9 (fCall m__law_any_recipe (fCons (fVar 5) (fCons (fVar 1) (fCons (fVar 2) fNil))))) (ρL sc pk (bkD d0 r0) k l (some (.tp 0)) (some (.str y)) (some (.int z)) (some v) a9 a10 a11 a12 a14) [x3]=some ((.nx,ρL sc pk (bkD d0 r0) k l (some (.tp 0)) (some (.str y)) (some (.int z)) (some v) (some r) a10 a11 a12 a14),[x4]):=by
  unfold ρL; simp [e4]
 have s5:(fSet 10 (fCall m__law_due (fCons (fVar 7) (fCons (fVar 3) (fCons (fVar 6) (fCons (fVar 8) (fCons (fVar 9) fNil))))))) (ρL sc pk (bkD d0 r0) k l (some (.tp 0)) (some (.str y)) (some (.int z)) (some v) (some r) a10 a11 a12 a14) [x4]=some ((.nx,ρL sc pk (bkD d0 r0) k l (some (.tp 0)) (some (.str y)) (some (.int z)) (some v) (some r) (some (bkD d1 r1)) a11 a12 a14),[x4]):=by
  unfold ρL; simp [e6]
 have s6:(fSet 11 (fSeqD .tuple (fCons (fDctC (fBin ixD (fVar 3) (fC (.int 0)))) (fCons (fDctC (fBin ixD (fVar 3) (fC (.int 1)))) fNil)))) (ρL sc pk (bkD d0 r0) k l (some (.tp 0)) (some (.str y)) (some (.int z)) (some v) (some r) (some (bkD d1 r1)) a11 a12 a14) [x4]=some ((.nx,ρL sc pk (bkD d0 r0) k l (some (.tp 0)) (some (.str y)) (some (.int z)) (some v) (some r) (some (bkD d1 r1)) (some (bkD d0 r0)) a12 a14),[x4]):=by
  unfold ρL; simp [ixB0,ixB1,bkP]
 have s7:(fFor 12 (fRng1 (fC (.int 2))) B_p_law1) (ρL sc pk (bkD d0 r0) k l (some (.tp 0)) (some (.str y)) (some (.int z)) (some v) (some r) (some (bkD d1 r1)) (some (bkD d0 r0)) a12 a14) [x4]=some ((.nx,ρL sc pk (bkD d0 r0) k l (some (.tp 0)) (some (.str y)) (some (.int z)) (some v) (some r) (some (bkD d1 r1)) (some (bkD d0 r0)) (some (.int 1)) a14),[x4]):=by
  have r2:rngOk 2=true:=by decide
  have n2:numsD 0 2=[.int 0,.int 1]:=rfl
  have f0:forL 12 B_p_law1 [.int 0,.int 1] (ρL sc pk (bkD d0 r0) k l (some (.tp 0)) (some (.str y)) (some (.int z)) (some v) (some r) (some (bkD d1 r1)) (some (bkD d0 r0)) a12 a14) [x4]=some ((.nx,ρL sc pk (bkD d0 r0) k l (some (.tp 0)) (some (.str y)) (some (.int z)) (some v) (some r) (some (bkD d1 r1)) (some (bkD d0 r0)) (some (.int 1)) a14),[x4]):=by
   rw [forL_nx (lc a12 (.int 0)),forL_nx (lc (some (.int 0)) (.int 1))]
   rfl
  simp [r2,n2,f0]
 obtain ⟨b14,s8⟩:∃ b14,(fIf (fTst (fBin ltD (fVar 7) (fC (.int 2)))) (fSeq (fSet 14 (fCallOP m__law_one (fCons (fVar 7) (fCons (fVar 10) (fCons (fVar 6) (fCons (fVar 8) (fCons (fVar 9) fNil))))))) (fIf (fNotT (fTru (fCall m__law_right (fCons (fVar 14) (fCons (fVar 10) fNil))))) (fRet (fC (.bool false))) fNext)) fNext) (ρL sc pk (bkD d0 r0) k l (some (.tp 0)) (some (.str y)) (some (.int z)) (some v) (some r) (some (bkD d1 r1)) (some (bkD d0 r0)) (some (.int 1)) a14) [x4]=some ((.nx,ρL sc pk (bkD d0 r0) k l (some (.tp 0)) (some (.str y)) (some (.int z)) (some v) (some r) (some (bkD d1 r1)) (some (bkD d0 r0)) (some (.int 1)) b14),[x4]):=by
  by_cases h2:z < 2
  ·exact ⟨some (bkD d1 r1),by unfold ρL; simp [h2,ag h2,cop,rs]⟩
  ·exact ⟨a14,by unfold ρL; simp [h2]⟩
 have s9:(fIf (fAndT (fTst (fBin inA (fVar 6) (fBin ixD (fVar 3) (fC (.int 0))))) (fNotT (fTru (fCall m__law_right (fCons (fCallOP m_told_with (fCons (fVar 10) (fCons (fVar 6) (fCons (fBin ixA (fBin ixD (fVar 3) (fC (.int 0))) (fVar 6)) fNil)))) (fCons (fVar 3) fNil)))))) (fRet (fC (.bool false))) fNext) (ρL sc pk (bkD d0 r0) k l (some (.tp 0)) (some (.str y)) (some (.int z)) (some v) (some r) (some (bkD d1 r1)) (some (bkD d0 r0)) (some (.int 1)) b14) [x4]=some ((.nx,ρL sc pk (bkD d0 r0) k l (some (.tp 0)) (some (.str y)) (some (.int z)) (some v) (some r) (some (bkD d1 r1)) (some (bkD d0 r0)) (some (.int 1)) b14),[x4]):=by
  by_cases m1:y∈ky d0
  ·obtain ⟨u,hu⟩:=look_some m1
   have et:=L_told bl hy (hb.t.look hu) [x4]
   rw [q1,q2,dr_no (hb.no y m1)] at et
   have er:=right_ok [x4] (ne_ok (back_eq hb.t.nd hu hb.goT) (eq_ok hb.m.nd rfl (fun p hp=>look_nd hb.m.nd hp) hb.goM))
   unfold ρL; simp [ixB0,key_look,hu,et,cop,er]
  ·unfold ρL; simp [ixB0,key_look,look_iff,m1]
 have s10:(fIf (fAndT (fTst (fBin inA (fVar 6) (fBin ixD (fVar 3) (fC (.int 1))))) (fNotT (fTru (fCall m__law_right (fCons (fCallOP m_made_with (fCons (fVar 10) (fCons (fVar 6) (fCons (fBin ixA (fBin ixD (fVar 3) (fC (.int 1))) (fVar 6)) fNil)))) (fCons (fVar 3) fNil)))))) (fRet (fC (.bool false))) fNext) (ρL sc pk (bkD d0 r0) k l (some (.tp 0)) (some (.str y)) (some (.int z)) (some v) (some r) (some (bkD d1 r1)) (some (bkD d0 r0)) (some (.int 1)) b14) [x4]=some ((.nx,ρL sc pk (bkD d0 r0) k l (some (.tp 0)) (some (.str y)) (some (.int z)) (some v) (some r) (some (bkD d1 r1)) (some (bkD d0 r0)) (some (.int 1)) b14),[x4]):=by
  by_cases m1:y∈ky r0
  ·obtain ⟨u,hu⟩:=look_some m1
   have et:=L_made bl hy (hb.m.look hu) [x4]
   rw [q1,q2,dr_no (fun z=>hb.no y z m1)] at et
   have er:=right_ok [x4] (ne_ok (eq_ok hb.t.nd rfl (fun p hp=>look_nd hb.t.nd hp) hb.goT) (back_eq hb.m.nd hu hb.goM))
   unfold ρL; simp [ixB1,key_look,hu,et,cop,er]
  ·unfold ρL; simp [ixB1,key_look,look_iff,m1]
 refine ⟨d1,r1,some (.str y),some (.int z),some v,some r,some (bkD d1 r1),some (bkD d0 r0),some (.int 1),b14,x4,?_,bd⟩
 unfold B_p_law2
 rw [seq_nx s0,seq_nx s1,seq_nx e5,seq_nx s3,seq_nx s4,seq_nx s5,seq_nx s6,seq_nx s7,seq_nx s8,seq_nx s9,seq_nx s10]
 unfold ρL
 simp
end
theorem law_math (ns:List Int) (_:ns.length≤63):∃ T',m_law [.d (.list (ns.map PyData.int))] []=some (.bool true,T'):=by
 obtain ⟨f1,hf1,ef1⟩:=L_feed ns 1 (by decide)
 obtain ⟨r1,f1',e1,_,r10,r11⟩:=L_next hf1 (m:=5) (by decide) (by decide)
 obtain ⟨f0,hf0,ef0⟩:=L_feed ns 0 (by decide)
 obtain ⟨l,f0',e0,hn,nd,hl⟩:=L_names hf0 (m:=4 + r1) (by omega) (by omega)
 obtain ⟨f2,hf2,ef2⟩:=L_feed ns 2 (by decide)
 obtain ⟨r2,f2',e2,_,r20,r21⟩:=L_next hf2 (m:=3) (by decide) (by decide)
 have h0:0 < l.length:=by omega
 have h8:l.length≤8:=by omega
 have dl:(l.drop 1).length=l.length - 1:=by simp
 have dn:∀ x∈l.drop 1,x∈l:=fun x hx=>List.mem_of_mem_drop hx
 obtain ⟨d0,q0,eb,hb'⟩:=L_book (l:=l.drop 1) (fun x hx=>hn x (dn x hx)) (by omega) (by omega) (List.Nodup.sublist (List.drop_sublist 1 l) nd) ns (ba:=3) (by decide) (decide (r2=0))
 have hb:Bk l d0 q0:=hb'.up dn
 have cut:cutL (nm l) (some 1) none=nm (l.drop 1):=by
  rw [cut_drop (by decide) (by rw [nm_len]; omega)]
  simp [nm]
 have o1:∀ ρ:Rho,fOpenC m__law_next m__law_feed (fCons (fVar 0) (fCons (fC (.int 1)) fNil)) (fCons (fC (.int 5)) fNil) (some (.d (scr ns))::ρ) []=some (.d (.int r1),[]):=fun ρ=>openC_ok (ws:=[.d (scr ns),.d (.int 1)]) (ws2:=[.d (.int 5)]) (by simp) (ef1 []) (by simp) rfl e1
 have o0:∀ ρ:Rho,fOpenC m__law_names m__law_feed (fCons (fVar 0) (fCons (fC (.int 0)) fNil)) (fCons (fBin addD (fC (.int 4)) (fOpenC m__law_next m__law_feed (fCons (fVar 0) (fCons (fC (.int 1)) fNil)) (fCons (fC (.int 5)) fNil))) fNil) (some (.d (scr ns))::ρ) []=some (.d (.list (nm l)),[]):=fun ρ=>openC_ok (ws:=[.d (scr ns),.d (.int 0)]) (ws2:=[.d (.int (4 + r1))]) (by simp) (ef0 []) (by simp [o1]) rfl e0
 have o2:∀ ρ:Rho,fOpenC m__law_next m__law_feed (fCons (fVar 0) (fCons (fC (.int 2)) fNil)) (fCons (fC (.int 3)) fNil) (some (.d (scr ns))::ρ) []=some (.d (.int r2),[]):=fun ρ=>openC_ok (ws:=[.d (scr ns),.d (.int 2)]) (ws2:=[.d (.int 3)]) (by simp) (ef2 []) (by simp) rfl e2
 have lp:=for_inv (i:=4) (body:=B_p_law3) (N:=10) (I:=fun _ ρ T=>∃ d r k a6 a7 a8 a9 a10 a11 a12 a14,ρ=ρL (scr ns) (decide (r2=0)) (bkD d r) k l none a6 a7 a8 a9 a10 a11 a12 a14∧T=[]∧Bk l d r) (numsD 0 8) 0 (ρL (scr ns) (decide (r2=0)) (bkD d0 q0) none l none none none none none none none none none) [] (by rw [nums_len]; omega) ⟨d0,q0,none,none,none,none,none,none,none,none,none,rfl,rfl,hb⟩ (fun k d ρ T hd _ hI=>by
  obtain ⟨dd,rr,k,a6,a7,a8,a9,a10,a11,a12,a14,rfl,rfl,hb'⟩:=hI
  obtain ⟨j,rfl,j0,j1⟩:=nums_mem hd
  obtain ⟨xs,hf,ef⟩:=L_feed ns (12 + j) (by omega)
  obtain ⟨d1,r1,b6,b7,b8,b9,b10,b11,b12,b14,xs',e,bd⟩:=lw_turn hn h0 h8 hb' (sc:=scr ns) (pk:=decide (r2=0)) hf (k:=some (.int j)) (a6:=a6) (a7:=a7) (a8:=a8) (a9:=a9) (a10:=a10) (a11:=a11) (a12:=a12) (a14:=a14)
  refine ⟨ρL (scr ns) (decide (r2=0)) (bkD d1 r1) (some (.int j)) l none b6 b7 b8 b9 b10 b11 b12 b14,[],?_,d1,r1,_,_,_,_,_,_,_,_,_,rfl,rfl,bd⟩
  have dp:dropR 0 (ρL (scr ns) (decide (r2=0)) (bkD d1 r1) (some (.int j)) l (some (.tp 0)) b6 b7 b8 b9 b10 b11 b12 b14)=ρL (scr ns) (decide (r2=0)) (bkD d1 r1) (some (.int j)) l none b6 b7 b8 b9 b10 b11 b12 b14:=by
   have dm:∀ a:Option PyData,(a.map W.d).bind (dropW 0)=a.map W.d:=fun a=>by cases a <;> rfl
   unfold ρL dropR
   simp only [List.map_cons,List.map_nil,dm]
   rfl
  have oo:=openO_ok (i:=5) (fr:=B_p_law2) (ρ:=ρL (scr ns) (decide (r2=0)) (bkD dd rr) (some (.int j)) l none a6 a7 a8 a9 a10 a11 a12 a14) e
  rw [dp] at oo
  have ef':=ef []
  unfold B_p_law3
  have st:(ρL (scr ns) (decide (r2=0)) (bkD dd rr) k l none a6 a7 a8 a9 a10 a11 a12 a14).set 4 (some (.d (.int j)))=ρL (scr ns) (decide (r2=0)) (bkD dd rr) (some (.int j)) l none a6 a7 a8 a9 a10 a11 a12 a14:=rfl
  rw [st,ev_openO]
  have ga:fCons (fVar 0) (fCons (fBin addD (fC (.int 12)) (fVar 4)) fNil) (ρL (scr ns) (decide (r2=0)) (bkD dd rr) (some (.int j)) l none a6 a7 a8 a9 a10 a11 a12 a14) []=some ([.d (scr ns),.d (.int (12 + j))],[]):=by
   unfold ρL; simp
  rw [ga,ev_bnd]
  unfold scr at ef' oo ⊢
  rw [ef',ev_bnd,oo])
 obtain ⟨ρ',T',elp,_,_,_,_,_,_,_,_,_,_,_,_,rfl,_⟩:=lp
 refine ⟨[],?_⟩
 have r8:rngOk 8=true:=by decide
 rw [List.drop_one] at cut eb
 rw [p_law_eq,ev_mk]
 simp only [ev_noLocD,ev_noLoc0,if_true]
 show fnEnd (fSeq _ _ [some (.d (scr ns)),none,none,none,none,none,none,none,none,none,none,none,none,none,none] [])=_
 rw [seq_nx (ρ1:=[some (.d (scr ns)),some (.d (.list (nm l))),none,none,none,none,none,none,none,none,none,none,none,none,none]) (T1:=[]) (by rw [ev_set,o0]; rfl)]
 rw [seq_nx (ρ1:=[some (.d (scr ns)),some (.d (.list (nm l))),some (.d (.bool (decide (r2=0)))),none,none,none,none,none,none,none,none,none,none,none,none]) (T1:=[]) (by simp [o2])]
 rw [seq_nx (ρ1:=ρL (scr ns) (decide (r2=0)) (bkD d0 q0) none l none none none none none none none none none) (T1:=[]) (by unfold ρL; simp [cut,eb])]
 have fl:fFor 4 (fRng1 (fC (.int 8))) B_p_law3 (ρL (scr ns) (decide (r2=0)) (bkD d0 q0) none l none none none none none none none none none) []=some ((.nx,ρ'),[]):=by
  simp only [ev_for]
  rw [show fRng1 (fC (.int 8)) (ρL (scr ns) (decide (r2=0)) (bkD d0 q0) none l none none none none none none none none none) []=some (numsD 0 8,[]) by simp [r8]]
  exact elp
 rw [seq_nx fl]
 rfl
end G
namespace G
open PySem PySem.Spec PyProof.Rows L2 D
noncomputable def top (i:Nat):Stmt:=PySem.Challenge.pw_redo_k46_books_told_again.main.body.getD i (.Pass ⟨0,0,0,0⟩)
structure Bi (K:PySem.W.Frag) (mg:Str→Option Value):Prop where
 b_abs:mg (Str.ofString "abs")=none
 b_all:mg (Str.ofString "all")=none
 b_bool:mg (Str.ofString "bool")=none
 b_dict:mg (Str.ofString "dict")=none
 b_int:mg (Str.ofString "int")=none
 b_isinstance:mg (Str.ofString "isinstance")=none
 b_len:mg (Str.ofString "len")=none
 b_list:mg (Str.ofString "list")=none
 b_range:mg (Str.ofString "range")=none
 b_sorted:mg (Str.ofString "sorted")=none
 b_str:mg (Str.ofString "str")=none
 b_sum:mg (Str.ofString "sum")=none
 b_tuple:mg (Str.ofString "tuple")=none
 t_RECIPES_WITHIN:TabK K mg (Str.ofString "RECIPES_WITHIN") [((Str.ofString "say"),0),((Str.ofString "fail"),0),((Str.ofString "want"),1),((Str.ofString "peek"),1),((Str.ofString "when"),2)]
 t_WITHIN:TabK K mg (Str.ofString "WITHIN") [((Str.ofString "many"),1),((Str.ofString "part"),2),((Str.ofString "sum"),2),((Str.ofString "join"),2),((Str.ofString "same"),2),((Str.ofString "less"),2)]
 g_GETTING:TupK K mg (Str.ofString "GETTING") [(Str.ofString "want"),(Str.ofString "peek")]
 c_LETTERS:∃ t,mg (Str.ofString "LETTERS")=some (.str (Str.ofString "abcdefghijklmnopqrstuvwxyz") t)
 c_MOST_DEEP:∃ t,mg (Str.ofString "MOST_DEEP")=some (.int 20 t)
 c_MOST_IN_ROW:∃ t,mg (Str.ofString "MOST_IN_ROW")=some (.int 8 t)
 c_MOST_LETTERS:∃ t,mg (Str.ofString "MOST_LETTERS")=some (.int 8 t)
 c_MOST_NAMES:∃ t,mg (Str.ofString "MOST_NAMES")=some (.int 40 t)
 c_MOST_PARTS:∃ t,mg (Str.ofString "MOST_PARTS")=some (.int 8 t)
 c_MOST_PARTS_IN_ALL:∃ t,mg (Str.ofString "MOST_PARTS_IN_ALL")=some (.int 60 t)
 c_MOST_ROWS:∃ t,mg (Str.ofString "MOST_ROWS")=some (.int 4 t)
 c_MOST_SIGNS:∃ t,mg (Str.ofString "MOST_SIGNS")=some (.int 20 t)
 c_MOST_VALUES:∃ t,mg (Str.ofString "MOST_VALUES")=some (.int 40 t)
 c_MOST_WANTS:∃ t,mg (Str.ofString "MOST_WANTS")=some (.int 12 t)
 c_TEXT_SIGNS:∃ t,mg (Str.ofString "TEXT_SIGNS")=some (.str (Str.ofString "abcdefghijklmnopqrstuvwxyz0123456789-") t)
theorem sc_is_whole:FnScope [Str.ofString "thing"] [Str.ofString "thing"] (defScope (top 8)):=⟨rfl,rfl,rfl,by decide +kernel,rfl,by decide +kernel,by decide +kernel⟩
theorem ok_is_whole {P:Program} {w:World} {K:PySem.W.Frag} {mg:Str→Option Value} {base:Heap} {f:Addr} {fd:FuncData} (B:Bi K mg) (F:Fun K (Str.ofString "is_whole") (Str.ofString "is_whole") (top 8) f fd)  : FnOk P w K mg base CX0 1 f fd [Str.ofString "thing"] (spM K (List.length [Str.ofString "thing"]) (m_is_whole)):=
 dfn F sc_is_whole fun cdv A outer s H E hr=>(dss_one (ds_ret (de_and (de_isi .int B.b_isinstance (de_var 0) B.b_int boot_int) (de_one (de_not (de_isi .bl B.b_isinstance (de_var 0) B.b_bool boot_bool))))))
theorem sc_has_only:FnScope [Str.ofString "text",Str.ofString "signs"] [Str.ofString "text",Str.ofString "signs"] (defScope (top 9)):=⟨rfl,rfl,rfl,by decide +kernel,rfl,by decide +kernel,by decide +kernel⟩
theorem ok_has_only {P:Program} {w:World} {K:PySem.W.Frag} {mg:Str→Option Value} {base:Heap} {f:Addr} {fd:FuncData} (B:Bi K mg) (F:Fun K (Str.ofString "has_only") (Str.ofString "has_only") (top 9) f fd)  : FnOk P w K mg base CX0 1 f fd [Str.ofString "text",Str.ofString "signs"] (spM K (List.length [Str.ofString "text",Str.ofString "signs"]) (m_has_only)):=
 dfn F sc_has_only fun cdv A outer s H E hr=>(dss_one (ds_ret (de_callB c_all rfl B.b_all boot_all (da_cons (de_comp (osc:=defScope (top 9)) (N:=[Str.ofString "text",Str.ofString "signs"]) (N':=[Str.ofString "text",Str.ofString "signs"]) (x:=(Str.ofString "sign")) ⟨rfl,by decide +kernel,by decide +kernel,rfl,by decide +kernel,by decide +kernel,by decide +kernel,by decide +kernel,rfl,by decide +kernel⟩ (di_iter (de_var 0)) (fun C s0 H0 ex=>(de_cmp o_in (de_var 0) (de_var 2))) (fun C s0 H0 ex=>dts_nil)) da_nil))))
theorem sc_is_name:FnScope [Str.ofString "thing"] [Str.ofString "thing"] (defScope (top 10)):=⟨rfl,rfl,rfl,by decide +kernel,rfl,by decide +kernel,by decide +kernel⟩
theorem ok_is_name {P:Program} {w:World} {K:PySem.W.Frag} {mg:Str→Option Value} {base:Heap} {f:Addr} {fd:FuncData} (B:Bi K mg) (F:Fun K (Str.ofString "is_name") (Str.ofString "is_name") (top 10) f fd) (G_has_only:Fn P w K mg base (Str.ofString "has_only") [Str.ofString "text",Str.ofString "signs"] 1 (spM K (List.length [Str.ofString "text",Str.ofString "signs"]) m_has_only)):FnOk P w K mg base CX0 2 f fd [Str.ofString "thing"] (spM K (List.length [Str.ofString "thing"]) (m_is_name)):=
 dfn F sc_is_name fun cdv A outer s H E hr=>(dss_one (ds_ret (de_and (de_isi .str B.b_isinstance (de_var 0) B.b_str boot_str) (de_and (de_chain o_le o_le de_int (de_callB c_len rfl B.b_len boot_len (da_cons (de_var 0) da_nil)) (de_globI rfl B.c_MOST_LETTERS)) (de_one (de_call G_has_only (hr.mono (by omega)) rfl (da_cons (de_var 0) (da_cons (de_globS rfl B.c_LETTERS) da_nil)) (len_cons (len_cons len_nil))))))))
theorem sc_is_single:FnScope [Str.ofString "thing"] [Str.ofString "thing"] (defScope (top 11)):=⟨rfl,rfl,rfl,by decide +kernel,rfl,by decide +kernel,by decide +kernel⟩
theorem ok_is_single {P:Program} {w:World} {K:PySem.W.Frag} {mg:Str→Option Value} {base:Heap} {f:Addr} {fd:FuncData} (B:Bi K mg) (F:Fun K (Str.ofString "is_single") (Str.ofString "is_single") (top 11) f fd) (G_is_whole:Fn P w K mg base (Str.ofString "is_whole") [Str.ofString "thing"] 1 (spM K (List.length [Str.ofString "thing"]) m_is_whole)) (G_has_only:Fn P w K mg base (Str.ofString "has_only") [Str.ofString "text",Str.ofString "signs"] 1 (spM K (List.length [Str.ofString "text",Str.ofString "signs"]) m_has_only)):FnOk P w K mg base CX0 2 f fd [Str.ofString "thing"] (spM K (List.length [Str.ofString "thing"]) (m_is_single)):=
 dfn F sc_is_single fun cdv A outer s H E hr=>(dss_cons (ds_if (dt_tru (de_call G_is_whole (hr.mono (by omega)) rfl (da_cons (de_var 0) da_nil) (len_cons len_nil))) (dss_one (ds_ret (de_cmp o_le (de_callB c_abs rfl B.b_abs boot_abs (da_cons (de_var 0) da_nil)) (de_bin o_pow de_int de_int)))) dss_nil) (dss_one (ds_ret (de_and (de_isi .str B.b_isinstance (de_var 0) B.b_str boot_str) (de_and (de_cmp o_le (de_callB c_len rfl B.b_len boot_len (da_cons (de_var 0) da_nil)) (de_globI rfl B.c_MOST_SIGNS)) (de_one (de_call G_has_only (hr.mono (by omega)) rfl (da_cons (de_var 0) (da_cons (de_globS rfl B.c_TEXT_SIGNS) da_nil)) (len_cons (len_cons len_nil)))))))))
theorem sc_is_built:FnScope [Str.ofString "thing",Str.ofString "rows_left"] [Str.ofString "thing",Str.ofString "rows_left"] (defScope (top 12)):=⟨rfl,rfl,rfl,by decide +kernel,rfl,by decide +kernel,by decide +kernel⟩
theorem ok_is_built {P:Program} {w:World} {K:PySem.W.Frag} {mg:Str→Option Value} {base:Heap} {f:Addr} {fd:FuncData} (n:Nat) (B:Bi K mg) (F:Fun K (Str.ofString "is_built") (Str.ofString "is_built") (top 12) f fd) (G_is_single:Fn P w K mg base (Str.ofString "is_single") [Str.ofString "thing"] 2 (spM K (List.length [Str.ofString "thing"]) m_is_single)) (G_is_built:Fn P w K mg base (Str.ofString "is_built") [Str.ofString "thing",Str.ofString "rows_left"] (2 + n) (spM K (List.length [Str.ofString "thing",Str.ofString "rows_left"]) (m_is_built n))):FnOk P w K mg base CX0 (2 + n + 1) f fd [Str.ofString "thing",Str.ofString "rows_left"] (spM K (List.length [Str.ofString "thing",Str.ofString "rows_left"]) (m_is_built (n + 1))):=
 dfn F sc_is_built fun cdv A outer s H E hr=>(dss_cons (ds_if (dt_not (dt_tru (de_isi .tup B.b_isinstance (de_var 0) B.b_tuple boot_tuple))) (dss_one (ds_ret (de_call G_is_single (hr.mono (by omega)) rfl (da_cons (de_var 0) da_nil) (len_cons len_nil)))) dss_nil) (dss_cons (ds_if (dw_pt (dw_or (dt_cmp o_eq (de_var 1) de_int) (dw_or1 (dt_cmp o_gt (de_callB c_len rfl B.b_len boot_len (da_cons (de_var 0) da_nil)) (de_globI rfl B.c_MOST_PARTS))))) (dss_one (ds_ret de_bl)) dss_nil) (dss_one (ds_ret (de_callB c_all rfl B.b_all boot_all (da_cons (de_comp (osc:=defScope (top 12)) (N:=[Str.ofString "thing",Str.ofString "rows_left"]) (N':=[Str.ofString "thing",Str.ofString "rows_left"]) (x:=(Str.ofString "part")) ⟨rfl,by decide +kernel,by decide +kernel,rfl,by decide +kernel,by decide +kernel,by decide +kernel,by decide +kernel,rfl,by decide +kernel⟩ (di_iter (de_var 0)) (fun C s0 H0 ex=>(de_call G_is_built (hr.mono (by omega)) rfl (da_cons (de_var 0) (da_cons (de_bin o_sub (de_var 2) de_int) da_nil)) (len_cons (len_cons len_nil)))) (fun C s0 H0 ex=>dts_nil)) da_nil))))))
theorem sc_many_of:FnScope [Str.ofString "value"] [Str.ofString "value"] (defScope (top 14)):=⟨rfl,rfl,rfl,by decide +kernel,rfl,by decide +kernel,by decide +kernel⟩
theorem ok_many_of {P:Program} {w:World} {K:PySem.W.Frag} {mg:Str→Option Value} {base:Heap} {f:Addr} {fd:FuncData} (n:Nat) (B:Bi K mg) (F:Fun K (Str.ofString "many_of") (Str.ofString "many_of") (top 14) f fd) (G_many_of:Fn P w K mg base (Str.ofString "many_of") [Str.ofString "value"] (0 + n) (spM K (List.length [Str.ofString "value"]) (m_many_of n))):FnOk P w K mg base CX0 (0 + n + 1) f fd [Str.ofString "value"] (spM K (List.length [Str.ofString "value"]) (m_many_of (n + 1))):=
 dfn F sc_many_of fun cdv A outer s H E hr=>(dss_cons (ds_if (dt_not (dt_tru (de_isi .tup B.b_isinstance (de_var 0) B.b_tuple boot_tuple))) (dss_one (ds_ret de_int)) dss_nil) (dss_one (ds_ret (de_bin o_add de_int (de_callB c_sum rfl B.b_sum boot_sum (da_cons (de_comp (osc:=defScope (top 14)) (N:=[Str.ofString "value"]) (N':=[Str.ofString "value"]) (x:=(Str.ofString "part")) ⟨rfl,by decide +kernel,by decide +kernel,rfl,by decide +kernel,by decide +kernel,by decide +kernel,by decide +kernel,rfl,by decide +kernel⟩ (di_iter (de_var 0)) (fun C s0 H0 ex=>(de_call G_many_of (hr.mono (by omega)) rfl (da_cons (de_var 0) da_nil) (len_cons len_nil))) (fun C s0 H0 ex=>dts_nil)) da_nil))))))
theorem sc_is_value:FnScope [Str.ofString "thing"] [Str.ofString "thing"] (defScope (top 13)):=⟨rfl,rfl,rfl,by decide +kernel,rfl,by decide +kernel,by decide +kernel⟩
theorem ok_is_value {P:Program} {w:World} {K:PySem.W.Frag} {mg:Str→Option Value} {base:Heap} {f:Addr} {fd:FuncData} (B:Bi K mg) (F:Fun K (Str.ofString "is_value") (Str.ofString "is_value") (top 13) f fd) (G_is_built:Fn P w K mg base (Str.ofString "is_built") [Str.ofString "thing",Str.ofString "rows_left"] 27 (spM K (List.length [Str.ofString "thing",Str.ofString "rows_left"]) (m_is_built 25))) (G_many_of:Fn P w K mg base (Str.ofString "many_of") [Str.ofString "value"] 25 (spM K (List.length [Str.ofString "value"]) (m_many_of 25))):FnOk P w K mg base CX0 28 f fd [Str.ofString "thing"] (spM K (List.length [Str.ofString "thing"]) (m_is_value)):=
 dfn F sc_is_value fun cdv A outer s H E hr=>(dss_one (ds_ret (de_and (de_call G_is_built (hr.mono (by omega)) rfl (da_cons (de_var 0) (da_cons (de_globI rfl B.c_MOST_ROWS) da_nil)) (len_cons (len_cons len_nil))) (de_one (de_cmp o_le (de_call G_many_of (hr.mono (by omega)) rfl (da_cons (de_var 0) da_nil) (len_cons len_nil)) (de_globI rfl B.c_MOST_VALUES))))))
theorem sc_is_filled:FnScope [Str.ofString "word",Str.ofString "thing",Str.ofString "many"] [Str.ofString "word",Str.ofString "thing",Str.ofString "many"] (defScope (top 19)):=⟨rfl,rfl,rfl,by decide +kernel,rfl,by decide +kernel,by decide +kernel⟩
theorem ok_is_filled {P:Program} {w:World} {K:PySem.W.Frag} {mg:Str→Option Value} {base:Heap} {f:Addr} {fd:FuncData} (B:Bi K mg) (F:Fun K (Str.ofString "is_filled") (Str.ofString "is_filled") (top 19) f fd) (G_is_value:Fn P w K mg base (Str.ofString "is_value") [Str.ofString "thing"] 28 (spM K (List.length [Str.ofString "thing"]) m_is_value)) (G_is_whole:Fn P w K mg base (Str.ofString "is_whole") [Str.ofString "thing"] 1 (spM K (List.length [Str.ofString "thing"]) m_is_whole)):FnOk P w K mg base CX0 29 f fd [Str.ofString "word",Str.ofString "thing",Str.ofString "many"] (spM K (List.length [Str.ofString "word",Str.ofString "thing",Str.ofString "many"]) (m_is_filled)):=
 dfn F sc_is_filled fun cdv A outer s H E hr=>(dss_cons (ds_if (dt_cmp o_eq (de_var 0) de_str) (dss_one (ds_ret (de_call G_is_value (hr.mono (by omega)) rfl (da_cons (de_var 1) da_nil) (len_cons len_nil)))) dss_nil) (dss_cons (ds_if (dt_cmp o_eq (de_var 0) de_str) (dss_one (ds_ret (de_and (de_call G_is_whole (hr.mono (by omega)) rfl (da_cons (de_var 1) da_nil) (len_cons len_nil)) (de_one (de_chain o_le o_lt de_int (de_var 1) (de_var 2)))))) dss_nil) (dss_one (ds_ret (de_and (de_cmp o_eq (de_var 0) de_str) (de_and (de_isi .tup B.b_isinstance (de_var 1) B.b_tuple boot_tuple) (de_one (de_cmp o_le (de_callB c_len rfl B.b_len boot_len (da_cons (de_var 1) da_nil)) (de_globI rfl B.c_MOST_IN_ROW)))))))))
theorem sc_is_shaped:FnScope [Str.ofString "thing",Str.ofString "many"] [Str.ofString "thing",Str.ofString "many"] (defScope (top 18)):=⟨rfl,rfl,rfl,by decide +kernel,rfl,by decide +kernel,by decide +kernel⟩
theorem ok_is_shaped {P:Program} {w:World} {K:PySem.W.Frag} {mg:Str→Option Value} {base:Heap} {f:Addr} {fd:FuncData} (B:Bi K mg) (F:Fun K (Str.ofString "is_shaped") (Str.ofString "is_shaped") (top 18) f fd) (G_is_filled:Fn P w K mg base (Str.ofString "is_filled") [Str.ofString "word",Str.ofString "thing",Str.ofString "many"] 29 (spM K (List.length [Str.ofString "word",Str.ofString "thing",Str.ofString "many"]) m_is_filled)):FnOk P w K mg base CX0 30 f fd [Str.ofString "thing",Str.ofString "many"] (spM K (List.length [Str.ofString "thing",Str.ofString "many"]) (m_is_shaped)):=
 dfn F sc_is_shaped fun cdv A outer s H E hr=>(dss_cons (ds_if (dw_pt (dw_or (dt_not (dt_tru (de_isi .tup B.b_isinstance (de_var 0) B.b_tuple boot_tuple))) (dw_or (dt_cmp o_lt (de_callB c_len rfl B.b_len boot_len (da_cons (de_var 0) da_nil)) de_int) (dw_or1 (dt_not (dt_tru (de_isi .str B.b_isinstance (de_ix x_seq (de_var 0) de_int) B.b_str boot_str))))))) (dss_one (ds_ret de_bl)) dss_nil) (dss_cons (ds_if (dt_inT B.t_WITHIN rfl (de_ix x_seq (de_var 0) de_int)) (dss_one (ds_ret (de_cmp o_eq (de_callB c_len rfl B.b_len boot_len (da_cons (de_var 0) da_nil)) (de_bin o_add de_int (de_ixT B.t_WITHIN rfl (de_ix x_seq (de_var 0) de_int)))))) dss_nil) (dss_one (ds_ret (de_and (de_cmp o_eq (de_callB c_len rfl B.b_len boot_len (da_cons (de_var 0) da_nil)) de_int) (de_one (de_call G_is_filled (hr.mono (by omega)) rfl (da_cons (de_ix x_seq (de_var 0) de_int) (da_cons (de_ix x_seq (de_var 0) de_int) (da_cons (de_var 1) da_nil))) (len_cons (len_cons (len_cons len_nil))))))))))
theorem sc_exprs_within:FnScope [Str.ofString "expr"] [Str.ofString "expr"] (defScope (top 20)):=⟨rfl,rfl,rfl,by decide +kernel,rfl,by decide +kernel,by decide +kernel⟩
theorem ok_exprs_within {P:Program} {w:World} {K:PySem.W.Frag} {mg:Str→Option Value} {base:Heap} {f:Addr} {fd:FuncData} (B:Bi K mg) (F:Fun K (Str.ofString "exprs_within") (Str.ofString "exprs_within") (top 20) f fd)  : FnOk P w K mg base CX0 1 f fd [Str.ofString "expr"] (spM K (List.length [Str.ofString "expr"]) (m_exprs_within)):=
 dfn F sc_exprs_within fun cdv A outer s H E hr=>(dss_cons (ds_if (dw_pt (dw_or (dt_cmp o_eq (de_ix x_seq (de_var 0) de_int) de_str) (dw_or1 (dt_cmp o_eq (de_ix x_seq (de_var 0) de_int) de_str)))) (dss_one (ds_ret (de_lst da_nil))) dss_nil) (dss_cons (ds_if (dt_cmp o_eq (de_ix x_seq (de_var 0) de_int) de_str) (dss_one (ds_ret (de_callTy c_list rfl B.b_list boot_list (da_cons (de_ix x_seq (de_var 0) de_int) da_nil)))) dss_nil) (dss_one (ds_ret (de_callTy c_list rfl B.b_list boot_list (da_cons (de_sl (de_var 0) (dp_some de_int) dp_none) da_nil))))))
theorem sc_got_behind:FnScope [Str.ofString "word",Str.ofString "got"] [Str.ofString "word",Str.ofString "got"] (defScope (top 32)):=⟨rfl,rfl,rfl,by decide +kernel,rfl,by decide +kernel,by decide +kernel⟩
theorem ok_got_behind {P:Program} {w:World} {K:PySem.W.Frag} {mg:Str→Option Value} {base:Heap} {f:Addr} {fd:FuncData} (B:Bi K mg) (F:Fun K (Str.ofString "got_behind") (Str.ofString "got_behind") (top 32) f fd)  : FnOk P w K mg base CX0 1 f fd [Str.ofString "word",Str.ofString "got"] (spM K (List.length [Str.ofString "word",Str.ofString "got"]) (m_got_behind)):=
 dfn F sc_got_behind fun cdv A outer s H E hr=>(dss_one (ds_ret (de_if (dt_cmp o_in (de_var 0) (de_globU (ss:=[(Str.ofString "want"),(Str.ofString "peek")]) rfl B.g_GETTING)) (de_bin o_add (de_var 1) de_int) (de_var 1))))
theorem sc_places_within:FnScope [Str.ofString "place",Str.ofString "thing",Str.ofString "got",Str.ofString "behind"] [Str.ofString "place"] (defScope (top 31)):=⟨rfl,rfl,rfl,by decide +kernel,rfl,by decide +kernel,by decide +kernel⟩
theorem ok_places_within {P:Program} {w:World} {K:PySem.W.Frag} {mg:Str→Option Value} {base:Heap} {f:Addr} {fd:FuncData} (B:Bi K mg) (F:Fun K (Str.ofString "places_within") (Str.ofString "places_within") (top 31) f fd) (G_exprs_within:Fn P w K mg base (Str.ofString "exprs_within") [Str.ofString "expr"] 1 (spM K (List.length [Str.ofString "expr"]) m_exprs_within)) (G_got_behind:Fn P w K mg base (Str.ofString "got_behind") [Str.ofString "word",Str.ofString "got"] 1 (spM K (List.length [Str.ofString "word",Str.ofString "got"]) m_got_behind)):FnOk P w K mg base CX0 2 f fd [Str.ofString "place"] (spM K (List.length [Str.ofString "place"]) (m_places_within)):=
 dfn F sc_places_within fun cdv A outer s H E hr=>(dss_cons (ds_set (i:=1) sc_places_within.nd (de_ix x_seq (de_var 0) de_int)) (dss_cons (ds_set (i:=2) sc_places_within.nd (de_ix x_seq (de_var 0) de_int)) (dss_cons (ds_if (dt_cmp o_eq (de_ix x_seq (de_var 0) de_int) de_str) (dss_one (ds_ret (de_comp (osc:=defScope (top 31)) (N:=[Str.ofString "place",Str.ofString "thing",Str.ofString "got",Str.ofString "behind"]) (N':=[Str.ofString "place",Str.ofString "thing",Str.ofString "got",Str.ofString "behind"]) (x:=(Str.ofString "part")) ⟨rfl,by decide +kernel,by decide +kernel,rfl,by decide +kernel,by decide +kernel,by decide +kernel,by decide +kernel,rfl,by decide +kernel⟩ (di_iter (de_call G_exprs_within (hr.mono (by omega)) rfl (da_cons (de_var 1) da_nil) (len_cons len_nil))) (fun C s0 H0 ex=>(de_tup (da_cons de_str (da_cons (de_var 0) (da_cons (de_var 3) da_nil))))) (fun C s0 H0 ex=>dts_nil)))) dss_nil) (dss_cons (ds_if (dt_cmp o_eq (de_ix x_seq (de_var 1) de_int) de_str) (dss_one (ds_ret (de_lst da_nil))) dss_nil) (dss_cons (ds_set (i:=3) sc_places_within.nd (de_call G_got_behind (hr.mono (by omega)) rfl (da_cons (de_ix x_seq (de_var 1) de_int) (da_cons (de_var 2) da_nil)) (len_cons (len_cons len_nil)))) (dss_one (ds_ret (de_bin o_add (de_lst (da_cons (de_tup (da_cons de_str (da_cons (de_ix x_seq (de_var 1) de_int) (da_cons (de_var 2) da_nil)))) da_nil)) (de_comp (osc:=defScope (top 31)) (N:=[Str.ofString "place",Str.ofString "thing",Str.ofString "got",Str.ofString "behind"]) (N':=[Str.ofString "place",Str.ofString "thing",Str.ofString "got",Str.ofString "behind"]) (x:=(Str.ofString "part")) ⟨rfl,by decide +kernel,by decide +kernel,rfl,by decide +kernel,by decide +kernel,by decide +kernel,by decide +kernel,rfl,by decide +kernel⟩ (di_iter (de_sl (de_var 1) (dp_some de_int) dp_none)) (fun C s0 H0 ex=>(de_tup (da_cons de_str (da_cons (de_var 0) (da_cons (de_var 4) da_nil))))) (fun C s0 H0 ex=>dts_nil))))))))))
theorem sc_layer_within:FnScope [Str.ofString "layer",Str.ofString "inner",Str.ofString "place"] [Str.ofString "layer"] (defScope (top 30)):=⟨rfl,rfl,rfl,by decide +kernel,rfl,by decide +kernel,by decide +kernel⟩
theorem ok_layer_within {P:Program} {w:World} {K:PySem.W.Frag} {mg:Str→Option Value} {base:Heap} {f:Addr} {fd:FuncData} (B:Bi K mg) (F:Fun K (Str.ofString "layer_within") (Str.ofString "layer_within") (top 30) f fd) (G_places_within:Fn P w K mg base (Str.ofString "places_within") [Str.ofString "place"] 2 (spM K (List.length [Str.ofString "place"]) m_places_within)):FnOk P w K mg base CX0 3 f fd [Str.ofString "layer"] (spM K (List.length [Str.ofString "layer"]) (m_layer_within)):=
 dfn F sc_layer_within fun cdv A outer s H E hr=>(dss_cons (ds_setL (i:=1) sc_layer_within.nd da_nil) (dss_cons (ds_for (i:=2) sc_layer_within.nd (di_iter (de_var 0)) (dss_one (ds_ext (i:=1) (by exact (de_call G_places_within (hr.mono (by omega)) rfl (da_cons (de_var 2) da_nil) (len_cons len_nil)))))) (dss_one (ds_ret (de_var 1)))))
theorem sc_is_recipe_shaped:FnScope [Str.ofString "thing"] [Str.ofString "thing"] (defScope (top 29)):=⟨rfl,rfl,rfl,by decide +kernel,rfl,by decide +kernel,by decide +kernel⟩
theorem ok_is_recipe_shaped {P:Program} {w:World} {K:PySem.W.Frag} {mg:Str→Option Value} {base:Heap} {f:Addr} {fd:FuncData} (B:Bi K mg) (F:Fun K (Str.ofString "is_recipe_shaped") (Str.ofString "is_recipe_shaped") (top 29) f fd) (G_is_name:Fn P w K mg base (Str.ofString "is_name") [Str.ofString "thing"] 2 (spM K (List.length [Str.ofString "thing"]) m_is_name)):FnOk P w K mg base CX0 3 f fd [Str.ofString "thing"] (spM K (List.length [Str.ofString "thing"]) (m_is_recipe_shaped)):=
 dfn F sc_is_recipe_shaped fun cdv A outer s H E hr=>(dss_cons (ds_if (dw_pt (dw_or (dt_not (dt_tru (de_isi .tup B.b_isinstance (de_var 0) B.b_tuple boot_tuple))) (dw_or (dt_cmp o_lt (de_callB c_len rfl B.b_len boot_len (da_cons (de_var 0) da_nil)) de_int) (dw_or1 (dt_not (dt_tru (de_isi .str B.b_isinstance (de_ix x_seq (de_var 0) de_int) B.b_str boot_str))))))) (dss_one (ds_ret de_bl)) dss_nil) (dss_cons (ds_if (dw_pt (dw_or (dt_ninT B.t_RECIPES_WITHIN rfl (de_ix x_seq (de_var 0) de_int)) (dw_or1 (dt_cmp o_ne (de_callB c_len rfl B.b_len boot_len (da_cons (de_var 0) da_nil)) (de_bin o_add de_int (de_ixT B.t_RECIPES_WITHIN rfl (de_ix x_seq (de_var 0) de_int))))))) (dss_one (ds_ret de_bl)) dss_nil) (dss_one (ds_ret (de_or (de_cmp o_ne (de_ix x_seq (de_var 0) de_int) de_str) (de_one (de_call G_is_name (hr.mono (by omega)) rfl (da_cons (de_ix x_seq (de_var 0) de_int) da_nil) (len_cons len_nil))))))))
theorem sc_is_fitting:FnScope [Str.ofString "place"] [Str.ofString "place"] (defScope (top 28)):=⟨rfl,rfl,rfl,by decide +kernel,rfl,by decide +kernel,by decide +kernel⟩
theorem ok_is_fitting {P:Program} {w:World} {K:PySem.W.Frag} {mg:Str→Option Value} {base:Heap} {f:Addr} {fd:FuncData} (B:Bi K mg) (F:Fun K (Str.ofString "is_fitting") (Str.ofString "is_fitting") (top 28) f fd) (G_is_shaped:Fn P w K mg base (Str.ofString "is_shaped") [Str.ofString "thing",Str.ofString "many"] 30 (spM K (List.length [Str.ofString "thing",Str.ofString "many"]) m_is_shaped)) (G_is_recipe_shaped:Fn P w K mg base (Str.ofString "is_recipe_shaped") [Str.ofString "thing"] 3 (spM K (List.length [Str.ofString "thing"]) m_is_recipe_shaped)):FnOk P w K mg base CX0 31 f fd [Str.ofString "place"] (spM K (List.length [Str.ofString "place"]) (m_is_fitting)):=
 dfn F sc_is_fitting fun cdv A outer s H E hr=>(dss_cons (ds_if (dt_cmp o_gt (de_ix x_seq (de_var 0) de_int) (de_globI rfl B.c_MOST_WANTS)) (dss_one (ds_ret de_bl)) dss_nil) (dss_cons (ds_if (dt_cmp o_eq (de_ix x_seq (de_var 0) de_int) de_str) (dss_one (ds_ret (de_call G_is_shaped (hr.mono (by omega)) rfl (da_cons (de_ix x_seq (de_var 0) de_int) (da_cons (de_ix x_seq (de_var 0) de_int) da_nil)) (len_cons (len_cons len_nil))))) dss_nil) (dss_one (ds_ret (de_call G_is_recipe_shaped (hr.mono (by omega)) rfl (da_cons (de_ix x_seq (de_var 0) de_int) da_nil) (len_cons len_nil))))))
theorem sc_is_recipe:FnScope [Str.ofString "thing",Str.ofString "layer",Str.ofString "counted",Str.ofString "above"] [Str.ofString "thing"] (defScope (top 27)):=⟨rfl,rfl,rfl,by decide +kernel,rfl,by decide +kernel,by decide +kernel⟩
theorem ok_is_recipe {P:Program} {w:World} {K:PySem.W.Frag} {mg:Str→Option Value} {base:Heap} {f:Addr} {fd:FuncData} (B:Bi K mg) (F:Fun K (Str.ofString "is_recipe") (Str.ofString "is_recipe") (top 27) f fd) (G_is_fitting:Fn P w K mg base (Str.ofString "is_fitting") [Str.ofString "place"] 31 (spM K (List.length [Str.ofString "place"]) m_is_fitting)) (G_layer_within:Fn P w K mg base (Str.ofString "layer_within") [Str.ofString "layer"] 3 (spM K (List.length [Str.ofString "layer"]) m_layer_within)):FnOk P w K mg base CX0 32 f fd [Str.ofString "thing"] (spM K (List.length [Str.ofString "thing"]) (m_is_recipe)):=
 dfn F sc_is_recipe fun cdv A outer s H E hr=>(dss_cons (ds_set (i:=1) sc_is_recipe.nd (de_lst (da_cons (de_tup (da_cons de_str (da_cons (de_var 0) (da_cons de_int da_nil)))) da_nil))) (dss_cons (ds_set (i:=2) sc_is_recipe.nd de_int) (dss_cons (ds_for (i:=3) sc_is_recipe.nd (di_rng1 rfl B.b_range (de_globI rfl B.c_MOST_DEEP)) (dss_cons (ds_set (i:=2) sc_is_recipe.nd (de_bin o_add (de_var 2) (de_callB c_len rfl B.b_len boot_len (da_cons (de_var 1) da_nil)))) (dss_cons (ds_if (dw_pt (dw_or (dt_cmp o_gt (de_var 2) (de_globI rfl B.c_MOST_PARTS_IN_ALL)) (dw_or1 (dt_not (dt_tru (de_callB c_all rfl B.b_all boot_all (da_cons (de_comp (osc:=defScope (top 27)) (N:=[Str.ofString "thing",Str.ofString "layer",Str.ofString "counted",Str.ofString "above"]) (N':=[Str.ofString "thing",Str.ofString "layer",Str.ofString "counted",Str.ofString "above"]) (x:=(Str.ofString "place")) ⟨rfl,by decide +kernel,by decide +kernel,rfl,by decide +kernel,by decide +kernel,by decide +kernel,by decide +kernel,rfl,by decide +kernel⟩ (di_iter (de_var 1)) (fun C s0 H0 ex=>(de_call G_is_fitting (hr.mono (by omega)) rfl (da_cons (de_var 0) da_nil) (len_cons len_nil))) (fun C s0 H0 ex=>dts_nil)) da_nil))))))) (dss_one (ds_ret de_bl)) dss_nil) (dss_one (ds_set (i:=1) sc_is_recipe.nd (de_call G_layer_within (hr.mono (by omega)) rfl (da_cons (de_var 1) da_nil) (len_cons len_nil))))))) (dss_one (ds_ret (de_cmp o_eq (de_callB c_len rfl B.b_len boot_len (da_cons (de_var 1) da_nil)) de_int))))))
theorem sc_names_of:FnScope [Str.ofString "book"] [Str.ofString "book"] (defScope (top 35)):=⟨rfl,rfl,rfl,by decide +kernel,rfl,by decide +kernel,by decide +kernel⟩
theorem ok_names_of {P:Program} {w:World} {K:PySem.W.Frag} {mg:Str→Option Value} {base:Heap} {f:Addr} {fd:FuncData} (B:Bi K mg) (F:Fun K (Str.ofString "names_of") (Str.ofString "names_of") (top 35) f fd)  : FnOk P w K mg base CX0 1 f fd [Str.ofString "book"] (spM K (List.length [Str.ofString "book"]) (m_names_of)):=
 dfn F sc_names_of fun cdv A outer s H E hr=>(dss_one (ds_ret (de_callB c_sorted rfl B.b_sorted boot_sorted (da_cons (de_bin o_add (de_callTy c_listK rfl B.b_list boot_list (da_cons (de_ix x_seq (de_var 0) de_int) da_nil)) (de_callTy c_listK rfl B.b_list boot_list (da_cons (de_ix x_seq (de_var 0) de_int) da_nil))) da_nil))))
theorem sc_sort_at:FnScope [Str.ofString "book",Str.ofString "name"] [Str.ofString "book",Str.ofString "name"] (defScope (top 36)):=⟨rfl,rfl,rfl,by decide +kernel,rfl,by decide +kernel,by decide +kernel⟩
theorem ok_sort_at {P:Program} {w:World} {K:PySem.W.Frag} {mg:Str→Option Value} {base:Heap} {f:Addr} {fd:FuncData} (B:Bi K mg) (F:Fun K (Str.ofString "sort_at") (Str.ofString "sort_at") (top 36) f fd)  : FnOk P w K mg base CX0 1 f fd [Str.ofString "book",Str.ofString "name"] (spM K (List.length [Str.ofString "book",Str.ofString "name"]) (m_sort_at)):=
 dfn F sc_sort_at fun cdv A outer s H E hr=>(dss_cons (ds_if (dt_cmp (o_inA hr) (de_var 1) (de_ix x_seq (de_var 0) de_int)) (dss_one (ds_ret de_str)) dss_nil) (dss_cons (ds_if (dt_cmp (o_inA hr) (de_var 1) (de_ix x_seq (de_var 0) de_int)) (dss_one (ds_ret de_str)) dss_nil) (dss_one (ds_ret de_str))))
theorem sc_refuse_no_name:FnScope [Str.ofString "thing"] [Str.ofString "thing"] (defScope (top 48)):=⟨rfl,rfl,rfl,by decide +kernel,rfl,by decide +kernel,by decide +kernel⟩
theorem ok_refuse_no_name {P:Program} {w:World} {K:PySem.W.Frag} {mg:Str→Option Value} {base:Heap} {f:Addr} {fd:FuncData} (B:Bi K mg) (F:Fun K (Str.ofString "refuse_no_name") (Str.ofString "refuse_no_name") (top 48) f fd) (G_is_name:Fn P w K mg base (Str.ofString "is_name") [Str.ofString "thing"] 2 (spM K (List.length [Str.ofString "thing"]) m_is_name)):FnOk P w K mg base CX0 3 f fd [Str.ofString "thing"] (spM K (List.length [Str.ofString "thing"]) (m_refuse_no_name)):=
 dfn F sc_refuse_no_name fun cdv A outer s H E hr=>(dss_one (ds_if (dt_not (dt_tru (de_call G_is_name (hr.mono (by omega)) rfl (da_cons (de_var 0) da_nil) (len_cons len_nil)))) (dss_one ds_none) dss_nil))
theorem sc_rest_of:FnScope [Str.ofString "book",Str.ofString "name",Str.ofString "told",Str.ofString "made"] [Str.ofString "book",Str.ofString "name"] (defScope (top 50)):=⟨rfl,rfl,rfl,by decide +kernel,rfl,by decide +kernel,by decide +kernel⟩
theorem ok_rest_of {P:Program} {w:World} {K:PySem.W.Frag} {mg:Str→Option Value} {base:Heap} {f:Addr} {fd:FuncData} (B:Bi K mg) (F:Fun K (Str.ofString "rest_of") (Str.ofString "rest_of") (top 50) f fd)  : FnOk P w K mg base CX0 1 f fd [Str.ofString "book",Str.ofString "name"] (spO K (List.length [Str.ofString "book",Str.ofString "name"]) (m_rest_of)):=
 dfnO F sc_rest_of fun cdv A outer s H E hr=>(dss_cons (ds_setDC (i:=2) B.b_dict sc_rest_of.nd (de_ix x_seq (de_var 0) de_int)) (dss_cons (ds_setDC (i:=3) B.b_dict sc_rest_of.nd (de_ix x_seq (de_var 0) de_int)) (dss_cons (ds_popN (i:=2) (by exact (de_var 1))) (dss_cons (ds_popN (i:=3) (by exact (de_var 1))) (dss_one (ds_retO2 (i:=2) (j:=3)))))))
theorem sc_room_for:FnScope [Str.ofString "book",Str.ofString "name"] [Str.ofString "book",Str.ofString "name"] (defScope (top 49)):=⟨rfl,rfl,rfl,by decide +kernel,rfl,by decide +kernel,by decide +kernel⟩
theorem ok_room_for {P:Program} {w:World} {K:PySem.W.Frag} {mg:Str→Option Value} {base:Heap} {f:Addr} {fd:FuncData} (B:Bi K mg) (F:Fun K (Str.ofString "room_for") (Str.ofString "room_for") (top 49) f fd) (G_sort_at:Fn P w K mg base (Str.ofString "sort_at") [Str.ofString "book",Str.ofString "name"] 1 (spM K (List.length [Str.ofString "book",Str.ofString "name"]) m_sort_at)) (G_names_of:Fn P w K mg base (Str.ofString "names_of") [Str.ofString "book"] 1 (spM K (List.length [Str.ofString "book"]) m_names_of)) (G_rest_of:Fn P w K mg base (Str.ofString "rest_of") [Str.ofString "book",Str.ofString "name"] 1 (spO K (List.length [Str.ofString "book",Str.ofString "name"]) m_rest_of)):FnOk P w K mg base CX0 2 f fd [Str.ofString "book",Str.ofString "name"] (spO K (List.length [Str.ofString "book",Str.ofString "name"]) (m_room_for)):=
 dfnO F sc_room_for fun cdv A outer s H E hr=>(dss_cons (ds_if (dw_pt (dw_and (dt_cmp o_eq (de_call G_sort_at (hr.mono (by omega)) rfl (da_cons (de_var 0) (da_cons (de_var 1) da_nil)) (len_cons (len_cons len_nil))) de_str) (dw_and1 (dt_cmp o_ge (de_callB c_len rfl B.b_len boot_len (da_cons (de_call G_names_of (hr.mono (by omega)) rfl (da_cons (de_var 0) da_nil) (len_cons len_nil)) da_nil)) (de_globI rfl B.c_MOST_NAMES))))) (dss_one ds_none) dss_nil) (dss_one (ds_retOP G_rest_of (hr.mono (by omega)) rfl (da_cons (de_var 0) (da_cons (de_var 1) da_nil)) (len_cons (len_cons len_nil)))))
theorem sc_told_with:FnScope [Str.ofString "book",Str.ofString "name",Str.ofString "value",Str.ofString "rest"] [Str.ofString "book",Str.ofString "name",Str.ofString "value"] (defScope (top 45)):=⟨rfl,rfl,rfl,by decide +kernel,rfl,by decide +kernel,by decide +kernel⟩
theorem ok_told_with {P:Program} {w:World} {K:PySem.W.Frag} {mg:Str→Option Value} {base:Heap} {f:Addr} {fd:FuncData} (B:Bi K mg) (F:Fun K (Str.ofString "told_with") (Str.ofString "told_with") (top 45) f fd) (G_refuse_no_name:Fn P w K mg base (Str.ofString "refuse_no_name") [Str.ofString "thing"] 3 (spM K (List.length [Str.ofString "thing"]) m_refuse_no_name)) (G_is_value:Fn P w K mg base (Str.ofString "is_value") [Str.ofString "thing"] 28 (spM K (List.length [Str.ofString "thing"]) m_is_value)) (G_room_for:Fn P w K mg base (Str.ofString "room_for") [Str.ofString "book",Str.ofString "name"] 2 (spO K (List.length [Str.ofString "book",Str.ofString "name"]) m_room_for)):FnOk P w K mg base CX0 29 f fd [Str.ofString "book",Str.ofString "name",Str.ofString "value"] (spO K (List.length [Str.ofString "book",Str.ofString "name",Str.ofString "value"]) (m_told_with)):=
 dfnO F sc_told_with fun cdv A outer s H E hr=>(dss_cons (ds_drop (de_call G_refuse_no_name (hr.mono (by omega)) rfl (da_cons (de_var 1) da_nil) (len_cons len_nil))) (dss_cons (ds_if (dt_not (dt_tru (de_call G_is_value (hr.mono (by omega)) rfl (da_cons (de_var 2) da_nil) (len_cons len_nil)))) (dss_one ds_none) dss_nil) (dss_ownPut (ix:=3) (b:=false) G_room_for (hr.mono (by omega)) rfl sc_told_with.nd (da_cons (de_var 0) (da_cons (de_var 1) da_nil)) (len_cons (len_cons len_nil)) hr (de_var 1) (de_var 2))))
theorem sc_made_with:FnScope [Str.ofString "book",Str.ofString "name",Str.ofString "recipe",Str.ofString "rest"] [Str.ofString "book",Str.ofString "name",Str.ofString "recipe"] (defScope (top 46)):=⟨rfl,rfl,rfl,by decide +kernel,rfl,by decide +kernel,by decide +kernel⟩
theorem ok_made_with {P:Program} {w:World} {K:PySem.W.Frag} {mg:Str→Option Value} {base:Heap} {f:Addr} {fd:FuncData} (B:Bi K mg) (F:Fun K (Str.ofString "made_with") (Str.ofString "made_with") (top 46) f fd) (G_refuse_no_name:Fn P w K mg base (Str.ofString "refuse_no_name") [Str.ofString "thing"] 3 (spM K (List.length [Str.ofString "thing"]) m_refuse_no_name)) (G_is_recipe:Fn P w K mg base (Str.ofString "is_recipe") [Str.ofString "thing"] 32 (spM K (List.length [Str.ofString "thing"]) m_is_recipe)) (G_room_for:Fn P w K mg base (Str.ofString "room_for") [Str.ofString "book",Str.ofString "name"] 2 (spO K (List.length [Str.ofString "book",Str.ofString "name"]) m_room_for)):FnOk P w K mg base CX0 33 f fd [Str.ofString "book",Str.ofString "name",Str.ofString "recipe"] (spO K (List.length [Str.ofString "book",Str.ofString "name",Str.ofString "recipe"]) (m_made_with)):=
 dfnO F sc_made_with fun cdv A outer s H E hr=>(dss_cons (ds_drop (de_call G_refuse_no_name (hr.mono (by omega)) rfl (da_cons (de_var 1) da_nil) (len_cons len_nil))) (dss_cons (ds_if (dt_not (dt_tru (de_call G_is_recipe (hr.mono (by omega)) rfl (da_cons (de_var 2) da_nil) (len_cons len_nil)))) (dss_one ds_none) dss_nil) (dss_ownPut (ix:=3) (b:=true) G_room_for (hr.mono (by omega)) rfl sc_made_with.nd (da_cons (de_var 0) (da_cons (de_var 1) da_nil)) (len_cons (len_cons len_nil)) hr (de_var 1) (de_var 2))))
theorem sc_without:FnScope [Str.ofString "book",Str.ofString "name"] [Str.ofString "book",Str.ofString "name"] (defScope (top 47)):=⟨rfl,rfl,rfl,by decide +kernel,rfl,by decide +kernel,by decide +kernel⟩
theorem ok_without {P:Program} {w:World} {K:PySem.W.Frag} {mg:Str→Option Value} {base:Heap} {f:Addr} {fd:FuncData} (B:Bi K mg) (F:Fun K (Str.ofString "without") (Str.ofString "without") (top 47) f fd) (G_refuse_no_name:Fn P w K mg base (Str.ofString "refuse_no_name") [Str.ofString "thing"] 3 (spM K (List.length [Str.ofString "thing"]) m_refuse_no_name)) (G_sort_at:Fn P w K mg base (Str.ofString "sort_at") [Str.ofString "book",Str.ofString "name"] 1 (spM K (List.length [Str.ofString "book",Str.ofString "name"]) m_sort_at)) (G_rest_of:Fn P w K mg base (Str.ofString "rest_of") [Str.ofString "book",Str.ofString "name"] 1 (spO K (List.length [Str.ofString "book",Str.ofString "name"]) m_rest_of)):FnOk P w K mg base CX0 4 f fd [Str.ofString "book",Str.ofString "name"] (spO K (List.length [Str.ofString "book",Str.ofString "name"]) (m_without)):=
 dfnO F sc_without fun cdv A outer s H E hr=>(dss_cons (ds_drop (de_call G_refuse_no_name (hr.mono (by omega)) rfl (da_cons (de_var 1) da_nil) (len_cons len_nil))) (dss_cons (ds_if (dt_cmp o_eq (de_call G_sort_at (hr.mono (by omega)) rfl (da_cons (de_var 0) (da_cons (de_var 1) da_nil)) (len_cons (len_cons len_nil))) de_str) (dss_one ds_none) dss_nil) (dss_one (ds_retOP G_rest_of (hr.mono (by omega)) rfl (da_cons (de_var 0) (da_cons (de_var 1) da_nil)) (len_cons (len_cons len_nil))))))
theorem sc__law_feed:FnScope [Str.ofString "_law_script",Str.ofString "_law_k"] [Str.ofString "_law_script",Str.ofString "_law_k"] (defScope (top 52)):=⟨rfl,rfl,rfl,by decide +kernel,rfl,by decide +kernel,by decide +kernel⟩
theorem ok__law_feed {P:Program} {w:World} {K:PySem.W.Frag} {mg:Str→Option Value} {base:Heap} {f:Addr} {fd:FuncData} (B:Bi K mg) (F:Fun K (Str.ofString "_law_feed") (Str.ofString "_law_feed") (top 52) f fd)  : FnOk P w K mg base CX0 1 f fd [Str.ofString "_law_script",Str.ofString "_law_k"] (spO K (List.length [Str.ofString "_law_script",Str.ofString "_law_k"]) (m__law_feed)):=
 dfnO F sc__law_feed fun cdv A outer s H E hr=>(dss_cons (ds_if (dt_cmp o_eq (de_callB c_len rfl B.b_len boot_len (da_cons (de_var 0) da_nil)) de_int) (dss_one (ds_retOL (da_cons de_int (da_cons de_int (da_cons (de_var 1) da_nil))))) dss_nil) (dss_one (ds_retOL (da_cons (de_ix x_seq (de_var 0) (de_bin o_mod (de_var 1) (de_callB c_len rfl B.b_len boot_len (da_cons (de_var 0) da_nil)))) (da_cons de_int (da_cons (de_var 1) da_nil))))))
theorem sc__law_next:FnScope [Str.ofString "_law_feed_here",Str.ofString "_law_many",Str.ofString "_law_digit",Str.ofString "_law_seed"] [Str.ofString "_law_feed_here",Str.ofString "_law_many"] (defScope (top 53)):=⟨rfl,rfl,rfl,by decide +kernel,rfl,by decide +kernel,by decide +kernel⟩
theorem ok__law_next {P:Program} {w:World} {K:PySem.W.Frag} {mg:Str→Option Value} {base:Heap} {f:Addr} {fd:FuncData} (B:Bi K mg) (F:Fun K (Str.ofString "_law_next") (Str.ofString "_law_next") (top 53) f fd)  : FnOk P w K mg base CX0 1 f fd [Str.ofString "_law_feed_here",Str.ofString "_law_many"] (spM K (List.length [Str.ofString "_law_feed_here",Str.ofString "_law_many"]) (m__law_next)):=
 dfn F sc__law_next fun cdv A outer s H E hr=>(dss_cons (ds_put (de_var 0) de_int (de_bin o_add (de_ix x_seq (de_var 0) de_int) de_int)) (dss_cons (ds_if (dt_cmp o_ge (de_ix x_seq (de_var 0) de_int) (de_bin o_pow de_int de_int)) (dss_cons (ds_set (i:=2) sc__law_next.nd (de_bin o_mod (de_ix x_seq (de_var 0) de_int) (de_var 1))) (dss_cons (ds_put (de_var 0) de_int (de_bin o_fdivG (de_ix x_seq (de_var 0) de_int) (de_var 1))) (dss_one (ds_ret (de_var 2))))) dss_nil) (dss_cons (ds_set (i:=3) sc__law_next.nd (de_bin o_add (de_bin o_add (de_bin o_mod (de_ix x_seq (de_var 0) de_int) de_int) (de_bin o_mul de_int (de_ix x_seq (de_var 0) de_int))) (de_bin o_mul de_int (de_ix x_seq (de_var 0) de_int)))) (dss_cons (ds_set (i:=3) sc__law_next.nd (de_bin o_mod (de_bin o_mul (de_bin o_add (de_var 3) de_int) de_int) de_int)) (dss_one (ds_ret (de_bin o_mod (de_bin o_mod (de_bin o_mul (de_bin o_mod (de_bin o_add (de_bin o_mul (de_var 3) de_int) (de_ix x_seq (de_var 0) de_int)) de_int) de_int) de_int) (de_var 1))))))))
theorem sc__law_names:FnScope [Str.ofString "_law_feed_here",Str.ofString "_law_many",Str.ofString "_law_words",Str.ofString "_law_letters",Str.ofString "_law_names_here",Str.ofString "_law_k",Str.ofString "_law_way",Str.ofString "_law_name"] [Str.ofString "_law_feed_here",Str.ofString "_law_many"] (defScope (top 54)):=⟨rfl,rfl,rfl,by decide +kernel,rfl,by decide +kernel,by decide +kernel⟩
theorem ok__law_names {P:Program} {w:World} {K:PySem.W.Frag} {mg:Str→Option Value} {base:Heap} {f:Addr} {fd:FuncData} (B:Bi K mg) (F:Fun K (Str.ofString "_law_names") (Str.ofString "_law_names") (top 54) f fd) (G__law_next:Fn P w K mg base (Str.ofString "_law_next") [Str.ofString "_law_feed_here",Str.ofString "_law_many"] 1 (spM K (List.length [Str.ofString "_law_feed_here",Str.ofString "_law_many"]) m__law_next)):FnOk P w K mg base CX0 2 f fd [Str.ofString "_law_feed_here",Str.ofString "_law_many"] (spM K (List.length [Str.ofString "_law_feed_here",Str.ofString "_law_many"]) (m__law_names)):=
 dfn F sc__law_names fun cdv A outer s H E hr=>(dss_cons (ds_set (i:=2) sc__law_names.nd (de_lst (da_cons de_str (da_cons de_str (da_cons de_str (da_cons de_str (da_cons de_str (da_cons de_str (da_cons de_str (da_cons de_str da_nil)))))))))) (dss_cons (ds_set (i:=3) sc__law_names.nd de_str) (dss_cons (ds_setL (i:=4) sc__law_names.nd da_nil) (dss_cons (ds_for (i:=5) sc__law_names.nd (di_rng1 rfl B.b_range (de_var 1)) (dss_cons (ds_set (i:=6) sc__law_names.nd (de_call G__law_next (hr.mono (by omega)) rfl (da_cons (de_var 0) (da_cons de_int da_nil)) (len_cons (len_cons len_nil)))) (dss_cons (ds_set (i:=7) sc__law_names.nd (de_ix x_seq (de_var 3) (de_call G__law_next (hr.mono (by omega)) rfl (da_cons (de_var 0) (da_cons de_int da_nil)) (len_cons (len_cons len_nil))))) (dss_cons (ds_if (dt_cmp o_eq (de_var 6) de_int) (dss_one (ds_set (i:=7) sc__law_names.nd (de_ix x_seq (de_var 2) (de_call G__law_next (hr.mono (by omega)) rfl (da_cons (de_var 0) (da_cons de_int da_nil)) (len_cons (len_cons len_nil)))))) dss_nil) (dss_cons (ds_if (dw_pt (dw_and (dt_cmp o_eq (de_var 6) de_int) (dw_and1 (dt_cmp o_gt (de_callB c_len rfl B.b_len boot_len (da_cons (de_var 4) da_nil)) de_int)))) (dss_one (ds_set (i:=7) sc__law_names.nd (de_sl (de_bin o_add (de_ix x_seq (de_var 4) (de_neg de_int)) (de_var 7)) dp_none (dp_some de_int)))) dss_nil) (dss_cons (ds_if (dt_cmp o_eq (de_var 6) de_int) (dss_one (ds_set (i:=7) sc__law_names.nd (de_bin o_mul (de_bin o_add (de_var 7) (de_ix x_seq (de_var 3) (de_call G__law_next (hr.mono (by omega)) rfl (da_cons (de_var 0) (da_cons de_int da_nil)) (len_cons (len_cons len_nil))))) de_int))) dss_nil) (dss_cons (ds_if (dt_cmp o_in (de_var 7) (de_var 4)) (dss_one (ds_set (i:=7) sc__law_names.nd (de_ix x_seq (de_comp (osc:=defScope (top 54)) (N:=[Str.ofString "_law_feed_here",Str.ofString "_law_many",Str.ofString "_law_words",Str.ofString "_law_letters",Str.ofString "_law_names_here",Str.ofString "_law_k",Str.ofString "_law_way",Str.ofString "_law_name"]) (N':=[Str.ofString "_law_feed_here",Str.ofString "_law_many",Str.ofString "_law_words",Str.ofString "_law_letters",Str.ofString "_law_names_here",Str.ofString "_law_k",Str.ofString "_law_way",Str.ofString "_law_name"]) (x:=(Str.ofString "_law_letter")) ⟨rfl,by decide +kernel,by decide +kernel,rfl,by decide +kernel,by decide +kernel,by decide +kernel,by decide +kernel,rfl,by decide +kernel⟩ (di_iter (de_var 3)) (fun C s0 H0 ex=>(de_var 0)) (fun C s0 H0 ex=>dts_one rfl (dt_cmp o_notin (de_var 0) (de_var 5)))) de_int))) dss_nil) (dss_one (ds_ins (i:=4) (by exact (de_call G__law_next (hr.mono (by omega)) rfl (da_cons (de_var 0) (da_cons (de_bin o_add (de_callB c_len rfl B.b_len boot_len (da_cons (de_var 4) da_nil)) de_int) da_nil)) (len_cons (len_cons len_nil)))) (by exact (de_var 7))))))))))) (dss_one (ds_ret (de_var 4)))))))
theorem sc__law_value:FnScope [Str.ofString "_law_feed_here",Str.ofString "_law_names_here",Str.ofString "_law_some",Str.ofString "_law_k"] [Str.ofString "_law_feed_here",Str.ofString "_law_names_here"] (defScope (top 55)):=⟨rfl,rfl,rfl,by decide +kernel,rfl,by decide +kernel,by decide +kernel⟩
theorem ok__law_value {P:Program} {w:World} {K:PySem.W.Frag} {mg:Str→Option Value} {base:Heap} {f:Addr} {fd:FuncData} (B:Bi K mg) (F:Fun K (Str.ofString "_law_value") (Str.ofString "_law_value") (top 55) f fd) (G__law_next:Fn P w K mg base (Str.ofString "_law_next") [Str.ofString "_law_feed_here",Str.ofString "_law_many"] 1 (spM K (List.length [Str.ofString "_law_feed_here",Str.ofString "_law_many"]) m__law_next)):FnOk P w K mg base CX0 2 f fd [Str.ofString "_law_feed_here",Str.ofString "_law_names_here"] (spM K (List.length [Str.ofString "_law_feed_here",Str.ofString "_law_names_here"]) (m__law_value)):=
 dfn F sc__law_value fun cdv A outer s H E hr=>(dss_cons (ds_set (i:=2) sc__law_value.nd (de_lst (da_cons de_int (da_cons de_int (da_cons de_str (da_cons (de_tup da_nil) (da_cons de_int (da_cons de_str (da_cons (de_tup (da_cons de_int da_nil)) (da_cons (de_tup (da_cons de_int (da_cons de_str da_nil))) (da_cons (de_neg de_int) (da_cons (de_bin o_pow de_int de_int) (da_cons de_str (da_cons (de_tup (da_cons (de_tup da_nil) (da_cons (de_tup (da_cons de_str (da_cons de_int da_nil))) da_nil))) (da_cons (de_tup (da_cons de_int (da_cons de_int (da_cons de_int da_nil)))) (da_cons (de_bin o_sub de_int (de_bin o_pow de_int de_int)) da_nil)))))))))))))))) (dss_cons (ds_set (i:=3) sc__law_value.nd (de_call G__law_next (hr.mono (by omega)) rfl (da_cons (de_var 0) (da_cons de_int da_nil)) (len_cons (len_cons len_nil)))) (dss_cons (ds_if (dt_cmp o_lt (de_var 3) de_int) (dss_one (ds_ret (de_ix x_seq (de_var 2) (de_var 3)))) dss_nil) (dss_cons (ds_if (dt_cmp o_eq (de_var 3) de_int) (dss_one (ds_ret (de_call G__law_next (hr.mono (by omega)) rfl (da_cons (de_var 0) (da_cons (de_bin o_pow de_int de_int) da_nil)) (len_cons (len_cons len_nil))))) dss_nil) (dss_one (ds_ret (de_ix x_seq (de_var 1) (de_call G__law_next (hr.mono (by omega)) rfl (da_cons (de_var 0) (da_cons (de_callB c_len rfl B.b_len boot_len (da_cons (de_var 1) da_nil)) da_nil)) (len_cons (len_cons len_nil))))))))))
theorem sc__law_expr:FnScope [Str.ofString "_law_feed_here",Str.ofString "_law_got",Str.ofString "_law_names_here",Str.ofString "_law_deep",Str.ofString "_law_way",Str.ofString "_law_one_here",Str.ofString "_law_other"] [Str.ofString "_law_feed_here",Str.ofString "_law_got",Str.ofString "_law_names_here",Str.ofString "_law_deep"] (defScope (top 56)):=⟨rfl,rfl,rfl,by decide +kernel,rfl,by decide +kernel,by decide +kernel⟩
theorem ok__law_expr {P:Program} {w:World} {K:PySem.W.Frag} {mg:Str→Option Value} {base:Heap} {f:Addr} {fd:FuncData} (n:Nat) (B:Bi K mg) (F:Fun K (Str.ofString "_law_expr") (Str.ofString "_law_expr") (top 56) f fd) (G__law_next:Fn P w K mg base (Str.ofString "_law_next") [Str.ofString "_law_feed_here",Str.ofString "_law_many"] 1 (spM K (List.length [Str.ofString "_law_feed_here",Str.ofString "_law_many"]) m__law_next)) (G__law_value:Fn P w K mg base (Str.ofString "_law_value") [Str.ofString "_law_feed_here",Str.ofString "_law_names_here"] 2 (spM K (List.length [Str.ofString "_law_feed_here",Str.ofString "_law_names_here"]) m__law_value)) (G__law_expr:Fn P w K mg base (Str.ofString "_law_expr") [Str.ofString "_law_feed_here",Str.ofString "_law_got",Str.ofString "_law_names_here",Str.ofString "_law_deep"] (2 + n) (spM K (List.length [Str.ofString "_law_feed_here",Str.ofString "_law_got",Str.ofString "_law_names_here",Str.ofString "_law_deep"]) (m__law_expr n))):FnOk P w K mg base CX0 (2 + n + 1) f fd [Str.ofString "_law_feed_here",Str.ofString "_law_got",Str.ofString "_law_names_here",Str.ofString "_law_deep"] (spM K (List.length [Str.ofString "_law_feed_here",Str.ofString "_law_got",Str.ofString "_law_names_here",Str.ofString "_law_deep"]) (m__law_expr (n + 1))):=
 dfn F sc__law_expr fun cdv A outer s H E hr=>(dss_cons (ds_set (i:=4) sc__law_expr.nd (de_call G__law_next (hr.mono (by omega)) rfl (da_cons (de_var 0) (da_cons de_int da_nil)) (len_cons (len_cons len_nil)))) (dss_cons (ds_if (dw_pt (dw_and (dt_cmp o_lt (de_var 4) de_int) (dw_and1 (dt_cmp o_gt (de_var 1) de_int)))) (dss_one (ds_ret (de_tup (da_cons de_str (da_cons (de_call G__law_next (hr.mono (by omega)) rfl (da_cons (de_var 0) (da_cons (de_var 1) da_nil)) (len_cons (len_cons len_nil))) da_nil))))) dss_nil) (dss_cons (ds_if (dw_pt (dw_or (dt_cmp o_eq (de_var 3) de_int) (dw_or1 (dt_cmp o_lt (de_var 4) de_int)))) (dss_one (ds_ret (de_tup (da_cons de_str (da_cons (de_call G__law_value (hr.mono (by omega)) rfl (da_cons (de_var 0) (da_cons (de_var 2) da_nil)) (len_cons (len_cons len_nil))) da_nil))))) dss_nil) (dss_cons (ds_set (i:=5) sc__law_expr.nd (de_call G__law_expr (hr.mono (by omega)) rfl (da_cons (de_var 0) (da_cons (de_var 1) (da_cons (de_var 2) (da_cons (de_bin o_sub (de_var 3) de_int) da_nil)))) (len_cons (len_cons (len_cons (len_cons len_nil)))))) (dss_cons (ds_if (dt_cmp o_eq (de_var 4) de_int) (dss_one (ds_ret (de_tup (da_cons de_str (da_cons (de_var 5) da_nil))))) dss_nil) (dss_cons (ds_set (i:=6) sc__law_expr.nd (de_call G__law_expr (hr.mono (by omega)) rfl (da_cons (de_var 0) (da_cons (de_var 1) (da_cons (de_var 2) (da_cons (de_bin o_sub (de_var 3) de_int) da_nil)))) (len_cons (len_cons (len_cons (len_cons len_nil)))))) (dss_cons (ds_if (dt_cmp o_eq (de_var 4) de_int) (dss_one (ds_ret (de_tup (da_cons de_str (da_cons (de_sl (de_tup (da_cons (de_var 5) (da_cons (de_var 6) da_nil))) dp_none (dp_some (de_call G__law_next (hr.mono (by omega)) rfl (da_cons (de_var 0) (da_cons de_int da_nil)) (len_cons (len_cons len_nil))))) da_nil))))) dss_nil) (dss_one (ds_ret (de_tup (da_cons (de_ix x_seq (de_lst (da_cons de_str (da_cons de_str (da_cons de_str (da_cons de_str (da_cons de_str da_nil)))))) (de_call G__law_next (hr.mono (by omega)) rfl (da_cons (de_var 0) (da_cons de_int da_nil)) (len_cons (len_cons len_nil)))) (da_cons (de_var 5) (da_cons (de_var 6) da_nil)))))))))))))
theorem sc__law_wanted:FnScope [Str.ofString "_law_feed_here",Str.ofString "_law_got",Str.ofString "_law_names_here",Str.ofString "_law_way"] [Str.ofString "_law_feed_here",Str.ofString "_law_got",Str.ofString "_law_names_here"] (defScope (top 57)):=⟨rfl,rfl,rfl,by decide +kernel,rfl,by decide +kernel,by decide +kernel⟩
theorem ok__law_wanted {P:Program} {w:World} {K:PySem.W.Frag} {mg:Str→Option Value} {base:Heap} {f:Addr} {fd:FuncData} (B:Bi K mg) (F:Fun K (Str.ofString "_law_wanted") (Str.ofString "_law_wanted") (top 57) f fd) (G__law_next:Fn P w K mg base (Str.ofString "_law_next") [Str.ofString "_law_feed_here",Str.ofString "_law_many"] 1 (spM K (List.length [Str.ofString "_law_feed_here",Str.ofString "_law_many"]) m__law_next)) (G__law_expr:Fn P w K mg base (Str.ofString "_law_expr") [Str.ofString "_law_feed_here",Str.ofString "_law_got",Str.ofString "_law_names_here",Str.ofString "_law_deep"] 27 (spM K (List.length [Str.ofString "_law_feed_here",Str.ofString "_law_got",Str.ofString "_law_names_here",Str.ofString "_law_deep"]) (m__law_expr 25))):FnOk P w K mg base CX0 28 f fd [Str.ofString "_law_feed_here",Str.ofString "_law_got",Str.ofString "_law_names_here"] (spM K (List.length [Str.ofString "_law_feed_here",Str.ofString "_law_got",Str.ofString "_law_names_here"]) (m__law_wanted)):=
 dfn F sc__law_wanted fun cdv A outer s H E hr=>(dss_cons (ds_set (i:=3) sc__law_wanted.nd (de_call G__law_next (hr.mono (by omega)) rfl (da_cons (de_var 0) (da_cons de_int da_nil)) (len_cons (len_cons len_nil)))) (dss_cons (ds_if (dt_cmp o_lt (de_var 3) de_int) (dss_one (ds_ret (de_tup (da_cons de_str (da_cons (de_ix x_seq (de_var 2) (de_call G__law_next (hr.mono (by omega)) rfl (da_cons (de_var 0) (da_cons (de_callB c_len rfl B.b_len boot_len (da_cons (de_var 2) da_nil)) da_nil)) (len_cons (len_cons len_nil)))) da_nil))))) dss_nil) (dss_cons (ds_if (dt_cmp o_eq (de_var 3) de_int) (dss_one (ds_ret (de_tup (da_cons de_str (da_cons (de_tup (da_cons de_str (da_cons (de_ix x_seq (de_var 2) (de_call G__law_next (hr.mono (by omega)) rfl (da_cons (de_var 0) (da_cons (de_callB c_len rfl B.b_len boot_len (da_cons (de_var 2) da_nil)) da_nil)) (len_cons (len_cons len_nil)))) da_nil))) (da_cons (de_tup (da_cons de_str (da_cons de_str da_nil))) da_nil)))))) dss_nil) (dss_one (ds_ret (de_call G__law_expr (hr.mono (by omega)) rfl (da_cons (de_var 0) (da_cons (de_var 1) (da_cons (de_var 2) (da_cons de_int da_nil)))) (len_cons (len_cons (len_cons (len_cons len_nil))))))))))
theorem sc__law_recipe:FnScope [Str.ofString "_law_feed_here",Str.ofString "_law_got",Str.ofString "_law_names_here",Str.ofString "_law_wants",Str.ofString "_law_whens",Str.ofString "_law_peeks",Str.ofString "_law_way",Str.ofString "_law_word",Str.ofString "_law_one_here",Str.ofString "_law_first"] [Str.ofString "_law_feed_here",Str.ofString "_law_got",Str.ofString "_law_names_here",Str.ofString "_law_wants",Str.ofString "_law_whens",Str.ofString "_law_peeks"] (defScope (top 58)):=⟨rfl,rfl,rfl,by decide +kernel,rfl,by decide +kernel,by decide +kernel⟩
theorem ok__law_recipe {P:Program} {w:World} {K:PySem.W.Frag} {mg:Str→Option Value} {base:Heap} {f:Addr} {fd:FuncData} (n:Nat) (B:Bi K mg) (F:Fun K (Str.ofString "_law_recipe") (Str.ofString "_law_recipe") (top 58) f fd) (G__law_next:Fn P w K mg base (Str.ofString "_law_next") [Str.ofString "_law_feed_here",Str.ofString "_law_many"] 1 (spM K (List.length [Str.ofString "_law_feed_here",Str.ofString "_law_many"]) m__law_next)) (G__law_wanted:Fn P w K mg base (Str.ofString "_law_wanted") [Str.ofString "_law_feed_here",Str.ofString "_law_got",Str.ofString "_law_names_here"] 28 (spM K (List.length [Str.ofString "_law_feed_here",Str.ofString "_law_got",Str.ofString "_law_names_here"]) m__law_wanted)) (G__law_recipe:Fn P w K mg base (Str.ofString "_law_recipe") [Str.ofString "_law_feed_here",Str.ofString "_law_got",Str.ofString "_law_names_here",Str.ofString "_law_wants",Str.ofString "_law_whens",Str.ofString "_law_peeks"] (28 + n) (spM K (List.length [Str.ofString "_law_feed_here",Str.ofString "_law_got",Str.ofString "_law_names_here",Str.ofString "_law_wants",Str.ofString "_law_whens",Str.ofString "_law_peeks"]) (m__law_recipe n))) (G__law_expr:Fn P w K mg base (Str.ofString "_law_expr") [Str.ofString "_law_feed_here",Str.ofString "_law_got",Str.ofString "_law_names_here",Str.ofString "_law_deep"] 27 (spM K (List.length [Str.ofString "_law_feed_here",Str.ofString "_law_got",Str.ofString "_law_names_here",Str.ofString "_law_deep"]) (m__law_expr 25))):FnOk P w K mg base CX0 (28 + n + 1) f fd [Str.ofString "_law_feed_here",Str.ofString "_law_got",Str.ofString "_law_names_here",Str.ofString "_law_wants",Str.ofString "_law_whens",Str.ofString "_law_peeks"] (spM K (List.length [Str.ofString "_law_feed_here",Str.ofString "_law_got",Str.ofString "_law_names_here",Str.ofString "_law_wants",Str.ofString "_law_whens",Str.ofString "_law_peeks"]) (m__law_recipe (n + 1))):=
 dfn F sc__law_recipe fun cdv A outer s H E hr=>(dss_cons (ds_set (i:=6) sc__law_recipe.nd (de_call G__law_next (hr.mono (by omega)) rfl (da_cons (de_var 0) (da_cons de_int da_nil)) (len_cons (len_cons len_nil)))) (dss_cons (ds_if (dw_pt (dw_and (dt_cmp o_lt (de_var 6) de_int) (dw_and1 (dt_cmp o_gt (de_var 3) de_int)))) (dss_cons (ds_set (i:=7) sc__law_recipe.nd (de_if (dw_pt (dw_and (dt_tru (de_var 5)) (dw_and1 (dt_cmp o_eq (de_call G__law_next (hr.mono (by omega)) rfl (da_cons (de_var 0) (da_cons de_int da_nil)) (len_cons (len_cons len_nil))) de_int)))) de_str de_str)) (dss_cons (ds_set (i:=8) sc__law_recipe.nd (de_call G__law_wanted (hr.mono (by omega)) rfl (da_cons (de_var 0) (da_cons (de_var 1) (da_cons (de_var 2) da_nil))) (len_cons (len_cons (len_cons len_nil))))) (dss_one (ds_ret (de_tup (da_cons (de_var 7) (da_cons (de_var 8) (da_cons (de_call G__law_recipe (hr.mono (by omega)) rfl (da_cons (de_var 0) (da_cons (de_bin o_add (de_var 1) de_int) (da_cons (de_var 2) (da_cons (de_bin o_sub (de_var 3) de_int) (da_cons (de_var 4) (da_cons (de_var 5) da_nil)))))) (len_cons (len_cons (len_cons (len_cons (len_cons (len_cons len_nil))))))) da_nil)))))))) dss_nil) (dss_cons (ds_if (dw_pt (dw_and (dt_cmp o_in (de_var 6) (de_tup (da_cons de_int (da_cons de_int da_nil)))) (dw_and1 (dt_cmp o_gt (de_var 4) de_int)))) (dss_cons (ds_set (i:=8) sc__law_recipe.nd (de_call G__law_expr (hr.mono (by omega)) rfl (da_cons (de_var 0) (da_cons (de_var 1) (da_cons (de_var 2) (da_cons de_int da_nil)))) (len_cons (len_cons (len_cons (len_cons len_nil)))))) (dss_cons (ds_set (i:=9) sc__law_recipe.nd (de_call G__law_recipe (hr.mono (by omega)) rfl (da_cons (de_var 0) (da_cons (de_var 1) (da_cons (de_var 2) (da_cons (de_var 3) (da_cons (de_bin o_sub (de_var 4) de_int) (da_cons (de_var 5) da_nil)))))) (len_cons (len_cons (len_cons (len_cons (len_cons (len_cons len_nil)))))))) (dss_one (ds_ret (de_tup (da_cons de_str (da_cons (de_var 8) (da_cons (de_var 9) (da_cons (de_call G__law_recipe (hr.mono (by omega)) rfl (da_cons (de_var 0) (da_cons (de_var 1) (da_cons (de_var 2) (da_cons (de_var 3) (da_cons (de_bin o_sub (de_var 4) de_int) (da_cons (de_var 5) da_nil)))))) (len_cons (len_cons (len_cons (len_cons (len_cons (len_cons len_nil))))))) da_nil))))))))) dss_nil) (dss_cons (ds_if (dw_pt (dw_and (dt_cmp o_eq (de_var 6) de_int) (dw_and1 (dt_cmp o_eq (de_call G__law_next (hr.mono (by omega)) rfl (da_cons (de_var 0) (da_cons de_int da_nil)) (len_cons (len_cons len_nil))) de_int)))) (dss_one (ds_ret (de_tup (da_cons de_str (da_cons (de_ix x_seq (de_var 2) (de_call G__law_next (hr.mono (by omega)) rfl (da_cons (de_var 0) (da_cons (de_callB c_len rfl B.b_len boot_len (da_cons (de_var 2) da_nil)) da_nil)) (len_cons (len_cons len_nil)))) da_nil))))) dss_nil) (dss_one (ds_ret (de_tup (da_cons de_str (da_cons (de_call G__law_expr (hr.mono (by omega)) rfl (da_cons (de_var 0) (da_cons (de_var 1) (da_cons (de_var 2) (da_cons de_int da_nil)))) (len_cons (len_cons (len_cons (len_cons len_nil))))) da_nil)))))))))
theorem sc__law_any_recipe:FnScope [Str.ofString "_law_feed_here",Str.ofString "_law_names_here",Str.ofString "_law_peeks",Str.ofString "_law_wants",Str.ofString "_law_whens"] [Str.ofString "_law_feed_here",Str.ofString "_law_names_here",Str.ofString "_law_peeks"] (defScope (top 59)):=⟨rfl,rfl,rfl,by decide +kernel,rfl,by decide +kernel,by decide +kernel⟩
theorem ok__law_any_recipe {P:Program} {w:World} {K:PySem.W.Frag} {mg:Str→Option Value} {base:Heap} {f:Addr} {fd:FuncData} (B:Bi K mg) (F:Fun K (Str.ofString "_law_any_recipe") (Str.ofString "_law_any_recipe") (top 59) f fd) (G__law_next:Fn P w K mg base (Str.ofString "_law_next") [Str.ofString "_law_feed_here",Str.ofString "_law_many"] 1 (spM K (List.length [Str.ofString "_law_feed_here",Str.ofString "_law_many"]) m__law_next)) (G__law_recipe:Fn P w K mg base (Str.ofString "_law_recipe") [Str.ofString "_law_feed_here",Str.ofString "_law_got",Str.ofString "_law_names_here",Str.ofString "_law_wants",Str.ofString "_law_whens",Str.ofString "_law_peeks"] 53 (spM K (List.length [Str.ofString "_law_feed_here",Str.ofString "_law_got",Str.ofString "_law_names_here",Str.ofString "_law_wants",Str.ofString "_law_whens",Str.ofString "_law_peeks"]) (m__law_recipe 25))):FnOk P w K mg base CX0 54 f fd [Str.ofString "_law_feed_here",Str.ofString "_law_names_here",Str.ofString "_law_peeks"] (spM K (List.length [Str.ofString "_law_feed_here",Str.ofString "_law_names_here",Str.ofString "_law_peeks"]) (m__law_any_recipe)):=
 dfn F sc__law_any_recipe fun cdv A outer s H E hr=>(dss_cons (ds_unp (i:=3) (j:=4) sc__law_any_recipe.nd (de_ix x_seq (de_lst (da_cons (de_tup (da_cons de_int (da_cons de_int da_nil))) (da_cons (de_tup (da_cons de_int (da_cons de_int da_nil))) (da_cons (de_tup (da_cons de_int (da_cons de_int da_nil))) (da_cons (de_tup (da_cons de_int (da_cons de_int da_nil))) (da_cons (de_tup (da_cons de_int (da_cons de_int da_nil))) da_nil)))))) (de_call G__law_next (hr.mono (by omega)) rfl (da_cons (de_var 0) (da_cons de_int da_nil)) (len_cons (len_cons len_nil))))) (dss_one (ds_ret (de_call G__law_recipe (hr.mono (by omega)) rfl (da_cons (de_var 0) (da_cons de_int (da_cons (de_var 1) (da_cons (de_var 3) (da_cons (de_var 4) (da_cons (de_var 2) da_nil)))))) (len_cons (len_cons (len_cons (len_cons (len_cons (len_cons len_nil))))))))))
theorem sc__law_book:FnScope [Str.ofString "_law_script",Str.ofString "_law_base",Str.ofString "_law_names_here",Str.ofString "_law_peeks",Str.ofString "_law_told",Str.ofString "_law_recipes",Str.ofString "_law_k",Str.ofString "_law_feed_here",Str.ofString "_law_way"] [Str.ofString "_law_script",Str.ofString "_law_base",Str.ofString "_law_names_here",Str.ofString "_law_peeks"] (defScope (top 60)):=⟨rfl,rfl,rfl,by decide +kernel,rfl,by decide +kernel,by decide +kernel⟩
theorem ok__law_book {P:Program} {w:World} {K:PySem.W.Frag} {mg:Str→Option Value} {base:Heap} {f:Addr} {fd:FuncData} (B:Bi K mg) (F:Fun K (Str.ofString "_law_book") (Str.ofString "_law_book") (top 60) f fd) (G__law_next:Fn P w K mg base (Str.ofString "_law_next") [Str.ofString "_law_feed_here",Str.ofString "_law_many"] 1 (spM K (List.length [Str.ofString "_law_feed_here",Str.ofString "_law_many"]) m__law_next)) (G__law_value:Fn P w K mg base (Str.ofString "_law_value") [Str.ofString "_law_feed_here",Str.ofString "_law_names_here"] 2 (spM K (List.length [Str.ofString "_law_feed_here",Str.ofString "_law_names_here"]) m__law_value)) (G__law_any_recipe:Fn P w K mg base (Str.ofString "_law_any_recipe") [Str.ofString "_law_feed_here",Str.ofString "_law_names_here",Str.ofString "_law_peeks"] 54 (spM K (List.length [Str.ofString "_law_feed_here",Str.ofString "_law_names_here",Str.ofString "_law_peeks"]) m__law_any_recipe)) (G__law_feed:Fn P w K mg base (Str.ofString "_law_feed") [Str.ofString "_law_script",Str.ofString "_law_k"] 1 (spO K (List.length [Str.ofString "_law_script",Str.ofString "_law_k"]) m__law_feed)):FnOk P w K mg base CX0 55 f fd [Str.ofString "_law_script",Str.ofString "_law_base",Str.ofString "_law_names_here",Str.ofString "_law_peeks"] (spM K (List.length [Str.ofString "_law_script",Str.ofString "_law_base",Str.ofString "_law_names_here",Str.ofString "_law_peeks"]) (m__law_book)):=
 dfn F sc__law_book fun cdv A outer s H E hr=>(dss_cons (ds_setE (i:=4) sc__law_book.nd) (dss_cons (ds_setE (i:=5) sc__law_book.nd) (dss_cons (ds_for (i:=6) sc__law_book.nd (di_rng1 rfl B.b_range (de_callB c_len rfl B.b_len boot_len (da_cons (de_var 2) da_nil))) (dss_openO (i:=7) G__law_feed (hr.mono (by omega)) rfl sc__law_book.nd (da_cons (de_var 0) (da_cons (de_bin o_add (de_var 1) (de_var 6)) da_nil)) (len_cons (len_cons len_nil)) (dss_cons (ds_set (i:=8) sc__law_book.nd (de_call G__law_next (hr.mono (by omega)) rfl (da_cons (de_var 7) (da_cons de_int da_nil)) (len_cons (len_cons len_nil)))) (dss_one (ds_if (dt_cmp o_lt (de_var 8) de_int) (dss_one (ds_putN (i:=4) hr (de_ix x_seq (de_var 2) (de_var 6)) (de_call G__law_value (hr.mono (by omega)) rfl (da_cons (de_var 7) (da_cons (de_var 2) da_nil)) (len_cons (len_cons len_nil))))) (dss_one (ds_if (dt_cmp o_lt (de_var 8) de_int) (dss_one (ds_putN (i:=5) hr (de_ix x_seq (de_var 2) (de_var 6)) (de_call G__law_any_recipe (hr.mono (by omega)) rfl (da_cons (de_var 7) (da_cons (de_var 2) (da_cons (de_var 3) da_nil))) (len_cons (len_cons (len_cons len_nil)))))) dss_nil))))))) (dss_one (ds_ret (de_tup (da_cons (de_var 4) (da_cons (de_var 5) da_nil))))))))
theorem sc__law_less:FnScope [Str.ofString "_law_some",Str.ofString "_law_name"] [Str.ofString "_law_some",Str.ofString "_law_name"] (defScope (top 61)):=⟨rfl,rfl,rfl,by decide +kernel,rfl,by decide +kernel,by decide +kernel⟩
theorem ok__law_less {P:Program} {w:World} {K:PySem.W.Frag} {mg:Str→Option Value} {base:Heap} {f:Addr} {fd:FuncData} (B:Bi K mg) (F:Fun K (Str.ofString "_law_less") (Str.ofString "_law_less") (top 61) f fd)  : FnOk P w K mg base CX0 1 f fd [Str.ofString "_law_some",Str.ofString "_law_name"] (spO K (List.length [Str.ofString "_law_some",Str.ofString "_law_name"]) (m__law_less)):=
 dfnO F sc__law_less fun cdv A outer s H E hr=>(dss_one (ds_retDP B.b_dict (de_comp (osc:=defScope (top 61)) (N:=[Str.ofString "_law_some",Str.ofString "_law_name"]) (N':=[Str.ofString "_law_some",Str.ofString "_law_name"]) (x:=(Str.ofString "_law_other")) ⟨rfl,by decide +kernel,by decide +kernel,rfl,by decide +kernel,by decide +kernel,by decide +kernel,by decide +kernel,rfl,by decide +kernel⟩ (di_iter (de_var 0)) (fun C s0 H0 ex=>(de_tup (da_cons (de_var 0) (da_cons (de_ix (x_any hr) (de_var 1) (de_var 0)) da_nil)))) (fun C s0 H0 ex=>dts_one rfl (dt_cmp o_ne (de_var 0) (de_var 2))))))
theorem sc__law_one:FnScope [Str.ofString "_law_way",Str.ofString "_law_tome",Str.ofString "_law_name",Str.ofString "_law_value_here",Str.ofString "_law_recipe_here"] [Str.ofString "_law_way",Str.ofString "_law_tome",Str.ofString "_law_name",Str.ofString "_law_value_here",Str.ofString "_law_recipe_here"] (defScope (top 62)):=⟨rfl,rfl,rfl,by decide +kernel,rfl,by decide +kernel,by decide +kernel⟩
theorem ok__law_one {P:Program} {w:World} {K:PySem.W.Frag} {mg:Str→Option Value} {base:Heap} {f:Addr} {fd:FuncData} (B:Bi K mg) (F:Fun K (Str.ofString "_law_one") (Str.ofString "_law_one") (top 62) f fd) (G_told_with:Fn P w K mg base (Str.ofString "told_with") [Str.ofString "book",Str.ofString "name",Str.ofString "value"] 29 (spO K (List.length [Str.ofString "book",Str.ofString "name",Str.ofString "value"]) m_told_with)) (G_made_with:Fn P w K mg base (Str.ofString "made_with") [Str.ofString "book",Str.ofString "name",Str.ofString "recipe"] 33 (spO K (List.length [Str.ofString "book",Str.ofString "name",Str.ofString "recipe"]) m_made_with)) (G_without:Fn P w K mg base (Str.ofString "without") [Str.ofString "book",Str.ofString "name"] 4 (spO K (List.length [Str.ofString "book",Str.ofString "name"]) m_without)):FnOk P w K mg base CX0 34 f fd [Str.ofString "_law_way",Str.ofString "_law_tome",Str.ofString "_law_name",Str.ofString "_law_value_here",Str.ofString "_law_recipe_here"] (spO K (List.length [Str.ofString "_law_way",Str.ofString "_law_tome",Str.ofString "_law_name",Str.ofString "_law_value_here",Str.ofString "_law_recipe_here"]) (m__law_one)):=
 dfnO F sc__law_one fun cdv A outer s H E hr=>(dss_cons (ds_if (dt_cmp o_eq (de_var 0) de_int) (dss_one (ds_retOP G_told_with (hr.mono (by omega)) rfl (da_cons (de_var 1) (da_cons (de_var 2) (da_cons (de_var 3) da_nil))) (len_cons (len_cons (len_cons len_nil))))) dss_nil) (dss_cons (ds_if (dt_cmp o_eq (de_var 0) de_int) (dss_one (ds_retOP G_made_with (hr.mono (by omega)) rfl (da_cons (de_var 1) (da_cons (de_var 2) (da_cons (de_var 4) da_nil))) (len_cons (len_cons (len_cons len_nil))))) dss_nil) (dss_one (ds_retOP G_without (hr.mono (by omega)) rfl (da_cons (de_var 1) (da_cons (de_var 2) da_nil)) (len_cons (len_cons len_nil))))))
theorem sc__law_due:FnScope [Str.ofString "_law_way",Str.ofString "_law_tome",Str.ofString "_law_name",Str.ofString "_law_value_here",Str.ofString "_law_recipe_here",Str.ofString "_law_told",Str.ofString "_law_recipes"] [Str.ofString "_law_way",Str.ofString "_law_tome",Str.ofString "_law_name",Str.ofString "_law_value_here",Str.ofString "_law_recipe_here"] (defScope (top 63)):=⟨rfl,rfl,rfl,by decide +kernel,rfl,by decide +kernel,by decide +kernel⟩
theorem ok__law_due {P:Program} {w:World} {K:PySem.W.Frag} {mg:Str→Option Value} {base:Heap} {f:Addr} {fd:FuncData} (B:Bi K mg) (F:Fun K (Str.ofString "_law_due") (Str.ofString "_law_due") (top 63) f fd) (G__law_less:Fn P w K mg base (Str.ofString "_law_less") [Str.ofString "_law_some",Str.ofString "_law_name"] 1 (spO K (List.length [Str.ofString "_law_some",Str.ofString "_law_name"]) m__law_less)):FnOk P w K mg base CX0 2 f fd [Str.ofString "_law_way",Str.ofString "_law_tome",Str.ofString "_law_name",Str.ofString "_law_value_here",Str.ofString "_law_recipe_here"] (spM K (List.length [Str.ofString "_law_way",Str.ofString "_law_tome",Str.ofString "_law_name",Str.ofString "_law_value_here",Str.ofString "_law_recipe_here"]) (m__law_due)):=
 dfn F sc__law_due fun cdv A outer s H E hr=>(dss_cons (ds_setO (i:=5) G__law_less (hr.mono (by omega)) rfl sc__law_due.nd (da_cons (de_ix x_seq (de_var 1) de_int) (da_cons (de_var 2) da_nil)) (len_cons (len_cons len_nil))) (dss_cons (ds_setO (i:=6) G__law_less (hr.mono (by omega)) rfl sc__law_due.nd (da_cons (de_ix x_seq (de_var 1) de_int) (da_cons (de_var 2) da_nil)) (len_cons (len_cons len_nil))) (dss_cons (ds_if (dt_cmp o_eq (de_var 0) de_int) (dss_one (ds_putN (i:=5) hr (de_var 2) (de_var 3))) dss_nil) (dss_cons (ds_if (dt_cmp o_eq (de_var 0) de_int) (dss_one (ds_putN (i:=6) hr (de_var 2) (de_var 4))) dss_nil) (dss_one (ds_ret (de_tup (da_cons (de_var 5) (da_cons (de_var 6) da_nil)))))))))
theorem sc__law_right:FnScope [Str.ofString "_law_found",Str.ofString "_law_due_here"] [Str.ofString "_law_found",Str.ofString "_law_due_here"] (defScope (top 64)):=⟨rfl,rfl,rfl,by decide +kernel,rfl,by decide +kernel,by decide +kernel⟩
theorem ok__law_right {P:Program} {w:World} {K:PySem.W.Frag} {mg:Str→Option Value} {base:Heap} {f:Addr} {fd:FuncData} (B:Bi K mg) (F:Fun K (Str.ofString "_law_right") (Str.ofString "_law_right") (top 64) f fd)  : FnOk P w K mg base CX0 1 f fd [Str.ofString "_law_found",Str.ofString "_law_due_here"] (spM K (List.length [Str.ofString "_law_found",Str.ofString "_law_due_here"]) (m__law_right)):=
 dfn F sc__law_right fun cdv A outer s H E hr=>(dss_cons (ds_if (dw_pt (dw_or (dt_not (dt_tru (de_isi .tup B.b_isinstance (de_var 0) B.b_tuple boot_tuple))) (dw_or1 (dt_cmp (o_neP hr) (de_var 0) (de_var 1))))) (dss_one (ds_ret de_bl)) dss_nil) (dss_one (ds_ret (de_and (de_isi .dct B.b_isinstance (de_ix x_seq (de_var 0) de_int) B.b_dict boot_dict) (de_one (de_isi .dct B.b_isinstance (de_ix x_seq (de_var 0) de_int) B.b_dict boot_dict))))))
theorem sc_law:FnScope [Str.ofString "_law_script",Str.ofString "_law_names_here",Str.ofString "_law_peeks",Str.ofString "_law_tome",Str.ofString "_law_k",Str.ofString "_law_feed_here",Str.ofString "_law_name",Str.ofString "_law_way",Str.ofString "_law_value_here",Str.ofString "_law_recipe_here",Str.ofString "_law_due_here",Str.ofString "_law_handed",Str.ofString "_law_turn",Str.ofString "_law_found",Str.ofString "_law_again"] [Str.ofString "_law_script"] (defScope (top 65)):=⟨rfl,rfl,rfl,by decide +kernel,rfl,by decide +kernel,by decide +kernel⟩
theorem ok_law {P:Program} {w:World} {K:PySem.W.Frag} {mg:Str→Option Value} {base:Heap} {f:Addr} {fd:FuncData} (B:Bi K mg) (F:Fun K (Str.ofString "law") (Str.ofString "law") (top 65) f fd) (G__law_next:Fn P w K mg base (Str.ofString "_law_next") [Str.ofString "_law_feed_here",Str.ofString "_law_many"] 1 (spM K (List.length [Str.ofString "_law_feed_here",Str.ofString "_law_many"]) m__law_next)) (G__law_feed:Fn P w K mg base (Str.ofString "_law_feed") [Str.ofString "_law_script",Str.ofString "_law_k"] 1 (spO K (List.length [Str.ofString "_law_script",Str.ofString "_law_k"]) m__law_feed)) (G__law_names:Fn P w K mg base (Str.ofString "_law_names") [Str.ofString "_law_feed_here",Str.ofString "_law_many"] 2 (spM K (List.length [Str.ofString "_law_feed_here",Str.ofString "_law_many"]) m__law_names)) (G__law_book:Fn P w K mg base (Str.ofString "_law_book") [Str.ofString "_law_script",Str.ofString "_law_base",Str.ofString "_law_names_here",Str.ofString "_law_peeks"] 55 (spM K (List.length [Str.ofString "_law_script",Str.ofString "_law_base",Str.ofString "_law_names_here",Str.ofString "_law_peeks"]) m__law_book)) (G__law_value:Fn P w K mg base (Str.ofString "_law_value") [Str.ofString "_law_feed_here",Str.ofString "_law_names_here"] 2 (spM K (List.length [Str.ofString "_law_feed_here",Str.ofString "_law_names_here"]) m__law_value)) (G__law_any_recipe:Fn P w K mg base (Str.ofString "_law_any_recipe") [Str.ofString "_law_feed_here",Str.ofString "_law_names_here",Str.ofString "_law_peeks"] 54 (spM K (List.length [Str.ofString "_law_feed_here",Str.ofString "_law_names_here",Str.ofString "_law_peeks"]) m__law_any_recipe)) (G__law_due:Fn P w K mg base (Str.ofString "_law_due") [Str.ofString "_law_way",Str.ofString "_law_tome",Str.ofString "_law_name",Str.ofString "_law_value_here",Str.ofString "_law_recipe_here"] 2 (spM K (List.length [Str.ofString "_law_way",Str.ofString "_law_tome",Str.ofString "_law_name",Str.ofString "_law_value_here",Str.ofString "_law_recipe_here"]) m__law_due)) (G__law_right:Fn P w K mg base (Str.ofString "_law_right") [Str.ofString "_law_found",Str.ofString "_law_due_here"] 1 (spM K (List.length [Str.ofString "_law_found",Str.ofString "_law_due_here"]) m__law_right)) (G__law_one:Fn P w K mg base (Str.ofString "_law_one") [Str.ofString "_law_way",Str.ofString "_law_tome",Str.ofString "_law_name",Str.ofString "_law_value_here",Str.ofString "_law_recipe_here"] 34 (spO K (List.length [Str.ofString "_law_way",Str.ofString "_law_tome",Str.ofString "_law_name",Str.ofString "_law_value_here",Str.ofString "_law_recipe_here"]) m__law_one)) (G_told_with:Fn P w K mg base (Str.ofString "told_with") [Str.ofString "book",Str.ofString "name",Str.ofString "value"] 29 (spO K (List.length [Str.ofString "book",Str.ofString "name",Str.ofString "value"]) m_told_with)) (G_made_with:Fn P w K mg base (Str.ofString "made_with") [Str.ofString "book",Str.ofString "name",Str.ofString "recipe"] 33 (spO K (List.length [Str.ofString "book",Str.ofString "name",Str.ofString "recipe"]) m_made_with)):FnOk P w K mg base CX0 56 f fd [Str.ofString "_law_script"] (spM K (List.length [Str.ofString "_law_script"]) (m_law)):=
 dfn F sc_law fun cdv A outer s H E hr=>(dss_cons (ds_set (i:=1) sc_law.nd (de_openC G__law_names G__law_feed (hr.mono (by omega)) (hr.mono (by omega)) rfl rfl (da_cons (de_var 0) (da_cons de_int da_nil)) (len_cons (len_cons len_nil)) (da_cons (de_bin o_add de_int (de_openC G__law_next G__law_feed (hr.mono (by omega)) (hr.mono (by omega)) rfl rfl (da_cons (de_var 0) (da_cons de_int da_nil)) (len_cons (len_cons len_nil)) (da_cons de_int da_nil) (len_cons (len_cons len_nil)))) da_nil) (len_cons (len_cons len_nil)))) (dss_cons (ds_set (i:=2) sc_law.nd (de_cmp o_eq (de_openC G__law_next G__law_feed (hr.mono (by omega)) (hr.mono (by omega)) rfl rfl (da_cons (de_var 0) (da_cons de_int da_nil)) (len_cons (len_cons len_nil)) (da_cons de_int da_nil) (len_cons (len_cons len_nil))) de_int)) (dss_cons (ds_set (i:=3) sc_law.nd (de_call G__law_book (hr.mono (by omega)) rfl (da_cons (de_var 0) (da_cons de_int (da_cons (de_sl (de_var 1) (dp_some de_int) dp_none) (da_cons (de_var 2) da_nil)))) (len_cons (len_cons (len_cons (len_cons len_nil)))))) (dss_cons (ds_for (i:=4) sc_law.nd (di_rng1 rfl B.b_range de_int) (dss_openO (i:=5) G__law_feed (hr.mono (by omega)) rfl sc_law.nd (da_cons (de_var 0) (da_cons (de_bin o_add de_int (de_var 4)) da_nil)) (len_cons (len_cons len_nil)) (dss_cons (ds_set (i:=6) sc_law.nd (de_ix x_seq (de_var 1) (de_call G__law_next (hr.mono (by omega)) rfl (da_cons (de_var 5) (da_cons (de_callB c_len rfl B.b_len boot_len (da_cons (de_var 1) da_nil)) da_nil)) (len_cons (len_cons len_nil))))) (dss_cons (ds_set (i:=7) sc_law.nd (de_call G__law_next (hr.mono (by omega)) rfl (da_cons (de_var 5) (da_cons de_int da_nil)) (len_cons (len_cons len_nil)))) (dss_cons (ds_if (dw_pt (dw_and (dt_cmp (o_notinA hr) (de_var 6) (de_ix x_seq (de_var 3) de_int)) (dw_and1 (dt_cmp (o_notinA hr) (de_var 6) (de_ix x_seq (de_var 3) de_int))))) (dss_one (ds_set (i:=7) sc_law.nd (de_bin o_mod (de_var 7) de_int))) dss_nil) (dss_cons (ds_set (i:=8) sc_law.nd (de_call G__law_value (hr.mono (by omega)) rfl (da_cons (de_var 5) (da_cons (de_var 1) da_nil)) (len_cons (len_cons len_nil)))) (dss_cons (ds_set (i:=9) sc_law.nd (de_call G__law_any_recipe (hr.mono (by omega)) rfl (da_cons (de_var 5) (da_cons (de_var 1) (da_cons (de_var 2) da_nil))) (len_cons (len_cons (len_cons len_nil))))) (dss_cons (ds_set (i:=10) sc_law.nd (de_call G__law_due (hr.mono (by omega)) rfl (da_cons (de_var 7) (da_cons (de_var 3) (da_cons (de_var 6) (da_cons (de_var 8) (da_cons (de_var 9) da_nil))))) (len_cons (len_cons (len_cons (len_cons (len_cons len_nil))))))) (dss_cons (ds_set (i:=11) sc_law.nd (de_tup (da_cons (de_dctC B.b_dict (de_ix x_seq (de_var 3) de_int)) (da_cons (de_dctC B.b_dict (de_ix x_seq (de_var 3) de_int)) da_nil)))) (dss_cons (ds_for (i:=12) sc_law.nd (di_rng1 rfl B.b_range de_int) (dss_pairClr (ix:=13) G__law_one (hr.mono (by omega)) rfl sc_law.nd (da_cons (de_var 7) (da_cons (de_var 11) (da_cons (de_var 6) (da_cons (de_var 8) (da_cons (de_var 9) da_nil))))) (len_cons (len_cons (len_cons (len_cons (len_cons len_nil))))) (dw_pt (dw_or (dt_not (dt_tru (de_call G__law_right (hr.mono (by omega)) rfl (da_cons (de_var 13) (da_cons (de_var 10) da_nil)) (len_cons (len_cons len_nil))))) (dw_or1 (dt_cmp (o_neP hr) (de_var 11) (de_var 3))))) (dss_one (ds_ret de_bl)) dss_nil)) (dss_cons (ds_if (dt_cmp o_lt (de_var 7) de_int) (dss_cons (ds_set (i:=14) sc_law.nd (de_callOP G__law_one (hr.mono (by omega)) rfl (da_cons (de_var 7) (da_cons (de_var 10) (da_cons (de_var 6) (da_cons (de_var 8) (da_cons (de_var 9) da_nil))))) (len_cons (len_cons (len_cons (len_cons (len_cons len_nil))))))) (dss_one (ds_if (dt_not (dt_tru (de_call G__law_right (hr.mono (by omega)) rfl (da_cons (de_var 14) (da_cons (de_var 10) da_nil)) (len_cons (len_cons len_nil))))) (dss_one (ds_ret de_bl)) dss_nil))) dss_nil) (dss_cons (ds_if (dw_pt (dw_and (dt_cmp (o_inA hr) (de_var 6) (de_ix x_seq (de_var 3) de_int)) (dw_and1 (dt_not (dt_tru (de_call G__law_right (hr.mono (by omega)) rfl (da_cons (de_callOP G_told_with (hr.mono (by omega)) rfl (da_cons (de_var 10) (da_cons (de_var 6) (da_cons (de_ix (x_any hr) (de_ix x_seq (de_var 3) de_int) (de_var 6)) da_nil))) (len_cons (len_cons (len_cons len_nil)))) (da_cons (de_var 3) da_nil)) (len_cons (len_cons len_nil)))))))) (dss_one (ds_ret de_bl)) dss_nil) (dss_cons (ds_if (dw_pt (dw_and (dt_cmp (o_inA hr) (de_var 6) (de_ix x_seq (de_var 3) de_int)) (dw_and1 (dt_not (dt_tru (de_call G__law_right (hr.mono (by omega)) rfl (da_cons (de_callOP G_made_with (hr.mono (by omega)) rfl (da_cons (de_var 10) (da_cons (de_var 6) (da_cons (de_ix (x_any hr) (de_ix x_seq (de_var 3) de_int) (de_var 6)) da_nil))) (len_cons (len_cons (len_cons len_nil)))) (da_cons (de_var 3) da_nil)) (len_cons (len_cons len_nil)))))))) (dss_one (ds_ret de_bl)) dss_nil) (dss_one (ds_set (i:=3) sc_law.nd (de_var 10)))))))))))))))) (dss_one (ds_ret de_bl))))))
end G
namespace G
open PySem PySem.Spec PyProof.Rows L2 D
theorem len1 {α:Type} {us:List α} (h:us.length=1):∃ a,us=[a]:=List.length_eq_one_iff.mp h
theorem len2 {α:Type}:∀ {us:List α},us.length=2→∃ a b,us=[a,b]
 | [a,b],_=>⟨a,b,rfl⟩
theorem len3 {α:Type}:∀ {us:List α},us.length=3→∃ a b c,us=[a,b,c]
 | [a,b,c],_=>⟨a,b,c,rfl⟩
theorem len4 {α:Type}:∀ {us:List α},us.length=4→∃ a b c d,us=[a,b,c,d]
 | [a,b,c,d],_=>⟨a,b,c,d,rfl⟩
theorem len5 {α:Type}:∀ {us:List α},us.length=5→∃ a b c d e,us=[a,b,c,d,e]
 | [a,b,c,d,e],_=>⟨a,b,c,d,e,rfl⟩
theorem len6 {α:Type}:∀ {us:List α},us.length=6→∃ a b c d e f,us=[a,b,c,d,e,f]
 | [a,b,c,d,e,f],_=>⟨a,b,c,d,e,f,rfl⟩
theorem all_mk {l:PySem.W.OpenLaw} {w:World} {K:PySem.W.Frag} {h:Heap} {mg:Str→Option Value} {fa:Addr} (X:K.In h) (G:h.Ns mainGlobals mg) (hfa:mg (Str.ofString "law")=some (.ref fa)) (d_is_whole:Df K (Str.ofString "is_whole") (top 8)) (d_has_only:Df K (Str.ofString "has_only") (top 9)) (d_is_name:Df K (Str.ofString "is_name") (top 10)) (d_is_single:Df K (Str.ofString "is_single") (top 11)) (d_is_built:Df K (Str.ofString "is_built") (top 12)) (d_many_of:Df K (Str.ofString "many_of") (top 14)) (d_is_value:Df K (Str.ofString "is_value") (top 13)) (d_is_filled:Df K (Str.ofString "is_filled") (top 19)) (d_is_shaped:Df K (Str.ofString "is_shaped") (top 18)) (d_exprs_within:Df K (Str.ofString "exprs_within") (top 20)) (d_got_behind:Df K (Str.ofString "got_behind") (top 32)) (d_places_within:Df K (Str.ofString "places_within") (top 31)) (d_layer_within:Df K (Str.ofString "layer_within") (top 30)) (d_is_recipe_shaped:Df K (Str.ofString "is_recipe_shaped") (top 29)) (d_is_fitting:Df K (Str.ofString "is_fitting") (top 28)) (d_is_recipe:Df K (Str.ofString "is_recipe") (top 27)) (d_names_of:Df K (Str.ofString "names_of") (top 35)) (d_sort_at:Df K (Str.ofString "sort_at") (top 36)) (d_refuse_no_name:Df K (Str.ofString "refuse_no_name") (top 48)) (d_rest_of:Df K (Str.ofString "rest_of") (top 50)) (d_room_for:Df K (Str.ofString "room_for") (top 49)) (d_told_with:Df K (Str.ofString "told_with") (top 45)) (d_made_with:Df K (Str.ofString "made_with") (top 46)) (d_without:Df K (Str.ofString "without") (top 47)) (d__law_feed:Df K (Str.ofString "_law_feed") (top 52)) (d__law_next:Df K (Str.ofString "_law_next") (top 53)) (d__law_names:Df K (Str.ofString "_law_names") (top 54)) (d__law_value:Df K (Str.ofString "_law_value") (top 55)) (d__law_expr:Df K (Str.ofString "_law_expr") (top 56)) (d__law_wanted:Df K (Str.ofString "_law_wanted") (top 57)) (d__law_recipe:Df K (Str.ofString "_law_recipe") (top 58)) (d__law_any_recipe:Df K (Str.ofString "_law_any_recipe") (top 59)) (d__law_book:Df K (Str.ofString "_law_book") (top 60)) (d__law_less:Df K (Str.ofString "_law_less") (top 61)) (d__law_one:Df K (Str.ofString "_law_one") (top 62)) (d__law_due:Df K (Str.ofString "_law_due") (top 63)) (d__law_right:Df K (Str.ofString "_law_right") (top 64)) (d_law:Df K (Str.ofString "law") (top 65)) (z_abs:PySem.W.nsIn K mainGlobals (Str.ofString "abs")=some none) (z_all:PySem.W.nsIn K mainGlobals (Str.ofString "all")=some none) (z_bool:PySem.W.nsIn K mainGlobals (Str.ofString "bool")=some none) (z_dict:PySem.W.nsIn K mainGlobals (Str.ofString "dict")=some none) (z_int:PySem.W.nsIn K mainGlobals (Str.ofString "int")=some none) (z_isinstance:PySem.W.nsIn K mainGlobals (Str.ofString "isinstance")=some none) (z_len:PySem.W.nsIn K mainGlobals (Str.ofString "len")=some none) (z_list:PySem.W.nsIn K mainGlobals (Str.ofString "list")=some none) (z_range:PySem.W.nsIn K mainGlobals (Str.ofString "range")=some none) (z_sorted:PySem.W.nsIn K mainGlobals (Str.ofString "sorted")=some none) (z_str:PySem.W.nsIn K mainGlobals (Str.ofString "str")=some none) (z_sum:PySem.W.nsIn K mainGlobals (Str.ofString "sum")=some none) (z_tuple:PySem.W.nsIn K mainGlobals (Str.ofString "tuple")=some none) {t_LETTERS:Tok} (y_LETTERS:PySem.W.nsIn K mainGlobals (Str.ofString "LETTERS")=some (some (.str (Str.ofString "abcdefghijklmnopqrstuvwxyz") t_LETTERS))) {t_MOST_DEEP:Tok} (y_MOST_DEEP:PySem.W.nsIn K mainGlobals (Str.ofString "MOST_DEEP")=some (some (.int 20 t_MOST_DEEP))) {t_MOST_IN_ROW:Tok} (y_MOST_IN_ROW:PySem.W.nsIn K mainGlobals (Str.ofString "MOST_IN_ROW")=some (some (.int 8 t_MOST_IN_ROW))) {t_MOST_LETTERS:Tok} (y_MOST_LETTERS:PySem.W.nsIn K mainGlobals (Str.ofString "MOST_LETTERS")=some (some (.int 8 t_MOST_LETTERS))) {t_MOST_NAMES:Tok} (y_MOST_NAMES:PySem.W.nsIn K mainGlobals (Str.ofString "MOST_NAMES")=some (some (.int 40 t_MOST_NAMES))) {t_MOST_PARTS:Tok} (y_MOST_PARTS:PySem.W.nsIn K mainGlobals (Str.ofString "MOST_PARTS")=some (some (.int 8 t_MOST_PARTS))) {t_MOST_PARTS_IN_ALL:Tok} (y_MOST_PARTS_IN_ALL:PySem.W.nsIn K mainGlobals (Str.ofString "MOST_PARTS_IN_ALL")=some (some (.int 60 t_MOST_PARTS_IN_ALL))) {t_MOST_ROWS:Tok} (y_MOST_ROWS:PySem.W.nsIn K mainGlobals (Str.ofString "MOST_ROWS")=some (some (.int 4 t_MOST_ROWS))) {t_MOST_SIGNS:Tok} (y_MOST_SIGNS:PySem.W.nsIn K mainGlobals (Str.ofString "MOST_SIGNS")=some (some (.int 20 t_MOST_SIGNS))) {t_MOST_VALUES:Tok} (y_MOST_VALUES:PySem.W.nsIn K mainGlobals (Str.ofString "MOST_VALUES")=some (some (.int 40 t_MOST_VALUES))) {t_MOST_WANTS:Tok} (y_MOST_WANTS:PySem.W.nsIn K mainGlobals (Str.ofString "MOST_WANTS")=some (some (.int 12 t_MOST_WANTS))) {t_TEXT_SIGNS:Tok} (y_TEXT_SIGNS:PySem.W.nsIn K mainGlobals (Str.ofString "TEXT_SIGNS")=some (some (.str (Str.ofString "abcdefghijklmnopqrstuvwxyz0123456789-") t_TEXT_SIGNS))) {a_RECIPES_WITHIN:Addr} {o_RECIPES_WITHIN:Obj} (u_RECIPES_WITHIN:PySem.W.nsIn K mainGlobals (Str.ofString "RECIPES_WITHIN")=some (some (.ref a_RECIPES_WITHIN))) (l_RECIPES_WITHIN:K.lookup a_RECIPES_WITHIN=some o_RECIPES_WITHIN) (v_RECIPES_WITHIN:tabO a_RECIPES_WITHIN o_RECIPES_WITHIN [((Str.ofString "say"),0),((Str.ofString "fail"),0),((Str.ofString "want"),1),((Str.ofString "peek"),1),((Str.ofString "when"),2)]=true) {a_WITHIN:Addr} {o_WITHIN:Obj} (u_WITHIN:PySem.W.nsIn K mainGlobals (Str.ofString "WITHIN")=some (some (.ref a_WITHIN))) (l_WITHIN:K.lookup a_WITHIN=some o_WITHIN) (v_WITHIN:tabO a_WITHIN o_WITHIN [((Str.ofString "many"),1),((Str.ofString "part"),2),((Str.ofString "sum"),2),((Str.ofString "join"),2),((Str.ofString "same"),2),((Str.ofString "less"),2)]=true) {a_GETTING:Addr} {o_GETTING:Obj} (u_GETTING:PySem.W.nsIn K mainGlobals (Str.ofString "GETTING")=some (some (.ref a_GETTING))) (l_GETTING:K.lookup a_GETTING=some o_GETTING) (v_GETTING:tupO o_GETTING [(Str.ofString "want"),(Str.ofString "peek")]=true)
  (hm:∀ ns:List Int,ns.length≤63→∃ T',m_law [.d (script ns)] []=some (.bool true,T')) :
  ∃ fd:FuncData,(∀ (s:Shared) (v:Value),BindsTo s fd ⟨[v],[]⟩ [((Str.ofString "_law_script"),v)])∧∀ base:Heap,K.In base→base.Ns mainGlobals mg→FnOk l.prog w K mg base CX0 56 fa fd [Str.ofString "_law_script"] (spLaw K):=by
 have B:Bi K mg:=⟨PySem.W.mg_none_of X G z_abs,PySem.W.mg_none_of X G z_all,PySem.W.mg_none_of X G z_bool,PySem.W.mg_none_of X G z_dict,PySem.W.mg_none_of X G z_int,PySem.W.mg_none_of X G z_isinstance,PySem.W.mg_none_of X G z_len,PySem.W.mg_none_of X G z_list,PySem.W.mg_none_of X G z_range,PySem.W.mg_none_of X G z_sorted,PySem.W.mg_none_of X G z_str,PySem.W.mg_none_of X G z_sum,PySem.W.mg_none_of X G z_tuple,⟨_,PySem.W.mg_of X G u_RECIPES_WITHIN,tabO_look l_RECIPES_WITHIN v_RECIPES_WITHIN⟩,⟨_,PySem.W.mg_of X G u_WITHIN,tabO_look l_WITHIN v_WITHIN⟩,⟨_,PySem.W.mg_of X G u_GETTING,tupO_look l_GETTING v_GETTING⟩,⟨_,PySem.W.mg_of X G y_LETTERS⟩,⟨_,PySem.W.mg_of X G y_MOST_DEEP⟩,⟨_,PySem.W.mg_of X G y_MOST_IN_ROW⟩,⟨_,PySem.W.mg_of X G y_MOST_LETTERS⟩,⟨_,PySem.W.mg_of X G y_MOST_NAMES⟩,⟨_,PySem.W.mg_of X G y_MOST_PARTS⟩,⟨_,PySem.W.mg_of X G y_MOST_PARTS_IN_ALL⟩,⟨_,PySem.W.mg_of X G y_MOST_ROWS⟩,⟨_,PySem.W.mg_of X G y_MOST_SIGNS⟩,⟨_,PySem.W.mg_of X G y_MOST_VALUES⟩,⟨_,PySem.W.mg_of X G y_MOST_WANTS⟩,⟨_,PySem.W.mg_of X G y_TEXT_SIGNS⟩⟩
 obtain ⟨f0,oc,od,an,sl,kV,dc,pm,cd,ct,a,lk,c,kp⟩:=d_law.ex
 have e:=hfa.symm.trans (PySem.W.mg_of X G a)
 cases e
 have FL:=fun_mk (st:=top 65) lk c kp
 refine ⟨PySem.W.fnOf (Str.ofString "law") (Str.ofString "law") (defArgs (top 65)) (defBody (top 65)) (defScope (top 65)) .none kV dc pm an cd ct,fun s v=>.of_eq rfl,fun base _ _=>?_⟩
 have G_is_whole:Fn l.prog w K mg base (Str.ofString "is_whole") [Str.ofString "thing"] 1 (spM K (List.length [Str.ofString "thing"]) m_is_whole):=d_is_whole.fn X G (fun _ _ _ _ _ _ us hl=>by obtain ⟨a0,rfl⟩:=len1 hl; rfl) fun f fd F=>ok_is_whole B F
 have G_has_only:Fn l.prog w K mg base (Str.ofString "has_only") [Str.ofString "text",Str.ofString "signs"] 1 (spM K (List.length [Str.ofString "text",Str.ofString "signs"]) m_has_only):=d_has_only.fn X G (fun _ _ _ _ _ _ us hl=>by obtain ⟨a0,a1,rfl⟩:=len2 hl; rfl) fun f fd F=>ok_has_only B F
 have G_is_name:Fn l.prog w K mg base (Str.ofString "is_name") [Str.ofString "thing"] 2 (spM K (List.length [Str.ofString "thing"]) m_is_name):=d_is_name.fn X G (fun _ _ _ _ _ _ us hl=>by obtain ⟨a0,rfl⟩:=len1 hl; rfl) fun f fd F=>ok_is_name B F G_has_only
 have G_is_single:Fn l.prog w K mg base (Str.ofString "is_single") [Str.ofString "thing"] 2 (spM K (List.length [Str.ofString "thing"]) m_is_single):=d_is_single.fn X G (fun _ _ _ _ _ _ us hl=>by obtain ⟨a0,rfl⟩:=len1 hl; rfl) fun f fd F=>ok_is_single B F G_is_whole G_has_only
 have R_is_built:∀ n:Nat,Fn l.prog w K mg base (Str.ofString "is_built") [Str.ofString "thing",Str.ofString "rows_left"] (2 + n) (spM K (List.length [Str.ofString "thing",Str.ofString "rows_left"]) (m_is_built n)):=by
  intro n
  induction n with
  | zero=>exact d_is_built.fn X G (fun _ _ _ _ _ _ us hl=>by obtain ⟨a0,a1,rfl⟩:=len2 hl; rfl) fun f fd F=>fn_none
  | succ n ih=>exact d_is_built.fn X G (fun _ _ _ _ _ _ us hl=>by obtain ⟨a0,a1,rfl⟩:=len2 hl; rfl) fun f fd F=>ok_is_built n B F G_is_single ih
 have G_is_built:=R_is_built 25
 have R_many_of:∀ n:Nat,Fn l.prog w K mg base (Str.ofString "many_of") [Str.ofString "value"] (0 + n) (spM K (List.length [Str.ofString "value"]) (m_many_of n)):=by
  intro n
  induction n with
  | zero=>exact d_many_of.fn X G (fun _ _ _ _ _ _ us hl=>by obtain ⟨a0,rfl⟩:=len1 hl; rfl) fun f fd F=>fn_none
  | succ n ih=>exact d_many_of.fn X G (fun _ _ _ _ _ _ us hl=>by obtain ⟨a0,rfl⟩:=len1 hl; rfl) fun f fd F=>ok_many_of n B F ih
 have G_many_of:=R_many_of 25
 have G_is_value:Fn l.prog w K mg base (Str.ofString "is_value") [Str.ofString "thing"] 28 (spM K (List.length [Str.ofString "thing"]) m_is_value):=d_is_value.fn X G (fun _ _ _ _ _ _ us hl=>by obtain ⟨a0,rfl⟩:=len1 hl; rfl) fun f fd F=>ok_is_value B F G_is_built G_many_of
 have G_is_filled:Fn l.prog w K mg base (Str.ofString "is_filled") [Str.ofString "word",Str.ofString "thing",Str.ofString "many"] 29 (spM K (List.length [Str.ofString "word",Str.ofString "thing",Str.ofString "many"]) m_is_filled):=d_is_filled.fn X G (fun _ _ _ _ _ _ us hl=>by obtain ⟨a0,a1,a2,rfl⟩:=len3 hl; rfl) fun f fd F=>ok_is_filled B F G_is_value G_is_whole
 have G_is_shaped:Fn l.prog w K mg base (Str.ofString "is_shaped") [Str.ofString "thing",Str.ofString "many"] 30 (spM K (List.length [Str.ofString "thing",Str.ofString "many"]) m_is_shaped):=d_is_shaped.fn X G (fun _ _ _ _ _ _ us hl=>by obtain ⟨a0,a1,rfl⟩:=len2 hl; rfl) fun f fd F=>ok_is_shaped B F G_is_filled
 have G_exprs_within:Fn l.prog w K mg base (Str.ofString "exprs_within") [Str.ofString "expr"] 1 (spM K (List.length [Str.ofString "expr"]) m_exprs_within):=d_exprs_within.fn X G (fun _ _ _ _ _ _ us hl=>by obtain ⟨a0,rfl⟩:=len1 hl; rfl) fun f fd F=>ok_exprs_within B F
 have G_got_behind:Fn l.prog w K mg base (Str.ofString "got_behind") [Str.ofString "word",Str.ofString "got"] 1 (spM K (List.length [Str.ofString "word",Str.ofString "got"]) m_got_behind):=d_got_behind.fn X G (fun _ _ _ _ _ _ us hl=>by obtain ⟨a0,a1,rfl⟩:=len2 hl; rfl) fun f fd F=>ok_got_behind B F
 have G_places_within:Fn l.prog w K mg base (Str.ofString "places_within") [Str.ofString "place"] 2 (spM K (List.length [Str.ofString "place"]) m_places_within):=d_places_within.fn X G (fun _ _ _ _ _ _ us hl=>by obtain ⟨a0,rfl⟩:=len1 hl; rfl) fun f fd F=>ok_places_within B F G_exprs_within G_got_behind
 have G_layer_within:Fn l.prog w K mg base (Str.ofString "layer_within") [Str.ofString "layer"] 3 (spM K (List.length [Str.ofString "layer"]) m_layer_within):=d_layer_within.fn X G (fun _ _ _ _ _ _ us hl=>by obtain ⟨a0,rfl⟩:=len1 hl; rfl) fun f fd F=>ok_layer_within B F G_places_within
 have G_is_recipe_shaped:Fn l.prog w K mg base (Str.ofString "is_recipe_shaped") [Str.ofString "thing"] 3 (spM K (List.length [Str.ofString "thing"]) m_is_recipe_shaped):=d_is_recipe_shaped.fn X G (fun _ _ _ _ _ _ us hl=>by obtain ⟨a0,rfl⟩:=len1 hl; rfl) fun f fd F=>ok_is_recipe_shaped B F G_is_name
 have G_is_fitting:Fn l.prog w K mg base (Str.ofString "is_fitting") [Str.ofString "place"] 31 (spM K (List.length [Str.ofString "place"]) m_is_fitting):=d_is_fitting.fn X G (fun _ _ _ _ _ _ us hl=>by obtain ⟨a0,rfl⟩:=len1 hl; rfl) fun f fd F=>ok_is_fitting B F G_is_shaped G_is_recipe_shaped
 have G_is_recipe:Fn l.prog w K mg base (Str.ofString "is_recipe") [Str.ofString "thing"] 32 (spM K (List.length [Str.ofString "thing"]) m_is_recipe):=d_is_recipe.fn X G (fun _ _ _ _ _ _ us hl=>by obtain ⟨a0,rfl⟩:=len1 hl; rfl) fun f fd F=>ok_is_recipe B F G_is_fitting G_layer_within
 have G_names_of:Fn l.prog w K mg base (Str.ofString "names_of") [Str.ofString "book"] 1 (spM K (List.length [Str.ofString "book"]) m_names_of):=d_names_of.fn X G (fun _ _ _ _ _ _ us hl=>by obtain ⟨a0,rfl⟩:=len1 hl; rfl) fun f fd F=>ok_names_of B F
 have G_sort_at:Fn l.prog w K mg base (Str.ofString "sort_at") [Str.ofString "book",Str.ofString "name"] 1 (spM K (List.length [Str.ofString "book",Str.ofString "name"]) m_sort_at):=d_sort_at.fn X G (fun _ _ _ _ _ _ us hl=>by obtain ⟨a0,a1,rfl⟩:=len2 hl; rfl) fun f fd F=>ok_sort_at B F
 have G_refuse_no_name:Fn l.prog w K mg base (Str.ofString "refuse_no_name") [Str.ofString "thing"] 3 (spM K (List.length [Str.ofString "thing"]) m_refuse_no_name):=d_refuse_no_name.fn X G (fun _ _ _ _ _ _ us hl=>by obtain ⟨a0,rfl⟩:=len1 hl; rfl) fun f fd F=>ok_refuse_no_name B F G_is_name
 have G_rest_of:Fn l.prog w K mg base (Str.ofString "rest_of") [Str.ofString "book",Str.ofString "name"] 1 (spO K (List.length [Str.ofString "book",Str.ofString "name"]) m_rest_of):=d_rest_of.fn X G (fun _ _ _ _ _ _ us hl=>by obtain ⟨a0,a1,rfl⟩:=len2 hl; rfl) fun f fd F=>ok_rest_of B F
 have G_room_for:Fn l.prog w K mg base (Str.ofString "room_for") [Str.ofString "book",Str.ofString "name"] 2 (spO K (List.length [Str.ofString "book",Str.ofString "name"]) m_room_for):=d_room_for.fn X G (fun _ _ _ _ _ _ us hl=>by obtain ⟨a0,a1,rfl⟩:=len2 hl; rfl) fun f fd F=>ok_room_for B F G_sort_at G_names_of G_rest_of
 have G_told_with:Fn l.prog w K mg base (Str.ofString "told_with") [Str.ofString "book",Str.ofString "name",Str.ofString "value"] 29 (spO K (List.length [Str.ofString "book",Str.ofString "name",Str.ofString "value"]) m_told_with):=d_told_with.fn X G (fun _ _ _ _ _ _ us hl=>by obtain ⟨a0,a1,a2,rfl⟩:=len3 hl; rfl) fun f fd F=>ok_told_with B F G_refuse_no_name G_is_value G_room_for
 have G_made_with:Fn l.prog w K mg base (Str.ofString "made_with") [Str.ofString "book",Str.ofString "name",Str.ofString "recipe"] 33 (spO K (List.length [Str.ofString "book",Str.ofString "name",Str.ofString "recipe"]) m_made_with):=d_made_with.fn X G (fun _ _ _ _ _ _ us hl=>by obtain ⟨a0,a1,a2,rfl⟩:=len3 hl; rfl) fun f fd F=>ok_made_with B F G_refuse_no_name G_is_recipe G_room_for
 have G_without:Fn l.prog w K mg base (Str.ofString "without") [Str.ofString "book",Str.ofString "name"] 4 (spO K (List.length [Str.ofString "book",Str.ofString "name"]) m_without):=d_without.fn X G (fun _ _ _ _ _ _ us hl=>by obtain ⟨a0,a1,rfl⟩:=len2 hl; rfl) fun f fd F=>ok_without B F G_refuse_no_name G_sort_at G_rest_of
 have G__law_feed:Fn l.prog w K mg base (Str.ofString "_law_feed") [Str.ofString "_law_script",Str.ofString "_law_k"] 1 (spO K (List.length [Str.ofString "_law_script",Str.ofString "_law_k"]) m__law_feed):=d__law_feed.fn X G (fun _ _ _ _ _ _ us hl=>by obtain ⟨a0,a1,rfl⟩:=len2 hl; rfl) fun f fd F=>ok__law_feed B F
 have G__law_next:Fn l.prog w K mg base (Str.ofString "_law_next") [Str.ofString "_law_feed_here",Str.ofString "_law_many"] 1 (spM K (List.length [Str.ofString "_law_feed_here",Str.ofString "_law_many"]) m__law_next):=d__law_next.fn X G (fun _ _ _ _ _ _ us hl=>by obtain ⟨a0,a1,rfl⟩:=len2 hl; rfl) fun f fd F=>ok__law_next B F
 have G__law_names:Fn l.prog w K mg base (Str.ofString "_law_names") [Str.ofString "_law_feed_here",Str.ofString "_law_many"] 2 (spM K (List.length [Str.ofString "_law_feed_here",Str.ofString "_law_many"]) m__law_names):=d__law_names.fn X G (fun _ _ _ _ _ _ us hl=>by obtain ⟨a0,a1,rfl⟩:=len2 hl; rfl) fun f fd F=>ok__law_names B F G__law_next
 have G__law_value:Fn l.prog w K mg base (Str.ofString "_law_value") [Str.ofString "_law_feed_here",Str.ofString "_law_names_here"] 2 (spM K (List.length [Str.ofString "_law_feed_here",Str.ofString "_law_names_here"]) m__law_value):=d__law_value.fn X G (fun _ _ _ _ _ _ us hl=>by obtain ⟨a0,a1,rfl⟩:=len2 hl; rfl) fun f fd F=>ok__law_value B F G__law_next
 have R__law_expr:∀ n:Nat,Fn l.prog w K mg base (Str.ofString "_law_expr") [Str.ofString "_law_feed_here",Str.ofString "_law_got",Str.ofString "_law_names_here",Str.ofString "_law_deep"] (2 + n) (spM K (List.length [Str.ofString "_law_feed_here",Str.ofString "_law_got",Str.ofString "_law_names_here",Str.ofString "_law_deep"]) (m__law_expr n)):=by
  intro n
  induction n with
  | zero=>exact d__law_expr.fn X G (fun _ _ _ _ _ _ us hl=>by obtain ⟨a0,a1,a2,a3,rfl⟩:=len4 hl; rfl) fun f fd F=>fn_none
  | succ n ih=>exact d__law_expr.fn X G (fun _ _ _ _ _ _ us hl=>by obtain ⟨a0,a1,a2,a3,rfl⟩:=len4 hl; rfl) fun f fd F=>ok__law_expr n B F G__law_next G__law_value ih
 have G__law_expr:=R__law_expr 25
 have G__law_wanted:Fn l.prog w K mg base (Str.ofString "_law_wanted") [Str.ofString "_law_feed_here",Str.ofString "_law_got",Str.ofString "_law_names_here"] 28 (spM K (List.length [Str.ofString "_law_feed_here",Str.ofString "_law_got",Str.ofString "_law_names_here"]) m__law_wanted):=d__law_wanted.fn X G (fun _ _ _ _ _ _ us hl=>by obtain ⟨a0,a1,a2,rfl⟩:=len3 hl; rfl) fun f fd F=>ok__law_wanted B F G__law_next G__law_expr
 have R__law_recipe:∀ n:Nat,Fn l.prog w K mg base (Str.ofString "_law_recipe") [Str.ofString "_law_feed_here",Str.ofString "_law_got",Str.ofString "_law_names_here",Str.ofString "_law_wants",Str.ofString "_law_whens",Str.ofString "_law_peeks"] (28 + n) (spM K (List.length [Str.ofString "_law_feed_here",Str.ofString "_law_got",Str.ofString "_law_names_here",Str.ofString "_law_wants",Str.ofString "_law_whens",Str.ofString "_law_peeks"]) (m__law_recipe n)):=by
  intro n
  induction n with
  | zero=>exact d__law_recipe.fn X G (fun _ _ _ _ _ _ us hl=>by obtain ⟨a0,a1,a2,a3,a4,a5,rfl⟩:=len6 hl; rfl) fun f fd F=>fn_none
  | succ n ih=>exact d__law_recipe.fn X G (fun _ _ _ _ _ _ us hl=>by obtain ⟨a0,a1,a2,a3,a4,a5,rfl⟩:=len6 hl; rfl) fun f fd F=>ok__law_recipe n B F G__law_next G__law_wanted ih G__law_expr
 have G__law_recipe:=R__law_recipe 25
 have G__law_any_recipe:Fn l.prog w K mg base (Str.ofString "_law_any_recipe") [Str.ofString "_law_feed_here",Str.ofString "_law_names_here",Str.ofString "_law_peeks"] 54 (spM K (List.length [Str.ofString "_law_feed_here",Str.ofString "_law_names_here",Str.ofString "_law_peeks"]) m__law_any_recipe):=d__law_any_recipe.fn X G (fun _ _ _ _ _ _ us hl=>by obtain ⟨a0,a1,a2,rfl⟩:=len3 hl; rfl) fun f fd F=>ok__law_any_recipe B F G__law_next G__law_recipe
 have G__law_book:Fn l.prog w K mg base (Str.ofString "_law_book") [Str.ofString "_law_script",Str.ofString "_law_base",Str.ofString "_law_names_here",Str.ofString "_law_peeks"] 55 (spM K (List.length [Str.ofString "_law_script",Str.ofString "_law_base",Str.ofString "_law_names_here",Str.ofString "_law_peeks"]) m__law_book):=d__law_book.fn X G (fun _ _ _ _ _ _ us hl=>by obtain ⟨a0,a1,a2,a3,rfl⟩:=len4 hl; rfl) fun f fd F=>ok__law_book B F G__law_next G__law_value G__law_any_recipe G__law_feed
 have G__law_less:Fn l.prog w K mg base (Str.ofString "_law_less") [Str.ofString "_law_some",Str.ofString "_law_name"] 1 (spO K (List.length [Str.ofString "_law_some",Str.ofString "_law_name"]) m__law_less):=d__law_less.fn X G (fun _ _ _ _ _ _ us hl=>by obtain ⟨a0,a1,rfl⟩:=len2 hl; rfl) fun f fd F=>ok__law_less B F
 have G__law_one:Fn l.prog w K mg base (Str.ofString "_law_one") [Str.ofString "_law_way",Str.ofString "_law_tome",Str.ofString "_law_name",Str.ofString "_law_value_here",Str.ofString "_law_recipe_here"] 34 (spO K (List.length [Str.ofString "_law_way",Str.ofString "_law_tome",Str.ofString "_law_name",Str.ofString "_law_value_here",Str.ofString "_law_recipe_here"]) m__law_one):=d__law_one.fn X G (fun _ _ _ _ _ _ us hl=>by obtain ⟨a0,a1,a2,a3,a4,rfl⟩:=len5 hl; rfl) fun f fd F=>ok__law_one B F G_told_with G_made_with G_without
 have G__law_due:Fn l.prog w K mg base (Str.ofString "_law_due") [Str.ofString "_law_way",Str.ofString "_law_tome",Str.ofString "_law_name",Str.ofString "_law_value_here",Str.ofString "_law_recipe_here"] 2 (spM K (List.length [Str.ofString "_law_way",Str.ofString "_law_tome",Str.ofString "_law_name",Str.ofString "_law_value_here",Str.ofString "_law_recipe_here"]) m__law_due):=d__law_due.fn X G (fun _ _ _ _ _ _ us hl=>by obtain ⟨a0,a1,a2,a3,a4,rfl⟩:=len5 hl; rfl) fun f fd F=>ok__law_due B F G__law_less
 have G__law_right:Fn l.prog w K mg base (Str.ofString "_law_right") [Str.ofString "_law_found",Str.ofString "_law_due_here"] 1 (spM K (List.length [Str.ofString "_law_found",Str.ofString "_law_due_here"]) m__law_right):=d__law_right.fn X G (fun _ _ _ _ _ _ us hl=>by obtain ⟨a0,a1,rfl⟩:=len2 hl; rfl) fun f fd F=>ok__law_right B F
 exact fnOk_imp (ok_law B FL G__law_next G__law_feed G__law_names G__law_book G__law_value G__law_any_recipe G__law_due G__law_right G__law_one G_told_with G_made_with) (law_plain hm)
theorem walk {l:PySem.W.OpenLaw} {q:Program} {loose:List Str} {XP:(Str→Option Value)→Heap→Prop} {YP:World→Heap→Prop} {d:DefRec} {K:Params→PySem.W.Frag} (hn:l.most=some 63) (hdf:d.params.defaults=[])
  (hY:∀ (w:World) (h:Heap),YP w h→(K w.params).In h)
  (F:∀ (w:World) (mg:Str→Option Value) (fa:Addr) (h:Heap),(K w.params).In h→h.Ns mainGlobals mg→mg d.name=some (.ref fa) →
   ∃ fd:FuncData,(∀ (s:Shared) (u:Value),BindsTo s fd ⟨[u],[]⟩ [((Str.ofString "_law_script"),u)])∧∀ base:Heap,(K w.params).In base→base.Ns mainGlobals mg→FnOk l.prog w (K w.params) mg base CX0 56 fa fd [Str.ofString "_law_script"] (spLaw (K w.params))) :
  PySem.W.WalkO q loose XP YP l.row.toRowW d [] (fun f vs=>PySem.call f vs):=
 L2.walk_of (n:=63) (k:=56) (x:=(Str.ofString "_law_script")) (CX:=fun _=>CX0) (sp:=fun w=>spLaw (K w.params)) hn (by decide) hdf ⟨rfl,by decide,by decide,rfl⟩ hY F (fun _ _ a ns hl _ hS=>⟨a,ns,rfl,hS,hl,fun _=>rfl⟩) fun _ _ _ _ _ z=>z
end G
namespace G
open PySem PySem.Spec PySem.Calls PySem.W PyProof.Rows PySem.W.X PySem.W.ZRun
theorem walkZ {q:Program} {loose:List Str} {XP:(Str→Option Value)→Heap→Prop} {K:Params→PySem.W.Frag} {r:RowW} {d:DefRec} {kwd:List (Str×Expr)}
  {w:World} {s₀ s₁:Shared} {mg mb:Str→Option Value} {a:Addr} {o:Obj} {pm cd doc dV kV:Value} {args:List WData} {vals:List Value} {as:List Addr}
  (KX:(K w.params).In s₁.heap) (GR:Ground q loose r.records XP w s₀ mg mb s₁.heap) (ho:s₁.heap.get? a=some o)
  (hd:o.data=.func { docDef d.name d.params d.body d.scope pm cd doc with defaults:=dV,kwdefaults:=kV }) (hcd:s₁.heap.CodeRec cd d.name) (hD:Dflts mg s₁.heap d.params kwd dV kV) (hmg:mg d.name=some (.ref a)) (hg:s₁.gens = #[])
  (hpre:r.claim.pre args=true) (hlay:WData.layableAll args=true) (hrd:ReadsAllW r.records (classAt s₀.heap) s₁.heap vals args as) (hwl:WellAll w.params s₁.heap vals args) (hlo:∀ a∈as,(a == sysModules)=false)
  (W:PySem.W.WalkO q loose XP (fun w h=>(K w.params).In h) r d kwd fun f vs=>PySem.call f vs) :
  wpAny (model r.prog w) callerA (PySem.call (.ref a) vals) (fun v s'=>GoodWG r.claim (classAt s₀.heap) (ExcName.means s₀.heap) args s₁ (.ok (.ret v)) s')
    (fun e s'=>GoodWG r.claim (classAt s₀.heap) (ExcName.means s₀.heap) args s₁ (.error e) s') s₁:=
 W w s₀ s₁ mg mb GR KX a o pm cd doc dV kV ho hd hcd hD hmg hg args vals as hpre hlay hrd hwl hlo
end G
noncomputable def PySem.W.Fast.tw3399711561234705973:Unit:=()
noncomputable def PySem.W.Fast.tw13855351618607625088:Unit:=()
noncomputable def PySem.W.Fast.tw7400703429693635462:Unit:=()
noncomputable def PySem.W.Fast.tw486969698673752621:Unit:=()
noncomputable def PySem.W.Fast.tw1907631182994742063:Unit:=()
noncomputable def PySem.W.Fast.tw330148895090425703:Unit:=()
noncomputable def PySem.W.Fast.tw12035044035878149793:Unit:=()
noncomputable def PySem.W.Fast.tw15707329572084403645:Unit:=()
noncomputable def PySem.W.Fast.tw12461801461914086793:Unit:=()
noncomputable def PySem.W.Fast.tw2623588091902897820:Unit:=()
noncomputable def PySem.W.Fast.tw9710655185244863986:Unit:=()
noncomputable def PySem.W.Fast.tw13342070276288888945:Unit:=()
noncomputable def PySem.W.Fast.tw2890076050719602995:Unit:=()
noncomputable def PySem.W.Fast.tw2394099061344366298:Unit:=()
noncomputable def PySem.W.Fast.tw12246982235189780782:Unit:=()
noncomputable def PySem.W.Fast.tw7847791202123440714:Unit:=()
noncomputable def PySem.W.Fast.tw8227005800286749877:Unit:=()
noncomputable def PySem.W.Fast.tw16564404861590097134:Unit:=()
noncomputable def PySem.W.Fast.tw9924509610705196361:Unit:=()
noncomputable def PySem.W.Fast.tw10945550496340511992:Unit:=()
noncomputable def PySem.W.Fast.tw8932483669100701107:Unit:=()
noncomputable def PySem.W.Fast.tw16100067212394304477:Unit:=()
noncomputable def PySem.W.Fast.tw7051475019845220945:Unit:=()
noncomputable def PySem.W.Fast.tw14684152172829579614:Unit:=()
noncomputable def PySem.W.Fast.tw8069882608684837373:Unit:=()
noncomputable def PySem.W.Fast.tw13951939484416475641:Unit:=()
noncomputable def PySem.W.Fast.tw5416310923220407701:Unit:=()
noncomputable def PySem.W.Fast.tw8792851684605727381:Unit:=()
noncomputable def PySem.W.Fast.tw11791794326840145021:Unit:=()
noncomputable def PySem.W.Fast.tw4049113367961962326:Unit:=()
noncomputable def PySem.W.Fast.tw14522326279820277040:Unit:=()
noncomputable def PySem.W.Fast.tw8314528694540328313:Unit:=()
noncomputable def PySem.W.Fast.tw13784187878653382259:Unit:=()
noncomputable def PySem.W.Fast.tw10761054842224752733:Unit:=()
noncomputable def PySem.W.Fast.tw15168534704795071706:Unit:=()
noncomputable def PySem.W.Fast.tw11863993174469482247:Unit:=()
noncomputable def PySem.W.Fast.tw13019733862555561737:Unit:=()
noncomputable def PySem.W.Fast.tw12179249361348815619:Unit:=()
noncomputable def PySem.W.Fast.tw3317252317999566972:Unit:=()
noncomputable def PySem.W.Fast.tw2163318088926255918:Unit:=()
noncomputable def PySem.W.Fast.tw17958024088027507831:Unit:=()
noncomputable def PySem.W.Fast.tw13754661355908011976:Unit:=()
noncomputable def PySem.W.Fast.tw14749316906155710457:Unit:=()
noncomputable def PySem.W.Fast.tw15009483750646225016:Unit:=()
noncomputable def PySem.W.Fast.tw350979406603861660:Unit:=()
noncomputable def PySem.W.Fast.tw7559198398559672495:Unit:=()
noncomputable def PySem.W.Fast.tw8240078767866823924:Unit:=()
noncomputable def PySem.W.Fast.tw5783223703538482107:Unit:=()
noncomputable def PySem.W.Fast.tw16804370990650100452:Unit:=()
noncomputable def PySem.W.Fast.tw15694528143442814034:Unit:=()
noncomputable def PySem.W.Fast.tw6931046534070934844:Unit:=()
noncomputable def PySem.W.Fast.tw10967276349194665911:Unit:=()
noncomputable def PySem.W.Fast.tw8105250729017511664:Unit:=()
noncomputable def PySem.W.Fast.tw15027714876455129507:Unit:=()
noncomputable def PySem.W.Fast.tw10113746465035000133:Unit:=()
noncomputable def PySem.W.Fast.tw8705951496339190876:Unit:=()
noncomputable def PySem.W.Fast.tw10126519047547898787:Unit:=()
noncomputable def PySem.W.Fast.tw3610728996865444046:Unit:=()
noncomputable def PySem.W.Fast.tw6041229833506773964:Unit:=()
noncomputable def PySem.W.Fast.tw7678583082400495239:Unit:=()
noncomputable def PySem.W.Fast.tw12542915478648972319:Unit:=()
noncomputable def PySem.W.Fast.tw16715453889263607145:Unit:=()
noncomputable def PySem.W.Fast.tw18304730743111182945:Unit:=()
noncomputable def PySem.W.Fast.tw15570323558799648848:Unit:=()
noncomputable def PySem.W.Fast.tw3856300044997675033:Unit:=()
noncomputable def PySem.W.Fast.tw4830446974887856020:Unit:=()
noncomputable def PySem.W.Fast.tw961111071169093898:Unit:=()
noncomputable def PySem.W.Fast.tw14107145519643590026:Unit:=()
noncomputable def PySem.W.Fast.tw10396715646763260265:Unit:=()
noncomputable def PySem.W.Fast.tw3435329198576909541:Unit:=()
noncomputable def PySem.W.Fast.tw13777766525713927562:Unit:=()
noncomputable def PySem.W.Fast.tw14838311907326753252:Unit:=()
noncomputable def PySem.W.Fast.tw14314889088271211846:Unit:=()
noncomputable def PySem.W.Fast.tw14122833028755957407:Unit:=()
noncomputable def PySem.W.Fast.tw15223188738076519876:Unit:=()
noncomputable def PySem.W.Fast.tw7486933264869958184:Unit:=()
noncomputable def PySem.W.Fast.tw18109296761041763461:Unit:=()
noncomputable def PySem.W.Fast.tw15483528383369220529:Unit:=()
noncomputable def PySem.W.Fast.tw11888590790415931797:Unit:=()
noncomputable def PySem.W.Fast.tw9107104820006160464:Unit:=()
noncomputable def PySem.W.Fast.tw17677450108212013853:Unit:=()
noncomputable def PySem.W.Fast.tw7268109007848144455:Unit:=()
noncomputable def PySem.W.Fast.tw14011159152787264077:Unit:=()
noncomputable def PySem.W.Fast.tw7393323905254260317:Unit:=()
noncomputable def PySem.W.Fast.tw15729886944129228433:Unit:=()
noncomputable def PySem.W.Fast.tw15394946383822040673:Unit:=()
noncomputable def PySem.W.Fast.tw4548412298136929219:Unit:=()
noncomputable def PySem.W.Fast.tw6762106123199687303:Unit:=()
noncomputable def PySem.W.Fast.tw301893888274584443:Unit:=()
noncomputable def PySem.W.Fast.tw7640223947664387809:Unit:=()
noncomputable def PySem.W.Fast.tw17987081970441997183:Unit:=()
noncomputable def PySem.W.Fast.tw9072750078809348556:Unit:=()
noncomputable def PySem.W.Fast.tw15308464186971753290:Unit:=()
noncomputable def PySem.W.Fast.tw11987864368564611293:Unit:=()
noncomputable def PySem.W.Fast.tw10002134355477717924:Unit:=()
noncomputable def PySem.W.Fast.tw11457916846444391153:Unit:=()
noncomputable def PySem.W.Fast.tw13283655294396614677:Unit:=()
noncomputable def PySem.W.Fast.tw16066290061171280887:Unit:=()
noncomputable def PySem.W.Fast.tw14416718854892952925:Unit:=()
noncomputable def PySem.W.Fast.tw11360507226341843143:Unit:=()
noncomputable def PySem.W.Fast.tw3450651033937651973:Unit:=()
noncomputable def PySem.W.Fast.tw3713845493403712457:Unit:=()
noncomputable def PySem.W.Fast.tw761600301847221405:PySem.Program:=PySem.Challenge.pw_redo_k46_books_told_again
theorem PySem.W.Fast.te761600301847221405:PySem.Challenge.pw_redo_k46_books_told_again=PySem.W.Fast.tw761600301847221405:=rfl
open PySem PySem.W PyProof.Rows PySem.W.X PySem.W.ZRun
set_option maxRecDepth 100000 in
set_option maxHeartbeats 0 in
theorem PySem.Challenge.cw_redo_k46_books_told_again_holds : PySem.Challenge.rw_redo_k46_books_told_again.Holds := by
 w_on; o_law; z_head; (case hw=>w_witness2)
 k_fill
 intro w s₀ s₁ mg mb GR y fa o pm cd doc dV kV ho hd hcd hD hmg hg args vals as L hpre hlay hrd hwl hlo
 z_open y L KX ZH ZN ZT
 clear ZH ZN ZT
 refine G.walkZ KX GR ho hd hcd hD hmg hg hpre hlay hrd hwl hlo ?W
 clear KX GR ho hd hcd hD hmg hg hpre hlay hrd hwl hlo L y
 refine G.walk (l:=PySem.Challenge.rw_redo_k46_books_told_again) rfl rfl (fun w h Y=>Y) ?F
 case F=>
  intro w mg fa h KX GG hmg
  refine' G.all_mk KX GG hmg ?_ ?_ ?_ ?_ ?_ ?_ ?_ ?_ ?_ ?_ ?_ ?_ ?_ ?_ ?_ ?_ ?_ ?_ ?_ ?_ ?_ ?_ ?_ ?_ ?_ ?_ ?_ ?_ ?_ ?_ ?_ ?_ ?_ ?_ ?_ ?_ ?_ ?_ ?_ ?_ ?_ ?_ ?_ ?_ ?_ ?_ ?_ ?_ ?_ ?_ ?_ ?_ ?_ ?_ ?_ ?_ ?_ ?_ ?_ ?_ ?_ ?_ ?_ ?_ ?_ ?_ ?_ ?_ ?_ ?_ ?_ ?_ G.law_math
  any_goals first | (refine' D.df_mk ?a ?l ?c ?k; (case a=>k_is); (case l=>k_is); (case c=>k_is); (case k=>k_is)) | (refine' D.dfm_mk ?a ?l ?c ?k ?n; (case a=>k_is); (case l=>k_is); (case c=>k_is); (case k=>k_is); (case n=>k_is)) | k_is
  all_goals first | rfl | decide +kernel
