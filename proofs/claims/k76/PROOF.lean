import PyProof.Rows.All
import Wide.All
import OpenK.AllK
import Wide.FinOn
import Lean
import PyProof.EqAt
import PyProof.EqKinds
import PyProof.TupleCall
import PySem.Challenge.RW_redo_k76_a_watch
set_option Elab.async false
set_option linter.all false
set_option maxRecDepth 100000
set_option compiler.extract_closed false
set_option bootstrap.genMatcherCode false
namespace Internal
namespace L2
open PySem PySem.Spec PyProof.Rows
noncomputable abbrev Key:=Sum Int Str
noncomputable def keyIs:Key→Value→Bool
 | .inl k,v=>Value.isInt k v
 | .inr x,v=>Value.isStrOf x v
noncomputable def keyH (w:World):Key→Int
 | .inl k=>hashInt k
 | .inr x=>hashStr w x
theorem keyIs_shape:∀ {k:Key} {v:Value},keyIs k v=true→(∃ i t,k=Sum.inl i∧v=Value.int i t)∨(∃ x t,k=Sum.inr x∧v=Value.str x t)
 | .inl i,v,h=>by
  obtain ⟨t,e⟩:=Value.isInt_shape (k:=i) (v:=v) h
  exact .inl ⟨i,t,rfl,e⟩
 | .inr x,v,h=>by
  obtain ⟨t,e⟩:=Value.isStrOf_shape (x:=x) (v:=v) h
  exact .inr ⟨x,t,rfl,e⟩
theorem keyIs_int (i:Int) (t:Tok):keyIs (.inl i) (.int i t)=true:=by simp [keyIs,Value.isInt]
theorem keyIs_str (x:Str) (t:Tok):keyIs (.inr x) (.str x t)=true:=by simp [keyIs,Value.isStrOf]
theorem key_ll (a b:Int):decide ((Sum.inl a:Key)=Sum.inl b)=(a == b):=by
 by_cases e:a=b
 ·subst e; simp
 ·have h:¬ (Sum.inl a:Key)=Sum.inl b:=fun q=>e (Sum.inl.inj q)
  rw [decide_eq_false h]
  exact (beq_eq_false_iff_ne.mpr e).symm
theorem key_rr (a b:Str):decide ((Sum.inr a:Key)=Sum.inr b)=decide (a=b):=by
 by_cases e:a=b
 ·subst e; simp
 ·have h:¬ (Sum.inr a:Key)=Sum.inr b:=fun q=>e (Sum.inr.inj q)
  rw [decide_eq_false h,decide_eq_false e]
theorem key_lr (a:Int) (b:Str):decide ((Sum.inl a:Key)=Sum.inr b)=false:=decide_eq_false (fun q=>nomatch q)
theorem key_rl (a:Str) (b:Int):decide ((Sum.inr a:Key)=Sum.inl b)=false:=decide_eq_false (fun q=>nomatch q)
noncomputable def mixKind (prog:Program) (w:World):PySem.KeyKind prog w Key where
 is:=keyIs
 hash:=keyH w
 inj:=fun v a b ha hb=>by
  rcases keyIs_shape ha with ⟨i,t,rfl,rfl⟩ | ⟨x,t,rfl,rfl⟩
  ·rcases keyIs_shape hb with ⟨j,u,rfl,e⟩ | ⟨y,u,rfl,e⟩
   ·injection e with e1 _; rw [e1]
   ·exact nomatch e
  ·rcases keyIs_shape hb with ⟨j,u,rfl,e⟩ | ⟨y,u,rfl,e⟩
   ·exact nomatch e
   ·injection e with e1 _; rw [e1]
 byValue:=fun k v h=>by
  rcases keyIs_shape h with ⟨i,t,rfl,rfl⟩ | ⟨x,t,rfl,rfl⟩ <;> rfl
 pyHash:=fun hv h=>by
  rcases keyIs_shape hv with ⟨i,t,rfl,rfl⟩ | ⟨x,t,rfl,rfl⟩
  ·exact wpAny_pyHash_int h
  ·exact wpAny_pyHash_str h
 eqBool:=fun hu hv h=>by
  rcases keyIs_shape hu with ⟨i,t,rfl,rfl⟩ | ⟨x,t,rfl,rfl⟩
  ·rcases keyIs_shape hv with ⟨j,u,rfl,rfl⟩ | ⟨y,u,rfl,rfl⟩
   ·rw [key_ll] at h; exact wpAny_eqBool_int h
   ·rw [key_lr] at h; exact SeqAt.EqAt.int_str i t y u _ _ _ _ h
  ·rcases keyIs_shape hv with ⟨j,u,rfl,rfl⟩ | ⟨y,u,rfl,rfl⟩
   ·rw [key_rl] at h; exact SeqAt.EqAt.str_int x t j u _ _ _ _ h
   ·rw [key_rr] at h; exact wpAny_eqBool_str h
 «strs»:=fun k x t v h=>by
  rcases keyIs_shape h with ⟨i,u,rfl,e⟩ | ⟨y,u,rfl,e⟩
  ·exact nomatch e
  ·injection e with e1 _
   subst e1
   cases v <;> rfl
theorem mixKind_int (prog:Program) (w:World) (i:Int) (t:Tok):(mixKind prog w).is (.inl i) (.int i t)=true:=keyIs_int i t
theorem mixKind_str (prog:Program) (w:World) (x:Str) (t:Tok):(mixKind prog w).is (.inr x) (.str x t)=true:=keyIs_str x t
end L2
namespace L2
open PySem PySem.Spec PyProof.Rows
inductive V where
 | non | bl (b:Bool) | int (i:Int) | str (x:Str) | byt (b:Array UInt8) | flt (b:UInt64) | ref (a:Addr) | ty (n:String)
 deriving DecidableEq
noncomputable def RelV:V→Value→Prop
 | .non,u=>u=Value.none
 | .bl b,u=>u=Value.bool b
 | .int i,u=>∃ t,u=Value.int i t
 | .str x,u=>∃ t,u=Value.str x t
 | .byt b,u=>∃ t,u=Value.bytes b t
 | .flt b,u=>∃ t,u=Value.float b t
 | .ref a,u=>u=Value.ref a
 | .ty n,u=>u=Value.type n
noncomputable abbrev Vals:List V→List Value→Prop:=Paired RelV
theorem Vals.length {xs:List V} {us:List Value} (r:Vals xs us):xs.length=us.length:=Paired.length r
theorem Vals.get:∀ {xs:List V} {us:List Value} {i:Nat} {x:V},Vals xs us→xs[i]? = some x→∃ u,us[i]? = some u∧RelV x u
 | _,_,_,_,.nil,e=>by simp at e
 | _,_,0,_,.cons r _,e=>by simp at e; subst e; exact ⟨_,rfl,r⟩
 | _,_,i + 1,x,.cons _ t,e=>by
  obtain ⟨u,h1,h2⟩:=Vals.get (i:=i) (x:=x) t (by simpa using e)
  exact ⟨u,by simpa using h1,h2⟩
theorem Vals.set {x:V} {u:Value} (r:RelV x u):∀ {xs:List V} {us:List Value} (i:Nat),Vals xs us→Vals (xs.set i x) (us.set i u)
 | _,_,_,.nil=>.nil
 | _,_,0,.cons _ t=>.cons r t
 | _,_,i + 1,.cons q t=>.cons q (Vals.set r i t)
theorem Vals.append:∀ {xs ys:List V} {us ws:List Value},Vals xs us→Vals ys ws→Vals (xs++ys) (us++ws)
 | _,_,_,_,.nil,s=>s
 | _,_,_,_,.cons r t,s=>.cons r (Vals.append t s)
theorem Vals.take:∀ {xs:List V} {us:List Value} (n:Nat),Vals xs us→Vals (xs.take n) (us.take n)
 | _,_,0,_=>.nil
 | _,_,_ + 1,.nil=>.nil
 | _,_,n + 1,.cons r t=>.cons r (Vals.take n t)
theorem Vals.drop:∀ {xs:List V} {us:List Value} (n:Nat),Vals xs us→Vals (xs.drop n) (us.drop n)
 | _,_,0,r=>r
 | _,_,_ + 1,.nil=>.nil
 | _,_,n + 1,.cons _ t=>Vals.drop n t
theorem Vals.none_of:∀ {xs:List V} {us:List Value} {i:Nat},Vals xs us→xs[i]? = none→us[i]? = none:=fun {xs us i} r e=>by
 have h1:=r.length
 have h2:xs.length≤i:=List.getElem?_eq_none_iff.mp e
 exact List.getElem?_eq_none_iff.mpr (by omega)
noncomputable def RelO:Option V→Option Value→Prop
 | some v,some u=>RelV v u
 | none,none=>True
 | _,_=>False
noncomputable def KV {κ:Type}:List (κ×V)→List (κ×Value)→Prop:=Paired fun (p:κ×V) (q:κ×Value)=>p.1=q.1∧RelV p.2 q.2
noncomputable def kV:Key→V
 | .inl i=>.int i
 | .inr x=>.str x
inductive HO where
  | lst (xs:List V)
  | tup (xs:List V)
  | dK (kvs:List (Key×V)) | dT (kvs:List (List Key×V))
  | set (S:Int→Bool) (n:Nat)
  | ins (C dx:Addr) (fs:List (Str×V))
  | own (x:Addr)
  | xd (fs:List (Str×V))
  | met (f x:Addr)
  | rng (lo hi:Int)
  | frz (o:Obj) (u:HO)
  | tbl (ps:Array Value)
  | ext (φ:Heap→Prop)
noncomputable abbrev Hp:=Addr→Option HO
noncomputable def upd (H:Hp) (a:Addr) (o:HO):Hp:=fun b=>if b=a then some o else H b
theorem upd_same {H:Hp} {a:Addr} {o:HO}:upd H a o a=some o:=by unfold upd; rw [if_pos rfl]
theorem upd_ne {H:Hp} {a b:Addr} {o:HO} (h:b≠a):upd H a o b=H b:=by unfold upd; rw [if_neg h]
theorem ne_of {H:Hp} {a b:Addr} {o u:HO} (h:H a=some o) (h':H b=some u) (d:o≠u):a≠b:=by
 intro e; subst e; rw [h] at h'; exact d (Option.some.inj h')
theorem ne_of_none {H:Hp} {a b:Addr} {o:HO} (h:H a=some o) (h':H b=none):a≠b:=by
 intro e; subst e; rw [h] at h'; cases h'
section
variable (P:Program) (w:World)
noncomputable def ObjOk (H:Hp) (h:Heap) (a:Addr):HO→Prop
 | .lst xs=>xs.length≤sizeLine∧∃ (its:List Value) (n:Nat),Vals xs its∧h.get? a=some { cls:=.type "list",data:=.seq its.toArray n }
 | .tup xs=>xs.length≤sizeLine∧∃ its:List Value,Vals xs its∧IsTup h a its.toArray
 | .dK kvs=>kvs.length≤sizeLine∧(a == sysModules)=false∧∃ vs,KV kvs vs∧h.DictOf (mixKind P w) a vs
 | .dT kvs=>kvs.length≤sizeLine∧(a == sysModules)=false∧∃ xs:List (List Key×Addr×Value),
   Paired (fun (p:List Key×V) (q:List Key×Addr×Value)=>p.1=q.1∧H q.2.1=some (.tup (p.1.map kV))∧RelV p.2 q.2.2) kvs xs ∧
   ∃ o es ep,h.get? a=some o∧o.ExactDict∧o.data=.dict es ep∧es.toList=xs.map (entryOfKey (tupleKind (mixKind P w)))∧(xs.map (·.1)).Nodup
 | .set S n=>h.SetOf (intKind P w) a S n
 | .ins C dx fs=>H dx=some (.own a)∧fs.length≤1000∧dx≠a∧h.get? a=some (PySem.W.instObj C dx) ∧
   ∃ mA,h.Ns1 dx mA∧(∀ f,RelO (fs.lookup f) (mA f))∧PySem.Within mA (fs.map (·.1))
 | .own _=>∃ o,h.get? a=some o
 | .xd fs=>∃ mA,h.Ns1 a mA∧∀ f,RelO (fs.lookup f) (mA f)
 | .rng lo hi=>∃ t u v,h.get? a=some { cls:=.type "range",data:=.fields #[.int lo t,.int hi u,.int 1 v] }
 | .frz o u=>h.get? a=some o∧ObjOk H h a u
 | .tbl ps=>h.get? a=some { cls:=.none,data:=.fields ps }
 | .met f x=>h.get? a=some (PySem.W.methodObj (.ref f) (.ref x))
 | .ext φ=>φ h∧(∃ o,h.get? a=some o)∧∀ h1 h2:Heap,φ h1→(∀ o,h1.get? a=some o→h2.get? a=some o)→φ h2
noncomputable def HOk (H:Hp) (h:Heap):Prop:=∀ a o,H a=some o→ObjOk P w H h a o
end
section
variable {P:Program} {w:World} {H H':Hp} {h h':Heap} {a:Addr} {o:HO}
theorem ObjOk.lt (x:ObjOk P w H h a o):a < h.objs.size:=by
 cases o with
 | lst xs=>obtain ⟨_,_,_,_,e⟩:=x; exact Heap.lt_size e
 | tup xs=>obtain ⟨_,_,_,p⟩:=x; exact p.lt
 | dK kvs=>obtain ⟨_,_,_,_,o,_,_,e,_⟩:=x; exact Heap.lt_size e
 | dT kvs=>obtain ⟨_,_,_,_,o,_,_,e,_⟩:=x; exact Heap.lt_size e
 | set S n=>obtain ⟨o,_,_,_,e,_⟩:=x; exact Heap.lt_size e
 | ins C dx fs=>obtain ⟨_,_,_,e,_⟩:=x; exact Heap.lt_size e
 | own y=>obtain ⟨_,e⟩:=x; exact Heap.lt_size e
 | xd fs=>obtain ⟨_,⟨_,_,_,e,_⟩,_⟩:=x; exact Heap.lt_size e
 | rng lo hi=>obtain ⟨_,_,_,e⟩:=x; exact Heap.lt_size e
 | frz ob u=>obtain ⟨e,_⟩:=x; exact Heap.lt_size e
 | tbl ps=>exact Heap.lt_size (show h.get? a=some _ from x)
 | met f y=>exact Heap.lt_size (show h.get? a=some _ from x)
 | ext φ=>obtain ⟨_,⟨_,e⟩,_⟩:=x; exact Heap.lt_size e
theorem Paired.mapP {α β:Type} {F G:α→β→Prop}:∀ {l₁:List α} {l₂:List β},Paired F l₁ l₂→(∀ a b,F a b→G a b)→Paired G l₁ l₂
 | _,_,.nil,_=>.nil
 | _,_,.cons r t,f=>.cons (f _ _ r) (Paired.mapP t f)
theorem ObjOk.stay (x:ObjOk P w H h a o) (k:∀ b u,(b=a∨H b=some (.own a))→h.get? b=some u→h'.get? b=some u)
  (ho:∀ b,H b=some (.own a)→H' b=some (.own a)) (ht:∀ b xs,H b=some (.tup xs)→H' b=some (.tup xs)):ObjOk P w H' h' a o:=by
 induction o with
 | lst xs=>obtain ⟨z,its,n,r,e⟩:=x; exact ⟨z,its,n,r,k _ _ (.inl rfl) e⟩
 | tup xs=>obtain ⟨z,its,r,ob,e,c⟩:=x; exact ⟨z,its,r,ob,k _ _ (.inl rfl) e,c⟩
 | dK kvs=>obtain ⟨z,y,vs,r,ob,es,ep,e,c⟩:=x; exact ⟨z,y,vs,r,ob,es,ep,k _ _ (.inl rfl) e,c⟩
 | dT kvs=>
  obtain ⟨z,y,xs,r,ob,es,ep,e,c⟩:=x
  exact ⟨z,y,xs,Paired.mapP r fun p q z=>⟨z.1,ht _ _ z.2.1,z.2.2⟩,ob,es,ep,k _ _ (.inl rfl) e,c⟩
 | set S n=>obtain ⟨ob,es,ep,t,e,c⟩:=x; exact ⟨ob,es,ep,t,k _ _ (.inl rfl) e,c⟩
 | ins C dx fs=>
  obtain ⟨d,z,ne,e,mA,⟨od,es,ep,e2,c⟩,r⟩:=x
  exact ⟨ho _ d,z,ne,k _ _ (.inl rfl) e,mA,⟨od,es,ep,k _ _ (.inr d) e2,c⟩,r⟩
 | own y=>obtain ⟨ob,e⟩:=x; exact ⟨ob,k _ _ (.inl rfl) e⟩
 | xd fs=>obtain ⟨mA,⟨od,es,ep,e,c⟩,r⟩:=x; exact ⟨mA,⟨od,es,ep,k _ _ (.inl rfl) e,c⟩,r⟩
 | rng lo hi=>obtain ⟨t,u,v,e⟩:=x; exact ⟨t,u,v,k _ _ (.inl rfl) e⟩
 | frz ob u ih=>obtain ⟨e,q⟩:=x; exact ⟨k _ _ (.inl rfl) e,ih q⟩
 | tbl ps=>
  have e:h.get? a=some { cls:=.none,data:=.fields ps }:=x
  show h'.get? a=some { cls:=.none,data:=.fields ps }
  exact k a _ (.inl rfl) e
 | met f y=>
  have e:h.get? a=some (PySem.W.methodObj (.ref f) (.ref y)):=x
  show h'.get? a=some (PySem.W.methodObj (.ref f) (.ref y))
  exact k a _ (.inl rfl) e
 | ext φ=>obtain ⟨p,⟨o,e⟩,st⟩:=x; exact ⟨st _ _ p fun o q=>k _ _ (.inl rfl) q,⟨o,k _ _ (.inl rfl) e⟩,st⟩
theorem HOk.lt (x:HOk P w H h) (e:H a=some o):a < h.objs.size:=(x a o e).lt
theorem HOk.fresh (x:HOk P w H h) (e:h.objs.size≤a):H a=none:=by
 cases q:H a with
 | none=>rfl
 | some u=>exact absurd (Nat.lt_of_lt_of_le (x.lt q) e) (Nat.lt_irrefl _)
theorem HOk.kept (x:HOk P w H h) (k:∀ b u,h.get? b=some u→h'.get? b=some u):HOk P w H h':=fun a o e=>
 (x a o e).stay (fun b u _ q=>k b u q) (fun _ q=>q) fun _ _ q=>q
theorem HOk.laid (x:HOk P w H h) (k:∀ b u,h.get? b=some u→h'.get? b=some u) (hp:h.objs.size≤a) (new:ObjOk P w (upd H a o) h' a o):HOk P w (upd H a o) h':=fun b u e=>by
 have hn:=x.fresh hp
 by_cases hb:b=a
 ·subst hb; rw [upd_same] at e; cases e; exact new
 ·rw [upd_ne hb] at e
  exact (x b u e).stay (fun c v _ q=>k c v q) (fun c q=>by rw [upd_ne (ne_of_none q hn)]; exact q) fun c xs q=>by rw [upd_ne (ne_of_none q hn)]; exact q
end
noncomputable def Rd (H:Hp) (a:Addr) (u:HO):Prop:=H a=some u∨∃ o,H a=some (.frz o u)
theorem Rd.of {H:Hp} {a:Addr} {u:HO} (h:H a=some u):Rd H a u:=.inl h
theorem Rd.ok {P:Program} {w:World} {H:Hp} {h:Heap} {a:Addr} {u:HO} (r:Rd H a u) (x:HOk P w H h):ObjOk P w H h a u:=by
 rcases r with r | ⟨o,r⟩
 ·exact x a u r
 ·obtain ⟨_,q⟩:=x a _ r
  exact q
noncomputable def Mut:Option HO→Prop
 | some (.lst _)=>True
 | some (.dK _)=>True
 | some (.dT _)=>True
 | some (.set _ _)=>True
 | some (.ins _ _ _)=>True
 | some (.ext _)=>True
 | _=>False
section
variable {P:Program} {w:World} {H:Hp} {h h':Heap} {x e:Addr} {o':HO}
theorem HOk.write (ok:HOk P w H h) (mu:Mut (H x)) (he:e=x∨H e=some (.own x)) (k:∀ b u,b≠e→h.get? b=some u→h'.get? b=some u) (heo:∃ u,h'.get? e=some u)
  (new:ObjOk P w (upd H x o') h' x o'):HOk P w (upd H x o') h':=fun b u q=>by
 have nown:∀ c y,H c=some (.own y)→c≠x:=fun c y r z=>by subst z; rw [r] at mu; exact mu
 have ntup:∀ c xs,H c=some (.tup xs)→c≠x:=fun c xs r z=>by subst z; rw [r] at mu; exact mu
 by_cases hb:b=x
 ·subst hb; rw [upd_same] at q; cases q; exact new
 ·rw [upd_ne hb] at q
  by_cases hbe:b=e
  ·have q':H b=some (.own x):=by
    rcases he with z | z
    ·exact absurd (hbe.trans z) hb
    ·rw [hbe]; exact z
   rw [q] at q'; cases q'
   obtain ⟨v,hv⟩:=heo
   exact ⟨v,by rw [hbe]; exact hv⟩
  ·refine (ok b u q).stay (fun c v hc r=>k c v ?_ r) (fun c r=>by rw [upd_ne (nown c b r)]; exact r) fun c xs r=>by rw [upd_ne (ntup c xs r)]; exact r
   rcases hc with rfl | hc
   ·exact hbe
   ·rintro rfl
    rcases he with z | z
    ·exact nown c b hc z
    ·rw [hc] at z; cases z; exact hb rfl
end
structure Un (fs ex:List Addr) (H H':Hp) (h h':Heap):Prop where
 keep:∀ b o,h.get? b=some o→H b=none→b∉fs→b∉ex→h'.get? b=some o
 slot:∀ b o,h.get? b=some o→H b=none→b∈fs→b∉ex→∃ sl,h'.get? b=some { o with slots:=sl }
 free:∀ b o,h.get? b=some o→H b=none→b∉ex→H' b=none
 there:∀ b o,h.get? b=some o→b∉ex→∃ o',h'.get? b=some o'
 tups:∀ b xs,H b=some (.tup xs)→H' b=some (.tup xs)
 frzs:∀ b o u,H b=some (.frz o u)→H' b=some (.frz o u)
 tbls:∀ b ps,H b=some (.tbl ps)→∃ more,H' b=some (.tbl (ps++more))
section
variable {fs fs' ex ex':List Addr} {H H1 H2:Hp} {h h1 h2 h':Heap} {a x e:Addr} {o:HO}
theorem Un.any (u:Un fs ex H H1 h h1) {b:Addr} {ob:Obj} (q:h.get? b=some ob) (n:H b=none) (hx:b∉ex):∃ sl,h1.get? b=some { ob with slots:=sl }:=by
 by_cases hb:b∈fs
 ·exact u.slot b ob q n hb hx
 ·exact ⟨ob.slots,u.keep b ob q n hb hx⟩
theorem Un.trans (a:Un fs ex H H1 h h1) (b:Un fs ex H1 H2 h1 h2):Un fs ex H H2 h h2 where
 keep:=fun c ob q n hc hx=>b.keep c ob (a.keep c ob q n hc hx) (a.free c ob q n hx) hc hx
 slot:=fun c ob q n hc hx=>by
  obtain ⟨sl,e1⟩:=a.slot c ob q n hc hx
  obtain ⟨sl',e2⟩:=b.slot c _ e1 (a.free c ob q n hx) hc hx
  exact ⟨sl',e2⟩
 free:=fun c ob q n hx=>by
  obtain ⟨o',e1⟩:=a.there c ob q hx
  exact b.free c o' e1 (a.free c ob q n hx) hx
 there:=fun c ob q hx=>by
  obtain ⟨o',e1⟩:=a.there c ob q hx
  exact b.there c o' e1 hx
 tups:=fun c xs q=>b.tups c xs (a.tups c xs q)
 frzs:=fun c ob xs q=>b.frzs c ob xs (a.frzs c ob xs q)
 tbls:=fun c ps q=>by
  obtain ⟨m1,e1⟩:=a.tbls c ps q
  obtain ⟨m2,e2⟩:=b.tbls c _ e1
  exact ⟨m1++m2,by rw [e2,Array.append_assoc]⟩
theorem Un.kept (k:∀ b u,h.get? b=some u→h'.get? b=some u):Un fs ex H H h h':=
 ⟨fun b ob q _ _ _=>k b ob q,fun b ob q _ _ _=>⟨ob.slots,k b ob q⟩,fun _ _ _ n _=>n,fun b ob q _=>⟨ob,k b ob q⟩,fun _ _ q=>q,fun _ _ _ q=>q,fun _ ps q=>⟨#[],by rw [q]; simp⟩⟩
theorem Un.refl:Un fs ex H H h h:=Un.kept fun _ _ q=>q
theorem Un.laid (k:∀ b u,h.get? b=some u→h'.get? b=some u) (hp:h.objs.size≤a) (hn:H a=none):Un fs ex H (upd H a o) h h' where
 keep:=fun b u q _ _ _=>k b u q
 slot:=fun b u q _ _ _=>⟨u.slots,k b u q⟩
 free:=fun b u q n _=>by rw [upd_ne (Nat.ne_of_lt (Nat.lt_of_lt_of_le (Heap.lt_size q) hp))]; exact n
 there:=fun b u q _=>⟨u,k b u q⟩
 tups:=fun b xs q=>by rw [upd_ne (ne_of_none q hn)]; exact q
 frzs:=fun b u xs q=>by rw [upd_ne (ne_of_none q hn)]; exact q
 tbls:=fun b ps q=>⟨#[],by rw [upd_ne (ne_of_none q hn),q]; simp⟩
theorem Un.write (mu:Mut (H x)) (he:e=x∨H e=some (.own x)) (k:∀ b u,b≠e→h.get? b=some u→h'.get? b=some u) (heo:∃ u,h'.get? e=some u):Un fs ex H (upd H x o) h h':=by
 have hx:∀ b,H b=none→b≠x:=fun b n z=>by subst z; rw [n] at mu; exact mu
 have hb:∀ b,H b=none→b≠e:=fun b n z=>by
  subst z
  rcases he with r | r
  ·exact hx b n r
  ·rw [n] at r; cases r
 have hm:∀ b u,H b=some u→¬ Mut (some u)→b≠x:=fun b u q nm z=>by subst z; rw [q] at mu; exact nm mu
 refine ⟨fun b u q n _ _=>k b u (hb b n) q,fun b u q n _ _=>⟨u.slots,k b u (hb b n) q⟩,fun b u q n _=>by rw [upd_ne (hx b n)]; exact n,fun b u q _=>?_,
  fun b xs q=>by rw [upd_ne (hm b _ q fun z=>z)]; exact q,fun b u xs q=>by rw [upd_ne (hm b _ q fun z=>z)]; exact q,fun b ps q=>⟨#[],by rw [upd_ne (hm b _ q fun z=>z),q]; simp⟩⟩
 by_cases hbe:b=e
 ·subst hbe; exact heo
 ·exact ⟨u,k b u hbe q⟩
theorem Un.mono (u:Un fs ex H H1 h h1) (hs:∀ b∈fs,b∈fs') (hx:∀ b∈ex,b∈ex'):Un fs' ex' H H1 h h1:=
 ⟨fun b ob q n hb he=>u.keep b ob q n (fun z=>hb (hs b z)) fun z=>he (hx b z),fun _ _ q n _ he=>u.any q n fun z=>he (hx _ z),fun b ob q n he=>u.free b ob q n fun z=>he (hx b z),fun b ob q he=>u.there b ob q fun z=>he (hx b z),u.tups,u.frzs,u.tbls⟩
end
noncomputable def trk (h:Heap) (H:Hp):List Addr:=(List.range h.objs.size).filter fun a=>(H a).isSome
noncomputable def hidT (h:Heap) (H:Hp):Heap:=PySem.W.hideAll h (trk h H)
theorem hidT_size (h:Heap) (H:Hp):(hidT h H).objs.size=h.objs.size:=PySem.W.hideAll_size _ _
theorem hidT_get {h:Heap} {H:Hp} {b:Addr} {o:Obj} (e:h.get? b=some o) (n:H b=none):(hidT h H).get? b=some o:=
 PySem.W.hideAll_get _ e fun hm=>by
  have q:(H b).isSome=true:=(List.mem_filter.mp hm).2
  rw [n] at q; simp at q
theorem of_hidT {h:Heap} {H:Hp} {b:Addr} {o:Obj} (e:(hidT h H).get? b=some o):h.get? b=some o∧H b=none:=by
 have e':h.get? b=some o:=PySem.W.of_hideAll (trk h H) e
 refine ⟨e',?_⟩
 cases q:H b with
 | none=>rfl
 | some x=>
  have hm:b∈trk h H:=List.mem_filter.mpr ⟨List.mem_range.mpr (Heap.lt_size e'),by simp [q]⟩
  have z:(hidT h H).get? b=none:=PySem.W.hideAll_none (trk h H) hm
  rw [z] at e; cases e
noncomputable def allNews (g h:Heap) (L:Addr):List (Addr×Obj):=(List.range h.objs.size).filterMap fun a=>if a=L∨(g.get? a).isSome=true then none else (h.get? a).map fun o=>(a,o)
noncomputable def rest (g h:Heap) (L d:Addr):List (Addr×Obj):=(allNews g h L).filter fun p=>decide (p.1≠d)
end L2
namespace L2
open PySem PySem.Spec PyProof.Rows
structure Mod (K:PySem.W.Frag) (mg:Str→Option Value) (base:Heap):Prop where
 kin:K.In base
 glob:base.Ns mainGlobals mg
 blt:∃ mb,base.Ns builtinsNs mb∧∀ x:Str,x≠"__name__"→mb x=bootBuiltins x
 nolimit:base.NoLimit
structure Cx where
 prog:Program
 w:World
 K:PySem.W.Frag
 mg:Str→Option Value
 base:Heap
 A:Around
 N:List Str
 s₀:Shared
 H₀:Hp
 env:Env
 outer:List Env
 stack:List Env
 ex:List Addr
 fn:Str→Bool
 calm:Bool
 pn:List (Addr×Obj)
 xe:Value→Shared→Prop
noncomputable def frs (l:List Env):List Addr:=l.filterMap (·.frame)
noncomputable abbrev Cx.fs (X:Cx):List Addr:=frs X.outer
noncomputable def Vis (sc:Scope) (x:Str):Prop:=sc.names.lookup x=some .local∨sc.names.lookup x=some .cell∨sc.names.lookup x=some .free
noncomputable def Loc (sc:Scope) (x:Str):Prop:=sc.names.lookup x=some .local∨sc.names.lookup x=some .cell
noncomputable def Look (env:Env) (h:Heap) (m:Str→Option Value) (x:Str) (u:Value):Prop:=
 (env.kindOf x=some .local∧m x=some u)∨((env.kindOf x=some .cell∨env.kindOf x=some .free)∧∃ c,env.cells.lookup x=some c∧h.IsCell c (some u))
structure Cx.Ok (X:Cx):Prop where
 mod:Mod X.K X.mg X.base
 kind:X.env.scope.kind=.function
 glob:X.env.globals=mainGlobals
 blt:X.env.builtins=builtinsNs
 above:X.s₀.heap.objs.size≤X.env.locals
 inj:∀ x y c,X.env.cells.lookup x=some c→X.env.cells.lookup y=some c→x=y
 has:∀ x,(X.env.kindOf x=some .cell∨X.env.kindOf x=some .free)→∃ c,X.env.cells.lookup x=some c
 cab:∀ x c,X.fn x=true→X.env.cells.lookup x=some c→X.s₀.heap.objs.size≤c
 hd:X.calm=true→X.A.handled=none
 frames:X.A.frames=some X.stack
 stk:X.stack=X.outer∨(X.stack=X.env::X.outer∧X.env.frame=some X.env.locals)
 exf:∀ b∈X.ex,b≠X.env.locals∧∀ x c,X.env.cells.lookup x=some c→c≠b
 bs:∀ b o,X.base.get? b=some o→X.s₀.heap.get? b=some o∧X.H₀ b=none
 bsz:X.base.objs.size≤X.s₀.heap.objs.size
 noex:∀ b o,X.base.get? b=some o→b∉X.ex
 exfs:∀ b∈X.ex,b∉X.fs
 funs:X.s₀.heap.FunFrames X.base X.outer
 frf:∀ b∈X.fs,X.H₀ b=none
structure Inv (X:Cx) (pins:List (Addr×Obj)) (σ:List (Option V)) (H:Hp) (s:Shared):Prop where
 ok:X.Ok
 os:s.os=X.s₀.os
 bare:AllBare s.gens
 base:Un X.fs X.ex X.H₀ H X.s₀.heap s.heap
 loc:∃ m,s.heap.Ns X.env.locals m∧∀ (i:Nat) (x:Str) (v:V),X.N[i]? = some x→σ[i]? = some (some v)→Vis X.env.scope x→∃ u,RelV v u∧Look X.env s.heap m x u
 cell:∀ x c,X.env.cells.lookup x=some c→∃ v,s.heap.IsCell c v
 free:H X.env.locals=none
 freeC:∀ x c,X.env.cells.lookup x=some c→H c=none
 pin:∀ p∈X.pn++pins,s.heap.get? p.1=some p.2∧H p.1=none∧p.1≠X.env.locals∧p.1∉X.fs∧∀ v,p.2.data≠.cell v
 hok:HOk X.prog X.w H s.heap
 len:σ.length=X.N.length
section
variable {X:Cx} {pins:List (Addr×Obj)} {σ:List (Option V)} {H H':Hp} {s:Shared} {h':Heap}
theorem Cx.Ok.nofr (ok:X.Ok) {b:Addr} {o:Obj} (e:X.base.get? b=some o):b∉X.fs:=fun hb=>by
 have:=(ok.funs.mem hb).1
 rw [e] at this; cases this
theorem Inv.bs (I:Inv X pins σ H s):∀ b o,X.base.get? b=some o→s.heap.get? b=some o∧H b=none:=fun b o e=>
 ⟨I.base.keep b o (I.ok.bs b o e).1 (I.ok.bs b o e).2 (I.ok.nofr e) (I.ok.noex b o e),I.base.free b o (I.ok.bs b o e).1 (I.ok.bs b o e).2 (I.ok.noex b o e)⟩
theorem Inv.bk (I:Inv X pins σ H s):∀ b o,X.base.get? b=some o→s.heap.get? b=some o:=fun b o e=>(I.bs b o e).1
theorem Inv.mod (I:Inv X pins σ H s):Mod X.K X.mg X.base:=I.ok.mod
theorem Inv.kIn (I:Inv X pins σ H s):X.K.In s.heap:=I.ok.mod.kin.keeps I.bk
theorem Inv.nolimit (I:Inv X pins σ H s):s.heap.NoLimit:=I.ok.mod.nolimit.keeps I.bk
theorem Inv.fr (I:Inv X pins σ H s):∃ m,Fr X.base X.env.locals s.heap m:=
 let ⟨m,hn,_⟩:=I.loc
 ⟨m,hn,I.bk,Nat.le_trans I.ok.bsz I.ok.above⟩
theorem Inv.lt (I:Inv X pins σ H s):X.env.locals < s.heap.objs.size:=let ⟨_,hn,_⟩:=I.loc; hn.lt
theorem Inv.sz (I:Inv X pins σ H s):X.s₀.heap.objs.size≤s.heap.objs.size:=Nat.le_trans I.ok.above (Nat.le_of_lt I.lt)
theorem Inv.nofs (I:Inv X pins σ H s) {a:Addr} (h:s.heap.objs.size≤a):a∉X.fs:=fun hb=>by
 obtain ⟨_,o,ho,_⟩:=I.ok.funs.mem hb
 exact absurd (Nat.lt_of_lt_of_le (Heap.lt_size ho) (Nat.le_trans I.sz h)) (Nat.lt_irrefl _)
theorem Inv.cne (I:Inv X pins σ H s):∀ x c,X.env.cells.lookup x=some c→c≠X.env.locals:=fun x c e z=>by
 obtain ⟨v,o,ho,hd⟩:=I.cell x c e
 obtain ⟨m,⟨o',es,ep,ho',hd',_⟩,_⟩:=I.loc
 rw [z,ho'] at ho; cases ho; rw [hd'] at hd; cases hd
theorem Inv.funs (I:Inv X pins σ H s):s.heap.FunFrames X.base X.outer:=by
 have all:∀ (l:List Env),(∀ b∈frs l,b∈X.fs)→X.s₀.heap.FunFrames X.base l→s.heap.FunFrames X.base l:=by
  intro l
  induction l with
  | nil=>intro _ _; trivial
  | cons env r ih=>
   intro hs hl
   obtain ⟨hk,⟨L,o,hf,hn,ho,hd⟩,hr⟩:=hl
   have hL:L∈X.fs:=hs L (by unfold frs; rw [List.filterMap_cons,hf]; exact List.mem_cons_self)
   obtain ⟨sl,e⟩:=I.base.slot L o ho (I.ok.frf L hL) hL fun z=>I.ok.exfs L z hL
   exact ⟨hk,⟨L,_,hf,hn,e,hd⟩,ih (fun b hb=>hs b (by unfold frs; rw [List.filterMap_cons,hf]; exact List.mem_cons_of_mem _ hb)) hr⟩
 exact all X.outer (fun _ hb=>hb) I.ok.funs
theorem Inv.stack (I:Inv X pins σ H s):s.heap.FunFrames X.base X.stack:=by
 rcases I.ok.stk with e | ⟨e,hf⟩
 ·rw [e]; exact I.funs
 ·rw [e]
  obtain ⟨m,hn,_⟩:=I.loc
  refine .cons (by rw [I.ok.kind]; decide) hf hn ?_ I.funs
  exact Heap.get?_none_of_le (Nat.le_trans I.ok.bsz I.ok.above)
theorem Inv.stkSub (I:Inv X pins σ H s):∀ b∈frs X.stack,b∈X.env.locals::X.fs:=fun b hb=>by
 rcases I.ok.stk with e | ⟨e,hf⟩
 ·rw [e] at hb; exact List.mem_cons_of_mem _ hb
 ·rw [e] at hb
  unfold frs at hb
  rw [List.filterMap_cons,hf] at hb
  exact hb
theorem Inv.stkFree (I:Inv X pins σ H s):∀ b∈frs X.stack,H b=none:=fun b hb=>by
 rcases List.mem_cons.mp (I.stkSub b hb) with e | hb
 ·rw [e]; exact I.free
 ·obtain ⟨_,o,ho,_⟩:=I.ok.funs.mem hb
  exact I.base.free b o ho (I.ok.frf b hb) fun z=>I.ok.exfs b z hb
theorem Inv.step {g':Array GenState} {t':Nat} {d':Drawn} {ch:List Addr} (I:Inv X pins σ H s)
  (hch:∀ b∈ch,(b∈X.ex∨X.s₀.heap.objs.size≤b)∧b≠X.env.locals∧(∀ x c,X.env.cells.lookup x=some c→c≠b)∧∀ p∈X.pn++pins,p.1≠b)
  (keep:∀ b o,b≠X.env.locals→b∉X.fs→b∉ch→s.heap.get? b=some o→H b=none→h'.get? b=some o)
  (slot:∀ b o,b≠X.env.locals→b∈X.fs→b∉ch→s.heap.get? b=some o→H b=none→∃ sl,h'.get? b=some { o with slots:=sl }) (free:∀ b o,b∉ch→s.heap.get? b=some o→H b=none→H' b=none)
  (there:∀ b o,b∉ch→s.heap.get? b=some o→∃ o',h'.get? b=some o')
  (tups:∀ b xs,H b=some (.tup xs)→H' b=some (.tup xs)) (frzs:∀ b o u,H b=some (.frz o u)→H' b=some (.frz o u)) (tbls:∀ b ps,H b=some (.tbl ps)→∃ more,H' b=some (.tbl (ps++more)))
  (ns:∀ m,s.heap.Ns X.env.locals m→h'.Ns X.env.locals m) (hok:HOk X.prog X.w H' h') (hg:AllBare g') :
  Inv X pins σ H' { s with heap:=h',gens:=g',drawn:=d',toks:=t' }:=by
 have neL:∀ b o,X.s₀.heap.get? b=some o→b≠X.env.locals:=fun b o e=>Nat.ne_of_lt (Nat.lt_of_lt_of_le (Heap.lt_size e) I.ok.above)
 have neC:∀ b o,X.s₀.heap.get? b=some o→b∉X.ex→b∉ch:=fun b o e hx hb=>by
  rcases (hch b hb).1 with z | z
  ·exact hx z
  ·exact absurd (Nat.lt_of_lt_of_le (Heap.lt_size e) z) (Nat.lt_irrefl _)
 have cellK:∀ x c,X.env.cells.lookup x=some c→∀ v,s.heap.IsCell c v→h'.IsCell c v:=fun x c e v ⟨o,ho,hd⟩=>by
  have nch:c∉ch:=fun z=>(hch c z).2.2.1 x c e rfl
  by_cases hc:c∈X.fs
  ·obtain ⟨sl,q⟩:=slot c o (I.cne x c e) hc nch ho (I.freeC x c e)
   exact ⟨_,q,hd⟩
  ·exact ⟨o,keep c o (I.cne x c e) hc nch ho (I.freeC x c e),hd⟩
 refine ⟨I.ok,I.os,hg,⟨fun b o e n hb hx=>?_,fun b o e n hb hx=>?_,fun b o e n hx=>?_,fun b o e hx=>?_,fun b xs e=>tups b xs (I.base.tups b xs e),fun b o xs e=>frzs b o xs (I.base.frzs b o xs e),fun b ps e=>?_⟩,?_,fun x c e=>?_,?_,fun x c e=>?_,fun p hp=>?_,hok,I.len⟩
 ·exact keep b o (neL b o e) hb (neC b o e hx) (I.base.keep b o e n hb hx) (I.base.free b o e n hx)
 ·obtain ⟨sl,e1⟩:=I.base.slot b o e n hb hx
  obtain ⟨sl',e2⟩:=slot b _ (neL b o e) hb (neC b o e hx) e1 (I.base.free b o e n hx)
  exact ⟨sl',e2⟩
 ·obtain ⟨o',e1⟩:=I.base.there b o e hx
  exact free b o' (neC b o e hx) e1 (I.base.free b o e n hx)
 ·obtain ⟨o',e1⟩:=I.base.there b o e hx
  exact there b o' (neC b o e hx) e1
 ·obtain ⟨m1,e1⟩:=I.base.tbls b ps e
  obtain ⟨m2,e2⟩:=tbls b _ e1
  exact ⟨m1++m2,by rw [e2,Array.append_assoc]⟩
 ·obtain ⟨m,hn,hl⟩:=I.loc
  refine ⟨m,ns m hn,fun i x v e1 e2 e3=>?_⟩
  obtain ⟨u,r,l⟩:=hl i x v e1 e2 e3
  refine ⟨u,r,?_⟩
  rcases l with l | ⟨k,c,e,z⟩
  ·exact .inl l
  ·exact .inr ⟨k,c,e,cellK x c e _ z⟩
 ·obtain ⟨v,z⟩:=I.cell x c e
  exact ⟨v,cellK x c e v z⟩
 ·obtain ⟨m,⟨o,_,_,ho,_⟩,_⟩:=I.loc
  exact free _ o (fun z=>(hch _ z).2.1 rfl) ho I.free
 ·obtain ⟨v,o,ho,hd⟩:=I.cell x c e
  exact free c o (fun z=>(hch c z).2.2.1 x c e rfl) ho (I.freeC x c e)
 ·obtain ⟨e,n,ne,nf,d⟩:=I.pin p hp
  have nch:p.1∉ch:=fun z=>(hch p.1 z).2.2.2 p hp rfl
  exact ⟨keep p.1 p.2 ne nf nch e n,free p.1 p.2 nch e n,ne,nf,d⟩
theorem Inv.un {t':Nat} (I:Inv X pins σ H s) (u:Un X.fs [] H H' s.heap h') (hok:HOk X.prog X.w H' h'):Inv X pins σ H' { s with heap:=h',toks:=t' }:=by
 obtain ⟨m,⟨o,es,ep,ho,r⟩,_⟩:=id I.loc
 obtain ⟨sl,hL⟩:=u.any ho I.free (by simp)
 exact I.step (g':=s.gens) (d':=s.drawn) (ch:=[]) (fun _ z=>nomatch z) (fun b o _ hb _ e n=>u.keep b o e n hb (by simp)) (fun b o _ hb _ e n=>u.slot b o e n hb (by simp)) (fun b o _ e n=>u.free b o e n (by simp)) (fun b o _ e=>u.there b o e (by simp)) u.tups u.frzs u.tbls (fun m' hm=>by
  obtain ⟨o',es',ep',ho',r'⟩:=hm
  rw [ho] at ho'; cases ho'
  exact ⟨_,es',ep',hL,r'⟩) hok I.bare
theorem Inv.call {g':Array GenState} {t':Nat} {d':Drawn} {ch:List Addr} (I:Inv X pins σ H s) (u:Un (frs X.stack) ch H H' s.heap h') (hok:HOk X.prog X.w H' h') (hg:AllBare g')
  (hch:∀ b∈ch,(b∈X.ex∨X.s₀.heap.objs.size≤b)∧b≠X.env.locals∧(∀ x c,X.env.cells.lookup x=some c→c≠b)∧∀ p∈X.pn++pins,p.1≠b) :
  Inv X pins σ H' { s with heap:=h',gens:=g',drawn:=d',toks:=t' }:=by
 obtain ⟨m,⟨o,es,ep,ho,r⟩,_⟩:=id I.loc
 obtain ⟨sl,hL⟩:=u.any ho I.free fun z=>(hch _ z).2.1 rfl
 exact I.step (ch:=ch) hch (fun b o hL hb hc e n=>u.keep b o e n (fun z=>(List.mem_cons.mp (I.stkSub b z)).elim hL hb) hc) (fun b o _ _ hc e n=>u.any e n hc) (fun b o hc e n=>u.free b o e n hc) (fun b o hc e=>u.there b o e hc) u.tups u.frzs u.tbls (fun m' hm=>by
  obtain ⟨o',es',ep',ho',r'⟩:=hm
  rw [ho] at ho'; cases ho'
  exact ⟨_,es',ep',hL,r'⟩) hok hg
theorem Inv.turned {t':Nat} {it:Addr} (I:Inv X pins σ H s) (k:∀ b o,b≠it→s.heap.get? b=some o→h'.get? b=some o) (hn:H it=none) (hL:it≠X.env.locals)
  (h1:it∈X.ex∨X.s₀.heap.objs.size≤it) (h2:∀ x c,X.env.cells.lookup x=some c→c≠it) (h3:∀ p∈X.pn++pins,p.1≠it):Inv X pins σ H { s with heap:=h',toks:=t' }:=by
 have nit:∀ b u,H b=some u→b≠it:=fun b u e z=>by rw [z,hn] at e; cases e
 refine I.step (g':=s.gens) (d':=s.drawn) (ch:=[it]) (fun b hb=>?_) (fun b o _ _ hc e _=>k b o (fun z=>hc (by simp [z])) e) (fun b o _ _ hc e _=>⟨o.slots,k b o (fun z=>hc (by simp [z])) e⟩) (fun _ _ _ _ n=>n)
  (fun b o hc e=>⟨o,k b o (fun z=>hc (by simp [z])) e⟩) (fun _ _ e=>e) (fun _ _ _ e=>e) (fun b ps e=>⟨#[],by rw [e]; simp⟩) (fun m hm=>?_) (fun b u e=>?_) I.bare
 ·have e:b=it:=by simpa using hb
  subst e
  exact ⟨h1,hL,h2,h3⟩
 ·obtain ⟨o,es,ep,ho,r⟩:=hm
  exact ⟨o,es,ep,k _ o (Ne.symm hL) ho,r⟩
 ·refine (I.hok b u e).stay (fun c v hc q=>k c v ?_ q) (fun _ q=>q) fun _ _ q=>q
  rcases hc with z | z
  ·rw [z]; exact nit b u e
  ·exact nit c _ z
theorem Inv.tok (I:Inv X pins σ H s) (t:Nat):Inv X pins σ H { s with toks:=t }:=I.un (h':=s.heap) (t':=t) Un.refl I.hok
theorem Inv.kept {t':Nat} (I:Inv X pins σ H s) (k:∀ b u,s.heap.get? b=some u→h'.get? b=some u):Inv X pins σ H { s with heap:=h',toks:=t' }:=I.un (Un.kept k) (I.hok.kept k)
theorem Inv.laid {a:Addr} {o:HO} {t':Nat} (I:Inv X pins σ H s) (k:∀ b u,s.heap.get? b=some u→h'.get? b=some u) (hp:s.heap.objs.size≤a) (new:ObjOk X.prog X.w (upd H a o) h' a o) :
  Inv X pins σ (upd H a o) { s with heap:=h',toks:=t' }:=I.un (Un.laid k hp (I.hok.fresh hp)) (I.hok.laid k hp new)
theorem Inv.write {x e:Addr} {o:HO} {t':Nat} (I:Inv X pins σ H s) (mu:Mut (H x)) (he:e=x∨H e=some (.own x)) (k:∀ b u,b≠e→s.heap.get? b=some u→h'.get? b=some u) (heo:∃ u,h'.get? e=some u)
  (new:ObjOk X.prog X.w (upd H x o) h' x o):Inv X pins σ (upd H x o) { s with heap:=h',toks:=t' }:=I.un (Un.write mu he k heo) (I.hok.write mu he k heo new)
theorem Inv.pins_of {pins':List (Addr×Obj)} (I:Inv X pins σ H s) (h:∀ p∈pins',s.heap.get? p.1=some p.2∧H p.1=none∧p.1≠X.env.locals∧p.1∉X.fs∧∀ v,p.2.data≠.cell v):Inv X pins' σ H s:=
 ⟨I.ok,I.os,I.bare,I.base,I.loc,I.cell,I.free,I.freeC,fun p hp=>(List.mem_append.mp hp).elim (fun z=>I.pin p (List.mem_append_left _ z)) (h p),I.hok,I.len⟩
theorem nodup_ix {N:List Str} (hN:N.Nodup) {i j:Nat} {x:Str} (a:N[i]? = some x) (b:N[j]? = some x):i=j:=by
 obtain ⟨h1,e1⟩:=List.getElem?_eq_some_iff.mp a
 obtain ⟨h2,e2⟩:=List.getElem?_eq_some_iff.mp b
 exact (List.getElem_inj hN).mp (e1.trans e2.symm)
theorem store_ok2 {M:Model} {A:Around} {E:Value→Shared→Prop} {i:Nat} {x:Str} {v:V} {u:Value} {Q:Unit→Shared→Prop} (I:Inv X pins σ H s) (hN:X.N.Nodup) (hi:X.N[i]? = some x) (hx:Loc X.env.scope x) (r:RelV v u)
  (h:∀ s',Inv X pins (σ.set i (some v)) H s'→(∃ a,Heap.SameBut a s.heap s'.heap∧(a=X.env.locals∨X.env.cells.lookup x=some a))→Q () s') (hf:X.fn x=true∨X.env.scope.names.lookup x=some .local:=by first | exact .inl rfl | exact .inr rfl | assumption):wpAny M A (storeName X.env x u) Q E s:=by
 obtain ⟨m,hn,hl⟩:=id I.loc
 have hcls:(X.env.scope.kind == .class || (X.env.scope.kind == .module && X.env.locals != X.env.globals))=false:=by rw [I.ok.kind]; rfl
 have hiσ:i < σ.length:=by rw [I.len]; exact (List.getElem?_eq_some_iff.mp hi).1
 have cne:=I.cne
 have tracked:∀ {a:Addr} {h':Heap},(∃ o,s.heap.get? a=some o∧H a=none)→Heap.SameBut a s.heap h'→HOk X.prog X.w H h':=fun {a h'} ha hs b ob e=>by
  obtain ⟨_,_,hfree⟩:=ha
  refine (I.hok b ob e).stay (fun c w' hc q=>(hs.2 c ?_).trans q) (fun _ q=>q) fun _ _ q=>q
  rintro rfl
  rcases hc with rfl | hc
  ·rw [hfree] at e; cases e
  ·rw [hfree] at hc; cases hc
 rcases hx with hk | hk
 ·refine wpAny_storeName_local hk hn (fun h' hn' hs=>?_) hcls
  obtain ⟨oL,_,_,hoL,_⟩:=id hn
  refine h _ ⟨I.ok,I.os,I.bare,⟨fun b o e n hb hx=>?_,fun b o e n hb hx=>?_,I.base.free,fun b o e hx=>?_,I.base.tups,I.base.frzs,I.base.tbls⟩,⟨_,hn',fun j y v' e1 e2 e3=>?_⟩,fun y c e=>?_,I.free,I.freeC,fun p hp=>?_,tracked ⟨oL,hoL,I.free⟩ hs,by simpa using I.len⟩ ⟨_,hs,.inl rfl⟩
  ·exact (hs.2 b (Nat.ne_of_lt (Nat.lt_of_lt_of_le (Heap.lt_size e) I.ok.above))).trans (I.base.keep b o e n hb hx)
  ·obtain ⟨sl,e1⟩:=I.base.slot b o e n hb hx
   exact ⟨sl,(hs.2 b (Nat.ne_of_lt (Nat.lt_of_lt_of_le (Heap.lt_size e) I.ok.above))).trans e1⟩
  ·obtain ⟨o',e1⟩:=I.base.there b o e hx
   exact ⟨o',(hs.2 b (Nat.ne_of_lt (Nat.lt_of_lt_of_le (Heap.lt_size e) I.ok.above))).trans e1⟩
  ·by_cases hj:j=i
   ·subst hj
    rw [hi] at e1; cases e1
    rw [List.getElem?_set_self hiσ] at e2
    cases e2
    exact ⟨u,r,.inl ⟨hk,by simp⟩⟩
   ·rw [List.getElem?_set_ne (Ne.symm hj)] at e2
    obtain ⟨u',r',q⟩:=hl j y v' e1 e2 e3
    refine ⟨u',r',?_⟩
    rcases q with ⟨k,e⟩ | ⟨k,c,e,z⟩
    ·refine .inl ⟨k,?_⟩
     have:y≠x:=fun e=>hj (nodup_ix hN e1 (e ▸ hi))
     simp [this,e]
    ·exact .inr ⟨k,c,e,z.sameBut hs (cne y c e)⟩
  ·obtain ⟨w',z⟩:=I.cell y c e
   exact ⟨w',z.sameBut hs (cne y c e)⟩
  ·obtain ⟨e,n,ne,nf,d⟩:=I.pin p hp
   exact ⟨(hs.2 p.1 ne).trans e,n,ne,nf,d⟩
 ·have hfn:X.fn x=true:=by
   rcases hf with z | z
   ·exact z
   ·rw [z] at hk; cases hk
  obtain ⟨c,hc⟩:=I.ok.has x (.inl hk)
  obtain ⟨w',z⟩:=I.cell x c hc
  refine wpAny_storeName_cell I.ok.kind hk hc z (fun h' hc' hs=>?_)
  obtain ⟨oc,hoc,hocd⟩:=id z
  refine h { s with heap:=h' } ⟨I.ok,I.os,I.bare,⟨fun b o e n hb hx=>?_,fun b o e n hb hx=>?_,I.base.free,fun b o e hx=>?_,I.base.tups,I.base.frzs,I.base.tbls⟩,⟨m,hn.sameBut hs (Ne.symm (cne x c hc)),fun j y v' e1 e2 e3=>?_⟩,fun y c' e=>?_,I.free,I.freeC,fun p hp=>?_,tracked ⟨oc,hoc,I.freeC x c hc⟩ hs,by simpa using I.len⟩ ⟨c,hs,.inr hc⟩
  ·exact (hs.2 b (Nat.ne_of_lt (Nat.lt_of_lt_of_le (Heap.lt_size e) (I.ok.cab x c hfn hc)))).trans (I.base.keep b o e n hb hx)
  ·obtain ⟨sl,e1⟩:=I.base.slot b o e n hb hx
   exact ⟨sl,(hs.2 b (Nat.ne_of_lt (Nat.lt_of_lt_of_le (Heap.lt_size e) (I.ok.cab x c hfn hc)))).trans e1⟩
  ·obtain ⟨o',e1⟩:=I.base.there b o e hx
   exact ⟨o',(hs.2 b (Nat.ne_of_lt (Nat.lt_of_lt_of_le (Heap.lt_size e) (I.ok.cab x c hfn hc)))).trans e1⟩
  ·by_cases hj:j=i
   ·subst hj
    rw [hi] at e1; cases e1
    rw [List.getElem?_set_self hiσ] at e2
    cases e2
    exact ⟨u,r,.inr ⟨.inl hk,c,hc,hc'⟩⟩
   ·rw [List.getElem?_set_ne (Ne.symm hj)] at e2
    obtain ⟨u',r',q⟩:=hl j y v' e1 e2 e3
    refine ⟨u',r',?_⟩
    rcases q with q | ⟨k,c',e,z'⟩
    ·exact .inl q
    ·refine .inr ⟨k,c',e,z'.sameBut hs ?_⟩
     rintro rfl
     exact hj (nodup_ix hN e1 (I.ok.inj _ _ _ e hc ▸ hi))
  ·by_cases hcc:c'=c
   ·subst hcc; exact ⟨_,hc'⟩
   ·obtain ⟨w2,z2⟩:=I.cell y c' e
    exact ⟨w2,z2.sameBut hs hcc⟩
  ·obtain ⟨e,n,ne,nf,d⟩:=I.pin p hp
   refine ⟨(hs.2 p.1 ?_).trans e,n,ne,nf,d⟩
   intro q
   rw [q,hoc] at e
   have q':oc=p.2:=Option.some.inj e
   exact d w' (by rw [← q']; exact hocd)
theorem store_ok {M:Model} {A:Around} {E:Value→Shared→Prop} {i:Nat} {x:Str} {v:V} {u:Value} {Q:Unit→Shared→Prop} (I:Inv X pins σ H s) (hN:X.N.Nodup) (hi:X.N[i]? = some x) (hx:Loc X.env.scope x) (r:RelV v u)
  (h:∀ s',Inv X pins (σ.set i (some v)) H s'→Q () s') (hf:X.fn x=true∨X.env.scope.names.lookup x=some .local:=by first | exact .inl rfl | exact .inr rfl | assumption):wpAny M A (storeName X.env x u) Q E s:=
 store_ok2 I hN hi hx r (fun s' I' _=>h s' I') hf
theorem Inv.call' {s':Shared} {ch:List Addr} (I:Inv X pins σ H s) (ho:s'.os=s.os) (u:Un (frs X.stack) ch H H' s.heap s'.heap) (hok:HOk X.prog X.w H' s'.heap) (hg:AllBare s'.gens)
  (hch:∀ b∈ch,(b∈X.ex∨X.s₀.heap.objs.size≤b)∧b≠X.env.locals∧(∀ x c,X.env.cells.lookup x=some c→c≠b)∧∀ p∈X.pn++pins,p.1≠b):Inv X pins σ H' s':=by
 obtain ⟨h',g',d',t',o'⟩:=s'
 have e:o'=s.os:=ho
 subst e
 exact I.call (g':=g') (t':=t') (d':=d') u hok hg hch
end
noncomputable abbrev XK:=Value→Option Addr→Hp→Prop
noncomputable abbrev St:=List (Option V)
noncomputable abbrev VK:=V→Hp→Prop
noncomputable abbrev TE:=St→Hp→VK→Prop
noncomputable abbrev TT:=St→Hp→(Bool→Hp→Prop)→Prop
noncomputable abbrev TA:=St→Hp→(List V→Hp→Prop)→Prop
structure Ends where
 nx:St→Hp→Prop
 rt:VK
 bk:St→Hp→Prop:=fun _ _=>False
 ct:St→Hp→Prop:=fun _ _=>False
noncomputable abbrev TS:=Ends→St→Hp→Prop
noncomputable def EP (X:Cx) (pins:List (Addr×Obj)) (σ:St) (Q:VK) (u:Value) (s':Shared):Prop:=∃ v H',Inv X pins σ H' s'∧RelV v u∧Q v H'
noncomputable def TP (X:Cx) (pins:List (Addr×Obj)) (σ:St) (Q:Bool→Hp→Prop) (b:Bool) (s':Shared):Prop:=∃ H',Inv X pins σ H' s'∧Q b H'
noncomputable def AP (X:Cx) (pins:List (Addr×Obj)) (σ:St) (Q:List V→Hp→Prop) (us:List Value) (s':Shared):Prop:=∃ vs H',Inv X pins σ H' s'∧Vals vs us∧Q vs H'
noncomputable def SP (X:Cx) (pins:List (Addr×Obj)) (D:Ends) (f:Flow) (s':Shared):Prop:=
 match f with
 | .next=>∃ σ' H',Inv X pins σ' H' s'∧D.nx σ' H'
 | .brk=>∃ σ' H',Inv X pins σ' H' s'∧D.bk σ' H'
 | .cont=>∃ σ' H',Inv X pins σ' H' s'∧D.ct σ' H'
 | .ret u=>∃ v σ' H',Inv X pins σ' H' s'∧RelV v u∧D.rt v H'
noncomputable def PE (X:Cx) (e:Expr) (t:TE):Prop:=
 ∀ (pins:List (Addr×Obj)) (s:Shared) (σ:St) (H:Hp) (Q:VK),Inv X pins σ H s→t σ H Q→wpAny (model X.prog X.w) X.A (eval e X.env) (EP X pins σ Q) X.xe s
noncomputable def PT (X:Cx) (e:Expr) (t:TT):Prop:=
 ∀ (pins:List (Addr×Obj)) (s:Shared) (σ:St) (H:Hp) (Q:Bool→Hp→Prop),Inv X pins σ H s→t σ H Q→wpAny (model X.prog X.w) X.A (isTrue e X.env (eval e X.env)) (TP X pins σ Q) X.xe s
noncomputable def PW (X:Cx) (e:Expr) (t:TT):Prop:=
 ∀ (whole:Sem Value) (pins:List (Addr×Obj)) (s:Shared) (σ:St) (H:Hp) (Q:Bool→Hp→Prop),Inv X pins σ H s→t σ H Q→wpAny (model X.prog X.w) X.A (isTrue e X.env whole) (TP X pins σ Q) X.xe s
theorem PW.pt {X:Cx} {e:Expr} {t:TT} (h:PW X e t):PT X e t:=h _
noncomputable def PA (X:Cx) (es:List Expr) (t:TA):Prop:=
 ∀ (pos:Pos) (pins:List (Addr×Obj)) (s:Shared) (σ:St) (H:Hp) (Q:List V→Hp→Prop),Inv X pins σ H s→t σ H Q→wpAny (model X.prog X.w) X.A (spliced (backTo pos (starEach es X.env))) (AP X pins σ Q) X.xe s
noncomputable def PS (X:Cx) (st:Stmt) (t:TS):Prop:=
 ∀ (pins:List (Addr×Obj)) (s:Shared) (σ:St) (H:Hp) (D:Ends),Inv X pins σ H s→t D σ H→wpAny (model X.prog X.w) X.A (exec st X.env) (SP X pins D) X.xe s
noncomputable def PSs (X:Cx) (st:List Stmt) (t:TS):Prop:=
 ∀ (pins:List (Addr×Obj)) (s:Shared) (σ:St) (H:Hp) (D:Ends),Inv X pins σ H s→t D σ H→wpAny (model X.prog X.w) X.A (execs st X.env) (SP X pins D) X.xe s
theorem thn {α:Type} {t:Sem α} {Q Q':α→Shared→Prop} {M:Model} {A:Around} {E:Value→Shared→Prop} {s:Shared} (h:wpAny M A t Q E s) (hQ:∀ a s,Q a s→Q' a s):wpAny M A t Q' E s:=wpAny_mono h hQ fun _ _ x=>x
end L2
namespace L2
open PySem PySem.Spec PyProof.Rows
section
variable {X:Cx}
noncomputable def tVar (i:Nat):TE:=fun σ H Q=>∃ v,σ[i]? = some (some v)∧Q v H
noncomputable def tC (v:V):TE:=fun _ H Q=>Q v H
theorem pe_var {i:Nat} {x:Str} {pos:Pos} (hN:X.N[i]? = some x) (hv:Vis X.env.scope x) (hd:(x == ("__debug__" : Str))=false:=by decide) (hcd:(x == ("__classdict__" : Str))=false:=by decide):PE X (.Name x pos) (tVar i):=by
 intro pins s σ H Q I h
 obtain ⟨v,e,h⟩:=h
 obtain ⟨m,hn,hl⟩:=I.loc
 obtain ⟨u,r,l⟩:=hl i x v hN e hv
 have fin:EP X pins σ Q u s:=⟨v,H,I,r,h⟩
 rcases l with ⟨hk,hm⟩ | ⟨hk,c,hc,hcell⟩
 ·exact wpAny_Name (wpAny_loadName_local I.ok.kind hk hn hm fin) hd
 ·rcases hk with hk | hk
  ·exact wpAny_Name (wpAny_loadName_cell I.ok.kind hk hc hcell fin) hd
  ·exact wpAny_Name (wpAny_loadName_free I.ok.kind hk hc hcell fin hcd) hd
theorem pe_int {i j pos}:PE X (.Constant (.int i) j pos) (tC (.int i)):=fun _ _ _ H _ I h=>wpAny_Constant_int ⟨.int i,H,I.tok _,⟨_,rfl⟩,h⟩
theorem pe_bl {b j pos}:PE X (.Constant (.bool b) j pos) (tC (.bl b)):=fun _ _ _ H _ I h=>Constant_bool ⟨.bl b,H,I,rfl,h⟩
theorem pe_non {j pos}:PE X (.Constant .none j pos) (tC .non):=fun _ _ _ H _ I h=>Constant_none ⟨.non,H,I,rfl,h⟩
theorem pe_str {x j pos}:PE X (.Constant (.str x) j pos) (tC (.str x)):=fun _ _ _ H _ I h=>Calls.Constant_str ⟨.str x,H,I.tok _,⟨_,rfl⟩,h⟩
noncomputable def Gl (X:Cx) (x:Str):Prop:=X.env.kindOf x=some .globalImplicit
theorem ld_glob {E:Value→Shared→Prop} {pins:List (Addr×Obj)} {s:Shared} {σ:St} {H:Hp} {x:Str} {u:Value} {pos:Pos} {Q:Value→Shared→Prop} (I:Inv X pins σ H s) (hg:Gl X x) (hm:X.mg x=some u) (h:Q u s)
  (hd:(x == ("__debug__" : Str))=false:=by decide):wpAny (model X.prog X.w) X.A (eval (.Name x pos) X.env) Q E s:=
 Calls.Name_function_global I.ok.kind hg (Calls.loadGlobal_global (by rw [I.ok.glob]; exact I.mod.glob.keeps I.bk) hm h) hd
theorem ld_blt {E:Value→Shared→Prop} {pins:List (Addr×Obj)} {s:Shared} {σ:St} {H:Hp} {x:Str} {u:Value} {pos:Pos} {Q:Value→Shared→Prop} (I:Inv X pins σ H s) (hg:Gl X x) (hm:X.mg x=none) (hv:bootBuiltins x=some u) (h:Q u s)
  (hn:x≠"__name__":=by decide) (hd:(x == ("__debug__" : Str))=false:=by decide):wpAny (model X.prog X.w) X.A (eval (.Name x pos) X.env) Q E s:=by
 obtain ⟨mb,h1,h2⟩:=I.mod.blt
 exact Calls.Name_function_global I.ok.kind hg (Calls.loadGlobal_builtin (by rw [I.ok.glob]; exact I.mod.glob.keeps I.bk) hm (by rw [I.ok.blt]; exact h1.keeps I.bk) ((h2 x hn).trans hv) h) hd
theorem pe_bltn {x:Str} {v:V} {u:Value} {pos:Pos} (hg:Gl X x) (hm:X.mg x=none) (hv:bootBuiltins x=some u) (r:RelV v u) (hn:x≠"__name__":=by decide) (hd:(x == ("__debug__" : Str))=false:=by decide):PE X (.Name x pos) (tC v):=
 fun _ _ _ H _ I h=>ld_blt I hg hm hv ⟨v,H,I,r,h⟩ hn hd
variable {a b:Expr} {ta tb:TE} {pos:Pos}
noncomputable def PC (X:Cx) (op:CmpOp) (a b:Expr) (t:TE):Prop:=
 ∀ (pins:List (Addr×Obj)) (s:Shared) (σ:St) (H:Hp) (Q:VK),Inv X pins σ H s→t σ H Q →
  wpAny (model X.prog X.w) X.A (eval a X.env) (fun v s₁=>wpAny (model X.prog X.w) X.A (eval b X.env) (fun u s₂=>wpAny (model X.prog X.w) X.A (compareOp op v u) (EP X pins σ Q) X.xe s₂) X.xe s₁) X.xe s
theorem nobehind (b:Expr) {op:CmpOp} (h:op≠.In) (h2:op≠.NotIn):behindInMarks op b=false:=by
 have e1:(op == CmpOp.In)=false:=by cases op <;> first | rfl | exact absurd rfl h
 have e2:(op == CmpOp.NotIn)=false:=by cases op <;> first | rfl | exact absurd rfl h2
 cases b <;> simp [behindInMarks,e1,e2]
noncomputable def tNotN (ta:TE):TE:=fun σ H Q=>ta σ H fun x H1=>Q (.bl (!decide (x=.non))) H1
theorem RelV.none_iff {x:V} {v:Value} (r:RelV x v):(v == Value.none)=decide (x=.non):=by
 cases x with
 | non=>cases r; rfl
 | bl _=>cases r; rfl
 | int _=>obtain ⟨t,rfl⟩:=r; rfl
 | str _=>obtain ⟨t,rfl⟩:=r; rfl
 | byt _=>obtain ⟨t,rfl⟩:=r; rfl
 | flt _=>obtain ⟨t,rfl⟩:=r; rfl
 | ref _=>cases r; rfl
 | ty _=>cases r; rfl
theorem pc_notN {j pos'} (ha:PE X a ta):PC X .IsNot a (.Constant .none j pos') (tNotN ta):=by
 intro pins s σ H Q I h
 refine thn (ha pins s σ H _ I h) fun v s1 ⟨x,H1,I1,r1,q1⟩=>?_
 exact Constant_none (isnot_none_gen ⟨.bl _,H1,I1,by rw [r1.none_iff]; rfl,q1⟩)
noncomputable def tB (t:TE):TT:=fun σ H Q=>t σ H fun x H1=>∃ c,x=.bl c∧Q c H1
theorem pt_cmp {op:CmpOp} {t:TE} (h:PC X op a b t) (h1:behindInMarks op b=false:=by first | exact nobehind _ (by decide) (by decide) | rfl):PT X (.Compare a [op] [b] pos) (tB t):=by
 intro pins s σ H Q I hw
 refine wpAny_isTrue_Compare1 (thn (h pins s σ H _ I hw) fun v s1 h1=>thn h1 fun u s2 h2=>thn h2 fun c s3 ⟨x,H1,I1,r1,q1⟩=>?_) h1
 obtain ⟨d,rfl,q⟩:=q1
 cases r1
 exact wpAny_truthy_bool ⟨H1,I1,q⟩
theorem pt_val {e:Expr} {t:TE} (h:PE X e t) (he:∀ whole,isTrue e X.env whole=(do let v ← whole; standAt e.pos; holding [v] (truthy v)):=by intro _; rfl):PT X e (tB t):=by
 intro pins s σ H Q I hw
 refine isTrue_plain (thn (h pins s σ H _ I hw) fun v s1 ⟨x,H1,I1,r1,q1⟩=>?_) (he _)
 obtain ⟨d,rfl,q⟩:=q1
 cases r1
 exact wpAny_truthy_bool ⟨H1,I1,q⟩
variable {tA tB':TT} {rest:List Expr}
noncomputable def tAnd (t u:TT):TT:=fun σ H Q=>t σ H fun c H1=>if c=true then u σ H1 Q else Q false H1
noncomputable def tOr (t u:TT):TT:=fun σ H Q=>t σ H fun c H1=>if c=true then Q true H1 else u σ H1 Q
noncomputable def tNot (t:TT):TT:=fun σ H Q=>t σ H fun c H1=>Q (!c) H1
theorem pw_and1 (ha:PT X a tA):PW X (.BoolOp .And [a] pos) tA:=by
 intro wh pins s σ H Q I h
 refine isTrue_and (thn (ha pins s σ H Q I h) fun c s1 e=>?_)
 cases c with
 | true=>exact isTrue_and_nil e
 | false=>exact e
theorem pw_or1 (ha:PT X a tA):PW X (.BoolOp .Or [a] pos) tA:=by
 intro wh pins s σ H Q I h
 refine isTrue_or (thn (ha pins s σ H Q I h) fun c s1 e=>?_)
 cases c with
 | false=>exact isTrue_or_nil e
 | true=>exact e
theorem pw_and (ha:PT X a tA) (hb:PW X (.BoolOp .And (b::rest) pos) tB'):PW X (.BoolOp .And (a::b::rest) pos) (tAnd tA tB'):=by
 intro wh pins s σ H Q I h
 refine isTrue_and (thn (ha pins s σ H _ I h) fun c s1 ⟨H1,I1,q1⟩=>?_)
 cases c with
 | true=>exact hb wh pins s1 σ H1 Q I1 q1
 | false=>exact ⟨H1,I1,q1⟩
theorem pw_or (ha:PT X a tA) (hb:PW X (.BoolOp .Or (b::rest) pos) tB'):PW X (.BoolOp .Or (a::b::rest) pos) (tOr tA tB'):=by
 intro wh pins s σ H Q I h
 refine isTrue_or (thn (ha pins s σ H _ I h) fun c s1 ⟨H1,I1,q1⟩=>?_)
 cases c with
 | true=>exact ⟨H1,I1,q1⟩
 | false=>exact hb wh pins s1 σ H1 Q I1 q1
theorem pt_not (ha:PT X a tA):PT X (.UnaryOp .Not a pos) (tNot tA):=by
 intro pins s σ H Q I h
 exact isTrue_not (ha pins s σ H (fun c H1=>Q (!c) H1) I h)
noncomputable def tAndV (ta tb:TE):TE:=fun σ H Q=>ta σ H fun x H1=>∃ c,x=.bl c∧if c=true then tb σ H1 Q else Q (.bl false) H1
theorem pe_one {op} {t:TE} (h:PE X a t):PE X (.BoolOp op [a] pos) t:=fun pins s σ H Q I hw=>BoolOp_one (h pins s σ H Q I hw)
theorem pe_and (ha:PE X a ta) (hb:PE X (.BoolOp .And (b::rest) pos) tb):PE X (.BoolOp .And (a::b::rest) pos) (tAndV ta tb):=by
 intro pins s σ H Q I h
 refine BoolOp_and (thn (ha pins s σ H _ I h) fun v s1 ⟨x,H1,I1,r1,q1⟩=>?_)
 obtain ⟨c,rfl,q1⟩:=q1
 cases r1
 refine wpAny_truthy_bool ?_
 cases c with
 | true=>exact hb pins s1 σ H1 Q I1 q1
 | false=>exact ⟨.bl false,H1,I1,rfl,q1⟩
noncomputable def tIf (t:TT) (ta tb:TE):TE:=fun σ H Q=>t σ H fun c H1=>if c=true then ta σ H1 Q else tb σ H1 Q
theorem pe_ifExp {c:Expr} (hc:PT X c tA) (ha:PE X a ta) (hb:PE X b tb):PE X (.IfExp c a b pos) (tIf tA ta tb):=by
 intro pins s σ H Q I h
 refine wpAny_IfExp (thn (hc pins s σ H _ I h) fun d s1 ⟨H1,I1,q1⟩=>?_)
 cases d with
 | true=>exact ha pins s1 σ H1 Q I1 q1
 | false=>exact hb pins s1 σ H1 Q I1 q1
end
end L2
namespace L2
open PySem PySem.Spec PyProof.Rows
noncomputable def SqL (K:PySem.W.Frag) (H:Hp) (a:Addr) (xs:List V):Prop:=
 Rd H a (.lst xs) ∨
  ∃ (o:Obj) (its:Array Value) (n:Nat),K.lookup a=some o∧o.cls=.type "list"∧o.dict=none∧o.data=.seq its n∧its.size≤sizeLine∧Vals xs its.toList
noncomputable def SqT (K:PySem.W.Frag) (H:Hp) (a:Addr) (xs:List V):Prop:=
 Rd H a (.tup xs) ∨
  ∃ (o:Obj) (its:Array Value) (n:Nat),K.lookup a=some o∧o.cls=.type "tuple"∧o.data=.seq its n∧its.size≤sizeLine∧Vals xs its.toList
noncomputable def absV:Value→Option V
 | .none=>some .non
 | .bool b=>some (.bl b)
 | .int i _=>some (.int i)
 | .str x _=>some (.str x)
 | .bytes b _=>some (.byt b)
 | .float b _=>some (.flt b)
 | .ref a=>some (.ref a)
 | .type n=>some (.ty n)
 | _=>none
theorem RelV.abs {x:V} {u:Value} (r:RelV x u):absV u=some x:=by
 cases x with
 | non=>cases r; rfl
 | bl _=>cases r; rfl
 | int _=>obtain ⟨t,rfl⟩:=r; rfl
 | str _=>obtain ⟨t,rfl⟩:=r; rfl
 | byt _=>obtain ⟨t,rfl⟩:=r; rfl
 | flt _=>obtain ⟨t,rfl⟩:=r; rfl
 | ref _=>cases r; rfl
 | ty _=>cases r; rfl
theorem RelV.inj {x y:V} {u:Value} (r:RelV x u) (q:RelV y u):x=y:=Option.some.inj (r.abs.symm.trans q.abs)
theorem Vals.inj:∀ {xs ys:List V} {us:List Value},Vals xs us→Vals ys us→xs=ys
 | _,_,_,.nil,.nil=>rfl
 | _,_,_,.cons r t,.cons r' t'=>by rw [r.inj r',Vals.inj t t']
section
variable {X:Cx} {pins:List (Addr×Obj)} {σ:St} {H:Hp} {s:Shared} {a:Addr} {xs ys:List V}
theorem SqL.of {K:PySem.W.Frag} (h:H a=some (.lst xs)):SqL K H a xs:=.inl (.inl h)
theorem SqT.of {K:PySem.W.Frag} (h:H a=some (.tup xs)):SqT K H a xs:=.inl (.inl h)
theorem Inv.list (I:Inv X pins σ H s) (h:SqL X.K H a xs):∃ its:List Value,Vals xs its∧PlainL s.heap a its.toArray∧xs.length≤sizeLine:=by
 rcases h with h | ⟨o,its,n,hk,hc,hd,hs,hz,r⟩
 ·obtain ⟨z,its,n,r,e⟩:=h.ok I.hok
  exact ⟨its,r,⟨_,n,e,rfl,rfl,rfl⟩,z⟩
 ·refine ⟨its.toList,r,⟨o,n,I.kIn a o hk,hc,hd,by simpa using hs⟩,?_⟩
  have e:=r.length
  simp only [Array.length_toList] at e
  omega
theorem Inv.tuple (I:Inv X pins σ H s) (h:SqT X.K H a xs):∃ its:List Value,Vals xs its∧IsTup s.heap a its.toArray∧xs.length≤sizeLine:=by
 rcases h with h | ⟨o,its,n,hk,hc,hs,hz,r⟩
 ·obtain ⟨z,its,r,p⟩:=h.ok I.hok
  exact ⟨its,r,p,z⟩
 ·refine ⟨its.toList,r,⟨o,I.kIn a o hk,hc,n,by simpa using hs⟩,?_⟩
  have e:=r.length
  simp only [Array.length_toList] at e
  omega
theorem Inv.list_inj (I:Inv X pins σ H s) (h:SqL X.K H a xs) (h':SqL X.K H a ys):xs=ys:=by
 obtain ⟨its,r,⟨o,n,e,_,_,d⟩,_⟩:=I.list h
 obtain ⟨its',r',⟨o',n',e',_,_,d'⟩,_⟩:=I.list h'
 rw [e] at e'; cases e'
 rw [d] at d'
 injection d' with d1 _
 have:its=its':=by simpa using congrArg Array.toList d1
 subst this
 exact r.inj r'
theorem Inv.tuple_inj (I:Inv X pins σ H s) (h:SqT X.K H a xs) (h':SqT X.K H a ys):xs=ys:=by
 obtain ⟨its,r,⟨o,e,_,n,d⟩,_⟩:=I.tuple h
 obtain ⟨its',r',⟨o',e',_,n',d'⟩,_⟩:=I.tuple h'
 rw [e] at e'; cases e'
 rw [d] at d'
 injection d' with d1 _
 have:its=its':=by simpa using congrArg Array.toList d1
 subst this
 exact r.inj r'
end
noncomputable abbrev Cx.wish (X:Cx) (E:Value→Shared→Prop):Cx:={ X with xe:=E }
noncomputable abbrev Cx.nox (X:Cx):Cx:=X.wish fun _ _=>False
theorem Cx.Ok.wish {X:Cx} (ok:X.Ok) (E:Value→Shared→Prop):(X.wish E).Ok:=
 ⟨ok.mod,ok.kind,ok.glob,ok.blt,ok.above,ok.inj,ok.has,ok.cab,ok.hd,ok.frames,ok.stk,ok.exf,ok.bs,ok.bsz,ok.noex,ok.exfs,ok.funs,ok.frf⟩
theorem Cx.Ok.unwish {X:Cx} {E:Value→Shared→Prop} (ok:(X.wish E).Ok):X.Ok:=
 ⟨ok.mod,ok.kind,ok.glob,ok.blt,ok.above,ok.inj,ok.has,ok.cab,ok.hd,ok.frames,ok.stk,ok.exf,ok.bs,ok.bsz,ok.noex,ok.exfs,ok.funs,ok.frf⟩
section
variable {X:Cx} {pins:List (Addr×Obj)} {σ:St} {H:Hp} {s:Shared} {E:Value→Shared→Prop}
theorem Inv.wish (I:Inv X pins σ H s) (E:Value→Shared→Prop):Inv (X.wish E) pins σ H s:=⟨I.ok.wish E,I.os,I.bare,I.base,I.loc,I.cell,I.free,I.freeC,I.pin,I.hok,I.len⟩
theorem Inv.unwish (I:Inv (X.wish E) pins σ H s):Inv X pins σ H s:=⟨I.ok.unwish,I.os,I.bare,I.base,I.loc,I.cell,I.free,I.freeC,I.pin,I.hok,I.len⟩
theorem SP.unwish {D:Ends} {f:Flow} {s':Shared} (h:SP (X.wish E) pins D f s'):SP X pins D f s':=by
 cases f with
 | next=>obtain ⟨σ',H',I,q⟩:=h; exact ⟨σ',H',I.unwish,q⟩
 | brk=>obtain ⟨σ',H',I,q⟩:=h; exact ⟨σ',H',I.unwish,q⟩
 | cont=>obtain ⟨σ',H',I,q⟩:=h; exact ⟨σ',H',I.unwish,q⟩
 | ret u=>obtain ⟨v,σ',H',I,r,q⟩:=h; exact ⟨v,σ',H',I.unwish,r,q⟩
theorem PE.nox {e:Expr} {t:TE} (h:PE X.nox e t):PE X e t:=fun pins s σ H Q I hw=>
 wpAny_mono (h pins s σ H Q (I.wish _) hw) (fun _ _ ⟨v,H',I',r,q⟩=>⟨v,H',I'.unwish,r,q⟩) fun _ _ z=>False.elim z
theorem PT.nox {e:Expr} {t:TT} (h:PT X.nox e t):PT X e t:=fun pins s σ H Q I hw=>
 wpAny_mono (h pins s σ H Q (I.wish _) hw) (fun _ _ ⟨H',I',q⟩=>⟨H',I'.unwish,q⟩) fun _ _ z=>False.elim z
theorem PSs.nox {st:List Stmt} {t:TS} (h:PSs X.nox st t):PSs X st t:=fun pins s σ H D I hw=>
 wpAny_mono (h pins s σ H D (I.wish _) hw) (fun _ _ q=>q.unwish) fun _ _ z=>False.elim z
end
section
variable {X:Cx} {st:Stmt} {rest:List Stmt} {t u:TS} {e:Expr} {te:TE} {pos:Pos}
noncomputable def tNext:TS:=fun D σ H=>D.nx σ H
noncomputable def tSeq (t u:TS):TS:=fun D σ H=>t { D with nx:=u D } σ H
theorem pss_nil:PSs X [] tNext:=fun _ _ σ H _ I h=>wpAny_execs_nil ⟨σ,H,I,h⟩
theorem pss_cons (h1:PS X st t) (h2:PSs X rest u):PSs X (st::rest) (tSeq t u):=by
 intro pins s σ H D I h
 refine wpAny_execs_cons (thn (h1 pins s σ H { D with nx:=u D } I h) fun f s1 q=>?_)
 cases f with
 | next=>
  obtain ⟨σ',H',I',q⟩:=q
  exact h2 pins s1 σ' H' D I' q
 | ret v=>exact q
 | brk=>exact q
 | cont=>exact q
theorem pss_one (h1:PS X st t):PSs X [st] t:=by
 intro pins s σ H D I h
 refine wpAny_execs_cons (thn (h1 pins s σ H D I h) fun f s1 q=>?_)
 cases f with
 | next=>exact wpAny_execs_nil q
 | ret v=>exact q
 | brk=>exact q
 | cont=>exact q
theorem Inv.quiet {pins:List (Addr×Obj)} {σ:St} {H:Hp} {s:Shared} (I:Inv X pins σ H s):interactive X.env=false:=by simp [interactive,I.ok.kind]
noncomputable def tDrop (te:TE):TS:=fun D σ H=>te σ H fun _ H1=>D.nx σ H1
theorem ps_expr (he:PE X e te) (hs:swapsWith e none pos.line X.env=pure false:=by rfl):PS X (.Expr e pos) (tDrop te):=by
 intro pins s σ H D I h
 exact wpAny_Expr_any (thn (he pins s σ H _ I h) fun v s1 ⟨x,H1,I1,r1,q1⟩=>⟨σ,H1,I1,q1⟩) I.quiet hs
noncomputable def tRet (te:TE):TS:=fun D σ H=>te σ H D.rt
theorem ps_ret (he:PE X e te):PS X (.Return (some e) pos) (tRet te):=by
 intro pins s σ H D I h
 exact wpAny_Return_some (thn (he pins s σ H _ I h) fun v s1 ⟨x,H1,I1,r1,q1⟩=>⟨x,σ,H1,I1,r1,q1⟩)
noncomputable def tIfS (c:TT) (t u:TS):TS:=fun D σ H=>c σ H fun b H1=>if b=true then t D σ H1 else u D σ H1
theorem ps_if {c:Expr} {a b:List Stmt} {tc:TT} (hc:PT X c tc) (ha:PSs X a t) (hb:PSs X b u):PS X (.If c a b pos) (tIfS tc t u):=by
 intro pins s σ H D I h
 refine wpAny_If (thn (hc pins s σ H _ I h) fun d s1 ⟨H1,I1,q1⟩=>?_)
 cases d with
 | true=>exact ha pins s1 σ H1 D I1 q1
 | false=>exact hb pins s1 σ H1 D I1 q1
end
noncomputable abbrev TG:=V→St→Hp→(St→Hp→Prop)→Prop
noncomputable abbrev TGs:=List V→St→Hp→(St→Hp→Prop)→Prop
noncomputable def PG (X:Cx) (target:Expr) (t:TG):Prop:=
 ∀ (pins:List (Addr×Obj)) (s:Shared) (σ:St) (H:Hp) (v:V) (u:Value) (Q:St→Hp→Prop),Inv X pins σ H s→RelV v u→t v σ H Q →
  wpAny (model X.prog X.w) X.A (assign target X.env u) (fun _ s'=>∃ σ' H',Inv X pins σ' H' s'∧Q σ' H') X.xe s
noncomputable def PGs (X:Cx) (ts:List Expr) (t:TGs):Prop:=
 ∀ (pins:List (Addr×Obj)) (s:Shared) (σ:St) (H:Hp) (vs:List V) (us:List Value) (Q:St→Hp→Prop),Inv X pins σ H s→Vals vs us→t vs σ H Q →
  wpAny (model X.prog X.w) X.A (assignInOrder ((assignEach ts X.env).map (·.2)) us) (fun _ s'=>∃ σ' H',Inv X pins σ' H' s'∧Q σ' H') X.xe s
section
variable {X:Cx} {pos:Pos}
noncomputable def gName (i:Nat):TG:=fun v σ H Q=>Q (σ.set i (some v)) H
theorem pg_name {i:Nat} {x:Str} (hN:X.N.Nodup) (hi:X.N[i]? = some x) (hx:Loc X.env.scope x) (hf:X.fn x=true∨X.env.scope.names.lookup x=some .local:=by first | exact .inl rfl | exact .inr rfl | assumption):PG X (.Name x pos) (gName i):=by
 intro pins s σ H v u Q I r h
 exact wpAny_assign_Name (store_ok I hN hi hx r (fun s' I'=>⟨_,H,I',h⟩) hf)
noncomputable def gNil:TGs:=fun vs σ H Q=>vs=[]∧Q σ H
noncomputable def gCons (t:TG) (u:TGs):TGs:=fun vs σ H Q=>∃ v r,vs=v::r∧t v σ H fun σ' H'=>u r σ' H' Q
theorem pgs_nil:PGs X [] gNil:=by
 intro pins s σ H vs us Q I r h
 obtain ⟨e,h⟩:=h
 subst e
 cases r
 exact assignInOrder_nil ⟨σ,H,I,h⟩
theorem pgs_cons {e:Expr} {es:List Expr} {t:TG} {u:TGs} (h1:PG X e t) (h2:PGs X es u)
  (hs:(assignEach (e::es) X.env).map (·.2)=assign e X.env::(assignEach es X.env).map (·.2):=by rfl):PGs X (e::es) (gCons t u):=by
 intro pins s σ H vs us Q I r h
 obtain ⟨v,vr,e1,h⟩:=h
 subst e1
 cases r with
 | cons r rr=>
  rw [hs]
  refine assignInOrder_cons (thn (h1 pins s σ H _ _ _ I r h) fun _ s1 ⟨σ1,H1,I1,q1⟩=>?_)
  exact h2 pins s1 σ1 H1 _ _ Q I1 rr q1
noncomputable def gTup (K:PySem.W.Frag) (n:Nat) (t:TGs):TG:=fun v σ H Q=>∃ a xs,v=.ref a∧SqT K H a xs∧xs.length=n∧t xs σ H Q
theorem pg_tup {es:List Expr} {k:Nat} {t:TGs} {n:Nat} (hc:X.calm=true) (h:PGs X es t)
  (hn:(assignEach es X.env).length=n:=by rfl) (hst:(assignEach es X.env).findIdx? (·.1)=none:=by rfl):PG X (.Tuple es k pos) (gTup X.K n t):=by
 intro pins s σ H v u Q I r hw
 obtain ⟨a,xs,e1,hq,hl,hw⟩:=hw
 subst e1
 cases r
 obtain ⟨its,rv,ht,hz⟩:=I.tuple hq
 refine assign_Tuple_tuple (I.ok.hd hc) ht (by simp [hn,← hl,rv.length]) hst fun h' hx=>?_
 have I1:Inv X pins σ H { s with heap:=h' }:=I.kept (t':=s.toks) fun b o e=>hx b o (Nat.ne_of_lt (Heap.lt_size e)) e
 exact h pins _ σ H xs _ Q I1 (by simpa using rv) hw
noncomputable def tAsg (te:TE) (g:TG):TS:=fun D σ H=>te σ H fun x H1=>g x σ H1 D.nx
theorem ps_set {i:Nat} {x:Str} {e:Expr} {te:TE} {pos':Pos} (hN:X.N.Nodup) (hi:X.N[i]? = some x) (hx:Loc X.env.scope x) (he:PE X e te) (hs:swapsWith e (some (.Name x pos')) pos.line X.env=pure false:=by rfl) (hf:X.fn x=true∨X.env.scope.names.lookup x=some .local:=by first | exact .inl rfl | exact .inr rfl | assumption) :
  PS X (.Assign [.Name x pos'] e pos) (tAsg te (gName i)):=by
 intro pins s σ H D I h
 refine wpAny_Assign_Name (thn (he pins s σ H _ I h) fun v s1 ⟨y,H1,I1,r1,q1⟩=>?_) hs
 exact store_ok I1 hN hi hx r1 (fun s2 I2=>⟨_,H1,I2,q1⟩) hf
end
section
variable {X:Cx} {pos:Pos}
noncomputable def tWhile (c:TT) (tb:TS):TS:=fun D σ H=>∃ W:Nat→St→Hp→Prop,(∃ m,W m σ H)∧∀ m σ H,W m σ H →
 c σ H fun b H1=>if b=true then ∃ N:St→Hp→Prop,(∀ σ' H',N σ' H'→∃ m',m' < m∧W m' σ' H')∧tb { D with nx:=N,ct:=N,bk:=D.nx } σ H1 else D.nx σ H1
theorem ps_while {c:Expr} {body:List Stmt} {tc:TT} {tb:TS} (hp:PassesOwn (model X.prog X.w) X.A X.env X.xe) (hc:PT X c tc) (hb:PSs X body tb):PS X (.While c body [] pos) (tWhile tc tb):=by
 intro pins s σ H D I h
 obtain ⟨W,⟨m0,w0⟩,turn⟩:=h
 refine wpAny_While (codeAny_whileLoop (fun n s'=>∃ σ' H',Inv X pins σ' H' s'∧W n σ' H') ?_ m0 ⟨σ,H,I,w0⟩)
 rintro n s1 ⟨σ1,H1,I1,w1⟩
 refine wpAny_passesOwn hp (thn (hc pins s1 σ1 H1 _ I1 (turn n σ1 H1 w1)) fun b s2 ⟨H2,I2,q2⟩=>?_)
 cases b with
 | true=>
  obtain ⟨N,hN,q2⟩:=q2
  rw [if_pos rfl]
  refine wpAny_passesOwn hp (thn (hb pins s2 σ1 H2 _ I2 q2) fun f s3 q3=>?_)
  cases f with
  | next=>
   obtain ⟨σ3,H3,I3,n3⟩:=q3
   obtain ⟨m',hm,w3⟩:=hN σ3 H3 n3
   exact ⟨m',hm,σ3,H3,I3,w3⟩
  | cont=>
   obtain ⟨σ3,H3,I3,n3⟩:=q3
   obtain ⟨m',hm,w3⟩:=hN σ3 H3 n3
   exact ⟨m',hm,σ3,H3,I3,w3⟩
  | brk=>exact q3
  | ret v=>exact q3
 | false=>
  rw [if_neg Bool.false_ne_true]
  exact wpAny_execs_nil ⟨σ1,H2,I2,q2⟩
end
structure It where
 go:Nat→Hp→Prop
 yld:Nat→Hp→V→Hp→Prop
 stop:Nat→Hp→Prop
noncomputable def FpOk (X:Cx) (pins:List (Addr×Obj)) (H:Hp) (b:Addr):Prop:=
 H b=none∧b≠X.env.locals∧b∉X.fs∧(b∈X.ex∨X.s₀.heap.objs.size≤b)∧(∀ x c,X.env.cells.lookup x=some c→c≠b)∧∀ p∈X.pn++pins,p.1≠b
theorem Inv.fpOk {X:Cx} {pins:List (Addr×Obj)} {σ:St} {H H':Hp} {s:Shared} {b:Addr} (I:Inv X pins σ H s) (hb:s.heap.objs.size≤b) (hn:H' b=none):FpOk X pins H' b:=by
 refine ⟨hn,Nat.ne_of_gt (Nat.lt_of_lt_of_le I.lt hb),I.nofs hb,.inr (Nat.le_trans I.sz hb),fun x c e z=>?_,fun p hp z=>?_⟩
 ·obtain ⟨v,q⟩:=I.cell x c e
  exact absurd (Nat.lt_of_lt_of_le q.lt (by rw [z]; exact hb)) (Nat.lt_irrefl _)
 ·exact absurd (Nat.lt_of_lt_of_le (Heap.lt_size (I.pin p hp).1) (by rw [z]; exact hb)) (Nat.lt_irrefl _)
structure Turn (P:Program) (w:World) (K:PySem.W.Frag) (tg:Expr) (J:It) (fp:List Addr) (it:Addr) (tn:Nat→Heap→Prop):Prop where
 mem:it∈fp
 obj:∀ i h,tn i h→∀ b∈fp,∃ o,h.get? b=some o∧∀ v,o.data≠.cell v
 keep:∀ i h h',tn i h→(∀ b∈fp,∀ o,h.get? b=some o→h'.get? b=some o)→tn i h'
 item:∀ (X:Cx),X.prog=P→X.w=w→X.K=K→X.calm=true→∀ (i:Nat) (pins:List (Addr×Obj)) (s:Shared) (σ:St) (H:Hp) (E:Value→Shared→Prop),Inv X pins σ H s→(∀ b∈fp,FpOk X pins H b)→tn i s.heap→J.go i H →
  wpAny (model P w) X.A (pyNext (.ref it)) (fun r s1=>∃ u,r=some u ∧
   wpAny (model P w) X.A (letOwnedTupleGo tg (.ref it) u) (fun _ s2=>∃ x H',Inv X pins σ H' s2∧RelV x u∧J.yld i H x H'∧tn (i + 1) s2.heap∧∀ b∈fp,H' b=none) E s1) E s
 done:∀ (X:Cx),X.prog=P→X.w=w→X.K=K→X.calm=true→∀ (i:Nat) (pins:List (Addr×Obj)) (s:Shared) (σ:St) (H:Hp) (E:Value→Shared→Prop),Inv X pins σ H s→(∀ b∈fp,FpOk X pins H b)→tn i s.heap→J.stop i H →
  wpAny (model P w) X.A (pyNext (.ref it)) (fun r s1=>r=none∧Inv X pins σ H s1) E s
 self:∀ (A:Around) (i:Nat) (s:Shared) (Q:Value→Shared→Prop) (E:Value→Shared→Prop),tn i s.heap→Q (.ref it) s→wpAny (model P w) A (pyIter (.ref it)) Q E s
noncomputable abbrev TI:=St→Hp→(It→Hp→Prop)→Prop
noncomputable def PIE (X:Cx) (pins:List (Addr×Obj)) (σ:St) (tg:Expr) (R:It→Hp→Prop) (itv:Value) (s2:Shared):Prop:=
 ∃ (it:Addr) (fp:List Addr) (tn:Nat→Heap→Prop) (J:It) (H':Hp),itv=.ref it∧Inv X pins σ H' s2∧Turn X.prog X.w X.K tg J fp it tn∧tn 0 s2.heap∧(∀ b∈fp,FpOk X pins H' b)∧R J H'
noncomputable def PI (X:Cx) (tg iter:Expr) (wi:TI):Prop:=
 ∀ (pins:List (Addr×Obj)) (s:Shared) (σ:St) (H:Hp) (R:It→Hp→Prop),Inv X pins σ H s→wi σ H R →
  wpAny (model X.prog X.w) X.A (eval iter X.env) (fun v s1=>wpAny (model X.prog X.w) X.A (pyIter v) (PIE X pins σ tg R) X.xe s1) X.xe s
theorem go_of {M:Model} {A:Around} {E:Value→Shared→Prop} {s:Shared} {tg:Expr} {it:Addr} {u:Value} {o:Obj} {n:String} {vs:Array Value} {Q:Unit→Shared→Prop} (ho:s.heap.get? it=some o) (hc:o.cls=.type n) (hd:o.data=.fields vs)
  (hn:["enumerate","zip","dict_itemiterator","dict_reverseitemiterator","odict_iterator","itertools.zip_longest","itertools.pairwise"].contains n=false) (hQ:Q () s):wpAny M A (letOwnedTupleGo tg (.ref it) u) Q E s:=by
 unfold letOwnedTupleGo
 cases tg <;> first
  | exact wpAny_pure hQ
  | (cases u <;> first
    | exact wpAny_pure hQ
    | (refine wpAny_bind (wpAny_load ho ?_)
       rw [hc,hd]
       show wpAny M A (if (["enumerate","zip","dict_itemiterator","dict_reverseitemiterator","odict_iterator","itertools.zip_longest","itertools.pairwise"].contains n && vs[0]? == some (rawInt _))=true then _ else _) Q E s
       rw [if_neg (by intro h; rw [hn,Bool.false_and] at h; cases h)]
       exact wpAny_pure hQ))
noncomputable def Itl (K:PySem.W.Frag) (a:Addr):It:=
 ⟨fun i H=>∃ xs x,SqL K H a xs∧xs[i]? = some x,fun i H x H'=>H'=H∧∀ xs,SqL K H a xs→xs[i]? = some x,fun i H=>∃ xs,SqL K H a xs∧xs.length≤i⟩
noncomputable def Itt (K:PySem.W.Frag) (a:Addr):It:=
 ⟨fun i H=>∃ xs x,SqT K H a xs∧xs[i]? = some x,fun i H x H'=>H'=H∧∀ xs,SqT K H a xs→xs[i]? = some x,fun i H=>∃ xs,SqT K H a xs∧xs.length≤i⟩
noncomputable def Itr (lo:Int) (n:Nat):It:=⟨fun i _=>i < n,fun i H x H'=>H'=H∧x=.int (lo + i),fun i _=>n≤i⟩
theorem turn_list {P:Program} {w:World} {K:PySem.W.Frag} {tg:Expr} (a it:Addr):Turn P w K tg (Itl K a) [it] it (fun i h=>h.IsListIter it a i) where
 mem:=by simp
 obj:=fun i h st b hb=>by
  have e:b=it:=by simpa using hb
  subst e
  obtain ⟨o,e,c,d⟩:=st
  exact ⟨o,e,fun v z=>by rw [d] at z; cases z⟩
 keep:=fun i h h' st k=>st.at fun o e=>k it (by simp) o e
 item:=by
  intro X hP hw hK hc i pins s σ H E I hf st hg
  subst hP hw hK
  obtain ⟨xs,x,hq,hx⟩:=hg
  obtain ⟨its,rv,p,hz⟩:=I.list hq
  obtain ⟨u,hu,ru⟩:=rv.get hx
  obtain ⟨f0,f1,f2,f3,f4,f5⟩:=hf it (by simp)
  refine wpAny_pyNext_list_item st p.isList (x:=u) (by simpa using hu) fun h' st' sb=>?_
  have I1:Inv X pins σ H { s with heap:=h' }:=I.turned (t':=s.toks) (fun b o hb e=>(sb.2 b hb).trans e) f0 f1 f3 f4 f5
  obtain ⟨o,e,c,d⟩:=id st'
  exact ⟨u,rfl,go_of (s:={ s with heap:=h' }) e c d (by decide) ⟨x,H,I1,ru,⟨rfl,fun ys hy=>by rw [I.list_inj hy hq]; exact hx⟩,st',fun b hb=>(hf b hb).1⟩⟩
 done:=by
  intro X hP hw hK hc i pins s σ H E I hf st hg
  subst hP hw hK
  obtain ⟨xs,hq,hx⟩:=hg
  obtain ⟨its,rv,p,hz⟩:=I.list hq
  obtain ⟨f0,f1,f2,f3,f4,f5⟩:=hf it (by simp)
  have hl:=rv.length
  exact wpAny_pyNext_list_end (I.ok.hd hc) st p.isList (by simp; omega) fun h' eb=>⟨rfl,I.turned (t':=s.toks) (fun b o hb e=>eb b o hb e) f0 f1 f3 f4 f5⟩
 self:=fun _ _ _ _ _ st h=>wpAny_pyIter_listiter st h
theorem turn_tuple {P:Program} {w:World} {K:PySem.W.Frag} {tg:Expr} (a it:Addr):Turn P w K tg (Itt K a) [it] it (fun i h=>h.IsTupleIter it a i) where
 mem:=by simp
 obj:=fun i h st b hb=>by
  have e:b=it:=by simpa using hb
  subst e
  obtain ⟨o,e,c,d⟩:=st
  exact ⟨o,e,fun v z=>by rw [d] at z; cases z⟩
 keep:=fun i h h' st k=>st.at fun o e=>k it (by simp) o e
 item:=by
  intro X hP hw hK hc i pins s σ H E I hf st hg
  subst hP hw hK
  obtain ⟨xs,x,hq,hx⟩:=hg
  obtain ⟨its,rv,p,hz⟩:=I.tuple hq
  obtain ⟨u,hu,ru⟩:=rv.get hx
  obtain ⟨f0,f1,f2,f3,f4,f5⟩:=hf it (by simp)
  refine wpAny_pyNext_tuple_item st (show s.heap.IsTuple a its.toArray from p) (x:=u) (by simpa using hu) fun h' st' sb=>?_
  have I1:Inv X pins σ H { s with heap:=h' }:=I.turned (t':=s.toks) (fun b o hb e=>(sb.2 b hb).trans e) f0 f1 f3 f4 f5
  obtain ⟨o,e,c,d⟩:=id st'
  exact ⟨u,rfl,go_of (s:={ s with heap:=h' }) e c d (by decide) ⟨x,H,I1,ru,⟨rfl,fun ys hy=>by rw [I.tuple_inj hy hq]; exact hx⟩,st',fun b hb=>(hf b hb).1⟩⟩
 done:=by
  intro X hP hw hK hc i pins s σ H E I hf st hg
  subst hP hw hK
  obtain ⟨xs,hq,hx⟩:=hg
  obtain ⟨its,rv,p,hz⟩:=I.tuple hq
  obtain ⟨f0,f1,f2,f3,f4,f5⟩:=hf it (by simp)
  have hl:=rv.length
  exact wpAny_pyNext_tuple_end (I.ok.hd hc) st (show s.heap.IsTuple a its.toArray from p) (by simp; omega) fun h' eb=>⟨rfl,I.turned (t':=s.toks) (fun b o hb e=>eb b o hb e) f0 f1 f3 f4 f5⟩
 self:=fun _ _ _ _ _ st h=>wpAny_pyIter_tupleiter st h
theorem turn_range {P:Program} {w:World} {K:PySem.W.Frag} {tg:Expr} (it:Addr) (lo:Int) (n:Nat):Turn P w K tg (Itr lo n) [it] it (fun i h=>IsRangeIter h it (lo + (i:Nat) * 1) ((n:Int) - (i:Nat)) 1) where
 mem:=by simp
 obj:=fun i h st b hb=>by
  have e:b=it:=by simpa using hb
  subst e
  exact ⟨_,st,fun v z=>by
   have z':Data.fields _=Data.cell v:=z
   cases z'⟩
 keep:=fun i h h' st k=>k it (by simp) _ st
 item:=by
  intro X hP hw hK hc i pins s σ H E I hf st hg
  subst hP hw hK
  obtain ⟨f0,f1,f2,f3,f4,f5⟩:=hf it (by simp)
  have W:=Walks.range (prog:=X.prog) (w:=X.w) (I.ok.hd hc) it lo 1 n
  refine W.item i s _ _ hg st fun v h' tk hv st' kk=>?_
  obtain ⟨t,rfl⟩:=hv
  have I1:Inv X pins σ H { s with heap:=h',toks:=tk }:=I.turned (fun b o hb e=>kk b o (by simpa using hb) e) f0 f1 f3 f4 f5
  refine ⟨_,rfl,go_of (s:={ s with heap:=h',toks:=tk }) (n:="range_iterator") st' rfl rfl (by decide) ⟨.int (lo + i),H,I1,⟨t,?_⟩,⟨rfl,rfl⟩,st',fun b hb=>(hf b hb).1⟩⟩
  rw [Int.mul_one]
 done:=by
  intro X hP hw hK hc i pins s σ H E I hf st hg
  subst hP hw hK
  obtain ⟨f0,f1,f2,f3,f4,f5⟩:=hf it (by simp)
  exact wpAny_pyNext_range_end (I.ok.hd hc) st (by have:n≤i:=hg; omega) fun h' eb=>⟨rfl,I.turned (t':=s.toks) (fun b o hb e=>eb b o hb e) f0 f1 f3 f4 f5⟩
 self:=fun _ _ _ _ _ st h=>wpAny_pyIter_rangeiter st h
end L2
namespace L2
open PySem PySem.Spec PyProof.Rows
section
variable {X:Cx} {tg:Expr}
theorem range_it {pins:List (Addr×Obj)} {σ:St} {H:Hp} {s:Shared} {R:It→Hp→Prop} {E:Value→Shared→Prop} {lo hi:Int} {t u v:Tok} {tk:Nat} (I:Inv X pins σ H s) (h1 : -(2 ^ 62)≤lo) (h2:lo < 2 ^ 62) (h3 : -(2 ^ 62)≤hi) (h4:hi < 2 ^ 62)
  (q:R (Itr lo (hi - lo).toNat) H):wpAny (model X.prog X.w) X.A (pyIter (.ref s.heap.objs.size)) (PIE X pins σ tg R) E { s with heap:=s.heap.push { cls:=.type "range",data:=.fields #[.int lo t,.int hi u,.int 1 v] },toks:=tk }:=by
 refine wpAny_pyIter_range (IsRange.new ..) (small_one h1 h2 h3 h4) ?_
 have I1:Inv X pins σ H { s with heap:=s.heap.push { cls:=.type "range",data:=.fields #[.int lo t,.int hi u,.int 1 v] },toks:=tk }:=I.kept fun b o e=>Heap.get?_push_of_some _ e
 refine ⟨(s.heap.push { cls:=.type "range",data:=.fields #[.int lo t,.int hi u,.int 1 v] }).objs.size,[(s.heap.push { cls:=.type "range",data:=.fields #[.int lo t,.int hi u,.int 1 v] }).objs.size],_,_,H,rfl,
  I1.kept (t':=tk) fun b o e=>Heap.get?_push_of_some _ e,turn_range _ lo (hi - lo).toNat,?_,fun b hb=>?_,q⟩
 ·have e1:lo + ((0:Nat):Int) * 1=lo:=by simp
  have e2:(((hi - lo).toNat:Nat):Int) - ((0:Nat):Int)=Builtin.Range.rangeSize lo hi 1:=by rw [rangeSize_one]; split <;> omega
  show IsRangeIter _ _ (lo + ((0:Nat):Int) * 1) ((((hi - lo).toNat:Nat):Int) - ((0:Nat):Int)) 1
  rw [e1,e2]
  exact Heap.get?_push_size _ rfl
 ·have e:b=(s.heap.push { cls:=.type "range",data:=.fields #[.int lo t,.int hi u,.int 1 v] }).objs.size:=by simpa using hb
  subst e
  exact I1.fpOk (Nat.le_refl _) (I1.hok.fresh (Nat.le_refl _))
noncomputable def iRng1 (ta:TA):TI:=fun σ H R=>ta σ H fun vs H1=>∃ j:Int,vs=[.int j]∧-(2 ^ 62)≤j∧j < 2 ^ 62∧R (Itr 0 j.toNat) H1
theorem pi_range1 {a:Expr} {ta:TA} {p pos:Pos} (hg:Gl X "range") (hm:X.mg "range" = none) (ha:PA X [a] ta) (hs:starEach [a] X.env=[(false,eval a X.env)]:=by rfl):PI X tg (.Call (.Name "range" p) [a] [] pos) (iRng1 ta):=by
 intro pins s σ H R I h
 refine Call_ (ld_blt I hg hm boot_range (PyProof.Rows.callWith_type1 (thn (ha pos pins s σ H _ I h) fun us s1 ⟨vs,H1,I1,r1,q1⟩=>?_) hs rfl))
 obtain ⟨j,e,q1,q2,q⟩:=q1
 subst e
 cases r1 with
 | cons r rr=>
  cases rr
  obtain ⟨t,rfl⟩:=r
  exact call_range_1 (range_it I1 (by omega) (by omega) q1 q2 (by simpa using q))
noncomputable def tFor (wi:TI) (g:TG) (tb:TS):TS:=fun D σ H=>wi σ H fun J H1=>∃ W:Nat→Nat→St→Hp→Prop,(∃ m,W 0 m σ H1)∧∀ i m σ H,W i m σ H →
 (J.stop i H∧D.nx σ H)∨(J.go i H∧∃ N:St→Hp→Prop,(∀ σ' H',N σ' H'→∃ m',m' < m∧W (i + 1) m' σ' H')∧∀ x H',J.yld i H x H'→g x σ H' fun σ2 H2=>tb { D with nx:=N,ct:=N,bk:=D.nx } σ2 H2)
noncomputable def pinsAt (fp:List Addr) (h:Heap):List (Addr×Obj):=fp.filterMap fun b=>(h.get? b).map fun o=>(b,o)
theorem mem_pinsAt {fp:List Addr} {h:Heap} {b:Addr} {o:Obj} (hb:b∈fp) (e:h.get? b=some o):(b,o)∈pinsAt fp h:=List.mem_filterMap.mpr ⟨b,hb,by rw [e]; rfl⟩
theorem of_pinsAt {fp:List Addr} {h:Heap} {p:Addr×Obj} (hp:p∈pinsAt fp h):p.1∈fp∧h.get? p.1=some p.2:=by
 obtain ⟨b,hb,e⟩:=List.mem_filterMap.mp hp
 cases q:h.get? b with
 | none=>rw [q] at e; cases e
 | some o=>
  rw [q] at e
  have e':(b,o)=p:=Option.some.inj e
  subst e'
  exact ⟨hb,q⟩
theorem Inv.pinned {pins:List (Addr×Obj)} {σ:St} {H:Hp} {s:Shared} {fp:List Addr} (I:Inv X pins σ H s) (hf:∀ b∈fp,FpOk X pins H b) (ho:∀ b∈fp,∃ o,s.heap.get? b=some o∧∀ v,o.data≠.cell v):Inv X (pins++pinsAt fp s.heap) σ H s:=
 I.pins_of fun p hp=>(List.mem_append.mp hp).elim (fun z=>I.pin p (List.mem_append_right _ z)) fun z=>by
  obtain ⟨hb,e⟩:=of_pinsAt z
  obtain ⟨f0,f1,f2,_⟩:=hf p.1 hb
  obtain ⟨o,e',d⟩:=ho p.1 hb
  rw [e] at e'; cases e'
  exact ⟨e,f0,f1,f2,d⟩
theorem Inv.unpinned {pins pl:List (Addr×Obj)} {σ:St} {H:Hp} {s:Shared} (I:Inv X (pins++pl) σ H s):Inv X pins σ H s:=I.pins_of fun p hp=>I.pin p (List.mem_append_right _ (List.mem_append_left _ hp))
theorem ps_for {iter:Expr} {body:List Stmt} {wi:TI} {g:TG} {tb:TS} {pos:Pos} (hp:PassesOwn (model X.prog X.w) X.A X.env X.xe) (hc:X.calm=true) (hi:PI X tg iter wi) (hg:PG X tg g) (hb:PSs X body tb)
  (hs:∀ x,foldedSetIterable iter X.env x=pure x:=by intro _; rfl):PS X (.For tg iter body [] pos) (tFor wi g tb):=by
 intro pins s σ H D I h
 refine wpAny_For (thn (hi pins s σ H _ I h) fun v s1 h1=>thn h1 fun itv s2 h2=>?_) hs
 obtain ⟨it,fp,tn,J,H2,e,I2,T,st2,f2,W,⟨m0,w0⟩,turn⟩:=h2
 subst e
 have stat:∀ {H':Hp},(∀ b∈fp,H' b=none)→∀ b∈fp,FpOk X pins H' b:=fun hn b hb=>⟨hn b hb,(f2 b hb).2⟩
 refine codeAny_forLoop_any (fun n s'=>∃ i σ' H',Inv X pins σ' H' s'∧tn i s'.heap∧(∀ b∈fp,H' b=none)∧W i n σ' H') ?_ m0 ⟨0,σ,H2,I2,st2,fun b hb=>(f2 b hb).1,w0⟩
 rintro n s3 ⟨i,σ3,H3,I3,st3,fr3,w3⟩
 rcases turn i n σ3 H3 w3 with ⟨stop,qn⟩ | ⟨go,N,hN,step⟩
 ·refine wpAny_passesOwn hp (thn (T.done X rfl rfl rfl hc i pins s3 σ3 H3 X.xe I3 (stat fr3) st3 stop) fun r s4 ⟨hr,I4⟩=>?_)
  subst hr
  exact wpAny_execs_nil ⟨σ3,H3,I4,qn⟩
 ·refine wpAny_passesOwn hp (thn (T.item X rfl rfl rfl hc i pins s3 σ3 H3 X.xe I3 (stat fr3) st3 go) fun r s4 ⟨u,hr,h4⟩=>?_)
  subst hr
  refine wpAny_passesOwn hp (thn h4 fun _ s5 ⟨x,H5,I5,r5,y5,st5,fr5⟩=>?_)
  have I5':=I5.pinned (stat fr5) (T.obj _ _ st5)
  refine wpAny_passesOwn hp (thn (hg _ s5 σ3 H5 x u _ I5' r5 (step x H5 y5)) fun _ s6 ⟨σ6,H6,I6,q6⟩=>?_)
  refine wpAny_passesOwn hp (thn (hb _ s6 σ6 H6 _ I6 q6) fun f s7 q7=>?_)
  have again:∀ {σ7:St} {H7:Hp},Inv X (pins++pinsAt fp s5.heap) σ7 H7 s7→N σ7 H7→∃ m,m < n∧∃ i σ' H',Inv X pins σ' H' s7∧tn i s7.heap∧(∀ b∈fp,H' b=none)∧W i m σ' H':=fun {σ7 H7} I7 n7=>by
   obtain ⟨m',hm,w7⟩:=hN σ7 H7 n7
   refine ⟨m',hm,i + 1,σ7,H7,I7.unpinned,T.keep _ _ _ st5 fun b hb o e=>(I7.pin (b,o) (List.mem_append_right _ (List.mem_append_right _ (mem_pinsAt hb e)))).1,fun b hb=>?_,w7⟩
   obtain ⟨o,e,d⟩:=T.obj _ _ st5 b hb
   exact (I7.pin (b,o) (List.mem_append_right _ (List.mem_append_right _ (mem_pinsAt hb e)))).2.1
  cases f with
  | next=>obtain ⟨σ7,H7,I7,n7⟩:=q7; exact again I7 n7
  | cont=>obtain ⟨σ7,H7,I7,n7⟩:=q7; exact again I7 n7
  | brk=>obtain ⟨σ7,H7,I7,q7⟩:=q7; exact ⟨σ7,H7,I7.unpinned,q7⟩
  | ret v=>obtain ⟨x7,σ7,H7,I7,r7,q7⟩:=q7; exact ⟨x7,σ7,H7,I7.unpinned,r7,q7⟩
end
theorem for_range {lo:Int} {n:Nat} {g:TG} {tb:TS} {D:Ends} {σ:St} {H:Hp} (Pv:Nat→St→Hp→Prop) (h0:Pv 0 σ H)
  (hs:∀ i σ H,i < n→Pv i σ H→g (.int (lo + i)) σ H fun σ2 H2=>tb { D with nx:=Pv (i + 1),ct:=Pv (i + 1),bk:=D.nx } σ2 H2) (hd:∀ σ H,Pv n σ H→D.nx σ H) :
  ∃ W:Nat→Nat→St→Hp→Prop,(∃ m,W 0 m σ H)∧∀ i m σ H,W i m σ H →
   ((Itr lo n).stop i H∧D.nx σ H)∨((Itr lo n).go i H∧∃ N:St→Hp→Prop,(∀ σ' H',N σ' H'→∃ m',m' < m∧W (i + 1) m' σ' H')∧∀ x H',(Itr lo n).yld i H x H'→g x σ H' fun σ2 H2=>tb { D with nx:=N,ct:=N,bk:=D.nx } σ2 H2):=by
 refine ⟨fun i m σ H=>m=n - i∧i≤n∧Pv i σ H,⟨n,by simp,Nat.zero_le _,h0⟩,?_⟩
 rintro i m σ H ⟨rfl,hi,p⟩
 by_cases hlt:i < n
 ·refine .inr ⟨hlt,Pv (i + 1),fun σ' H' p'=>⟨n - (i + 1),by omega,rfl,hlt,p'⟩,fun x H' y=>?_⟩
  obtain ⟨e,y⟩:=y
  subst e y
  exact hs i σ _ hlt p
 ·have e:i=n:=by omega
  subst e
  exact .inl ⟨Nat.le_refl _,hd σ H p⟩
end L2
namespace L2
open PySem PySem.Spec PyProof.Rows
noncomputable abbrev R2:=V→V→Hp→VK→Prop
noncomputable def OpR (X:Cx) (f:Value→Value→Sem Value) (r:R2):Prop:=
 ∀ (pins:List (Addr×Obj)) (s:Shared) (σ:St) (H:Hp) (x y:V) (v u:Value) (Q:VK),Inv X pins σ H s→RelV x v→RelV y u→r x y H Q →
  wpAny (model X.prog X.w) X.A (f v u) (EP X pins σ Q) X.xe s
noncomputable def UnR (X:Cx) (f:Value→Sem Value) (r:V→Hp→VK→Prop):Prop:=
 ∀ (pins:List (Addr×Obj)) (s:Shared) (σ:St) (H:Hp) (x:V) (v:Value) (Q:VK),Inv X pins σ H s→RelV x v→r x H Q →
  wpAny (model X.prog X.w) X.A (f v) (EP X pins σ Q) X.xe s
noncomputable def CallR (X:Cx) (f:Value) (r:List V→Hp→VK→Prop):Prop:=
 ∀ (pins:List (Addr×Obj)) (s:Shared) (σ:St) (H:Hp) (xs:List V) (us:List Value) (Q:VK),Inv X pins σ H s→Vals xs us→r xs H Q →
  wpAny (model X.prog X.w) X.A (call f us) (EP X pins σ Q) X.xe s
noncomputable def TruR (X:Cx) (r:V→Hp→(Bool→Hp→Prop)→Prop):Prop:=
 ∀ (pins:List (Addr×Obj)) (s:Shared) (σ:St) (H:Hp) (x:V) (v:Value) (Q:Bool→Hp→Prop),Inv X pins σ H s→RelV x v→r x H Q →
  wpAny (model X.prog X.w) X.A (truthy v) (TP X pins σ Q) X.xe s
noncomputable def tOp (r:R2) (ta tb:TE):TE:=fun σ H Q=>ta σ H fun x H1=>tb σ H1 fun y H2=>r x y H2 Q
noncomputable def tUn (r:V→Hp→VK→Prop) (ta:TE):TE:=fun σ H Q=>ta σ H fun x H1=>r x H1 Q
noncomputable def rI (C:Int→Int→Prop) (g:Int→Int→V):R2:=fun x y H Q=>∃ i j,x=.int i∧y=.int j∧C i j∧Q (g i j) H
noncomputable def rI0 (g:Int→Int→V):R2:=fun x y H Q=>∃ i j,x=.int i∧y=.int j∧Q (g i j) H
noncomputable def rU (g:Int→V):V→Hp→VK→Prop:=fun x H Q=>∃ i,x=.int i∧Q (g i) H
section
variable {X:Cx} {a b c:Expr} {ta tb tc:TE} {pos:Pos}
theorem binT (ha:PE X a ta) (hb:PE X b tb) {pins:List (Addr×Obj)} {s:Shared} {σ:St} {H:Hp} {R:V→V→Hp→Prop} (I:Inv X pins σ H s)
  (h:ta σ H fun x H1=>tb σ H1 fun y H2=>R x y H2) {Q:Value→Shared→Prop} {f:Value→Value→Sem Value}
  (hf:∀ v u s2 x y H2,Inv X pins σ H2 s2→RelV x v→RelV y u→R x y H2→wpAny (model X.prog X.w) X.A (f v u) Q X.xe s2) :
  wpAny (model X.prog X.w) X.A (eval a X.env) (fun v s₁=>wpAny (model X.prog X.w) X.A (eval b X.env) (fun u s₂=>wpAny (model X.prog X.w) X.A (f v u) Q X.xe s₂) X.xe s₁) X.xe s:=by
 refine thn (ha pins s σ H _ I h) fun v s1 ⟨x,H1,I1,r1,q1⟩=>?_
 refine thn (hb pins s1 σ H1 _ I1 q1) fun u s2 ⟨y,H2,I2,r2,q2⟩=>?_
 exact hf v u s2 x y H2 I2 r1 r2 q2
theorem pe_op {op:Operator} {r:R2} (ho:OpR X (binaryOp op) r) (ha:PE X a ta) (hb:PE X b tb):PE X (.BinOp a op b pos) (tOp r ta tb):=by
 intro pins s σ H Q I h
 exact wpAny_BinOp (binT ha hb I h fun v u s2 x y H2 I2 rx ry q=>ho pins s2 σ H2 x y v u Q I2 rx ry q)
theorem pe_un {op:UnaryOp} {r:V→Hp→VK→Prop} (ho:UnR X (unaryOp op) r) (ha:PE X a ta):PE X (.UnaryOp op a pos) (tUn r ta):=by
 intro pins s σ H Q I h
 exact UnaryOp_ (thn (ha pins s σ H _ I h) fun v s1 ⟨x,H1,I1,r1,q1⟩=>ho pins s1 σ H1 x v Q I1 r1 q1)
theorem opI {f:Value→Value→Sem Value} {C:Int→Int→Prop} {g:Int→Int→Int}
  (rule:∀ (i j:Int) (t u:Tok) (s:Shared) (Q:Value→Shared→Prop) (E:Value→Shared→Prop),C i j→Q (.int (g i j) s.toks) { s with toks:=s.toks + 1 }→wpAny (model X.prog X.w) X.A (f (.int i t) (.int j u)) Q E s) :
  OpR X f (rI C fun i j=>.int (g i j)):=by
 intro pins s σ H x y v u Q I rx ry h
 obtain ⟨i,j,rfl,rfl,hc,q⟩:=h
 obtain ⟨t,rfl⟩:=rx
 obtain ⟨t',rfl⟩:=ry
 exact rule i j t t' s _ _ hc ⟨.int (g i j),H,I.tok _,⟨_,rfl⟩,q⟩
theorem opI0 {f:Value→Value→Sem Value} {g:Int→Int→Int}
  (rule:∀ (i j:Int) (t u:Tok) (s:Shared) (Q:Value→Shared→Prop) (E:Value→Shared→Prop),Q (.int (g i j) s.toks) { s with toks:=s.toks + 1 }→wpAny (model X.prog X.w) X.A (f (.int i t) (.int j u)) Q E s) :
  OpR X f (rI0 fun i j=>.int (g i j)):=by
 intro pins s σ H x y v u Q I rx ry h
 obtain ⟨i,j,rfl,rfl,q⟩:=h
 obtain ⟨t,rfl⟩:=rx
 obtain ⟨t',rfl⟩:=ry
 exact rule i j t t' s _ _ ⟨.int (g i j),H,I.tok _,⟨_,rfl⟩,q⟩
theorem opB0 {f:Value→Value→Sem Value} {g:Int→Int→Bool}
  (rule:∀ (i j:Int) (t u:Tok) (s:Shared) (Q:Value→Shared→Prop) (E:Value→Shared→Prop),Q (.bool (g i j)) s→wpAny (model X.prog X.w) X.A (f (.int i t) (.int j u)) Q E s) :
  OpR X f (rI0 fun i j=>.bl (g i j)):=by
 intro pins s σ H x y v u Q I rx ry h
 obtain ⟨i,j,rfl,rfl,q⟩:=h
 obtain ⟨t,rfl⟩:=rx
 obtain ⟨t',rfl⟩:=ry
 exact rule i j t t' s _ _ ⟨.bl (g i j),H,I,rfl,q⟩
noncomputable def CDiv (i j:Int):Prop:=0 < j∧j < 1073741824
noncomputable def CPow (i j:Int):Prop:=0≤j∧j≤1000000∧i.natAbs < 2 ^ 64
noncomputable def CMul (i j:Int):Prop:=(-(2 ^ 64) < i∧i < 2 ^ 64)∨(-(2 ^ 64) < j∧j < 2 ^ 64)
theorem CMul.ok {i j:Int} (h:CMul i j):IntMulOk i j:=by
 rcases h with ⟨h1,h2⟩ | ⟨h1,h2⟩
 ·exact .of_left (intBits_le_64 h1 h2)
 ·exact .of_right (intBits_le_64 h1 h2)
theorem two_pow_nn (k:Nat):(0:Int)≤2 ^ k:=by
 rw [two_pow_cast]
 exact Int.natCast_nonneg _
theorem op_add:OpR X (binaryOp .Add) (rI0 fun i j=>.int (i + j)):=opI0 fun _ _ _ _ _ _ _ q=>add_int q
theorem op_mul:OpR X (binaryOp .Mult) (rI CMul fun i j=>.int (i * j)):=opI fun _ _ _ _ _ _ _ hc q=>mul_int q hc.ok
theorem op_fdiv:OpR X (binaryOp .FloorDiv) (rI CDiv fun i j=>.int (i / j)):=opI fun i j _ _ _ _ _ hc q=>by
 have h1:(0:Int) < j:=hc.1
 have h2:j < 1073741824:=hc.2
 exact floordiv_int (by omega) (by rw [Int.fdiv_eq_ediv_of_nonneg i (by omega)]; exact q) (.inl (PyProof.noPylong_small (by omega)))
theorem op_mod:OpR X (binaryOp .Mod) (rI (fun _ j=>0 < j) fun i j=>.int (i % j)):=opI fun i j _ _ _ _ _ hc q=>by
 have h1:(0:Int) < j:=hc
 exact mod_int' (by omega) (by rw [Int.fmod_eq_emod_of_nonneg i (by omega)]; exact q)
theorem op_pow:OpR X (binaryOp .Pow) (rI CPow fun i j=>.int (i ^ j.toNat)):=opI fun _ _ _ _ _ _ _ hc q=>pow_int_small hc.1 hc.2.1 hc.2.2 q
theorem op_shr:OpR X (binaryOp .RShift) (rI (fun _ j=>0≤j) fun i j=>.int (i / 2 ^ j.toNat)):=opI fun i j _ _ _ _ _ hc q=>
 rshift_int hc (by rw [Int.fdiv_eq_ediv_of_nonneg i (two_pow_nn _)]; exact q)
theorem unI {f:Value→Sem Value} {g:Int→Int}
  (rule:∀ (i:Int) (t:Tok) (s:Shared) (Q:Value→Shared→Prop) (E:Value→Shared→Prop),Q (.int (g i) s.toks) { s with toks:=s.toks + 1 }→wpAny (model X.prog X.w) X.A (f (.int i t)) Q E s) :
  UnR X f (rU fun i=>.int (g i)):=by
 intro pins s σ H x v Q I rx h
 obtain ⟨i,rfl,q⟩:=h
 obtain ⟨t,rfl⟩:=rx
 exact rule i t s _ _ ⟨.int (g i),H,I.tok _,⟨_,rfl⟩,q⟩
theorem un_neg:UnR X (unaryOp .USub) (rU fun i=>.int (-i)):=unI fun _ _ _ _ _ q=>neg_int q
end
noncomputable def scal:V→V→Bool
 | .non,.non=>true | .non,.int _=>true | .int _,.non=>true | .non,.bl _=>true | .bl _,.non=>true | .non,.str _=>true | .str _,.non=>true
 | .int _,.int _=>true | .bl _,.bl _=>true | .str _,.str _=>true | .byt _,.byt _=>true
 | .int _,.str _=>true | .str _,.int _=>true | .bl _,.str _=>true | .str _,.bl _=>true
 | _,_=>false
noncomputable def rEq:R2:=fun x y H Q=>scal x y=true∧Q (.bl (decide (x=y))) H
noncomputable def rNe:R2:=fun x y H Q=>scal x y=true∧Q (.bl (!decide (x=y))) H
theorem dec_int {i j:Int}:decide (V.int i=V.int j)=(i == j):=by
 rw [Bool.eq_iff_iff]
 simp
theorem dec_bl {i j:Bool}:decide (V.bl i=V.bl j)=(i == j):=by
 rw [Bool.eq_iff_iff]
 simp
theorem dec_str {i j:Str}:decide (V.str i=V.str j)=(i == j):=by
 rw [Bool.eq_iff_iff]
 simp
theorem dec_byt {i j:Array UInt8}:decide (V.byt i=V.byt j)=(i.toList == j.toList):=by
 rw [Bool.eq_iff_iff]
 cases i
 cases j
 simp
section
variable {X:Cx} {a b c:Expr} {ta tb tc:TE} {pos:Pos}
theorem fin_bl {pins:List (Addr×Obj)} {σ:St} {H:Hp} {s:Shared} {Q:VK} {k k':Bool} (I:Inv X pins σ H s) (q:Q (.bl k) H) (e:k=k'):EP X pins σ Q (.bool k') s:=by
 subst e
 exact ⟨.bl k,H,I,rfl,q⟩
theorem op_eq:OpR X (compareOp .Eq) rEq:=by
 intro pins s σ H x y v u Q I rx ry h
 obtain ⟨hs,q⟩:=h
 cases x with
 | non=>
  cases rx
  cases y with
  | non=>cases ry; exact PySem.EqNone.eq_none_none (fin_bl I q (by simp))
  | bl j=>cases ry; exact PySem.EqNone.eq_none_bool (fin_bl I q (by simp))
  | int j=>obtain ⟨t',rfl⟩:=ry; exact PySem.EqNone.eq_none_int (fin_bl I q (by simp))
  | str j=>obtain ⟨t',rfl⟩:=ry; exact PySem.EqNone.eq_none_str (fin_bl I q (by simp))
  | _=>exact absurd (show false=true from hs) Bool.false_ne_true
 | bl i=>
  cases rx
  cases y with
  | non=>cases ry; exact PySem.EqNone.eq_bool_none (fin_bl I q (by simp))
  | bl j=>cases ry; exact eq_bool (fin_bl I q dec_bl)
  | str j=>obtain ⟨t',rfl⟩:=ry; exact PySem.EqMixed.eq_bool_str (fin_bl I q (by simp))
  | _=>exact absurd (show false=true from hs) Bool.false_ne_true
 | int i=>
  obtain ⟨t,rfl⟩:=rx
  cases y with
  | non=>cases ry; exact PySem.EqNone.eq_int_none (fin_bl I q (by simp))
  | int j=>obtain ⟨t',rfl⟩:=ry; exact eq_int (fin_bl I q dec_int)
  | str j=>obtain ⟨t',rfl⟩:=ry; exact PySem.EqMixed.eq_int_str (fin_bl I q (by simp))
  | _=>exact absurd (show false=true from hs) Bool.false_ne_true
 | str i=>
  obtain ⟨t,rfl⟩:=rx
  cases y with
  | non=>cases ry; exact PySem.EqNone.eq_str_none (fin_bl I q (by simp))
  | bl j=>cases ry; exact PySem.EqMixed.eq_str_bool (fin_bl I q (by simp))
  | int j=>obtain ⟨t',rfl⟩:=ry; exact PySem.EqMixed.eq_str_int (fin_bl I q (by simp))
  | str j=>obtain ⟨t',rfl⟩:=ry; exact eq_str (fin_bl I q dec_str)
  | _=>exact absurd (show false=true from hs) Bool.false_ne_true
 | byt i=>
  obtain ⟨t,rfl⟩:=rx
  cases y with
  | byt j=>obtain ⟨t',rfl⟩:=ry; exact PySem.W.eq_bytes (fin_bl I q dec_byt)
  | _=>exact absurd (show false=true from hs) Bool.false_ne_true
 | _=>cases y <;> exact absurd (show false=true from hs) Bool.false_ne_true
theorem op_ne:OpR X (compareOp .NotEq) rNe:=by
 intro pins s σ H x y v u Q I rx ry h
 obtain ⟨hs,q⟩:=h
 cases x with
 | non=>
  cases rx
  cases y with
  | non=>cases ry; exact PySem.EqNone.ne_none_none (fin_bl I q (by simp))
  | bl j=>cases ry; exact PySem.EqNone.ne_none_bool (fin_bl I q (by simp))
  | int j=>obtain ⟨t',rfl⟩:=ry; exact PySem.EqNone.ne_none_int (fin_bl I q (by simp))
  | str j=>obtain ⟨t',rfl⟩:=ry; exact PySem.EqNone.ne_none_str (fin_bl I q (by simp))
  | _=>exact absurd (show false=true from hs) Bool.false_ne_true
 | bl i=>
  cases rx
  cases y with
  | non=>cases ry; exact PySem.EqNone.ne_bool_none (fin_bl I q (by simp))
  | bl j=>cases ry; exact ne_bool (fin_bl I q (congrArg not dec_bl))
  | str j=>obtain ⟨t',rfl⟩:=ry; exact PySem.EqMixed.ne_bool_str (fin_bl I q (by simp))
  | _=>exact absurd (show false=true from hs) Bool.false_ne_true
 | int i=>
  obtain ⟨t,rfl⟩:=rx
  cases y with
  | non=>cases ry; exact PySem.EqNone.ne_int_none (fin_bl I q (by simp))
  | int j=>obtain ⟨t',rfl⟩:=ry; exact ne_int (fin_bl I q (congrArg not dec_int))
  | str j=>obtain ⟨t',rfl⟩:=ry; exact PySem.EqMixed.ne_int_str (fin_bl I q (by simp))
  | _=>exact absurd (show false=true from hs) Bool.false_ne_true
 | str i=>
  obtain ⟨t,rfl⟩:=rx
  cases y with
  | non=>cases ry; exact PySem.EqNone.ne_str_none (fin_bl I q (by simp))
  | bl j=>cases ry; exact PySem.EqMixed.ne_str_bool (fin_bl I q (by simp))
  | int j=>obtain ⟨t',rfl⟩:=ry; exact PySem.EqMixed.ne_str_int (fin_bl I q (by simp))
  | str j=>obtain ⟨t',rfl⟩:=ry; exact ne_str (fin_bl I q (congrArg not dec_str))
  | _=>exact absurd (show false=true from hs) Bool.false_ne_true
 | byt i=>
  obtain ⟨t,rfl⟩:=rx
  cases y with
  | byt j=>obtain ⟨t',rfl⟩:=ry; exact PySem.W.ne_bytes (fin_bl I q (congrArg not dec_byt))
  | _=>exact absurd (show false=true from hs) Bool.false_ne_true
 | _=>cases y <;> exact absurd (show false=true from hs) Bool.false_ne_true
theorem op_lt:OpR X (compareOp .Lt) (rI0 fun i j=>.bl (decide (i < j))):=opB0 fun _ _ _ _ _ _ _ q=>lt_int q
theorem op_le:OpR X (compareOp .LtE) (rI0 fun i j=>.bl (decide (i≤j))):=opB0 fun _ _ _ _ _ _ _ q=>le_int q
theorem op_gt:OpR X (compareOp .Gt) (rI0 fun i j=>.bl (decide (j < i))):=opB0 fun _ _ _ _ _ _ _ q=>gt_int q
theorem op_ge:OpR X (compareOp .GtE) (rI0 fun i j=>.bl (decide (j≤i))):=opB0 fun _ _ _ _ _ _ _ q=>ge_int q
theorem op_in_str:OpR X (compareOp .In) (fun x y H Q=>∃ i j,x=.str i∧y=.str j∧Q (.bl (!(Builtin.Str.occurrences j i 0 j.length 1).isEmpty)) H):=by
 intro pins s σ H x y v u Q I rx ry h
 obtain ⟨i,j,rfl,rfl,q⟩:=h
 obtain ⟨t,rfl⟩:=rx
 obtain ⟨t',rfl⟩:=ry
 exact in_str (fin_bl I q rfl)
theorem op_isN:OpR X (compareOp .Is) (fun x y H Q=>y=.non∧Q (.bl (decide (x=.non))) H):=by
 intro pins s σ H x y v u Q I rx ry h
 obtain ⟨rfl,q⟩:=h
 cases ry
 refine is_none_gen (fin_bl I q ?_)
 cases x <;> first
  | (cases rx; rfl)
  | (obtain ⟨t,rfl⟩:=rx; rfl)
theorem op_notin_str:OpR X (compareOp .NotIn) (fun x y H Q=>∃ i j,x=.str i∧y=.str j∧Q (.bl (!(!(Builtin.Str.occurrences j i 0 j.length 1).isEmpty))) H):=by
 intro pins s σ H x y v u Q I rx ry h
 obtain ⟨i,j,rfl,rfl,q⟩:=h
 obtain ⟨t,rfl⟩:=rx
 obtain ⟨t',rfl⟩:=ry
 exact notIn_str (fin_bl I q rfl)
theorem OpR.or {f:Value→Value→Sem Value} {r r':R2} (h:OpR X f r) (h':OpR X f r'):OpR X f (fun x y H Q=>r x y H Q∨r' x y H Q):=by
 intro pins s σ H x y v u Q I rx ry q
 rcases q with q | q
 ·exact h pins s σ H x y v u Q I rx ry q
 ·exact h' pins s σ H x y v u Q I rx ry q
theorem nomark (b:Expr) {op:CmpOp} (h:op≠.In:=by decide) (h2:op≠.NotIn:=by decide):behindInMarks op b=false:=by
 have e1:(op == CmpOp.In)=false:=by cases op <;> first | rfl | exact absurd rfl h
 have e2:(op == CmpOp.NotIn)=false:=by cases op <;> first | rfl | exact absurd rfl h2
 cases b <;> simp [behindInMarks,e1,e2]
theorem pe_cmpR {op:CmpOp} {r:R2} (ho:OpR X (compareOp op) r) (ha:PE X a ta) (hb:PE X b tb) (hm:behindInMarks op b=false):PE X (.Compare a [op] [b] pos) (tOp r ta tb):=by
 intro pins s σ H Q I h
 exact wpAny_Compare1 (binT ha hb I h fun v u s2 x y H2 I2 rx ry q=>ho pins s2 σ H2 x y v u Q I2 rx ry q) hm
noncomputable def tTest (t:TE):TT:=fun σ H Q=>t σ H fun x H'=>∃ k,x=.bl k∧Q k H'
theorem pt_cmpR {op:CmpOp} {r:R2} (ho:OpR X (compareOp op) r) (ha:PE X a ta) (hb:PE X b tb) (hm:behindInMarks op b=false):PT X (.Compare a [op] [b] pos) (tTest (tOp r ta tb)):=by
 intro pins s σ H Q I h
 refine wpAny_isTrue_Compare1 (thn (ha pins s σ H _ I h) fun v s1 ⟨x,H1,I1,r1,q1⟩=>thn (hb pins s1 σ H1 _ I1 q1) fun u s2 ⟨y,H2,I2,r2,q2⟩=>
  thn (ho pins s2 σ H2 x y v u _ I2 r1 r2 q2) fun c s3 ⟨z,H3,I3,r3,k,e,q3⟩=>?_) hm
 subst e
 cases r3
 exact wpAny_truthy_bool ⟨H3,I3,q3⟩
noncomputable def tChain (r r':R2) (ta tb tc:TE):TE:=fun σ H Q=>ta σ H fun x H1=>tb σ H1 fun y H2=>r x y H2 fun z H3=>∃ k,z=.bl k ∧
 (if k=true then tc σ H3 fun w' H4=>r' y w' H4 Q else Q (.bl false) H3)
theorem pe_chain {op op':CmpOp} {r r':R2} (ho:OpR X (compareOp op) r) (ho':OpR X (compareOp op') r') (ha:PE X a ta) (hb:PE X b tb) (hc:PE X c tc)
  (hm:lastMarks [op,op'] [b,c]=false:=by with_unfolding_all rfl):PE X (.Compare a [op,op'] [b,c] pos) (tChain r r' ta tb tc):=by
 intro pins s σ H Q I h
 refine Compare_chain (thn (ha pins s σ H _ I h) fun v s1 ⟨x,H1,I1,r1,q1⟩=>chain_link (thn (hb pins s1 σ H1 _ I1 q1) fun u s2 ⟨y,H2,I2,r2,q2⟩=>
  thn (ho pins s2 σ H2 x y v u _ I2 r1 r2 q2) fun d s3 ⟨z,H3,I3,r3,k,e,q3⟩=>?_)) hm
 subst e
 cases r3
 refine wpAny_truthy_bool ?_
 cases k with
 | false=>exact ite_ff ⟨.bl false,H3,I3,rfl,q3⟩
 | true=>exact ite_tt (chain_last (thn (hc pins s3 σ H3 _ I3 q3) fun w' s4 ⟨z',H4,I4,r4,q4⟩=>ho' pins s4 σ H4 y z' u w' Q I4 r2 r4 q4))
theorem pt_chain {op op':CmpOp} {r r':R2} (ho:OpR X (compareOp op) r) (ho':OpR X (compareOp op') r') (ha:PE X a ta) (hb:PE X b tb) (hc:PE X c tc)
  (hm:lastMarks [op,op'] [b,c]=false:=by with_unfolding_all rfl):PT X (.Compare a [op,op'] [b,c] pos) (tTest (tChain r r' ta tb tc)):=by
 intro pins s σ H Q I h
 refine isTrue_chain (thn (ha pins s σ H _ I h) fun v s1 ⟨x,H1,I1,r1,q1⟩=>test_link (thn (hb pins s1 σ H1 _ I1 q1) fun u s2 ⟨y,H2,I2,r2,q2⟩=>
  thn (ho pins s2 σ H2 x y v u _ I2 r1 r2 q2) fun d s3 ⟨z,H3,I3,r3,k,e,q3⟩=>?_)) hm
 subst e
 cases r3
 refine wpAny_truthy_bool ?_
 cases k with
 | false=>
  obtain ⟨k',e',q'⟩:=q3
  cases e'
  exact ite_ff ⟨H3,I3,q'⟩
 | true=>
  refine ite_tt (test_last (thn (hc pins s3 σ H3 _ I3 q3) fun w' s4 ⟨z',H4,I4,r4,q4⟩=>thn (ho' pins s4 σ H4 y z' u w' _ I4 r2 r4 q4) fun d' s5 ⟨z2,H5,I5,r5,k2,e2,q5⟩=>?_))
  subst e2
  cases r5
  exact wpAny_truthy_bool ⟨H5,I5,q5⟩
noncomputable def TruV (K:PySem.W.Frag) (x:V) (H:Hp) (k:Bool):Prop:=
 match x with
 | .non=>k=false
 | .bl b=>k=b
 | .int i=>k=(i != 0)
 | .str y=>y.length≤sizeLine∧k=((y.length:Int) != 0)
 | .byt y=>y.size≤sizeLine∧k=((y.size:Int) != 0)
 | .ref p=>(∃ xs,SqL K H p xs∧k = !xs.isEmpty)∨(∃ xs,SqT K H p xs∧k = !xs.isEmpty)∨∃ kvs,H p=some (.dK kvs)∧k = !kvs.isEmpty
 | _=>False
theorem isEmpty_kv {κ:Type} {kvs:List (κ×V)} {vs:List (κ×Value)} (r:KV kvs vs):(!vs.isEmpty) = !kvs.isEmpty:=by
 cases r <;> rfl
theorem isEmpty_of {xs:List V} {its:List Value} (r:Vals xs its):(!its.toArray.isEmpty) = !xs.isEmpty:=by
 cases r <;> simp
theorem line63:(sizeLine:Nat) < 2 ^ 63:=by rw [sizeLine_eq]; decide
theorem tru_ok:TruR X (fun x H Q=>∃ k,TruV X.K x H k∧Q k H):=by
 intro pins s σ H x v Q I rx h
 obtain ⟨k,e,q⟩:=h
 have hl:=line63
 have hs:sizeLine=16777216:=sizeLine_eq
 cases x with
 | non=>
  cases rx
  have e':k=false:=e
  subst e'
  exact truthy_none ⟨H,I,q⟩
 | bl b=>
  cases rx
  have e':k=b:=e
  subst e'
  exact wpAny_truthy_bool ⟨H,I,q⟩
 | int i=>
  obtain ⟨t,rfl⟩:=rx
  have e':k=(i != 0):=e
  subst e'
  exact PySem.P.truthy_int ⟨H,I,q⟩
 | str y=>
  obtain ⟨t,rfl⟩:=rx
  obtain ⟨hy,e'⟩:y.length≤sizeLine∧k=((y.length:Int) != 0):=e
  subst e'
  exact PySem.P.truthy_str (by omega) ⟨H,I.tok _,q⟩
 | byt y=>
  obtain ⟨t,rfl⟩:=rx
  obtain ⟨hy,e'⟩:y.size≤sizeLine∧k=((y.size:Int) != 0):=e
  subst e'
  exact PySem.W.truthy_bytes (by omega) ⟨H,I.tok _,q⟩
 | ref p=>
  cases rx
  have e':(∃ xs,SqL X.K H p xs∧k = !xs.isEmpty)∨(∃ xs,SqT X.K H p xs∧k = !xs.isEmpty)∨∃ kvs,H p=some (.dK kvs)∧k = !kvs.isEmpty:=e
  rcases e' with ⟨xs,hx,e'⟩ | ⟨xs,hx,e'⟩ | ⟨kvs,hx,e'⟩
  ·subst e'
   obtain ⟨its,r,pl,hz⟩:=I.list hx
   have hlen:=r.length
   exact wpAny_truthy_list pl.isList (by simp only [List.size_toArray]; omega) ⟨H,I.tok _,by rw [isEmpty_of r]; exact q⟩
  ·subst e'
   obtain ⟨its,r,pl,hz⟩:=I.tuple hx
   have hlen:=r.length
   exact truthy_tuple pl (by simp only [List.size_toArray]; omega) ⟨H,I.tok _,by rw [isEmpty_of r]; exact q⟩
  ·subst e'
   obtain ⟨hz,hS,vs,r,m⟩:kvs.length≤sizeLine∧(p == sysModules)=false∧∃ vs,KV kvs vs∧s.heap.DictOf (mixKind X.prog X.w) p vs:=I.hok p _ hx
   have hlen:kvs.length=vs.length:=Paired.length r
   exact wpAny_truthy_dict hS m (by omega) ⟨H,I.tok _,by rw [isEmpty_kv r]; exact q⟩
 | _=>exact (show False from e).elim
theorem pt_truth (ha:PE X a ta) (he:∀ whole,isTrue a X.env whole=(do let v ← whole; standAt a.pos; holding [v] (truthy v))) :
  PT X a (fun σ H Q=>ta σ H fun x H'=>∃ k,TruV X.K x H' k∧Q k H'):=by
 intro pins s σ H Q I h
 exact isTrue_plain (thn (ha pins s σ H _ I h) fun v s1 ⟨x,H1,I1,r1,q1⟩=>tru_ok pins s1 σ H1 x v Q I1 r1 q1) (he _)
theorem op_add_str:OpR X (binaryOp .Add) (fun x y H Q=>∃ i j,x=.str i∧y=.str j∧i.length + j.length≤sizeLine∧Q (.str (i++j)) H):=by
 intro pins s σ H x y v u Q I rx ry h
 obtain ⟨i,j,rfl,rfl,hz,q⟩:=h
 obtain ⟨t,rfl⟩:=rx
 obtain ⟨t',rfl⟩:=ry
 exact add_str (fun t' tk=>⟨.str (i++j),H,I.tok _,⟨_,rfl⟩,q⟩) hz
theorem vals1 {x:V} {us:List Value} (r:Vals [x] us):∃ u,us=[u]∧RelV x u:=by
 cases r with
 | cons r1 r2=>cases r2; exact ⟨_,rfl,r1⟩
theorem vals2 {x y:V} {us:List Value} (r:Vals [x,y] us):∃ u w',us=[u,w']∧RelV x u∧RelV y w':=by
 cases r with
 | cons r1 r2=>
  cases r2 with
  | cons r3 r4=>cases r4; exact ⟨_,_,rfl,r1,r3⟩
theorem call_min2 (hc:X.calm=true):CallR X (.builtin "min") (fun xs H Q=>∃ i j,xs=[.int i,.int j]∧Q (.int (if j < i then j else i)) H):=by
 intro pins s σ H xs us Q I r h
 obtain ⟨i,j,rfl,q⟩:=h
 obtain ⟨u,w',rfl,⟨t,rfl⟩,⟨t',rfl⟩⟩:=vals2 r
 refine min_two_ints (I.ok.hd hc) fun h' tk k=>⟨_,H,I.kept k,?_,q⟩
 by_cases hj:j < i
 ·rw [if_pos hj,if_pos hj]; exact ⟨_,rfl⟩
 ·rw [if_neg hj,if_neg hj]; exact ⟨_,rfl⟩
theorem call_int1:CallR X (.type "int") (fun xs H Q=>(∃ i,xs=[.int i]∧Q (.int i) H)∨∃ k,xs=[.bl k]∧Q (.int (if k then 1 else 0)) H):=by
 intro pins s σ H xs us Q I r h
 rcases h with ⟨i,rfl,q⟩ | ⟨k,rfl,q⟩
 ·obtain ⟨u,rfl,t,rfl⟩:=vals1 r
  exact call_int_int ⟨.int i,H,I,⟨_,rfl⟩,q⟩
 ·obtain ⟨u,rfl,r1⟩:=vals1 r
  cases r1
  exact call_int_bool ⟨.int (if k then 1 else 0),H,I.tok _,⟨_,rfl⟩,q⟩
theorem call_str_int:CallR X (.type "str") (fun xs H Q=>∃ i,xs=[.int i]∧i.natAbs.log2 < 1920∧Q (.str (toString i)) H):=by
 intro pins s σ H xs us Q I r h
 obtain ⟨i,rfl,hz,q⟩:=h
 obtain ⟨u,rfl,t,rfl⟩:=vals1 r
 exact PySem.P.str_of_int hz ⟨.str _,H,I.tok _,⟨_,rfl⟩,q⟩
end
end L2
namespace L2
open PySem PySem.Spec PyProof.Rows
structure ObjM (h:Heap) (x dx C:Addr) (mA:Str→Option Value):Prop where
 obj:h.get? x=some (PySem.W.instObj C dx)
 ns:h.Ns1 dx mA
 ne:dx≠x
theorem lookIn_ns {h:Heap} {dx:Addr} {mA:Str→Option Value} (n:h.Ns1 dx mA):∃ od,h.get? dx=some od∧∀ name,PySem.W.lookIn name od=some (mA name):=by
 obtain ⟨o,es,ep,ho,hd,hk,_,hm⟩:=n
 refine ⟨o,ho,fun name=>?_⟩
 have e:=hm name
 unfold nsFind findBy at e
 rw [← Array.find?_toList] at e
 unfold PySem.W.lookIn
 rw [hd]
 dsimp only
 split
 ·rename_i y q
  rw [q] at e
  exact congrArg some e
 ·rename_i q
  rw [q] at e
  have a:es.toList.any (·.refKey)=false:=by
   rw [List.any_eq_false]
   intro y hy
   obtain ⟨z,t,hkey⟩:=hk y (Array.mem_toList_iff.mp hy)
   simp [DictEntry.refKey,hkey]
  have a':¬ es.toList.any (·.refKey)=true:=by rw [a]; exact Bool.false_ne_true
  rw [if_neg a']
  exact congrArg some e
theorem ObjM.look {h:Heap} {x dx C:Addr} {mA:Str→Option Value} (I:ObjM h x dx C mA):∃ od,PySem.W.InstAt h x (PySem.W.instObj C dx) C (some od)∧∀ name,PySem.W.lookIn name od=some (mA name):=
 let ⟨od,ho,hl⟩:=lookIn_ns I.ns
 ⟨od,⟨I.obj,rfl,rfl,ho⟩,hl⟩
section
variable {prog:Program} {w:World} {A:Around} {E:Value→Shared→Prop} {s:Shared} {K:PySem.W.Frag} {x dx C f:Addr} {mA:Str→Option Value} {name:Str} {v:Value}
theorem get_map {expr:Bool} {Q:Value→Shared→Prop} (X:K.In s.heap) (I:ObjM s.heap x dx C mA) (hg:PySem.W.plainGet K C name=true) (hh:PySem.W.hasDictIn K C=true)
  (ha:PySem.W.findIn K (.ref C) name=some none) (hv:mA name=some v) (hv':PySem.W.handedIn v=true) (h:Q v { s with toks:=s.toks + 1 }) :
  wpAny (model prog w) A (getAttr (.ref x) name expr) Q E s:=by
 obtain ⟨od,J,hl⟩:=I.look
 exact PySem.W.get_value X J (PySem.W.plainGet_of hg).1 (PySem.W.findObj_own hh ha rfl (by rw [hl,hv])) hv' h
theorem get_meth {pl:Sem Bool} {Q:Value×List Value→Shared→Prop} (X:K.In s.heap) (I:ObjM s.heap x dx C mA) (hg:PySem.W.plainGet K C name=true)
  (hf:PySem.W.findIn K (.ref C) name=some (some (.ref f))) (ht:PySem.W.isFn K (.ref f)=true) (hv:mA name=none) (h:Q (.ref f,[.ref x]) s) :
  wpAny (model prog w) A (getMethod (.ref x) name pl) Q E s:=by
 obtain ⟨od,J,hl⟩:=I.look
 exact PySem.W.method_fn X J (PySem.W.plainGet_of hg).1 (PySem.W.plainGet_of hg).2 hf (beq_iff_eq.mp ht) (by show (PySem.W.lookIn name od).map (·.isSome)=some false; rw [hl,hv]; rfl) h
theorem set_map {ns:List Str} {Q:Unit→Shared→Prop} (X:K.In s.heap) (I:ObjM s.heap x dx C mA)
  (hs:PySem.W.findIn K (.ref C) "__setattr__" = some (some (.builtin "object.__setattr__"))) (hp:PySem.W.plainOver K C=true) (ht:PySem.W.takerIn K C name=some none) (hh:PySem.W.hasDictIn K C=true)
  (hw:PySem.Within mA ns) (hsz:ns.length≤sizeLine)
  (h:∀ h',ObjM h' x dx C (fun y=>if y=name then some v else mA y)→Heap.SameBut dx s.heap h'→Q () { s with heap:=h',toks:=s.toks + 2 }) :
  wpAny (model prog w) A (setAttr (.ref x) name v) Q E s:=by
 obtain ⟨od,J,hl⟩:=I.look
 refine PySem.W.set_plain X J hs (PySem.W.osa_open (s:={ s with toks:=s.toks + 1 }) (r:=none) X J hp ht fun b=>?_)
 obtain ⟨cd,hc,hd'⟩:=PySem.W.any_some hh
 have hx:s.heap.get? x=some ⟨.ref C,some dx,.plain,#[]⟩:=I.obj
 refine wpAny_bind (wpAny_pure (wpAny_bind (wpAny_bind (wpAny_loadPart hx (wpAny_bind (PySem.W.Looks.here (s:={ s with toks:=s.toks + 1 }) (PySem.W.looks_clsIn X hc) ?_))))))
 rw [hd']
 refine wpAny_pure (a:=some dx) (wpAny_bind (wpAny_pure (wpAny_bind ?_)))
 refine wpAny_nsSet1 (s:={ s with toks:=s.toks + 1 }) I.ns fun h' hn2 hs2=>?_
 obtain ⟨oD,esD,epD,hoD,hdD,hcD⟩:=hn2.count (PySem.Within.cons name v hw)
 refine wpAny_bind (wpAny_lookBehind hoD (by rw [hdD]; exact pastItsLine_dict (Nat.le_trans hcD (by rw [List.length_cons]; omega))) ?_)
 exact wpAny_pure (h _ ⟨(hs2.2 _ (Ne.symm I.ne)).trans I.obj,hn2,I.ne⟩ hs2)
theorem make_map {R:Result→Shared→Prop} {vs:List Value} {kw:List (Str×Value)} (X:K.In s.heap) (hm:PySem.W.makesIn K C=true)
  (hi:PySem.W.findIn K (.ref C) "__init__" = some (some (.ref f))) (hf:PySem.W.typeIn K (.ref f)=some (.type "function"))
  (h:codeAny (model prog w) (A.under (.builtin "type.__call__" ⟨.ref C::vs,kw⟩)) (.call (.ref f) ⟨.ref (s.heap.objs.size + 1)::vs,kw⟩) (PySem.W.InitBack (s.heap.objs.size + 1) R)
   { s with heap:=(s.heap.push PySem.W.emptyDict).push (PySem.W.instObj C s.heap.objs.size) }) :
  codeAny (model prog w) A (.call (.ref C) ⟨vs,kw⟩) R s:=by
 obtain ⟨hh,g,d,t,os⟩:=s
 exact PySem.W.make_core (PySem.W.makes_of X hm) (PySem.W.looks_findIn X hi) (fun self=>PySem.W.bind_fn X self hf) (.inl rfl) h
end
noncomputable def putF (f:Str) (v:V):List (Str×V)→List (Str×V)
 | []=>[(f,v)]
 | (g,x)::r=>if g=f then (g,v)::r else (g,x)::putF f v r
theorem lookup_putF (f g:Str) (v:V):∀ fs:List (Str×V),(putF f v fs).lookup g=if g=f then some v else fs.lookup g
 | []=>by
  show List.lookup g [(f,v)]=_
  by_cases h:g=f
  ·have hb:(g == f)=true:=beq_iff_eq.mpr h
   simp only [List.lookup,hb,if_pos h]
  ·have hb:(g == f)=false:=beq_eq_false_iff_ne.mpr h
   simp only [List.lookup,hb,if_neg h]
 | (k,x)::r=>by
  have ih:=lookup_putF f g v r
  rw [show putF f v ((k,x)::r)=(if k=f then (k,v)::r else (k,x)::putF f v r) from rfl]
  by_cases hk:k=f
  ·rw [if_pos hk]
   by_cases h:g=k
   ·have hb:(g == k)=true:=beq_iff_eq.mpr h
    simp only [List.lookup,hb,if_pos (h.trans hk)]
   ·have hb:(g == k)=false:=beq_eq_false_iff_ne.mpr h
    simp only [List.lookup,hb,if_neg (fun e:g=f=>h (e.trans hk.symm))]
  ·rw [if_neg hk]
   by_cases h:g=k
   ·have hb:(g == k)=true:=beq_iff_eq.mpr h
    simp only [List.lookup,hb,if_neg (fun e:g=f=>hk (h.symm.trans e))]
   ·have hb:(g == k)=false:=beq_eq_false_iff_ne.mpr h
    simp only [List.lookup,hb]
    exact ih
theorem keys_putF (f:Str) (v:V):∀ fs:List (Str×V),f∈(putF f v fs).map (·.1)∧∀ g,g∈fs.map (·.1)→g∈(putF f v fs).map (·.1)
 | []=>⟨by simp [putF],fun g h=>by simp at h⟩
 | (k,x)::r=>by
  obtain ⟨i1,i2⟩:=keys_putF f v r
  rw [show putF f v ((k,x)::r)=(if k=f then (k,v)::r else (k,x)::putF f v r) from rfl]
  by_cases hk:k=f
  ·rw [if_pos hk]
   subst hk
   exact ⟨by simp,fun g h=>by simpa using h⟩
  ·rw [if_neg hk]
   refine ⟨?_,fun g h=>?_⟩
   ·rw [List.map_cons]
    exact List.mem_cons_of_mem _ i1
   ·rw [List.map_cons] at h ⊢
    rcases List.mem_cons.mp h with e | e
    ·exact List.mem_cons.mpr (.inl e)
    ·exact List.mem_cons_of_mem _ (i2 g e)
theorem length_putF (f:Str) (v:V):∀ fs:List (Str×V),(putF f v fs).length≤fs.length + 1
 | []=>by simp [putF]
 | (k,x)::r=>by
  have ih:=length_putF f v r
  rw [show putF f v ((k,x)::r)=(if k=f then (k,v)::r else (k,x)::putF f v r) from rfl]
  by_cases hk:k=f
  ·rw [if_pos hk,List.length_cons,List.length_cons]; omega
  ·rw [if_neg hk,List.length_cons,List.length_cons]; omega
theorem RelO.some_of {v:V} {o:Option Value} (r:RelO (some v) o):∃ u,o=some u∧RelV v u:=by
 cases o with
 | none=>exact (show False from r).elim
 | some u=>exact ⟨u,rfl,r⟩
theorem RelO.none_of {o:Option Value} (r:RelO none o):o=none:=by
 cases o with
 | none=>rfl
 | some u=>exact (show False from r).elim
theorem handed_of {v:V} {u:Value} (r:RelV v u):PySem.W.handedIn u=true:=by
 cases v with
 | non=>cases (show u=Value.none from r); rfl
 | bl b=>cases (show u=Value.bool b from r); rfl
 | int i=>obtain ⟨t,e⟩:=(show ∃ t,u=Value.int i t from r); cases e; rfl
 | str x=>obtain ⟨t,e⟩:=(show ∃ t,u=Value.str x t from r); cases e; rfl
 | byt b=>obtain ⟨t,e⟩:=(show ∃ t,u=Value.bytes b t from r); cases e; rfl
 | flt b=>obtain ⟨t,e⟩:=(show ∃ t,u=Value.float b t from r); cases e; rfl
 | ref a=>cases (show u=Value.ref a from r); rfl
 | ty n=>cases (show u=Value.type n from r); rfl
section
variable {P:Program} {w:World} {H H':Hp} {h h':Heap} {a C dx:Addr} {fs fs':List (Str×V)}
theorem ins_get (hok:HOk P w H h) (e:H a=some (.ins C dx fs)):∃ mA,ObjM h a dx C mA∧(∀ f,RelO (fs.lookup f) (mA f))∧PySem.Within mA (fs.map (·.1))∧fs.length≤1000∧H dx=some (.own a):=by
 obtain ⟨d,z,ne,ob,mA,n,r,q⟩:=(show ObjOk P w H h a (.ins C dx fs) from hok a _ e)
 exact ⟨mA,⟨ob,n,ne⟩,r,q,z,d⟩
end
structure Cls (K:PySem.W.Frag) (C:Addr):Prop where
 pg:PySem.W.plainGet K C Str.empty=true
 hd:PySem.W.hasDictIn K C=true
 po:PySem.W.plainOver K C=true
 sa:PySem.W.findIn K (.ref C) "__setattr__" = some (some (.builtin "object.__setattr__"))
theorem Cls.get {K:PySem.W.Frag} {C:Addr} (c:Cls K C) (f:Str):PySem.W.plainGet K C f=true:=c.pg
noncomputable def NoAttr (K:PySem.W.Frag) (C:Addr) (f:Str):Prop:=PySem.W.findIn K (.ref C) f=some none
theorem NoAttr.taker {K:PySem.W.Frag} {C:Addr} {f:Str} (n:NoAttr K C f):PySem.W.takerIn K C f=some none:=by
 unfold PySem.W.takerIn
 rw [show PySem.W.findIn K (.ref C) f=some none from n]
 rfl
structure Con (K:PySem.W.Frag) (C:Addr) (f:Str) (v:V) (u:Value):Prop where
 at_:PySem.W.findIn K (.ref C) f=some (some u)
 rel:RelV v u
 get:PySem.W.specialIn K u "__get__" = some none
 cp:PySem.W.copiedNames.contains f=false
structure Meth (K:PySem.W.Frag) (C:Addr) (m:Str) (f:Addr):Prop where
 at_:PySem.W.findIn K (.ref C) m=some (some (.ref f))
 fn:PySem.W.isFn K (.ref f)=true
 kp:PySem.W.keepIn K (.ref f)=true
section
variable {X:Cx} {pins:List (Addr×Obj)} {σ:St} {H:Hp} {s:Shared} {a C dx:Addr} {fs:List (Str×V)} {f:Str} {v:V} {A:Around} {E:Value→Shared→Prop}
theorem getattr_ok {b:Bool} {Q:Value→Shared→Prop} (I:Inv X pins σ H s) (e:H a=some (.ins C dx fs)) (c:Cls X.K C) (n:NoAttr X.K C f) (l:fs.lookup f=some v)
  (h:∀ u s',Inv X pins σ H s'→RelV v u→Q u s'):wpAny (model X.prog X.w) A (getAttr (.ref a) f b) Q E s:=by
 obtain ⟨mA,O,r,_,_,_⟩:=ins_get I.hok e
 obtain ⟨u,hu,ru⟩:=RelO.some_of (v:=v) (o:=mA f) (by rw [← l]; exact r f)
 exact get_map I.kIn O (c.get f) c.hd n hu (handed_of ru) (h u _ (I.tok _) ru)
theorem getmeth_ok {m:Str} {g:Addr} {pl:Sem Bool} {Q:Value×List Value→Shared→Prop} (I:Inv X pins σ H s) (e:H a=some (.ins C dx fs)) (c:Cls X.K C) (k:Meth X.K C m g) (l:fs.lookup m=none)
  (h:Q (.ref g,[.ref a]) s):wpAny (model X.prog X.w) A (getMethod (.ref a) m pl) Q E s:=by
 obtain ⟨mA,O,r,_,_,_⟩:=ins_get I.hok e
 have hn:mA m=none:=RelO.none_of (by rw [← l]; exact r m)
 exact get_meth I.kIn O (c.get m) k.at_ k.fn hn h
theorem setattr_ok {y:V} {u:Value} {Q:Unit→Shared→Prop} (I:Inv X pins σ H s) (e:H a=some (.ins C dx fs)) (c:Cls X.K C) (n:NoAttr X.K C f) (hl:fs.length < 1000) (ry:RelV y u)
  (h:∀ s',Inv X pins σ (upd H a (.ins C dx (putF f y fs))) s'→Q () s'):wpAny (model X.prog X.w) A (setAttr (.ref a) f u) Q E s:=by
 obtain ⟨mA,O,r,wi,_,ho⟩:=ins_get I.hok e
 have hz:(fs.map (·.1)).length≤sizeLine:=by rw [List.length_map,sizeLine_eq]; omega
 refine set_map I.kIn O c.sa c.po n.taker c.hd wi hz fun h' O' sb=>h _ ?_
 have hd:∃ o,h'.get? dx=some o:=let ⟨o,_,_,e',_⟩:=O'.ns; ⟨o,e'⟩
 refine I.write (x:=a) (e:=dx) (by rw [e]; exact True.intro) (.inr ho) (fun b q hb z=>(sb.2 b hb).trans z) hd ?_
 refine ⟨by rw [upd_ne O.ne]; exact ho,?_,O.ne,O'.obj,_,O'.ns,fun g=>?_,fun g hg=>?_⟩
 ·have:=length_putF f y fs; omega
 ·show RelO ((putF f y fs).lookup g) (if g=f then some u else mA g)
  rw [lookup_putF]
  by_cases q:g=f
  ·rw [if_pos q,if_pos q]; exact ry
  ·rw [if_neg q,if_neg q]; exact r g
 ·by_cases q:g=f
  ·rw [q]; exact (keys_putF f y fs).1
  ·refine (keys_putF f y fs).2 g (wi g fun z=>hg ?_)
   show (if g=f then some u else mA g)=none
   rw [if_neg q]; exact z
theorem Inv.made (I:Inv X pins σ H s):Inv X pins σ (upd (upd H s.heap.objs.size (.own (s.heap.objs.size + 1))) (s.heap.objs.size + 1) (.ins C s.heap.objs.size []))
  { s with heap:=(s.heap.push PySem.W.emptyDict).push (PySem.W.instObj C s.heap.objs.size) }:=by
 have e1:(s.heap.push PySem.W.emptyDict).get? s.heap.objs.size=some PySem.W.emptyDict:=Heap.get?_push_size s.heap rfl
 have e2:((s.heap.push PySem.W.emptyDict).push (PySem.W.instObj C s.heap.objs.size)).get? (s.heap.objs.size + 1)=some (PySem.W.instObj C s.heap.objs.size):=by
  have:=Heap.get?_push_size (s.heap.push PySem.W.emptyDict) (o:=PySem.W.instObj C s.heap.objs.size) rfl
  rwa [Heap.size_push] at this
 have e3:(s.heap.push PySem.W.emptyDict).Ns s.heap.objs.size (fun _=>none):=⟨PySem.W.emptyDict,#[],_,e1,rfl,(fun e he=>absurd he (by simp)),fun _=>rfl⟩
 have I1:=I.laid (a:=s.heap.objs.size) (o:=.own (s.heap.objs.size + 1)) (h':=s.heap.push PySem.W.emptyDict) (t':=s.toks) (fun b u q=>Heap.get?_push_of_some _ q) (Nat.le_refl _) ⟨_,e1⟩
 refine I1.laid (a:=s.heap.objs.size + 1) (o:=.ins C s.heap.objs.size []) (t':=s.toks) (fun b u q=>Heap.get?_push_of_some _ q) (Nat.le_of_eq (Heap.size_push _ _)) ?_
 have ne:s.heap.objs.size≠s.heap.objs.size + 1:=Nat.ne_of_lt (Nat.lt_succ_self _)
 refine ⟨by rw [upd_ne ne,upd_same],Nat.zero_le _,ne,e2,fun _=>none,(Heap.Ns1.of_empty e3).at fun o q=>Heap.get?_push_of_some _ q,fun _=>True.intro,fun y hy=>absurd rfl hy⟩
theorem attr_of {prog:Program} {w:World} {env:Env} {e:Expr} {f:Str} {pos:Pos} {s:Shared} {Q:Value→Shared→Prop} (hb:attributeBase e f env (eval e env)=eval e env)
  (h:wpAny (model prog w) A (eval e env) (fun o s₁=>wpAny (model prog w) A (getAttr o f true) Q E s₁) E s):wpAny (model prog w) A (eval (.Attribute e f pos) env) Q E s:=
 Attribute_any_ h (by rw [arm_eval_Attribute,hb])
end
noncomputable def tFld (K:PySem.W.Frag) (ta:TE) (f:Str):TE:=fun σ H Q=>ta σ H fun x H1=>∃ a C dx fs v,x=.ref a∧H1 a=some (.ins C dx fs)∧Cls K C∧NoAttr K C f∧fs.lookup f=some v∧Q v H1
noncomputable def sFld (K:PySem.W.Frag) (ta tv:TE) (f:Str):TS:=fun D σ H=>tv σ H fun y H1=>ta σ H1 fun x H2=>∃ a C dx fs,x=.ref a∧H2 a=some (.ins C dx fs)∧Cls K C∧NoAttr K C f∧fs.length < 1000 ∧
 D.nx σ (upd H2 a (.ins C dx (putF f y fs)))
section
variable {X:Cx} {o e value:Expr} {f:Str} {pos pos' tpos:Pos} {ta tv:TE}
theorem pe_fld (he:PE X e ta) (hb:attributeBase e f X.env (eval e X.env)=eval e X.env):PE X (.Attribute e f pos) (tFld X.K ta f):=by
 intro pins s σ H Q I h
 refine attr_of hb (thn (he pins s σ H _ I h) fun u s1 ⟨x,H1,I1,rx,a,C,dx,fs,v,ex,ea,c,n,l,q⟩=>?_)
 subst ex
 obtain rfl:u=Value.ref a:=rx
 exact getattr_ok I1 ea c n l fun u' s2 I2 ru=>⟨v,H1,I2,ru,q⟩
theorem ps_fld (ha:PE X o ta) (hv:PE X value tv) (hs:swapsWith value (some (.Attribute o f pos')) pos.line X.env=pure false):PS X (.Assign [.Attribute o f pos'] value pos) (sFld X.K ta tv f):=by
 intro pins s σ H D I h
 refine plainObj_wpAny_Assign_Attribute (thn (hv pins s σ H _ I h) fun u s1 ⟨y,H1,I1,ry,q⟩=>thn (ha pins s1 σ H1 _ I1 q) fun ov s2 ⟨x,H2,I2,rx,a,C,dx,fs,ex,ea,c,n,l,q2⟩=>?_) hs
 subst ex
 obtain rfl:ov=Value.ref a:=rx
 exact setattr_ok I2 ea c n l ry fun s3 I3=>⟨σ,_,I3,q2⟩
end
section
variable {X:Cx} {pins:List (Addr×Obj)} {σ:St} {H:Hp} {s:Shared} {A:Around} {E:Value→Shared→Prop} {Q:Value→Shared→Prop} {c:Value} {b:Bool}
inductive TyOf (K:PySem.W.Frag) (H:Hp):V→Value→Prop where
 | non:TyOf K H .non (.type "NoneType")
 | bl (x:Bool):TyOf K H (.bl x) (.type "bool")
 | int (i:Int):TyOf K H (.int i) (.type "int")
 | str (x:Str):TyOf K H (.str x) (.type "str")
 | flt (x:UInt64):TyOf K H (.flt x) (.type "float")
 | lst {a:Addr} {xs:List V} (e:H a=some (.lst xs)):TyOf K H (.ref a) (.type "list")
 | frz {a:Addr} {o:Obj} {xs:List V} (e:H a=some (.frz o (.lst xs))):TyOf K H (.ref a) (.type "list")
 | tup {a:Addr} {xs:List V} (e:H a=some (.tup xs)):TyOf K H (.ref a) (.type "tuple")
 | dK {a:Addr} {kvs:List (Key×V)} (e:H a=some (.dK kvs)):TyOf K H (.ref a) (.type "dict")
 | dT {a:Addr} {kvs:List (List Key×V)} (e:H a=some (.dT kvs)):TyOf K H (.ref a) (.type "dict")
 | ins {a C dx:Addr} {fs:List (Str×V)} (e:H a=some (.ins C dx fs)) (cl:Cls K C) (ha:PySem.W.findIn K (.ref C) "__class__" = some (some (.builtin "object.__class__")))
   (hn:PySem.W.specialIn K (.builtin "object.__class__") "__get__" = some (some (.builtin "getset_descriptor.__get__"))) (htk:PySem.W.takesIn K (.builtin "object.__class__")=some true)
   (hm:PySem.W.mroIn K C (.type "object")=some true):TyOf K H (.ref a) (.ref C)
theorem isinst_ok {x:V} {u t:Value} (I:Inv X pins σ H s) (rx:RelV x u) (ty:TyOf X.K H x t) (e:PySem.W.kitOne X.K t c=some b) (h:∀ tk,Q (.bool b) { s with toks:=tk }) :
  wpAny (model X.prog X.w) A (call (.builtin "isinstance") [u,c]) Q E s:=by
 cases ty with
 | non=>cases (show u=Value.none from rx); exact PySem.W.kia_one PySem.W.kitx_none I.kIn True.intro e (fun z=>nomatch z) h
 | bl y=>cases (show u=Value.bool y from rx); exact PySem.W.kia_one PySem.W.kitx_bool I.kIn True.intro e (fun z=>nomatch z) h
 | int i=>obtain ⟨t,q⟩:=(show ∃ t,u=Value.int i t from rx); cases q; exact PySem.W.kia_one PySem.W.kitx_int I.kIn True.intro e (fun z=>nomatch z) h
 | str y=>obtain ⟨t,q⟩:=(show ∃ t,u=Value.str y t from rx); cases q; exact PySem.W.kia_one PySem.W.kitx_str I.kIn True.intro e (fun z=>nomatch z) h
 | flt y=>obtain ⟨t,q⟩:=(show ∃ t,u=Value.float y t from rx); cases q; exact PySem.W.kia_one PySem.W.kitx_float I.kIn True.intro e (fun z=>nomatch z) h
 | @lst a xs ea=>
  cases (show u=Value.ref a from rx)
  obtain ⟨_,_,n,_,h1⟩:=(show ObjOk X.prog X.w H s.heap a (.lst xs) from I.hok a _ ea)
  exact PySem.W.kia_one PySem.W.kitx_list I.kIn ⟨_,h1,rfl⟩ e (fun z=>nomatch z) h
 | @frz a ob xs ea=>
  cases (show u=Value.ref a from rx)
  obtain ⟨_,_,_,n,_,h1⟩:=(show ObjOk X.prog X.w H s.heap a (.frz ob (.lst xs)) from I.hok a _ ea)
  exact PySem.W.kia_one PySem.W.kitx_list I.kIn ⟨_,h1,rfl⟩ e (fun z=>nomatch z) h
 | @tup a xs ea=>
  cases (show u=Value.ref a from rx)
  obtain ⟨_,_,_,p⟩:=(show ObjOk X.prog X.w H s.heap a (.tup xs) from I.hok a _ ea)
  obtain ⟨o,h1,h2,_⟩:=p
  exact PySem.W.kia_one PySem.W.kitx_tuple I.kIn ⟨o,h1,h2⟩ e (fun z=>nomatch z) h
 | @dK a kvs ea=>
  cases (show u=Value.ref a from rx)
  obtain ⟨_,_,vs,_,p⟩:=(show ObjOk X.prog X.w H s.heap a (.dK kvs) from I.hok a _ ea)
  obtain ⟨o,es,ep,h1,h2,_⟩:=p
  exact PySem.W.kia_one PySem.W.kitx_dict I.kIn ⟨o,h1,h2.1⟩ e (fun z=>nomatch z) h
 | @dT a kvs ea=>
  cases (show u=Value.ref a from rx)
  obtain ⟨_,_,xs,_,o,es,ep,h1,h2,_⟩:=(show ObjOk X.prog X.w H s.heap a (.dT kvs) from I.hok a _ ea)
  exact PySem.W.kia_one PySem.W.kitx_dict I.kIn ⟨o,h1,h2.1⟩ e (fun z=>nomatch z) h
 | @ins a C dx fs ea cl ha hn htk hm=>
  cases (show u=Value.ref a from rx)
  obtain ⟨mA,O,_⟩:=ins_get I.hok ea
  obtain ⟨od,J,_⟩:=O.look
  exact PySem.W.kia_one (PySem.W.kitx_own (cl.get _) cl.hd ha hn htk hm) I.kIn J e (fun z=>nomatch z) h
end
end L2
namespace L2
open PySem PySem.Spec PyProof.Rows
structure Room (k:Nat) (A:Around):Prop where
 hd:A.handled=none
 dp:A.depth + 3 * k + 5 < recursionLimit
 un:A.units + 16 * k + 200 < cLine
 gd:A.guards=some []
theorem Room.mono {j k:Nat} {A:Around} (r:Room k A) (h:j≤k):Room j A:=⟨r.hd,by have:=r.dp; omega,by have:=r.un; omega,r.gd⟩
theorem Room.deeper {k:Nat} {A:Around} (r:Room (k + 1) A) (env:Env):Room k (A.deeper env):=
 ⟨r.hd,by have:=r.dp; show A.depth + 1 + 3 * k + 5 < _; omega,by have:=r.un; show A.units + 3 + 16 * k + 200 < _; omega,r.gd⟩
theorem Room.in1 {k:Nat} {A:Around} (r:Room (k + 1) A):Room k A.in1:=
 ⟨r.hd,by have:=r.dp; show A.depth + 3 * k + 5 < _; omega,by have:=r.un; show A.units + 1 + 16 * k + 200 < _; omega,r.gd⟩
theorem make_depth {A:Around} {C:Addr} {us:List Value} {kw:List (Str×Value)}:(A.under (.builtin "type.__call__" ⟨.ref C::us,kw⟩)).depth=A.depth + 1:=by
 first | rfl | simp [Around.under,Code.weight,Code.isCreation,Code.isGuard,Code.isCaller,Code.frames,Code.isFrame,guardIds]
theorem make_units {A:Around} {C:Addr} {us:List Value} {kw:List (Str×Value)}:(A.under (.builtin "type.__call__" ⟨.ref C::us,kw⟩)).units=A.units + 1:=by
 first | rfl | simp [Around.under,Code.cUnits,Code.frames,Code.isFrame]
theorem Room.make {k:Nat} {A:Around} (r:Room (k + 1) A) (C:Addr) (us:List Value) (kw:List (Str×Value)):Room k (A.under (.builtin "type.__call__" ⟨.ref C::us,kw⟩)):=
 ⟨r.hd,by have:=r.dp; rw [make_depth]; omega,by have:=r.un; rw [make_units]; omega,by first | exact r.gd | (simpa [Around.under,Code.isGuard,guardIds] using r.gd)⟩
theorem Room.depth {k:Nat} {A:Around} (r:Room k A):A.depth < recursionLimit:=by have:=r.dp; omega
theorem Room.units {k:Nat} {A:Around} (r:Room k A):A.units + 64 < cLine:=by have:=r.un; omega
noncomputable def tNil:TA:=fun _ H Q=>Q [] H
noncomputable def tCons (ta:TE) (tr:TA):TA:=fun σ H Q=>ta σ H fun x H1=>tr σ H1 fun xs H2=>Q (x::xs) H2
section
variable {X:Cx} {e:Expr} {es:List Expr} {te:TE} {t:TA} {pos:Pos}
theorem pa_nil:PA X [] tNil:=fun _ _ _ _ H Q I h=>Calls.spliced_nil ⟨[],H,I,.nil,h⟩
theorem pa_cons (ha:PE X e te) (hr:PA X es t) (hs:starEach (e::es) X.env=(false,eval e X.env)::starEach es X.env:=by rfl):PA X (e::es) (tCons te t):=by
 intro pos pins s σ H Q I h
 rw [hs]
 show wpAny _ _ (spliced ((false,eval e X.env)::backTo pos (starEach es X.env))) _ _ s
 refine Calls.spliced_cons (thn (ha pins s σ H _ I h) fun u s1 ⟨x,H1,I1,r1,q1⟩=>?_)
 exact thn (hr pos pins s1 σ H1 _ I1 q1) fun us s2 ⟨xs,H2,I2,r2,q2⟩=>⟨x::xs,H2,I2,.cons r1 r2,q2⟩
noncomputable def tTup (t:TA):TE:=fun σ H Q=>t σ H fun xs H1=>xs.length≤sizeLine∧∀ p,H1 p=none→Q (.ref p) (upd H1 p (.tup xs))
noncomputable def tLst (t:TA):TE:=fun σ H Q=>t σ H fun xs H1=>xs.length≤sizeLine∧∀ p,H1 p=none→Q (.ref p) (upd H1 p (.lst xs))
theorem pe_tup {x1} (h:PA X es t):PE X (.Tuple es x1 pos) (tTup t):=by
 intro pins s σ H Q I hq
 refine wpAny_Tuple_spliced (thn (h pos pins s σ H _ I hq) fun us s1 ⟨xs,H1,I1,r,z,q⟩=>⟨by rw [← r.length]; exact z,?_⟩)
 have hf:H1 s1.heap.objs.size=none:=I1.hok.fresh (Nat.le_refl _)
 refine ⟨.ref s1.heap.objs.size,upd H1 s1.heap.objs.size (.tup xs),I1.laid (t':=s1.toks) (fun b u e=>Heap.get?_push_of_some _ e) (Nat.le_refl _) ?_,rfl,q _ hf⟩
 exact ⟨z,us,r,⟨_,Heap.get?_push_size _ rfl,rfl,_,rfl⟩⟩
theorem pe_lst (h:PA X es t):PE X (.List es pos) (tLst t):=by
 intro pins s σ H Q I hq
 refine wpAny_List_spliced (thn (h pos pins s σ H _ I hq) fun us s1 ⟨xs,H1,I1,r,z,q⟩=>⟨by rw [← r.length]; exact z,?_⟩)
 have hf:H1 s1.heap.objs.size=none:=I1.hok.fresh (Nat.le_refl _)
 refine ⟨.ref s1.heap.objs.size,upd H1 s1.heap.objs.size (.lst xs),I1.laid (t':=s1.toks) (fun b u e=>Heap.get?_push_of_some _ e) (Nat.le_refl _) ?_,rfl,q _ hf⟩
 exact ⟨z,us,0,r,Heap.get?_push_size _ rfl⟩
end
noncomputable abbrev Sp:=List V→Hp→VK→XK→Prop
noncomputable abbrev CXT:=List Env→Hp→Shared→XK→Value→Shared→Prop
structure Env0 (P:Program) (w:World) (K:PySem.W.Frag) (mg:Str→Option Value) (base:Heap) (A:Around) (outer:List Env) (s:Shared) (H:Hp):Prop where
 frames:A.frames=some outer
 mod:Mod K mg base
 bs:∀ b o,base.get? b=some o→s.heap.get? b=some o∧H b=none
 bsz:base.objs.size≤s.heap.objs.size
 funs:s.heap.FunFrames base outer
 frf:∀ b∈frs outer,H b=none
 hok:HOk P w H s.heap
 bare:AllBare s.gens
noncomputable def CE (outer:List Env) (P:Program) (w:World) (H:Hp) (s:Shared) (Q:VK) (u:Value) (s':Shared):Prop:=
 ∃ v H',s'.os=s.os∧AllBare s'.gens∧Un (frs outer) [] H H' s.heap s'.heap∧HOk P w H' s'.heap∧RelV v u∧Q v H'
noncomputable def CR (CX:CXT) (outer:List Env) (P:Program) (w:World) (H:Hp) (s:Shared) (Q:VK) (E:XK) (r:Result) (s':Shared):Prop:=
 match r with
 | .ok (.ret u)=>CE outer P w H s Q u s'
 | .ok _=>False
 | .error e=>CX outer H s E e s'
structure FnOk (P:Program) (w:World) (K:PySem.W.Frag) (mg:Str→Option Value) (base:Heap) (CX:CXT) (k:Nat) (f:Addr) (fd:FuncData) (ps:List Str) (sp:Sp):Prop where
 len:∀ vs H Q E,sp vs H Q E→vs.length=ps.length
 run:∀ (A:Around) (outer:List Env) (s:Shared) (H:Hp) (args:Args) (us:List Value) (vs:List V) (Q:VK) (E:XK),Room k A→Env0 P w K mg base A outer s H→BindsTo s fd args (ps.zip us)→Vals vs us→sp vs H Q E →
  codeAny (model P w) A (.call (.ref f) args) (CR CX outer P w H s Q E) s
theorem FnOk.mono {P:Program} {w:World} {K:PySem.W.Frag} {mg:Str→Option Value} {base:Heap} {CX:CXT} {j k:Nat} {f:Addr} {fd:FuncData} {ps:List Str} {sp:Sp} (F:FnOk P w K mg base CX j f fd ps sp) (h:j≤k) :
  FnOk P w K mg base CX k f fd ps sp:=⟨F.len,fun A outer s H args us vs Q E hr=>F.run A outer s H args us vs Q E (hr.mono h)⟩
theorem FnOk.imp {P:Program} {w:World} {K:PySem.W.Frag} {mg:Str→Option Value} {base:Heap} {CX:CXT} {k:Nat} {f:Addr} {fd:FuncData} {ps:List Str} {sp sp':Sp} (F:FnOk P w K mg base CX k f fd ps sp)
  (h:∀ vs H Q E,sp' vs H Q E→sp vs H Q E):FnOk P w K mg base CX k f fd ps sp':=
 ⟨fun vs H Q E q=>F.len vs H Q E (h _ _ _ _ q),fun A outer s H args us vs Q E hr he hb hv hs=>F.run A outer s H args us vs Q E hr he hb hv (h _ _ _ _ hs)⟩
theorem Env0.make {P:Program} {w:World} {K:PySem.W.Frag} {mg:Str→Option Value} {base:Heap} {A:Around} {outer:List Env} {s:Shared} {H:Hp} (e:Env0 P w K mg base A outer s H) (C:Addr) (us:List Value) (kw:List (Str×Value)) :
  Env0 P w K mg base (A.under (.builtin "type.__call__" ⟨.ref C::us,kw⟩)) outer s H:=⟨by first | exact e.frames | (simpa [Around.under,Code.envs,Code.isFrame,pushEnvs] using e.frames),e.mod,e.bs,e.bsz,e.funs,e.frf,e.hok,e.bare⟩
theorem Env0.in1 {P:Program} {w:World} {K:PySem.W.Frag} {mg:Str→Option Value} {base:Heap} {A:Around} {outer:List Env} {s:Shared} {H:Hp} (e:Env0 P w K mg base A outer s H) :
  Env0 P w K mg base A.in1 outer s H:=⟨e.frames,e.mod,e.bs,e.bsz,e.funs,e.frf,e.hok,e.bare⟩
section
variable {X:Cx} {pins:List (Addr×Obj)} {σ:St} {H:Hp} {s s':Shared}
theorem Inv.env0 (I:Inv X pins σ H s):Env0 X.prog X.w X.K X.mg X.base X.A X.stack s H:=
 ⟨I.ok.frames,I.ok.mod,I.bs,Nat.le_trans I.ok.bsz I.sz,I.stack,I.stkFree,I.hok,I.bare⟩
theorem Inv.after {Q:VK} {u:Value} (I:Inv X pins σ H s) (h:CE X.stack X.prog X.w H s Q u s'):EP X pins σ Q u s':=by
 obtain ⟨v,H',os,bare,un,hok,r,q⟩:=h
 obtain ⟨hh,g,d,t,os'⟩:=s'
 obtain rfl:os'=s.os:=os
 exact ⟨v,H',I.call (h':=hh) (g':=g) (d':=d) (t':=t) (ch:=[]) un hok bare (fun b z=>absurd z (by simp)),r,q⟩
end
noncomputable def tCall (sp:Sp) (dvs:List V) (E:XK) (t:TA):TE:=fun σ H Q=>t σ H fun vs H1=>sp (vs++dvs) H1 Q E
noncomputable def tMeth (C:Addr) (m:Str) (sp:Sp) (dvs:List V) (E:XK) (ta:TE) (t:TA):TE:=fun σ H Q=>ta σ H fun x H1=>∃ a dx fs,x=.ref a∧H1 a=some (.ins C dx fs)∧fs.lookup m=none ∧
 t σ H1 fun vs H2=>sp (x::(vs++dvs)) H2 Q E
noncomputable def tMake (C:Addr) (sp:Sp) (dvs:List V) (E:XK) (t:TA):TE:=fun σ H Q=>t σ H fun vs H1=>∀ x dx,H1 x=none→H1 dx=none→dx≠x →
 sp (.ref x::(vs++dvs)) (upd (upd H1 dx (.own x)) x (.ins C dx [])) (fun v H2=>v=.non∧Q (.ref x) H2) E
noncomputable def Binds (K:PySem.W.Frag) (fd:FuncData) (ps:List Str) (ds:List Value):Prop:=
 ∀ (s:Shared) (us:List Value),K.In s.heap→(us++ds).length=ps.length→BindsTo s fd ⟨us,[]⟩ (ps.zip (us++ds))
theorem Binds.all {K:PySem.W.Frag} {fd:FuncData} {ps:List Str} (h:∀ us:List Value,us.length=ps.length→bindArgs fd ⟨us,[]⟩=pure (ps.zip us)):Binds K fd ps []:=fun s us _ hl=>by
 rw [List.append_nil] at hl ⊢
 exact .of_eq (h us hl)
noncomputable def Passes (CX:CXT) (X:Cx) (E:XK):Prop:=∀ (pins:List (Addr×Obj)) (σ:St) (H:Hp) (s:Shared) (e:Value) (s':Shared),Inv X pins σ H s→CX X.stack H s E e s'→X.xe e s'
section
variable {X:Cx} {CX:CXT} {k:Nat} {f C:Addr} {fd:FuncData} {ps:List Str} {sp:Sp} {dvs:List V} {ds:List Value} {E:XK} {x m:Str} {p pos apos:Pos} {e o:Expr} {es:List Expr} {ta:TE} {t:TA}
theorem run_fn {pins:List (Addr×Obj)} {σ:St} {H:Hp} {s:Shared} {Q:VK} {us:List Value} {vs:List V} (F:FnOk X.prog X.w X.K X.mg X.base CX k f fd ps sp) (hr:Room k X.A) (hb:Binds X.K fd ps ds) (hd:Vals dvs ds) (hx:Passes CX X E)
  (I:Inv X pins σ H s) (r:Vals vs us) (h:sp (vs++dvs) H Q E):wpAny (model X.prog X.w) X.A (call (.ref f) us) (EP X pins σ Q) X.xe s:=by
 have r2:Vals (vs++dvs) (us++ds):=r.append hd
 have hl:(us++ds).length=ps.length:=by rw [← r2.length]; exact F.len _ _ _ _ h
 refine wpAny_call (codeAny_mono (F.run X.A X.stack s H ⟨us,[]⟩ (us++ds) (vs++dvs) Q E hr I.env0 (hb s us I.kIn hl) r2 h) fun r s' hq=>?_)
 cases r with
 | error e=>exact hx pins σ H s e s' I hq
 | ok fl=>
  cases fl with
  | ret u=>exact I.after hq
  | next=>exact False.elim hq
  | brk=>exact False.elim hq
  | cont=>exact False.elim hq
theorem pe_call (F:FnOk X.prog X.w X.K X.mg X.base CX k f fd ps sp) (hr:Room k X.A) (hg:Gl X x) (hm:X.mg x=some (.ref f)) (hk:PySem.W.keepIn X.K (.ref f)=true) (hb:Binds X.K fd ps ds) (hd:Vals dvs ds) (hx:Passes CX X E)
  (ha:PA X (e::es) t) (hdb:(x == ("__debug__" : Str))=false:=by decide) (he:starEach (e::es) X.env=(false,eval e X.env)::starEach es X.env:=by rfl) (hpl:(backTo pos (starEach es X.env)).any (·.1)=false:=by rfl) :
  PE X (.Call (.Name x p) (e::es) [] pos) (tCall sp dvs E t):=by
 intro pins s σ H Q I h
 refine wpAny_Call_Name_kw (ld_glob I hg hm ?_ hdb)
 refine PySem.W.callWith_K (h₀:=X.base) I.ok.mod.kin hk (thn (ha pos pins s σ H _ I h) fun us s1 ⟨vs,H1,I1,r,q⟩=>⟨I1.kIn,?_⟩) he hpl
 exact run_fn F hr hb hd hx I1 r q
theorem pe_meth {pl:Sem Bool} (he:PE X o ta) (c:Cls X.K C) (hm:Meth X.K C m f) (F:FnOk X.prog X.w X.K X.mg X.base CX k f fd ps sp) (hr:Room k X.A) (hb:Binds X.K fd ps ds) (hd:Vals dvs ds) (hx:Passes CX X E) (ha:PA X (e::es) t)
  (hst:starEach (e::es) X.env=(false,eval e X.env)::starEach es X.env:=by rfl) (hpl:(backTo pos (starEach es X.env)).any (·.1)=false:=by rfl)
  (ht:eval (.Call (.Attribute o m apos) (e::es) [] pos) X.env=(do
   let ov ← eval o X.env
   standAt apos.atName
   let (f,first) ← holding [ov] (getMethod ov m pl)
   callWith pos f first (backTo pos (starEach (e::es) X.env)) (backToKw pos (keywordEach [] X.env))):=by rfl) :
  PE X (.Call (.Attribute o m apos) (e::es) [] pos) (tMeth C m sp dvs E ta t):=by
 intro pins s σ H Q I h
 refine PySem.W.methodCall_KW (pl:=pl) (thn (he pins s σ H _ I h) fun u s1 ⟨x,H1,I1,rx,a,dx,fs,ex,ea,l,q⟩=>?_) ht
 subst ex
 obtain rfl:u=Value.ref a:=rx
 refine getmeth_ok I1 ea c hm l ?_
 refine PySem.W.callWith_K (first:=[.ref a]) (h₀:=X.base) I.ok.mod.kin hm.kp (thn (ha pos pins s1 σ H1 _ I1 q) fun us s2 ⟨vs,H2,I2,r,q2⟩=>⟨I2.kIn,?_⟩) hst hpl
 exact run_fn (us:=.ref a::us) (vs:=.ref a::vs) F hr hb hd hx I2 (.cons rfl r) q2
theorem pe_meth0 {pl:Sem Bool} (he:PE X o ta) (c:Cls X.K C) (hm:Meth X.K C m f) (F:FnOk X.prog X.w X.K X.mg X.base CX k f fd ps sp) (hr:Room k X.A) (hb:Binds X.K fd ps ds) (hd:Vals dvs ds) (hx:Passes CX X E)
  (ht:eval (.Call (.Attribute o m apos) [] [] pos) X.env=(do
   let ov ← eval o X.env
   standAt apos.atName
   let (f,first) ← holding [ov] (getMethod ov m pl)
   callWith pos f first (backTo pos (starEach [] X.env)) (backToKw pos (keywordEach [] X.env))):=by rfl) :
  PE X (.Call (.Attribute o m apos) [] [] pos) (tMeth C m sp dvs E ta tNil):=by
 intro pins s σ H Q I h
 refine PySem.W.methodCall_KW (pl:=pl) (thn (he pins s σ H _ I h) fun u s1 ⟨x,H1,I1,rx,a,dx,fs,ex,ea,l,q⟩=>?_) ht
 subst ex
 obtain rfl:u=Value.ref a:=rx
 refine getmeth_ok I1 ea c hm l ?_
 exact PySem.W.callWith_K0 (first:=[.ref a]) I1.kIn hm.kp (run_fn (us:=[.ref a]) (vs:=[.ref a]) F hr hb hd hx I1 (.cons rfl .nil) q)
structure Mk (K:PySem.W.Frag) (C f:Addr):Prop where
 makes:PySem.W.makesIn K C=true
 init:PySem.W.findIn K (.ref C) "__init__" = some (some (.ref f))
 fn:PySem.W.isFn K (.ref f)=true
 kp:PySem.W.keepIn K (.ref C)=true
theorem run_make {pins:List (Addr×Obj)} {σ:St} {H:Hp} {s:Shared} {Q:VK} {us:List Value} {vs:List V} (M:Mk X.K C f) (F:FnOk X.prog X.w X.K X.mg X.base CX k f fd ps sp) (hr:Room (k + 1) X.A) (hb:Binds X.K fd ps ds) (hd:Vals dvs ds)
  (hx:Passes CX X E) (I:Inv X pins σ H s) (r:Vals vs us)
  (h:∀ x dx,H x=none→H dx=none→dx≠x→sp (.ref x::(vs++dvs)) (upd (upd H dx (.own x)) x (.ins C dx [])) (fun v H2=>v=.non∧Q (.ref x) H2) E) :
  wpAny (model X.prog X.w) X.A (call (.ref C) us) (EP X pins σ Q) X.xe s:=by
 have hq:=h (s.heap.objs.size + 1) s.heap.objs.size (I.hok.fresh (Nat.le_succ _)) (I.hok.fresh (Nat.le_refl _)) (Nat.ne_of_lt (Nat.lt_succ_self _))
 have I2:=Inv.made (C:=C) I
 have r2:Vals (V.ref (s.heap.objs.size + 1)::(vs++dvs)) (Value.ref (s.heap.objs.size + 1)::(us++ds)):=.cons rfl (r.append hd)
 have hl:(Value.ref (s.heap.objs.size + 1)::us++ds).length=ps.length:=by
  have e:=r2.length
  rw [F.len _ _ _ _ hq] at e
  exact e.symm
 refine wpAny_call (make_map (f:=f) I.kIn M.makes M.init (beq_iff_eq.mp M.fn) (codeAny_mono (F.run _ X.stack _ _ ⟨Value.ref (s.heap.objs.size + 1)::us,[]⟩ (Value.ref (s.heap.objs.size + 1)::(us++ds)) _ _ E (hr.make C us [])
  (I2.env0.make C us []) (hb _ (Value.ref (s.heap.objs.size + 1)::us) I2.kIn hl) r2 hq) fun r s' hq'=>?_))
 cases r with
 | error e=>exact hx pins σ _ _ e s' I2 hq'
 | ok fl=>
  cases fl with
  | ret u=>
   obtain ⟨v,H',I3,rv,ev,q3⟩:=I2.after hq'
   subst ev
   exact ⟨rv,⟨V.ref (s.heap.objs.size + 1),H',I3,rfl,q3⟩⟩
  | next=>exact False.elim hq'
  | brk=>exact False.elim hq'
  | cont=>exact False.elim hq'
theorem pe_make0 (M:Mk X.K C f) (F:FnOk X.prog X.w X.K X.mg X.base CX k f fd ps sp) (hr:Room (k + 1) X.A) (hg:Gl X x) (hm:X.mg x=some (.ref C)) (hb:Binds X.K fd ps ds) (hd:Vals dvs ds) (hx:Passes CX X E)
  (hdb:(x == ("__debug__" : Str))=false:=by decide):PE X (.Call (.Name x p) [] [] pos) (tMake C sp dvs E tNil):=by
 intro pins s σ H Q I h
 refine wpAny_Call_Name_kw (ld_glob I hg hm ?_ hdb)
 exact PySem.W.callWith_K0 I.kIn M.kp (run_make (us:=[]) M F hr hb hd hx I .nil h)
end
section
variable {X:Cx} {CX:CXT} {k:Nat} {f C:Addr} {fd:FuncData} {ps ks:List Str} {sp:Sp} {E:XK} {x m:Str} {p pos apos kpos:Pos} {e o:Expr} {es:List Expr} {kws:List Keyword} {te ta:TE} {t tk:TA} {nm:Option Str}
structure KBinds (K:PySem.W.Frag) (fd:FuncData) (ps ks:List Str) (g:List Value→List Value→List Value) (gV:List V→List V→List V):Prop where
 to:∀ (s:Shared) (us ws:List Value),K.In s.heap→(g us ws).length=ps.length→BindsTo s fd ⟨us,ks.zip ws⟩ (ps.zip (g us ws))
 rel:∀ {vs:List V} {us:List Value} {zs:List V} {ws:List Value},Vals vs us→Vals zs ws→Vals (gV vs zs) (g us ws)
variable {g:List Value→List Value→List Value} {gV:List V→List V→List V}
end
structure FnScope (N P:List Str) (sc:Scope):Prop where
 kind:sc.kind=.function
 co:sc.isCoroutine=false
 gen:sc.isGenerator=false
 nd:N.Nodup
 pre:N.take P.length=P
 par:∀ x∈P,sc.names.lookup x=some .local∨sc.names.lookup x=some .cell
 nofree:∀ y∈sc.names,y.2≠.free
theorem bindL_out {kindOf:Str→Option NameKind} {x:Str}:∀ {binds:List (Str×Value)} {m:Str→Option Value},(∀ v,(x,v)∉binds)→bindL kindOf binds m x=m x
 | [],_,_=>rfl
 | (n,v)::r,m,h=>by
  unfold bindL
  rw [bindL_out fun w hw=>h w (List.mem_cons_of_mem _ hw)]
  split
  ·have:x≠n:=by rintro rfl; exact h v List.mem_cons_self
   simp [this]
  ·rfl
theorem bindC_out {kindOf:Str→Option NameKind} {x:Str}:∀ {binds:List (Str×Value)} {m:Str→Option Value},(∀ v,(x,v)∉binds)→bindC kindOf binds m x=m x
 | [],_,_=>rfl
 | (n,v)::r,m,h=>by
  unfold bindC
  rw [bindC_out fun w hw=>h w (List.mem_cons_of_mem _ hw)]
  split
  ·rfl
  ·have:x≠n:=by rintro rfl; exact h v List.mem_cons_self
   simp [this]
theorem bindL_get {kindOf:Str→Option NameKind} {x:Str} {v:Value}:∀ {P:List Str} {vs:List Value} {i:Nat} {m:Str→Option Value},P.Nodup→P[i]? = some x→vs[i]? = some v→kindOf x=some .local →
  bindL kindOf (P.zip vs) m x=some v
 | [],_,_,_,_,h,_,_=>by simp at h
 | _::_,[],_,_,_,_,h,_=>by simp at h
 | p::P,w::vs,0,m,nd,h1,h2,hk=>by
  simp at h1 h2; subst h1; subst h2
  show bindL kindOf ((p,w)::P.zip vs) m p=_
  unfold bindL
  rw [bindL_out fun v hv=>(List.nodup_cons.mp nd).1 (List.of_mem_zip hv).1,if_pos hk]
  simp
 | p::P,w::vs,i + 1,m,nd,h1,h2,hk=>by
  show bindL kindOf ((p,w)::P.zip vs) m x=_
  unfold bindL
  exact bindL_get (i:=i) (List.nodup_cons.mp nd).2 (by simpa using h1) (by simpa using h2) hk
theorem bindC_get {kindOf:Str→Option NameKind} {x:Str} {v:Value}:∀ {P:List Str} {vs:List Value} {i:Nat} {m:Str→Option Value},P.Nodup→P[i]? = some x→vs[i]? = some v→kindOf x≠some .local →
  bindC kindOf (P.zip vs) m x=some v
 | [],_,_,_,_,h,_,_=>by simp at h
 | _::_,[],_,_,_,_,h,_=>by simp at h
 | p::P,w::vs,0,m,nd,h1,h2,hk=>by
  simp at h1 h2; subst h1; subst h2
  show bindC kindOf ((p,w)::P.zip vs) m p=_
  unfold bindC
  rw [bindC_out fun v hv=>(List.nodup_cons.mp nd).1 (List.of_mem_zip hv).1,if_neg hk]
  simp
 | p::P,w::vs,i + 1,m,nd,h1,h2,hk=>by
  show bindC kindOf ((p,w)::P.zip vs) m x=_
  unfold bindC
  exact bindC_get (i:=i) (List.nodup_cons.mp nd).2 (by simpa using h1) (by simpa using h2) hk
noncomputable def start (N:List Str) (vs:List V):St:=vs.map some++List.replicate (N.length - vs.length) none
noncomputable def cxOf (CX:CXT) (P:Program) (w:World) (K:PySem.W.Frag) (mg:Str→Option Value) (base:Heap) (N:List Str) (qual:Str) (scope:Scope) (f:Addr) (cd:Value) (A:Around) (outer:List Env) (s:Shared) (H:Hp) (E:XK):Cx where
 prog:=P
 w:=w
 K:=K
 mg:=mg
 base:=base
 A:=A.deeper (envOfC qual scope s.heap.objs.size f cd)
 N:=N
 s₀:=s
 H₀:=H
 env:=envOfC qual scope s.heap.objs.size f cd
 outer:=outer
 stack:=envOfC qual scope s.heap.objs.size f cd::outer
 ex:=[]
 calm:=true
 fn:=fun _=>true
 pn:=[]
 xe:=fun e s'=>wpAny (model P w) (A.deeper (envOfC qual scope s.heap.objs.size f cd)) (leaving (envOfC qual scope s.heap.objs.size f cd) e) (fun _ s''=>CX outer H s E e s'') (fun e' s''=>CX outer H s E e' s'') s'
theorem cell_has {sc:Scope} {n:Nat} {x:Str} (h:sc.names.lookup x=some .cell):∃ c,(cellsFrom n sc.names []).lookup x=some c:=by
 have q:=PySem.W.cellsFrom_some sc.names n [] (.inl h)
 exact Option.isSome_iff_exists.mp q
theorem inv_start {CX:CXT} {P:Program} {w:World} {K:PySem.W.Frag} {mg:Str→Option Value} {base:Heap} {N ps:List Str} {qual:Str} {scope:Scope} {f:Addr} {cd:Value} {A:Around} {outer:List Env} {s s1:Shared} {H:Hp} {E:XK} {us:List Value} {vs:List V}
  (S:FnScope N ps scope) (hd:A.handled=none) (e0:Env0 P w K mg base A outer s H) (hl:vs.length=ps.length) (r:Vals vs us)
  (x:InCallC s s.heap.objs.size (bindL (envOfC qual scope s.heap.objs.size f cd).kindOf (ps.zip us) fun _=>none) (cellsFrom (s.heap.objs.size + 1) scope.names []) (bindC (envOfC qual scope s.heap.objs.size f cd).kindOf (ps.zip us) fun _=>none) s1) :
  Inv (cxOf CX P w K mg base N qual scope f cd A outer s H E) [] (start N vs) H s1:=by
 have hpl:ps.length≤N.length:=by have:=congrArg List.length S.pre; rw [List.length_take] at this; omega
 obtain ⟨h1,tk,rfl,hk⟩:=x.done
 have noA:∀ b:Addr,b∉(cxOf CX P w K mg base N qual scope f cd A outer s H E).ex:=fun b z=>absurd (show b∈([]:List Addr) from z) (by simp)
 refine ⟨⟨e0.mod,S.kind,rfl,rfl,Nat.le_refl _,fun y z c h1 h2=>?_,fun y hy=>?_,fun y c _ h=>?_,fun _=>hd,Around.frames_deeper e0.frames,.inr ⟨rfl,rfl⟩,fun b z=>absurd z (noA b),e0.bs,e0.bsz,fun b _ _=>noA b,fun b z=>absurd z (noA b),e0.funs,e0.frf⟩,
  rfl,e0.bare,Un.kept hk,⟨_,x.toInCall.ns,fun i y v h1 h2 h3=>?_⟩,fun y c h=>⟨_,x.cell y c h⟩,e0.hok.fresh (Nat.le_refl _),fun y c h=>?_,fun p hp=>absurd (show p∈([]:List (Addr×Obj)) from hp) (by simp),e0.hok.kept hk,?_⟩
 ·exact name_of_addr x.apart (PySem.mem_of_lookup h1) (PySem.mem_of_lookup h2)
 ·have hy:scope.names.lookup y=some .cell∨scope.names.lookup y=some .free:=hy
  rcases hy with hy | hy
  ·exact cell_has hy
  ·exact absurd rfl (S.nofree _ (PySem.mem_of_lookup hy))
 ·exact Nat.le_of_lt (x.above y c (PySem.mem_of_lookup h))
 ·have hi:i < vs.length:=by
   unfold start at h2
   by_cases hi:i < vs.length
   ·exact hi
   ·rw [List.getElem?_append_right (by simpa using hi)] at h2
    rw [List.getElem?_replicate] at h2
    split at h2 <;> cases h2
  have ha:vs[i]? = some v:=by
   unfold start at h2
   rw [List.getElem?_append_left (by simpa using hi),List.getElem?_map] at h2
   cases e:vs[i]? with
   | none=>rw [e] at h2; cases h2
   | some a=>rw [e] at h2; cases h2; rfl
  obtain ⟨u,hu,rv⟩:=r.get ha
  have hp:ps[i]? = some y:=by
   rw [← S.pre,List.getElem?_take_of_lt (by omega)]; exact h1
  have ndP:ps.Nodup:=by rw [← S.pre]; exact S.nd.sublist (List.take_sublist _ _)
  refine ⟨u,rv,?_⟩
  rcases S.par y (List.mem_of_getElem? hp) with k | k
  ·exact .inl ⟨k,bindL_get ndP hp hu k⟩
  ·obtain ⟨c,e⟩:=cell_has (n:=s.heap.objs.size + 1) k
   refine .inr ⟨.inl k,c,e,?_⟩
   have q:=x.cell y c e
   rw [bindC_get ndP hp hu (by show scope.names.lookup y≠_; rw [k]; decide)] at q
   exact q
 ·exact e0.hok.fresh (Nat.le_of_lt (x.above y c (PySem.mem_of_lookup h)))
 ·unfold start
  show _=N.length
  rw [List.length_append,List.length_map,List.length_replicate]
  omega
theorem fn_of {CX:CXT} {P:Program} {w:World} {K:PySem.W.Frag} {mg:Str→Option Value} {base:Heap} {k:Nat} {f:Addr} {name qual:Str} {params:Arguments} {body:List Stmt} {scope:Scope} {dV kV doc pm cdv ct oc:Value} {an od:Option Addr}
  {osl:Array (Option Value)} {N ps:List Str} {sp:Sp} (lk:K.lookup f=some ⟨oc,od,.func (PySem.W.fnOf name qual params body scope dV kV doc pm an cdv ct),osl⟩) (hcd:PySem.W.codeIn K cdv qual=true) (S:FnScope N ps scope)
  (len:∀ vs H Q E,sp vs H Q E→vs.length=ps.length)
  (hbody:∀ (A:Around) (outer:List Env) (s:Shared) (H:Hp) (vs:List V) (Q:VK) (E:XK),Room k (A.deeper (envOfC qual scope s.heap.objs.size f cdv))→sp vs H Q E →
   ∃ t,PSs (cxOf CX P w K mg base N qual scope f cdv A outer s H E) body t∧t { nx:=fun _ H'=>Q .non H',rt:=Q } (start N vs) H) :
  FnOk P w K mg base CX (k + 1) f (PySem.W.fnOf name qual params body scope dV kV doc pm an cdv ct) ps sp:=by
 refine ⟨len,fun A outer s H args us vs Q E hr e0 hb r hsp=>?_⟩
 have hl:=len _ _ _ _ hsp
 have KX:K.In s.heap:=e0.mod.kin.keeps fun b o e=>(e0.bs b o e).1
 have lim:s.heap.NoLimit:=e0.mod.nolimit.keeps fun b o e=>(e0.bs b o e).1
 have hkind:∀ y∈ps.zip us,scope.names.lookup y.1=some .local∨(scope.names.lookup y.1=some .cell∧((cellsFrom (s.heap.objs.size + 1) scope.names []).lookup y.1).isSome=true):=fun ⟨n,v⟩ hy=>by
  rcases S.par n (List.of_mem_zip hy).1 with q | q
  ·exact .inl q
  ·exact .inr ⟨q,PySem.W.cellsFrom_some _ _ _ (.inl q)⟩
 refine codeAny_call_function hr.depth (KX _ _ lk) rfl S.co S.gen rfl (PySem.W.codeRec_of KX hcd) (hb _ _ _ _ ?_)
 refine wpAny_newFunctionEnv_cells S.kind hkind fun env he s1 x=>?_
 subst he
 refine ⟨lim.keeps x.toInCall.keep,codeAny_func ?_⟩
 obtain ⟨t,ht,hq⟩:=hbody A outer s H vs Q E (hr.deeper _) hsp
 have I:Inv (cxOf CX P w K mg base N qual scope f cdv A outer s H E) [] (start N vs) H s1:=inv_start S hr.hd e0 hl r x
 refine wpAny_mono (ht [] s1 (start N vs) H _ I hq) (fun fl s' hs=>?_) fun e s' hs=>hs
 have fin:∀ {σ':St} {H':Hp} {v:V} {u:Value},Inv (cxOf CX P w K mg base N qual scope f cdv A outer s H E) [] σ' H' s'→RelV v u→Q v H'→CE outer P w H s Q u s':=
  fun {σ' H' v u} J rv q=>⟨v,H',J.os,J.bare,J.base,J.hok,rv,q⟩
 cases fl with
 | ret u=>
  obtain ⟨v,σ',H',J,rv,q⟩:=hs
  exact fin J rv q
 | next=>
  obtain ⟨σ',H',J,q⟩:=hs
  exact fin (v:=V.non) (u:=Value.none) J rfl q
 | brk=>
  obtain ⟨_,_,_,q⟩:=hs
  exact False.elim q
 | cont=>
  obtain ⟨_,_,_,q⟩:=hs
  exact False.elim q
end L2
namespace L2
open PySem PySem.Spec PyProof.Rows
section
variable {X:Cx} {x:Str} {p pos:Pos} {e:Expr} {es:List Expr} {t:TA} {id T:String} {r:List V→Hp→VK→Prop}
noncomputable def tCB (r:List V→Hp→VK→Prop) (t:TA):TE:=fun σ H Q=>t σ H fun vs H1=>r vs H1 Q
theorem pe_callB (hc:CallR X (.builtin id) r) (hg:Gl X x) (hm:X.mg x=none) (hv:bootBuiltins x=some (.builtin id)) (ha:PA X (e::es) t) (hn:x≠"__name__":=by decide) (hdb:(x == ("__debug__" : Str))=false:=by decide)
  (he:starEach (e::es) X.env=(false,eval e X.env)::starEach es X.env:=by rfl) (hpl:(backTo pos (starEach es X.env)).any (·.1)=false:=by rfl):PE X (.Call (.Name x p) (e::es) [] pos) (tCB r t):=by
 intro pins s σ H Q I h
 refine wpAny_Call_Name_kw (ld_blt I hg hm hv ?_ hn hdb)
 exact PyProof.Rows.callWith_builtin1 (thn (ha pos pins s σ H _ I h) fun us s1 ⟨vs,H1,I1,r1,q1⟩=>hc pins s1 σ H1 vs us Q I1 r1 q1) he hpl
theorem pe_callTy (hc:CallR X (.type T) r) (hg:Gl X x) (hm:X.mg x=none) (hv:bootBuiltins x=some (.type T)) (ha:PA X (e::es) t) (hn:x≠"__name__":=by decide) (hdb:(x == ("__debug__" : Str))=false:=by decide)
  (he:starEach (e::es) X.env=(false,eval e X.env)::starEach es X.env:=by rfl) (hpl:(backTo pos (starEach es X.env)).any (·.1)=false:=by rfl):PE X (.Call (.Name x p) (e::es) [] pos) (tCB r t):=by
 intro pins s σ H Q I h
 refine wpAny_Call_Name_kw (ld_blt I hg hm hv ?_ hn hdb)
 exact PyProof.Rows.callWith_type1 (thn (ha pos pins s σ H _ I h) fun us s1 ⟨vs,H1,I1,r1,q1⟩=>hc pins s1 σ H1 vs us Q I1 r1 q1) he hpl
end
end L2
namespace HT
open PySem PyProof.Rows
section
open PySem.SeqAt
open PySem.AutoSeq1 (wpAny_loadPart')
open PySem.MeetsSeq PySem.MeetsSeq2 PySem.MeetsSeq3
end
section
variable {prog:Program} {w:World} {A:Around} {E:Value→Shared→Prop} {s:Shared}
theorem cat_tup {t b:Addr} {vs ws:List Value} {Q:Value→Shared→Prop} (ht:IsTup s.heap t vs.toArray) (hb:IsTup s.heap b ws.toArray) (hv:vs≠[])
  (h1:ws=[]→Q (.ref t) s) (h2:ws≠[]→Q (.ref s.heap.objs.size) { s with heap:=s.heap.push { cls:=.type "tuple",data:=.seq (vs++ws).toArray } })
  (hsz:vs.length + ws.length≤sizeLine):wpAny (model prog w) A (binaryOp .Add (.ref t) (.ref b)) Q E s:=by
 obtain ⟨⟨cls,dd,data,sl⟩,ho,hc,n,hd⟩:=id ht
 obtain ⟨⟨cls2,dd2,data2,sl2⟩,ho2,hc2,n2,hd2⟩:=id hb
 simp only at hc hd hc2 hd2
 subst hc hd hc2 hd2
 have e:vs.toArray++ws.toArray=(vs++ws).toArray:=by simp
 by_cases hw:ws=[]
 ·exact concat_meets ⟨_,ho,rfl⟩ ⟨_,ho2,rfl⟩ noFill_tuple_add seq_tuple_add PySem.F.slot_tuple_add PySem.F.entry_tuple_add (PySem.F.args_tuple_add_2 _ _)
   (tuple_addW1 t b vs.toArray ws.toArray n n2 dd dd2 sl sl2 (by simpa using hv) (by simp [hw])) ⟨ho,ho2,h1 hw⟩
 ·refine concat_meets ⟨_,ho,rfl⟩ ⟨_,ho2,rfl⟩ noFill_tuple_add seq_tuple_add PySem.F.slot_tuple_add PySem.F.entry_tuple_add (PySem.F.args_tuple_add_2 _ _)
   (tuple_addW2 t b vs.toArray ws.toArray n n2 dd dd2 sl sl2 (by simpa using hv) (by simpa using hw) (by rw [List.size_toArray,List.size_toArray]; exact hsz)) ⟨ho,ho2,?_⟩
  rw [e]
  exact h2 hw
noncomputable def sIx (n d:Nat):Option Int→Nat
 | none=>d
 | some v=>if v < 0 then (v + (n:Int)).toNat else min v.toNat n
theorem sIx_le (n d:Nat) (hd:d≤n) (o:Option Int):sIx n d o≤n:=by
 cases o with
 | none=>exact hd
 | some v=>
  show (if v < 0 then (v + (n:Int)).toNat else min v.toNat n)≤n
  by_cases hv:v < 0
  ·rw [if_pos hv]; omega
  ·rw [if_neg hv]; exact Nat.min_le_right _ _
theorem clip_eq (v:Int) (n d:Nat):(if v < 0 then max (v + (n:Int)) 0 else min v (n:Int))=((sIx n d (some v):Nat):Int):=by
 show (if v < 0 then max (v + (n:Int)) 0 else min v (n:Int))=(((if v < 0 then (v + (n:Int)).toNat else min v.toNat n):Nat):Int)
 by_cases hv:v < 0
 ·simp only [if_pos hv]; omega
 ·simp only [if_neg hv]; omega
theorem adjust_gen (lo hi:Option Int) (n:Nat):Builtin.Slice.sliceAdjust lo hi 1 (n:Int)=(((sIx n 0 lo:Nat):Int),((sIx n n hi:Nat):Int)):=by
 have h1:¬ ((1:Int) < 0):=by omega
 unfold Builtin.Slice.sliceAdjust
 simp only [h1,if_false]
 refine Prod.ext ?_ ?_
 ·cases lo with
  | none=>rfl
  | some v=>exact clip_eq v n 0
 ·cases hi with
  | none=>rfl
  | some v=>exact clip_eq v n n
theorem places_gen (i j:Nat):Builtin.Slice.slicePlaces (i:Int) (j:Int) 1=j - i:=by
 unfold Builtin.Slice.slicePlaces
 have h1:(1:Int) > 0:=by omega
 simp only [h1,if_true,Int.ediv_one]
 split <;> omega
theorem slicePart_ {v:Value} {o:Option Int} {Q:Option Int→Shared→Prop} (p:IsPart v o) (h:Q o s):wpAny (model prog w) A (Builtin.Slice.slicePartIndex v) Q E s:=by
 cases p with
 | none=>exact slicePart_none h
 | int i t=>exact slicePart_int h
theorem sliceApplied_gen {sl:Addr} {vl vu:Value} {lo hi:Option Int} {n:Nat} {Q:Int×Int×Nat→Shared→Prop} (hs:s.heap.IsSliceOf sl vl vu .none) (pl:IsPart vl lo) (pu:IsPart vu hi)
  (h:Q (((sIx n 0 lo:Nat):Int),1,sIx n n hi - sIx n 0 lo) s):wpAny (model prog w) A (Builtin.Slice.sliceApplied (.ref sl) (pure (n:Int))) Q E s:=by
 obtain ⟨os,hos,hcs,hds⟩:=id hs
 unfold Builtin.Slice.sliceApplied Builtin.Slice.sliceFields
 refine wpAny_bind (wpAny_bind (wpAny_field hos hds (x:=vl) rfl (wpAny_bind (wpAny_field hos hds (x:=vu) rfl (wpAny_bind (wpAny_field hos hds (x:=.none) rfl (wpAny_pure ?_)))))))
 refine wpAny_bind (slicePart_none ?_)
 show wpAny _ _ (if ((1:Int) == 0)=true then _ else _) _ _ s
 rw [if_neg (by decide)]
 refine wpAny_bind (slicePart_ pl (wpAny_bind (slicePart_ pu (wpAny_bind (wpAny_pure ?_)))))
 show wpAny _ _ (match Builtin.Slice.sliceAdjust lo hi 1 (n:Int) with | (lo,hi)=>pure (lo,(1:Int),Builtin.Slice.slicePlaces lo hi 1)) _ _ s
 rw [adjust_gen lo hi n]
 show wpAny _ _ (pure (((sIx n 0 lo:Nat):Int),(1:Int),Builtin.Slice.slicePlaces ((sIx n 0 lo:Nat):Int) ((sIx n n hi:Nat):Int) 1)) _ _ s
 rw [places_gen]
 exact wpAny_pure h
theorem pick_gen (xs:Array Value) (i k:Nat):((List.range k).filterMap fun (m:Nat)=>xs[((i:Int) + (m:Int) * 1).toNat]?).toArray=((xs.toList.drop i).take k).toArray:=by
 have e:(fun (m:Nat)=>xs[((i:Int) + (m:Int) * 1).toNat]?)=fun m=>xs[i + m]?:=by
  funext m
  have:((i:Int) + (m:Int) * 1).toNat=i + m:=by omega
  rw [this]
 rw [e]
 have:=pick_run xs i k
 rw [List.filterMap_map] at this
 have e2:((fun x=>xs[x]?) ∘ fun x=>i + x)=fun m=>xs[i + m]?:=rfl
 rw [e2] at this
 rw [this]
theorem getItem_tuple_cut {t sl:Addr} {items:Array Value} {vl vu:Value} {lo hi:Option Int} {Q:Value→Shared→Prop} (ht:IsTup s.heap t items) (hs:s.heap.IsSliceOf sl vl vu .none) (pl:IsPart vl lo) (pu:IsPart vu hi)
  (hw:¬ (sIx items.size 0 lo=0∧sIx items.size items.size hi=items.size))
  (h:Q (.ref s.heap.objs.size) { s with heap:=s.heap.push { cls:=.type "tuple",data:=.seq ((items.toList.drop (sIx items.size 0 lo)).take (sIx items.size items.size hi - sIx items.size 0 lo)).toArray } })
  (hsz:items.size≤sizeLine):wpAny (model prog w) A (getItem (.ref t) (.ref sl)) Q E s:=by
 have htake:sizeOk (.seq ((items.toList.drop (sIx items.size 0 lo)).take (sIx items.size items.size hi - sIx items.size 0 lo)).toArray):=by
  show ((items.toList.drop (sIx items.size 0 lo)).take (sIx items.size items.size hi - sIx items.size 0 lo)).toArray.size≤sizeLine
  rw [List.size_toArray,List.length_take,List.length_drop,Array.length_toList]
  omega
 have hj:sIx items.size items.size hi≤items.size:=sIx_le _ _ (Nat.le_refl _) hi
 obtain ⟨os,hos,hcs,hds⟩:=id hs
 have hTs:s.TypeIs (.ref sl) "slice":=⟨os,hos,hcs⟩
 unfold getItem
 try with_reducible refine wpAny_holding ?_
 first | refine wpAny_bind (wpAny_pure ?_) | skip
 refine wpAny_bind (wpAny_sequenceKey ht.typeIs (by decide) ?_)
 refine wpAny_bind (wpAny_callSpecial?_slot (name:=Str.ofString "__getitem__") ht.typeIs PyProof.Rows.slot_tuple_getitem
  (wpAny_call_entry PyProof.Rows.slot_tuple_getitem ht.typeIs entry_tuple_getitem ?_ (args_tuple_getitem _ _)))
 show wpAny _ _ (Builtin.Tuple.tupleItemsOf (.ref t) >>= _) _ _ s
 refine wpAny_bind (tupleItemsOf_ ht ?_)
 refine wpAny_bind (wpAny_typeOf hTs ?_)
 rw [if_pos (by decide)]
 refine wpAny_bind (sliceApplied_gen hs pl pu ?_)
 have hno:¬ ((((sIx items.size 0 lo:Nat):Int) == 0 && (1:Int) == 1 && (sIx items.size items.size hi - sIx items.size 0 lo) == items.size)=true):=by
  intro q
  rw [Bool.and_eq_true,Bool.and_eq_true] at q
  have q1:((sIx items.size 0 lo:Nat):Int)=0:=eq_of_beq q.1.1
  have q2:sIx items.size items.size hi - sIx items.size 0 lo=items.size:=eq_of_beq q.2
  exact hw ⟨by omega,by omega⟩
 show wpAny _ _ (if (((sIx items.size 0 lo:Nat):Int) == 0 && (1:Int) == 1 && (sIx items.size items.size hi - sIx items.size 0 lo) == items.size)=true then _ else _) _ _ s
 rw [if_neg hno,pick_gen]
 first
  | exact wpAny_bind (m:=Builtin.Tuple.tupleExact _) (wpAny_newObj_type (wpAny_pure ⟨_,rfl,wpAny_pure h⟩) htake)
  | exact wpAny_bind (m:=Builtin.Tuple.tupleExact _) (wpAny_newObj_type (wpAny_bind (wpAny_pure (wpAny_pure ⟨_,rfl,wpAny_pure h⟩))) htake)
  | exact wpAny_bind (wpAny_bind (m:=Builtin.Tuple.tupleExact _) (wpAny_newObj_type (wpAny_pure (wpAny_pure ⟨_,rfl,wpAny_pure h⟩)) htake))
  | exact wpAny_bind (wpAny_bind (m:=Builtin.Tuple.tupleExact _) (wpAny_newObj_type (wpAny_pure ⟨_,rfl,wpAny_pure h⟩) htake))
end
end HT
namespace L2
open PySem PySem.Spec PyProof.Rows
noncomputable abbrev TO:=St→Hp→(Option Int→Hp→Prop)→Prop
noncomputable def PO (X:Cx) (e:Option Expr) (t:TO):Prop:=
 ∀ (pins:List (Addr×Obj)) (s:Shared) (σ:St) (H:Hp) (Q:Option Int→Hp→Prop),Inv X pins σ H s→t σ H Q →
  wpAny (model X.prog X.w) X.A (evalPart e X.env) (fun u s'=>∃ o H',Inv X pins σ H' s'∧IsPart u o∧Q o H') X.xe s
noncomputable def tNoPart:TO:=fun _ H Q=>Q none H
noncomputable def tPart (t:TE):TO:=fun σ H Q=>t σ H fun x H1=>∃ i,x=.int i∧Q (some i) H1
section
variable {X:Cx} {e:Expr} {te:TE} {lo hi:Option Expr} {tl th:TO} {pos p2:Pos}
theorem po_none:PO X none tNoPart:=by
 intro pins s σ H Q I h
 rw [evalPart_none]
 exact wpAny_pure ⟨none,H,I,.none,h⟩
theorem po_some (h:PE X e te):PO X (some e) (tPart te):=by
 intro pins s σ H Q I hw
 rw [evalPart_some]
 refine thn (h pins s σ H _ I hw) fun u s1 ⟨x,H1,I1,r1,q1⟩=>?_
 obtain ⟨i,rfl,q⟩:=q1
 obtain ⟨t,rfl⟩:=r1
 exact ⟨some i,H1,I1,.int i t,q⟩
noncomputable def SlR (X:Cx) (r:V→Option Int→Option Int→Hp→VK→Prop):Prop:=
 ∀ (pins:List (Addr×Obj)) (s:Shared) (σ:St) (H:Hp) (x:V) (v vl vu:Value) (lo hi:Option Int) (sl:Addr) (Q:VK),Inv X pins σ H s→RelV x v→s.heap.IsSliceOf sl vl vu .none→IsPart vl lo→IsPart vu hi→r x lo hi H Q →
  ∃ T id,typeLookup (.type T) "__getitem__" = pure (some (.builtin id))∧s.TypeIs v T∧wpAny (model X.prog X.w) X.A (getItem v (.ref sl)) (EP X pins σ Q) X.xe s
theorem SlR.or {r r':V→Option Int→Option Int→Hp→VK→Prop} (h:SlR X r) (h':SlR X r'):SlR X (fun x lo hi H Q=>r x lo hi H Q∨r' x lo hi H Q):=by
 intro pins s σ H x v vl vu lo hi sl Q I rx hs pl pu q
 rcases q with q | q
 ·exact h pins s σ H x v vl vu lo hi sl Q I rx hs pl pu q
 ·exact h' pins s σ H x v vl vu lo hi sl Q I rx hs pl pu q
noncomputable def tSl (r:V→Option Int→Option Int→Hp→VK→Prop) (te:TE) (tl th:TO):TE:=fun σ H Q=>te σ H fun x H1=>tl σ H1 fun l H2=>th σ H2 fun u H3=>r x l u H3 Q
theorem pe_slice {r:V→Option Int→Option Int→Hp→VK→Prop} (hr:SlR X r) (he:PE X e te) (hl:PO X lo tl) (hu:PO X hi th):PE X (.Subscript e (.Slice lo hi none p2) pos) (tSl r te tl th):=by
 intro pins s σ H Q I h
 refine Subscript_ (thn (he pins s σ H _ I h) fun v s1 ⟨x,H1,I1,r1,q1⟩=>?_)
 refine wpAny_Slice (thn (hl pins s1 σ H1 _ I1 q1) fun vl s2 ⟨l,H2,I2,pl,q2⟩=>thn (hu pins s2 σ H2 _ I2 q2) fun vu s3 ⟨u,H3,I3,pu,q3⟩=>?_)
 rw [evalPart_none]
 refine wpAny_pure ?_
 have I4:Inv X pins σ H3 { s3 with heap:=s3.heap.push { cls:=.type "slice",data:=.fields #[vl,vu,.none] } }:=I3.kept (t':=s3.toks) fun b ob q=>Heap.get?_push_of_some _ q
 obtain ⟨T,id,hT,ht,hg⟩:=hr pins { s3 with heap:=s3.heap.push { cls:=.type "slice",data:=.fields #[vl,vu,.none] } } σ H3 x v vl vu l u s3.heap.objs.size Q I4 r1 (Heap.IsSliceOf.new ..) pl pu q3
 show wpAny (model X.prog X.w) X.A (subscriptTail e (.Slice lo hi none p2) v (.ref s3.heap.objs.size)) (EP X pins σ Q) X.xe { s3 with heap:=s3.heap.push { cls:=.type "slice",data:=.fields #[vl,vu,.none] } }
 exact tail_any (ops:=[.ref s3.heap.objs.size,v]) ht hT hg (by with_unfolding_all rfl)
noncomputable def cutV (xs:List V) (lo hi:Option Int):List V:=(xs.drop (HT.sIx xs.length 0 lo)).take (HT.sIx xs.length xs.length hi - HT.sIx xs.length 0 lo)
theorem cutV_length (xs:List V) (lo hi:Option Int):(cutV xs lo hi).length≤xs.length:=by
 unfold cutV
 rw [List.length_take,List.length_drop]
 omega
noncomputable def rSlT (K:PySem.W.Frag):V→Option Int→Option Int→Hp→VK→Prop:=fun x lo hi H Q=>∃ a xs,x=.ref a∧SqT K H a xs ∧
 ¬ (HT.sIx xs.length 0 lo=0∧HT.sIx xs.length xs.length hi=xs.length)∧∀ p,H p=none→Q (.ref p) (upd H p (.tup (cutV xs lo hi)))
theorem sl_tup:SlR X (rSlT X.K):=by
 intro pins s σ H x v vl vu lo hi sl Q I rx hs pl pu h
 obtain ⟨a,xs,rfl,hx,hw,q⟩:=h
 cases rx
 obtain ⟨its,r,ht,hz⟩:=I.tuple hx
 have hlen:its.toArray.size=xs.length:=by rw [List.size_toArray]; exact r.length.symm
 refine ⟨"tuple",_,PyProof.Rows.slot_tuple_getitem.lookup,ht.typeIs,?_⟩
 refine HT.getItem_tuple_cut ht hs pl pu (by rw [hlen]; exact hw) ?_ (by rw [hlen]; exact hz)
 rw [hlen]
 refine ⟨.ref s.heap.objs.size,_,I.laid (t':=s.toks) (o:=.tup (cutV xs lo hi)) (fun b ob q=>Heap.get?_push_of_some _ q) (Nat.le_refl _) ?_,rfl,q _ (I.hok.fresh (Nat.le_refl _))⟩
 exact ⟨Nat.le_trans (cutV_length xs lo hi) hz,_,(r.drop (HT.sIx xs.length 0 lo)).take (HT.sIx xs.length xs.length hi - HT.sIx xs.length 0 lo),IsTup.new _ _⟩
noncomputable def rCatT (K:PySem.W.Frag):R2:=fun x y H Q=>∃ a b xs ys,x=.ref a∧y=.ref b∧SqT K H a xs∧SqT K H b ys∧xs≠[]∧xs.length + ys.length≤sizeLine ∧
 (ys=[]→Q (.ref a) H)∧(ys≠[]→∀ p,H p=none→Q (.ref p) (upd H p (.tup (xs++ys))))
theorem Vals.nil_iff {xs:List V} {us:List Value} (r:Vals xs us):us=[]↔xs=[]:=by
 cases r with
 | nil=>simp
 | cons _ _=>simp
theorem op_catT:OpR X (binaryOp .Add) (rCatT X.K):=by
 intro pins s σ H x y v u Q I rx ry h
 obtain ⟨a,b,xs,ys,rfl,rfl,ha,hb,hx,hz,q1,q2⟩:=h
 cases rx
 cases ry
 obtain ⟨its,r1,p1,_⟩:=I.tuple ha
 obtain ⟨its2,r2,p2,_⟩:=I.tuple hb
 refine HT.cat_tup p1 p2 (fun z=>hx (r1.nil_iff.mp z)) (fun z=>⟨.ref a,H,I,rfl,q1 (r2.nil_iff.mp z)⟩) (fun z=>?_) (by rw [← r1.length,← r2.length]; exact hz)
 refine ⟨.ref s.heap.objs.size,_,I.laid (t':=s.toks) (o:=.tup (xs++ys)) (fun b ob q=>Heap.get?_push_of_some _ q) (Nat.le_refl _) ?_,rfl,q2 (fun w=>z (r2.nil_iff.mpr w)) _ (I.hok.fresh (Nat.le_refl _))⟩
 exact ⟨by rw [List.length_append]; exact hz,_,r1.append r2,IsTup.new _ _⟩
end
end L2
namespace L2
open PySem PySem.Spec PyProof.Rows
noncomputable def ixN (n:Nat) (i:Int):Option Nat:=if 0≤i then (if i < n then some i.toNat else none) else if -(n:Int)≤i then some (i + n).toNat else none
noncomputable def atI {α:Type} (xs:List α) (i:Int):Option α:=(ixN xs.length i).bind fun j=>xs[j]?
theorem ixN_seq {n:Nat} {i:Int} {j:Nat} (h:ixN n i=some j):seqIndex? i n=some j∧j < n∧-(n:Int)≤i∧i < n:=by
 unfold ixN at h
 by_cases h0:0≤i
 ·rw [if_pos h0] at h
  by_cases h1:i < n
  ·rw [if_pos h1] at h
   have e:i.toNat=j:=Option.some.inj h
   exact ⟨by rw [seqIndex_of h0 h1,e],by omega,by omega,h1⟩
  ·rw [if_neg h1] at h; cases h
 ·rw [if_neg h0] at h
  by_cases h1 : -(n:Int)≤i
  ·rw [if_pos h1] at h
   have e:(i + n).toNat=j:=Option.some.inj h
   exact ⟨by rw [seqIndex_neg (by omega) h1,e],by omega,h1,by omega⟩
  ·rw [if_neg h1] at h; cases h
theorem atI_get {α:Type} {xs:List α} {i:Int} {v:α} (h:atI xs i=some v):∃ j,seqIndex? i xs.length=some j∧xs[j]? = some v∧j < xs.length∧-(xs.length:Int)≤i∧i < xs.length:=by
 unfold atI at h
 cases e:ixN xs.length i with
 | none=>rw [e] at h; cases h
 | some j=>
  rw [e] at h
  obtain ⟨h1,h2,h3,h4⟩:=ixN_seq e
  exact ⟨j,h1,h,h2,h3,h4⟩
theorem atI_nat {α:Type} {xs:List α} {j:Nat} {v:α} (h:xs[j]? = some v):atI xs (j:Int)=some v:=by
 have hj:j < xs.length:=(List.getElem?_eq_some_iff.mp h).1
 have e:ixN xs.length (j:Int)=some j:=by
  unfold ixN
  rw [if_pos (by omega),if_pos (by omega)]; simp
 unfold atI; rw [e]; exact h
noncomputable def PlainIx (b:Expr):Prop:=∀ o i,subscripted b false o i=operate [o,i] (getItem o i)
noncomputable def IxR (X:Cx) (r:R2):Prop:=
 ∀ (value slice:Expr) (pins:List (Addr×Obj)) (s:Shared) (σ:St) (H:Hp) (x y:V) (v u:Value) (Q:VK),Inv X pins σ H s→RelV x v→RelV y u→r x y H Q →
  subscripted slice false v u=operate [v,u] (getItem v u)→wpAny (model X.prog X.w) X.A (subscriptTail value slice v u) (EP X pins σ Q) X.xe s
noncomputable def MtR (X:Cx) (id:String) (r:V→List V→Hp→VK→Prop):Prop:=
 ∀ (pins:List (Addr×Obj)) (s:Shared) (σ:St) (H:Hp) (x:V) (xs:List V) (v:Value) (us:List Value) (Q:VK),Inv X pins σ H s→RelV x v→Vals xs us→r x xs H Q →
  wpAny (model X.prog X.w) X.A (call (.builtin id) (v::us)) (EP X pins σ Q) X.xe s
section
variable {X:Cx} {a b:Expr} {ta tb:TE} {pos:Pos}
theorem IxR.or {r r':R2} (h:IxR X r) (h':IxR X r'):IxR X (fun x y H Q=>r x y H Q∨r' x y H Q):=by
 intro value slice pins s σ H x y v u Q I rx ry q hs
 rcases q with q | q
 ·exact h value slice pins s σ H x y v u Q I rx ry q hs
 ·exact h' value slice pins s σ H x y v u Q I rx ry q hs
theorem MtR.or {id:String} {r r':V→List V→Hp→VK→Prop} (h:MtR X id r) (h':MtR X id r'):MtR X id (fun x xs H Q=>r x xs H Q∨r' x xs H Q):=by
 intro pins s σ H x xs v us Q I rx rs q
 rcases q with q | q
 ·exact h pins s σ H x xs v us Q I rx rs q
 ·exact h' pins s σ H x xs v us Q I rx rs q
theorem pe_ix {r:R2} (hr:IxR X r) (ha:PE X a ta) (hb:PE X b tb) (hs:PlainIx b):PE X (.Subscript a b pos) (tOp r ta tb):=by
 intro pins s σ H Q I h
 exact Subscript_ (binT ha hb I h fun v u s2 x y H2 I2 rx ry q=>hr a b pins s2 σ H2 x y v u Q I2 rx ry q (hs _ _))
noncomputable def rIxL (K:PySem.W.Frag):R2:=fun x y H Q=>∃ p xs i v,x=.ref p∧y=.int i∧SqL K H p xs∧atI xs i=some v∧Q v H
noncomputable def rIxT (K:PySem.W.Frag):R2:=fun x y H Q=>∃ p xs i v,x=.ref p∧y=.int i∧SqT K H p xs∧atI xs i=some v∧Q v H
noncomputable def rIxS:R2:=fun x y H Q=>∃ z i c,x=.str z∧y=.int i∧z.length≤sizeLine∧atI z.cps.toList i=some c∧Q (.str ⟨#[c]⟩) H
theorem ix_list:IxR X (rIxL X.K):=by
 intro value slice pins s σ H x y v u Q I rx ry h hs
 obtain ⟨p,xs,i,z,rfl,rfl,hq,he,q⟩:=h
 cases rx
 obtain ⟨t,rfl⟩:=ry
 obtain ⟨its,r,pl,hz⟩:=I.list hq
 obtain ⟨j,h1,h2,h3,h4,h5⟩:=atI_get he
 obtain ⟨w,ew,rw'⟩:=r.get h2
 have hl:=r.length
 have hn:=line63
 have fin:EP X pins σ Q w s:=⟨z,H,I,rw',q⟩
 by_cases h0:0≤i
 ·have hj:i.toNat=j:=by
   rw [seqIndex_of h0 h5] at h1
   exact Option.some.inj h1
  exact item_listR pl.isList h0 (by omega) (by rw [hj]; simpa using ew) fin hs
 ·have hj:(i + (its.toArray.size:Int)).toNat=j:=by
   rw [seqIndex_neg (by omega) h4] at h1
   rw [List.size_toArray,← hl]
   exact Option.some.inj h1
  exact subscriptTail_builtinR (x:=w) pl.isList.typeIs slot_list_getitem.lookup
   (wpAny_getItem_list_neg (Q:=fun r s'=>r=w∧EP X pins σ Q r s') pl.isList (by omega) (by rw [List.size_toArray] <;> omega) (by omega) (by rw [hj]; simpa using ew) ⟨rfl,fin⟩) hs
theorem ix_tup:IxR X (rIxT X.K):=by
 intro value slice pins s σ H x y v u Q I rx ry h hs
 obtain ⟨p,xs,i,z,rfl,rfl,hq,he,q⟩:=h
 cases rx
 obtain ⟨t,rfl⟩:=ry
 obtain ⟨its,r,pl,hz⟩:=I.tuple hq
 obtain ⟨j,h1,h2,h3,h4,h5⟩:=atI_get he
 obtain ⟨w,ew,rw'⟩:=r.get h2
 have hl:=r.length
 have hn:=line63
 have fin:EP X pins σ Q w s:=⟨z,H,I,rw',q⟩
 exact subscriptTail_builtinR (x:=w) pl.typeIs slot_tuple_getitem.lookup
  (getItem_tuple (j:=j) (Q:=fun r s'=>r=w∧EP X pins σ Q r s') pl (by omega) (by omega) (by rw [List.size_toArray,← hl]; exact h1) (by simpa using ew) ⟨rfl,fin⟩) hs
theorem ix_str:IxR X rIxS:=by
 intro value slice pins s σ H x y v u Q I rx ry h hs
 obtain ⟨z,i,c,rfl,rfl,hz,he,q⟩:=h
 obtain ⟨t,rfl⟩:=rx
 obtain ⟨t',rfl⟩:=ry
 obtain ⟨j,h1,h2,h3,h4,h5⟩:=atI_get he
 have hl:z.cps.toList.length=z.length:=by simp [Str.length]
 rw [hl] at h1 h4 h5
 have hn:=line63
 exact tail_any (typeIs_str s z t) slot_str_getitem.lookup (getItem_str (c:=c) (by
  have e1:decide (i < -(2 ^ 63:Int))=false:=decide_eq_false (by omega)
  have e2:decide (i≥2 ^ 63)=false:=decide_eq_false (by omega)
  rw [e1,e2,Bool.or_false]) (by rw [h1]; simpa using h2) ⟨.str ⟨#[c]⟩,H,I.tok _,⟨_,rfl⟩,q⟩) hs
noncomputable def rIx (K:PySem.W.Frag):R2:=fun x y H Q=>rIxL K x y H Q∨rIxT K x y H Q∨rIxS x y H Q
theorem ix_seq:IxR X (rIx X.K):=ix_list.or (ix_tup.or ix_str)
theorem Inv.lst {pins:List (Addr×Obj)} {σ:St} {H:Hp} {s:Shared} {p:Addr} {xs:List V} (I:Inv X pins σ H s) (h:H p=some (.lst xs)) :
  ∃ (its:List Value) (n:Nat),Vals xs its∧s.heap.get? p=some { cls:=.type "list",data:=.seq its.toArray n }∧xs.length≤sizeLine:=by
 obtain ⟨z,its,n,r,e⟩:=I.hok p _ h
 exact ⟨its,n,r,e,z⟩
theorem slice_bounds (lo hi:Option Int) (n:Nat):(sliceBounds lo hi none n).1=((HT.sIx n 0 lo:Nat):Int)∧(sliceBounds lo hi none n).2.1=((HT.sIx n n hi:Nat):Int)∧(sliceBounds lo hi none n).2.2=1:=by
 refine ⟨?_,?_,rfl⟩
 ·cases lo with
  | none=>simp [sliceBounds,HT.sIx]
  | some i=>
   simp only [sliceBounds,HT.sIx,Option.getD_none,show (1:Int) > 0 by decide,if_true]
   by_cases h:i < 0
   ·simp only [h,if_true] <;> omega
   ·simp only [h,if_false] <;> omega
 ·cases hi with
  | none=>simp [sliceBounds,HT.sIx]
  | some i=>
   simp only [sliceBounds,HT.sIx,Option.getD_none,show (1:Int) > 0 by decide,if_true]
   by_cases h:i < 0
   ·simp only [h,if_true] <;> omega
   ·simp only [h,if_false] <;> omega
theorem slicePick_cut (its:List Value) (lo hi:Option Int):slicePick its.toArray lo hi none=((its.drop (HT.sIx its.length 0 lo)).take (HT.sIx its.length its.length hi - HT.sIx its.length 0 lo)).toArray:=by
 obtain ⟨h1,h2,h3⟩:=slice_bounds lo hi its.toArray.size
 unfold slicePick
 rw [h1,h2,h3]
 simp only [sliceRange_one,pick_run,List.size_toArray] <;> rfl
noncomputable def rSlL (K:PySem.W.Frag):V→Option Int→Option Int→Hp→VK→Prop:=fun x lo hi H Q=>∃ a xs,x=.ref a∧SqL K H a xs∧∀ p,H p=none→Q (.ref p) (upd H p (.lst (cutV xs lo hi)))
theorem sl_list:SlR X (rSlL X.K):=by
 intro pins s σ H x v vl vu lo hi sl Q I rx hs pl pu h
 obtain ⟨a,xs,rfl,hx,q⟩:=h
 cases rx
 obtain ⟨its,r,ht,hz⟩:=I.list hx
 have hlen:=r.length
 refine ⟨"list",_,slot_list_getitem.lookup,ht.isList.typeIs,?_⟩
 refine wpAny_getItem_list_slice ht.isList hs pl pu .none (by simp) ?_ (by rw [List.size_toArray] <;> omega)
 rw [slicePick_cut,← hlen]
 refine ⟨.ref s.heap.objs.size,_,I.laid (t':=s.toks) (o:=.lst (cutV xs lo hi)) (fun b ob q=>Heap.get?_push_of_some _ q) (Nat.le_refl _) ?_,rfl,q _ (I.hok.fresh (Nat.le_refl _))⟩
 exact ⟨Nat.le_trans (cutV_length xs lo hi) hz,_,0,(r.drop (HT.sIx xs.length 0 lo)).take (HT.sIx xs.length xs.length hi - HT.sIx xs.length 0 lo),Heap.get?_push_size _ rfl⟩
noncomputable def flatV:V→Bool
 | .non=>true
 | .bl _=>true
 | .int _=>true
 | .str _=>true
 | _=>false
noncomputable def eqV:V→V→Bool
 | .non,.non=>true
 | .bl a,.bl b=>a == b
 | .bl a,.int b=>(if a then 1 else 0) == b
 | .int a,.bl b=>a == (if b then 1 else 0)
 | .int a,.int b=>a == b
 | .str a,.str b=>a == b
 | _,_=>false
theorem eqAt_V {A:Around} {s:Shared} {y x:V} {u v:Value} (ry:RelV y u) (rx:RelV x v) (fy:flatV y=true) (fx:flatV x=true):SeqAt.EqAt A s u v (eqV y x):=by
 cases y with
 | non=>
  cases ry
  cases x with
  | non=>cases rx; exact SeqAt.EqAt.same _
  | bl b=>cases rx; exact SeqAt.EqAt.none_bool b
  | int b=>obtain ⟨t,rfl⟩:=rx; exact SeqAt.EqAt.none_int b t
  | str b=>obtain ⟨t,rfl⟩:=rx; exact SeqAt.EqAt.none_str b t
  | _=>exact absurd (show false=true from fx) Bool.false_ne_true
 | bl a=>
  cases ry
  cases x with
  | non=>cases rx; exact SeqAt.EqAt.bool_none a
  | bl b=>cases rx; exact SeqAt.EqAt.bool_bool a b
  | int b=>obtain ⟨t,rfl⟩:=rx; exact SeqAt.EqAt.bool_int a b t
  | str b=>obtain ⟨t,rfl⟩:=rx; exact SeqAt.EqAt.bool_str a b t
  | _=>exact absurd (show false=true from fx) Bool.false_ne_true
 | int a=>
  obtain ⟨t',rfl⟩:=ry
  cases x with
  | non=>cases rx; exact SeqAt.EqAt.int_none a t'
  | bl b=>cases rx; exact SeqAt.EqAt.int_bool a t' b
  | int b=>obtain ⟨t,rfl⟩:=rx; exact SeqAt.EqAt.int_int a t' b t
  | str b=>obtain ⟨t,rfl⟩:=rx; exact SeqAt.EqAt.int_str a t' b t
  | _=>exact absurd (show false=true from fx) Bool.false_ne_true
 | str a=>
  obtain ⟨t',rfl⟩:=ry
  cases x with
  | non=>cases rx; exact SeqAt.EqAt.str_none a t'
  | bl b=>cases rx; exact SeqAt.EqAt.str_bool a t' b
  | int b=>obtain ⟨t,rfl⟩:=rx; exact SeqAt.EqAt.str_int a t' b t
  | str b=>obtain ⟨t,rfl⟩:=rx; exact SeqAt.EqAt.str_str a t' b t
  | _=>exact absurd (show false=true from fx) Bool.false_ne_true
 | _=>exact absurd (show false=true from fy) Bool.false_ne_true
noncomputable def eqU (x:V) (u:Value):Bool:=match u with
 | .none=>eqV .non x
 | .bool b=>eqV (.bl b) x
 | .int i _=>eqV (.int i) x
 | .str z _=>eqV (.str z) x
 | _=>false
theorem eqU_of {x y:V} {u:Value} (r:RelV y u) (f:flatV y=true):eqU x u=eqV y x:=by
 cases y with
 | non=>cases r; rfl
 | bl b=>cases r; rfl
 | int i=>obtain ⟨t,rfl⟩:=r; rfl
 | str z=>obtain ⟨t,rfl⟩:=r; rfl
 | _=>exact absurd (show false=true from f) Bool.false_ne_true
theorem any_eqU {x:V}:∀ {xs:List V} {us:List Value},Vals xs us→xs.all flatV=true→us.any (eqU x)=xs.any fun y=>eqV y x
 | _,_,.nil,_=>rfl
 | y::xs,u::us,.cons r t,f=>by
  rw [List.all_cons,Bool.and_eq_true] at f
  rw [List.any_cons,List.any_cons,eqU_of r f.1,any_eqU t f.2]
theorem mem_eqAt {A:Around} {s:Shared} {x:V} {v:Value} (rx:RelV x v) (fx:flatV x=true):∀ {xs:List V} {us:List Value},Vals xs us→xs.all flatV=true→∀ u∈us,SeqAt.EqAt A s u v (eqU x u)
 | _,_,.nil,_=>fun u hu=>by cases hu
 | y::xs,u::us,.cons r t,f=>fun u' hu=>by
  rw [List.all_cons,Bool.and_eq_true] at f
  rcases List.mem_cons.mp hu with rfl | hu
  ·rw [eqU_of r f.1]; exact eqAt_V r rx f.1 fx
  ·exact mem_eqAt rx fx t f.2 u' hu
noncomputable def inV (x:V) (xs:List V):Bool:=xs.any fun y=>eqV y x
noncomputable def rIn (K:PySem.W.Frag) (neg:Bool):R2:=fun x y H Q=>∃ p xs,y=.ref p∧(SqL K H p xs∨SqT K H p xs)∧flatV x=true∧xs.all flatV=true∧Q (.bl (if neg then !inV x xs else inV x xs)) H
theorem op_in_seq:OpR X (compareOp .In) (rIn X.K false):=by
 intro pins s σ H x y v u Q I rx ry h
 obtain ⟨p,xs,rfl,hq,fx,fs,q⟩:=h
 cases ry
 rcases hq with hq | hq
 ·obtain ⟨its,r,pl,hz⟩:=I.list hq
  refine SeqAt.in_listAt (eqU x) pl.isList (fun w hw=>mem_eqAt rx fx r fs w (by simpa using hw)) ⟨.bl _,H,I,rfl,?_⟩
  rw [show its.toArray.any (eqU x)=its.any (eqU x) by simp,any_eqU r fs]
  exact q
 ·obtain ⟨its,r,pl,hz⟩:=I.tuple hq
  refine SeqAt.in_tupleAt (eqU x) pl (fun w hw=>mem_eqAt rx fx r fs w (by simpa using hw)) ⟨.bl _,H,I,rfl,?_⟩
  rw [show its.toArray.any (eqU x)=its.any (eqU x) by simp,any_eqU r fs]
  exact q
theorem op_notIn_seq:OpR X (compareOp .NotIn) (rIn X.K true):=by
 intro pins s σ H x y v u Q I rx ry h
 obtain ⟨p,xs,rfl,hq,fx,fs,q⟩:=h
 cases ry
 rcases hq with hq | hq
 ·obtain ⟨its,r,pl,hz⟩:=I.list hq
  refine SeqAt.notIn_listAt (eqU x) pl.isList (fun w hw=>mem_eqAt rx fx r fs w (by simpa using hw)) ⟨.bl _,H,I,rfl,?_⟩
  rw [show its.toArray.any (eqU x)=its.any (eqU x) by simp,any_eqU r fs]
  exact q
 ·obtain ⟨its,r,pl,hz⟩:=I.tuple hq
  refine SeqAt.notIn_tupleAt (eqU x) pl (fun w hw=>mem_eqAt rx fx r fs w (by simpa using hw)) ⟨.bl _,H,I,rfl,?_⟩
  rw [show its.toArray.any (eqU x)=its.any (eqU x) by simp,any_eqU r fs]
  exact q
theorem call_len_seq:CallR X (.builtin "len") (fun xs H Q=>∃ p ys,xs=[.ref p]∧(SqL X.K H p ys∨SqT X.K H p ys)∧Q (.int ys.length) H):=by
 intro pins s σ H xs us Q I r h
 obtain ⟨p,ys,rfl,hq,q⟩:=h
 obtain ⟨u,rfl,rx⟩:=vals1 r
 cases rx
 have hn:=line63
 rcases hq with hq | hq
 ·obtain ⟨its,r',pl,hz⟩:=I.list hq
  have hlen:=r'.length
  exact Calls.call_len_list pl.isList (by simp only [List.size_toArray] <;> omega) ⟨.int ys.length,H,I.tok _,⟨s.toks + 1,by rw [List.size_toArray,hlen]⟩,q⟩
 ·obtain ⟨its,r',pl,hz⟩:=I.tuple hq
  have hlen:=r'.length
  exact len_tuple pl (by simp only [List.size_toArray] <;> omega) ⟨.int ys.length,H,I.tok _,⟨s.toks + 1,by rw [List.size_toArray,hlen]⟩,q⟩
theorem call_len_str:CallR X (.builtin "len") (fun xs H Q=>∃ z,xs=[.str z]∧z.length≤sizeLine∧Q (.int z.length) H):=by
 intro pins s σ H xs us Q I r h
 obtain ⟨z,rfl,hz,q⟩:=h
 obtain ⟨u,rfl,t,rfl⟩:=vals1 r
 have hn:=line63
 exact len_str (by omega) ⟨.int z.length,H,I.tok _,⟨_,rfl⟩,q⟩
theorem CallR.or {f:Value} {r r':List V→Hp→VK→Prop} (h:CallR X f r) (h':CallR X f r'):CallR X f (fun xs H Q=>r xs H Q∨r' xs H Q):=by
 intro pins s σ H xs us Q I rs q
 rcases q with q | q
 ·exact h pins s σ H xs us Q I rs q
 ·exact h' pins s σ H xs us Q I rs q
theorem call_list_of:CallR X (.type "list") (fun xs H Q=>∃ p ys,xs=[.ref p]∧(SqL X.K H p ys∨SqT X.K H p ys)∧∀ l,H l=none→Q (.ref l) (upd H l (.lst ys))):=by
 intro pins s σ H xs us Q I r h
 obtain ⟨p,ys,rfl,hq,q⟩:=h
 obtain ⟨u,rfl,rx⟩:=vals1 r
 cases rx
 have fin:∀ (its:List Value),Vals ys its→ys.length≤sizeLine→∀ (h':Heap) (c':Nat),(∀ b o',s.heap.get? b=some o'→h'.get? b=some o') →
   h'.get? s.heap.objs.size=some { cls:=.type "list",dict:=none,data:=.seq its.toArray c',slots:=#[] }→EP X pins σ Q (.ref s.heap.objs.size) { s with heap:=h' }:=fun its r' hz h' c' kp e=>
  ⟨.ref s.heap.objs.size,_,I.laid (t':=s.toks) kp (Nat.le_refl _) (show ObjOk X.prog X.w _ h' _ (.lst ys) from ⟨hz,its,c',r',e⟩),rfl,q _ (I.hok.fresh (Nat.le_refl _))⟩
 rcases hq with hq | hq
 ·obtain ⟨its,r',pl,hz⟩:=I.list hq
  have hlen:=r'.length
  obtain ⟨o,ho,hc,n,hd⟩:=pl.isList
  exact call_list_seq p (.inl rfl) ho hc hd (fun h' c' kp e=>fin its r' hz h' c' kp e) (by simp only [List.size_toArray] <;> omega)
 ·obtain ⟨its,r',pl,hz⟩:=I.tuple hq
  have hlen:=r'.length
  obtain ⟨o,ho,hc,n,hd⟩:=pl
  exact call_list_seq p (.inr rfl) ho hc hd (fun h' c' kp e=>fin its r' hz h' c' kp e) (by simp only [List.size_toArray] <;> omega)
theorem call_tuple_of:CallR X (.type "tuple") (fun xs H Q=>∃ p ys,xs=[.ref p]∧((SqL X.K H p ys∧∀ l,H l=none→Q (.ref l) (upd H l (.tup ys)))∨(SqT X.K H p ys∧Q (.ref p) H))):=by
 intro pins s σ H xs us Q I r h
 obtain ⟨p,ys,rfl,h⟩:=h
 obtain ⟨u,rfl,rx⟩:=vals1 r
 cases rx
 rcases h with ⟨hq,q⟩ | ⟨hq,q⟩
 ·obtain ⟨its,r',pl,hz⟩:=I.list hq
  have hlen:=r'.length
  refine call_tuple_list pl.isList (fun h' kp=>?_) (by simp only [List.size_toArray] <;> omega)
  have I1:Inv X pins σ H { s with heap:=h' }:=I.kept (t':=s.toks) kp
  have I2:Inv X pins σ (upd H h'.objs.size (.tup ys)) { s with heap:=h'.push { cls:=.type "tuple",data:=.seq its.toArray } }:=
   I1.laid (t':=s.toks) (fun b o e=>Heap.get?_push_of_some _ e) (Nat.le_refl _) (show ObjOk X.prog X.w _ _ _ (.tup ys) from ⟨hz,its,r',IsTup.new _ _⟩)
  exact ⟨.ref h'.objs.size,_,I2,rfl,q _ (I1.hok.fresh (Nat.le_refl _))⟩
 ·obtain ⟨its,r',pl,hz⟩:=I.tuple hq
  exact call_tuple_same pl ⟨.ref p,H,I,rfl,q⟩
noncomputable def tyV (K:PySem.W.Frag) (T:String) (x:V) (H:Hp):Prop:=match x with
 | .str _=>T = "str"
 | .int _=>T = "int"
 | .ref p=>(T = "list"∧∃ xs,SqL K H p xs)∨(T = "tuple"∧∃ o,K.lookup p=some o∧o.cls=.type "tuple"∧o.dict=none) ∨
   (T = "dict"∧((∃ kvs,H p=some (.dK kvs))∨∃ kvs,H p=some (.dT kvs)))∨(T = "set"∧∃ S n,H p=some (.set S n))
 | _=>False
theorem tyV_is {pins:List (Addr×Obj)} {σ:St} {H:Hp} {s:Shared} {T:String} {x:V} {v:Value} (I:Inv X pins σ H s) (r:RelV x v) (ty:tyV X.K T x H) :
  s.TypeIs v T∧∀ a,v=.ref a→∃ ob,s.heap.get? a=some ob∧ob.dict=none:=by
 cases x with
 | str z=>
  obtain ⟨t,rfl⟩:=r
  cases (show T = "str" from ty)
  exact ⟨typeIs_str s z t,fun _ e=>nomatch e⟩
 | int i=>
  obtain ⟨t,rfl⟩:=r
  cases (show T = "int" from ty)
  exact ⟨typeIs_int s i t,fun _ e=>nomatch e⟩
 | ref p=>
  cases r
  rcases ty with ⟨rfl,xs,hq⟩ | ⟨rfl,o,hk,hc,hd⟩ | ⟨rfl,hk⟩ | ⟨rfl,S,n,hk⟩
  ·obtain ⟨its,_,pl,_⟩:=I.list hq
   refine ⟨pl.isList.typeIs,fun a e=>?_⟩
   cases e
   obtain ⟨o,n,e,c,hd,_⟩:=pl
   exact ⟨o,e,hd⟩
  ·refine ⟨⟨o,I.kIn p o hk,hc⟩,fun a e=>?_⟩
   cases e
   exact ⟨o,I.kIn _ o hk,hd⟩
  ·have z:∃ o,s.heap.get? p=some o∧o.ExactDict:=by
    rcases hk with ⟨kvs,hk⟩ | ⟨kvs,hk⟩
    ·obtain ⟨_,_,_,_,o,_,_,e,ex,_⟩:=I.hok p _ hk
     exact ⟨o,e,ex⟩
    ·obtain ⟨_,_,_,_,o,_,_,e,ex,_⟩:=I.hok p _ hk
     exact ⟨o,e,ex⟩
   obtain ⟨o,e,ex⟩:=z
   refine ⟨⟨o,e,ex.1⟩,fun a e2=>?_⟩
   cases e2
   exact ⟨o,e,ex.2.1⟩
  ·obtain ⟨o,_,_,_,e,ex,_⟩:=I.hok p _ hk
   refine ⟨⟨o,e,ex.1⟩,fun a e2=>?_⟩
   cases e2
   exact ⟨o,e,ex.2.1⟩
 | _=>exact False.elim ty
noncomputable def tBM (K:PySem.W.Frag) (T:String) (r:V→List V→Hp→VK→Prop) (to:TE) (t:TA):TE:=fun σ H Q=>to σ H fun x H1=>tyV K T x H1∧t σ H1 fun xs H2=>r x xs H2 Q
variable {o e:Expr} {es:List Expr} {to:TE} {t:TA} {name:Str} {apos cpos:Pos} {T id:String} {r:V→List V→Hp→VK→Prop}
theorem pe_bm (pa:PlainAttrs T) (slot:Slot T name id) (hty:typeOf (.builtin id)=pure (.type "method_descriptor")) (hm:MtR X id r) (ho:PE X o to) (ha:PA X (e::es) t)
  (hbase:attributeBase o name X.env (eval o X.env)=eval o X.env:=by rfl)
  (hfew:((backTo cpos (starEach (e::es) X.env)).all (fun x=>!x.1) && (backToKw cpos (keywordEach [] X.env)).all (fun x=>x.1.isSome)
   && decide ((e::es).length + ([]:List Keyword).length + (if ([]:List Keyword).isEmpty then 0 else 1) < 30))=true:=by rfl)
  (hline:(apos.endLine == cpos.line)=true:=by rfl) (hs:starEach (e::es) X.env=(false,eval e X.env)::starEach es X.env:=by rfl) (hplain:(backTo cpos (starEach es X.env)).any (·.1)=false:=by rfl) :
  PE X (.Call (.Attribute o name apos) (e::es) [] cpos) (tBM X.K T r to t):=by
 intro pins s σ H Q I h
 refine wpAny_Call_method_late hbase hfew hline rfl (thn (ho pins s σ H _ I h) fun v s1 ⟨x,H1,I1,r1,ty,q1⟩=>?_)
 obtain ⟨h1,h2⟩:=tyV_is I1 r1 ty
 refine ⟨T,id,pa,slot,hty,h1,h2,?_⟩
 have hA:=ha cpos pins s1 σ H1 _ I1 q1
 rw [hs] at hA ⊢
 refine Calls.callWith_builtin (by show (false || (backTo cpos (starEach es X.env)).any (·.1))=false; rw [hplain] <;> rfl) (Calls.evalArgs_plain ?_)
 exact thn hA fun us s2 ⟨vs,H2,I2,r2,q2⟩=>hm pins s2 σ H2 x vs v us Q I2 r1 r2 q2
end
end L2
namespace L2
open PySem PySem.Spec PyProof.Rows
noncomputable def MtM (X:Cx) (id:String) (r:V→List V→Hp→VK→Prop):Prop:=
 ∀ (pins:List (Addr×Obj)) (s:Shared) (σ:St) (H:Hp) (x:V) (xs:List V) (v:Value) (us:List Value) (Q:VK),Inv X pins σ H s→RelV x v→Vals xs us→r x xs H Q →
  wpAny (model X.prog X.w) X.A (call (.builtin id) (v::us)) (EP X pins σ Q) X.xe s
theorem Vals.one:∀ {x:V} {us:List Value},Vals [x] us→∃ u,us=[u]∧RelV x u
 | _,_,.cons r .nil=>⟨_,rfl,r⟩
theorem Vals.two:∀ {x y:V} {us:List Value},Vals [x,y] us→∃ u v,us=[u,v]∧RelV x u∧RelV y v
 | _,_,_,.cons r (.cons q .nil)=>⟨_,_,rfl,r,q⟩
theorem Vals.zero:∀ {us:List Value},Vals [] us→us=[]
 | _,.nil=>rfl
theorem Vals.reverse {xs:List V} {us:List Value} (h:Vals xs us):Vals xs.reverse us.reverse:=by
 induction h with
 | nil=>exact .nil
 | cons r t ih=>rw [List.reverse_cons,List.reverse_cons]; exact Vals.append ih (.cons r .nil)
theorem Vals.rep {xs:List V} {us:List Value} (h:Vals xs us):∀ k:Nat,Vals (List.replicate k xs).flatten (List.replicate k us).flatten
 | 0=>.nil
 | k + 1=>by
  rw [List.replicate_succ,List.replicate_succ,List.flatten_cons,List.flatten_cons]
  exact Vals.append h (Vals.rep h k)
theorem foldl_rep (its:List Value):∀ (k:Nat) (acc:List Value),
  List.foldl (fun x1 x2=>x1++x2) acc.toArray (List.replicate k its.toArray)=(acc++(List.replicate k its).flatten).toArray
 | 0,acc=>by simp
 | k + 1,acc=>by
  have e:acc.toArray++its.toArray=(acc++its).toArray:=by simp
  have e2:(acc++its)++(List.replicate k its).flatten=acc++(List.replicate (k + 1) its).flatten:=by
   rw [List.replicate_succ,List.flatten_cons,List.append_assoc]
  rw [← e2,← foldl_rep its k (acc++its),← e,List.replicate_succ,List.foldl_cons]
section
variable {X:Cx} {pins:List (Addr×Obj)} {σ:St} {H:Hp} {s:Shared} {l b:Addr} {xs ys zs:List V}
theorem Inv.lset {its its':List Value} {n:Nat} {f:Array Value→Array Value} {t':Nat} (I:Inv X pins σ H s) (hH:H l=some (.lst xs))
  (e:s.heap.get? l=some { cls:=.type "list",data:=.seq its.toArray n }) (hf:f its.toArray=its'.toArray) (hv:Vals ys its') (hz:ys.length≤sizeLine) :
  Inv X pins σ (upd H l (.lst ys)) { s with heap:=s.heap.update l (Obj.mapSeq f),toks:=t' }:=by
 have q:=PySem.IsL.update e f
 rw [hf] at q
 refine I.write (x:=l) (e:=l) (by rw [hH]; exact trivial) (.inl rfl) (fun b' u hb hu=>(Heap.get?_update_other s.heap (Obj.mapSeq f) (Ne.symm hb)).trans hu) ⟨_,q⟩ ?_
 exact ⟨hz,its',_,hv,q⟩
theorem Inv.lnew {its:List Value} {t':Nat} (I:Inv X pins σ H s) (hv:Vals ys its) (hz:ys.length≤sizeLine) :
  Inv X pins σ (upd H s.heap.objs.size (.lst ys)) { s with heap:=s.heap.push { cls:=.type "list",data:=.seq its.toArray },toks:=t' }:=
 I.laid (fun _ _ q=>Heap.get?_push_of_some _ q) (Nat.le_refl _) ⟨hz,its,0,hv,Heap.get?_push_size _ rfl⟩
theorem Inv.fresh (I:Inv X pins σ H s):H s.heap.objs.size=none:=I.hok.fresh (Nat.le_refl _)
theorem Inv.lstM (I:Inv X pins σ H s) (hH:H l=some (.lst xs)):xs.length≤sizeLine∧∃ (its:List Value) (n:Nat),Vals xs its∧xs.length=its.length∧s.heap.get? l=some { cls:=.type "list",data:=.seq its.toArray n }:=by
 obtain ⟨z,its,n,r,e⟩:=I.hok l _ hH
 exact ⟨z,its,n,r,r.length,e⟩
end
section
variable {X:Cx}
noncomputable def rAppend:V→List V→Hp→VK→Prop:=fun x vs H Q=>∃ l xs y,x=.ref l∧vs=[y]∧H l=some (.lst xs)∧xs.length < sizeLine∧Q .non (upd H l (.lst (xs++[y])))
theorem mt_append:MtM X "list.append" rAppend:=by
 intro pins s σ H x vs v us Q I rx rv h
 obtain ⟨l,xs,y,rfl,rfl,hH,hz,q⟩:=h
 cases rx
 obtain ⟨u,rfl,ru⟩:=rv.one
 obtain ⟨z,its,n,r,hl,e⟩:=I.lstM hH
 refine call_meets F.slot_list_append ⟨_,e,rfl⟩ F.entry_list_append (F.args_list_append_2 _ _) (PySem.list_append l its.toArray n u (by rw [List.size_toArray]; omega)) ⟨e,?_⟩
 refine ⟨.non,_,I.lset (its':=its++[u]) hH e (by simp) (r.append (.cons ru .nil)) ?_,rfl,q⟩
 rw [List.length_append,List.length_singleton]
 omega
theorem len_rep {α:Type} (xs:List α) (k:Nat):(List.replicate k xs).flatten.length=k * xs.length:=by
 induction k with
 | zero=>simp
 | succ k ih=>rw [List.replicate_succ,List.flatten_cons,List.length_append,ih,Nat.succ_mul,Nat.add_comm]
end
section
variable {prog:Program} {w:World} {A:Around} {E:Value→Shared→Prop} {s:Shared}
end
section
variable {X:Cx}
end
end L2
namespace L2
open PySem PySem.Spec PyProof.Rows
section
variable {κ:Type} [DecidableEq κ]
noncomputable def valV (kvs:List (κ×V)) (k:κ):Option V:=(kvs.find? fun kv=>decide (kv.1=k)).map (·.2)
noncomputable def putK (kvs:List (κ×V)) (k:κ) (v:V):List (κ×V):=
 if (kvs.any fun kv=>decide (kv.1=k))=true then kvs.map (fun kv=>if kv.1=k then (kv.1,v) else kv) else kvs++[(k,v)]
noncomputable def dropK (kvs:List (κ×V)) (k:κ):List (κ×V):=kvs.filter fun kv=>decide (kv.1≠k)
theorem valV_pos {p:κ×V} {r:List (κ×V)} {k:κ} (e:p.1=k):valV (p::r) k=some p.2:=by simp [valV,List.find?_cons,e]
theorem valV_neg {p:κ×V} {r:List (κ×V)} {k:κ} (e:¬ p.1=k):valV (p::r) k=valV r k:=by simp [valV,List.find?_cons,e]
theorem valV_any (k:κ):∀ kvs:List (κ×V),(kvs.any fun kv=>decide (kv.1=k))=(valV kvs k).isSome
 | []=>rfl
 | p::r=>by
  rw [List.any_cons]
  by_cases e:p.1=k
  ·simp only [valV_pos e,decide_eq_true e,Bool.true_or,Option.isSome_some]
  ·rw [valV_neg e,decide_eq_false e,Bool.false_or]; exact valV_any k r
theorem length_putK (kvs:List (κ×V)) (k:κ) (v:V):(putK kvs k v).length≤kvs.length + 1:=by
 unfold putK
 split
 ·rw [List.length_map]; omega
 ·rw [List.length_append,List.length_cons,List.length_nil]; omega
theorem putK_new {kvs:List (κ×V)} {k:κ} (v:V) (h:valV kvs k=none):putK kvs k v=kvs++[(k,v)]:=by
 unfold putK
 rw [valV_any,h]
 exact if_neg (by decide)
theorem RelO.isSome_eq {o:Option V} {u:Option Value} (r:RelO o u):o.isSome=u.isSome:=by
 cases o with
 | none=>cases u with
  | none=>rfl
  | some _=>exact (show False from r).elim
 | some _=>cases u with
  | none=>exact (show False from r).elim
  | some _=>rfl
theorem RelO.getD {o:Option V} {u:Option Value} {d:V} {d':Value} (r:RelO o u) (rd:RelV d d'):RelV (o.getD d) (u.getD d'):=by
 cases o with
 | none=>cases u with
  | none=>exact rd
  | some _=>exact (show False from r).elim
 | some _=>cases u with
  | none=>exact (show False from r).elim
  | some _=>exact r
theorem KV.val {kvs:List (κ×V)} {vs:List (κ×Value)} (r:KV kvs vs) (k:κ):RelO (valV kvs k) (valueAt vs k):=by
 unfold KV at r
 induction r with
 | nil=>exact True.intro
 | @cons p q ps qs h t ih=>
  obtain ⟨h1,h2⟩:=h
  by_cases e:p.1=k
  ·have e':q.1=k:=h1.symm.trans e
   have b:valueAt (q::qs) k=some q.2:=by simp [valueAt,List.find?_cons,e']
   rw [valV_pos e,b]; exact h2
  ·have e':¬ q.1=k:=fun z=>e (h1.trans z)
   have b:valueAt (q::qs) k=valueAt qs k:=by simp [valueAt,List.find?_cons,e']
   rw [valV_neg e,b]; exact ih
theorem KV.any {kvs:List (κ×V)} {vs:List (κ×Value)} (r:KV kvs vs) (k:κ):(kvs.any fun kv=>decide (kv.1=k))=vs.any fun kv=>decide (kv.1=k):=by
 unfold KV at r
 induction r with
 | nil=>rfl
 | cons h t ih=>rw [List.any_cons,List.any_cons,ih,h.1]
theorem KV.repl {kvs:List (κ×V)} {vs:List (κ×Value)} (r:KV kvs vs) (k:κ) {y:V} {u:Value} (ry:RelV y u) :
  KV (kvs.map fun kv=>if kv.1=k then (kv.1,y) else kv) (vs.map fun kv=>if kv.1=k then (kv.1,u) else kv):=by
 unfold KV at r ⊢
 induction r with
 | nil=>exact .nil
 | @cons p q ps qs h t ih=>
  rw [List.map_cons,List.map_cons]
  refine .cons ?_ ih
  obtain ⟨h1,h2⟩:=h
  by_cases e:p.1=k
  ·rw [if_pos e,if_pos (h1.symm.trans e)]; exact ⟨h1,ry⟩
  ·rw [if_neg e,if_neg (fun z=>e (h1.trans z))]; exact ⟨h1,h2⟩
theorem KV.put {kvs:List (κ×V)} {vs:List (κ×Value)} (r:KV kvs vs) (k:κ) {y:V} {u:Value} (ry:RelV y u):KV (putK kvs k y) (stored vs k u):=by
 unfold putK stored
 rw [r.any k]
 by_cases e:(vs.any fun kv=>decide (kv.1=k))=true
 ·rw [if_pos e,if_pos e]; exact r.repl k ry
 ·rw [if_neg e,if_neg e]; exact Paired.snoc r ⟨rfl,ry⟩
theorem KV.drop {kvs:List (κ×V)} {vs:List (κ×Value)} (r:KV kvs vs) (k:κ):KV (dropK kvs k) (without vs k):=by
 unfold KV at r ⊢
 unfold dropK without
 induction r with
 | nil=>exact .nil
 | @cons p q ps qs h t ih=>
  obtain ⟨h1,h2⟩:=h
  rw [List.filter_cons,List.filter_cons]
  by_cases e:p.1=k
  ·have a:¬ decide (p.1≠k)=true:=by simp [e]
   have b:¬ decide (q.1≠k)=true:=by simp [h1.symm.trans e]
   rw [if_neg a,if_neg b]; exact ih
  ·have e':¬ q.1=k:=fun z=>e (h1.trans z)
   have a:decide (p.1≠k)=true:=by simp [e]
   have b:decide (q.1≠k)=true:=by simp [e']
   rw [if_pos a,if_pos b]; exact .cons ⟨h1,h2⟩ ih
theorem KV.keys {kvs:List (κ×V)} {vs:List (κ×Value)} (r:KV kvs vs):kvs.map (·.1)=vs.map (·.1):=by
 unfold KV at r
 induction r with
 | nil=>rfl
 | cons h t ih=>rw [List.map_cons,List.map_cons,ih,h.1]
theorem KV.length {kvs:List (κ×V)} {vs:List (κ×Value)} (r:KV kvs vs):kvs.length=vs.length:=Paired.length r
end
theorem kV_is {P:Program} {w:World} {k:Key} {u:Value} (r:RelV (kV k) u):(mixKind P w).is k u=true:=by
 cases k with
 | inl i=>obtain ⟨t,e⟩:=(show ∃ t,u=Value.int i t from r); subst e; exact mixKind_int P w i t
 | inr x=>obtain ⟨t,e⟩:=(show ∃ t,u=Value.str x t from r); subst e; exact mixKind_str P w x t
theorem items_are {P:Program} {w:World}:∀ {ks:List Key} {us:List Value},Vals (ks.map kV) us→ItemsAre (mixKind P w) ks us
 | [],_,r=>by rw [List.map_nil] at r; cases r; exact .nil
 | k::ks,_,r=>by
  rw [List.map_cons] at r
  cases r with
  | cons h t=>exact .cons (kV_is h) (items_are t)
noncomputable abbrev KT (H:Hp):List (List Key×V)→List (List Key×Addr×Value)→Prop:=Paired fun p q=>p.1=q.1∧H q.2.1=some (.tup (p.1.map kV))∧RelV p.2 q.2.2
theorem KT.val {H:Hp} {kvs:List (List Key×V)} {xs:List (List Key×Addr×Value)} (r:KT H kvs xs) (k:List Key):RelO (valV kvs k) ((atKey xs k).map (·.2)):=by
 induction r with
 | nil=>exact True.intro
 | @cons p q ps qs h t ih=>
  obtain ⟨h1,_,h2⟩:=h
  by_cases e:p.1=k
  ·have e':q.1=k:=h1.symm.trans e
   have b:atKey (q::qs) k=some q.2:=by simp [atKey,List.find?_cons,e']
   rw [valV_pos e,b]; exact h2
  ·have e':¬ q.1=k:=fun z=>e (h1.trans z)
   have b:atKey (q::qs) k=atKey qs k:=by simp [atKey,List.find?_cons,e']
   rw [valV_neg e,b]; exact ih
theorem KT.repl {H:Hp} {kvs:List (List Key×V)} {xs:List (List Key×Addr×Value)} (r:KT H kvs xs) (k:List Key) {y:V} {u:Value} (ry:RelV y u) :
  KT H (kvs.map fun kv=>if kv.1=k then (kv.1,y) else kv) (xs.map (putAt k u)):=by
 induction r with
 | nil=>exact .nil
 | @cons p q ps qs h t ih=>
  rw [List.map_cons,List.map_cons]
  refine .cons ?_ ih
  obtain ⟨h1,h2,h3⟩:=h
  unfold putAt
  by_cases e:p.1=k
  ·rw [if_pos e,if_pos (h1.symm.trans e)]; exact ⟨h1,h2,ry⟩
  ·rw [if_neg e,if_neg (fun z=>e (h1.trans z))]; exact ⟨h1,h2,h3⟩
theorem KT.put {H:Hp} {kvs:List (List Key×V)} {xs:List (List Key×Addr×Value)} (r:KT H kvs xs) (k:List Key) {b:Addr} {y:V} {u:Value} (hb:H b=some (.tup (k.map kV))) (ry:RelV y u) :
  KT H (putK kvs k y) (storedH xs k b u):=by
 have e:(kvs.any fun kv=>decide (kv.1=k))=(atKey xs k).isSome:=by
  rw [valV_any,(r.val k).isSome_eq,Option.isSome_map]
 unfold putK storedH
 rw [e]
 by_cases q:(atKey xs k).isSome=true
 ·rw [if_pos q,if_pos q]; exact r.repl k ry
 ·rw [if_neg q,if_neg q]; exact Paired.snoc r ⟨rfl,hb,ry⟩
theorem KT.keeps {H H':Hp} {kvs:List (List Key×V)} {xs:List (List Key×Addr×Value)} (r:KT H kvs xs) (ht:∀ b ys,H b=some (.tup ys)→H' b=some (.tup ys)):KT H' kvs xs:=
 Paired.mapP r fun _ _ z=>⟨z.1,ht _ _ z.2.1,z.2.2⟩
section
variable {P:Program} {w:World} {H:Hp} {h:Heap} {a:Addr}
theorem rd_of {u:HO} (ok:HOk P w H h) (e:Rd H a u):ObjOk P w H h a u:=e.ok ok
theorem dk_rd {kvs:List (Key×V)} (ok:HOk P w H h) (e:Rd H a (.dK kvs)):kvs.length≤sizeLine∧(a == sysModules)=false∧∃ vs,KV kvs vs∧h.DictOf (mixKind P w) a vs:=
 show ObjOk P w H h a (.dK kvs) from rd_of ok e
theorem dk_of {kvs:List (Key×V)} (ok:HOk P w H h) (e:H a=some (.dK kvs)):kvs.length≤sizeLine∧(a == sysModules)=false∧∃ vs,KV kvs vs∧h.DictOf (mixKind P w) a vs:=dk_rd ok (.inl e)
theorem key_of {ks:List Key} (ok:HOk P w H h) (e:H a=some (.tup (ks.map kV))):(tupleKind (mixKind P w)).is h ks a:=by
 obtain ⟨_,its,r,o,h1,h2,n,h3⟩:=(show ObjOk P w H h a (.tup (ks.map kV)) from ok a _ e)
 exact ⟨o,its.toArray,n,h1,h2,h3,by simpa using items_are r⟩
theorem dt_rd {kvs:List (List Key×V)} (ok:HOk P w H h) (e:Rd H a (.dT kvs)):kvs.length≤sizeLine∧(a == sysModules)=false ∧
  ∃ xs,KT H kvs xs∧h.DictOfH (tupleKind (mixKind P w)) a xs:=by
 obtain ⟨z,y,xs,r,o,es,ep,h1,h2,h3,h4,h5⟩:=(show ObjOk P w H h a (.dT kvs) from rd_of ok e)
 refine ⟨z,y,xs,r,o,es,ep,h1,h2,h3,h4,fun x hx=>?_,h5⟩
 have all:∀ {l:List (List Key×V)} {m:List (List Key×Addr×Value)},KT H l m→∀ x∈m,(tupleKind (mixKind P w)).is h x.1 x.2.1:=by
  intro l m q
  induction q with
  | nil=>intro x hx; exact nomatch hx
  | @cons p q ps qs hq t ih=>
   intro x hx
   rcases List.mem_cons.mp hx with e | hx
   ·subst e
    exact key_of ok (by rw [← hq.1]; exact hq.2.1)
   ·exact ih x hx
 exact all r x hx
theorem dt_of {kvs:List (List Key×V)} (ok:HOk P w H h) (e:H a=some (.dT kvs)):kvs.length≤sizeLine∧(a == sysModules)=false ∧
  ∃ xs,KT H kvs xs∧h.DictOfH (tupleKind (mixKind P w)) a xs:=dt_rd ok (.inl e)
end
noncomputable def DGet (H:Hp) (a:Addr) (y:V) (r:Option V):Prop:=
 (∃ kvs k,Rd H a (.dK kvs)∧y=kV k∧r=valV kvs k)∨∃ kvs k b,Rd H a (.dT kvs)∧y=.ref b∧H b=some (.tup (k.map kV))∧r=valV kvs k
noncomputable def DPut (H:Hp) (a:Addr) (y v:V) (H':Hp):Prop:=
 (∃ kvs k,H a=some (.dK kvs)∧y=kV k∧kvs.length < sizeLine∧H'=upd H a (.dK (putK kvs k v))) ∨
 ∃ kvs k b,H a=some (.dT kvs)∧y=.ref b∧H b=some (.tup (k.map kV))∧kvs.length < sizeLine∧H'=upd H a (.dT (putK kvs k v))
theorem DGet.k {H:Hp} {a:Addr} {kvs:List (Key×V)} {k:Key} (e:H a=some (.dK kvs)):DGet H a (kV k) (valV kvs k):=.inl ⟨kvs,k,.inl e,rfl,rfl⟩
theorem DGet.t {H:Hp} {a b:Addr} {kvs:List (List Key×V)} {k:List Key} (e:H a=some (.dT kvs)) (eb:H b=some (.tup (k.map kV))):DGet H a (.ref b) (valV kvs k):=.inr ⟨kvs,k,b,.inl e,rfl,eb,rfl⟩
theorem DPut.k {H:Hp} {a:Addr} {kvs:List (Key×V)} {k:Key} {v:V} (e:H a=some (.dK kvs)) (hl:kvs.length < sizeLine):DPut H a (kV k) v (upd H a (.dK (putK kvs k v))):=.inl ⟨kvs,k,e,rfl,hl,rfl⟩
theorem DPut.t {H:Hp} {a b:Addr} {kvs:List (List Key×V)} {k:List Key} {v:V} (e:H a=some (.dT kvs)) (eb:H b=some (.tup (k.map kV))) (hl:kvs.length < sizeLine) :
  DPut H a (.ref b) v (upd H a (.dT (putK kvs k v))):=.inr ⟨kvs,k,b,e,rfl,eb,hl,rfl⟩
section
variable {X:Cx} {pins:List (Addr×Obj)} {σ:St} {H:Hp} {s:Shared} {a:Addr} {y v:V} {u r:Value} {o:Option V} {A:Around} {E:Value→Shared→Prop}
theorem Inv.big (I:Inv X pins σ H s):sysModules < s.heap.objs.size:=by
 have h:mainGlobals < s.heap.objs.size:=(I.mod.glob.keeps I.bk).lt
 exact Nat.lt_trans (by decide) h
theorem d_getItem {Q:Value→Shared→Prop} (hu:A.units + 1 < cLine) (I:Inv X pins σ H s) (g:DGet H a y (some v)) (ry:RelV y u) (h:∀ w' s',Inv X pins σ H s'→RelV v w'→Q w' s') :
  wpAny (model X.prog X.w) A (getItem (.ref a) u) Q E s:=by
 rcases g with ⟨kvs,k,e,ey,l⟩ | ⟨kvs,k,b,e,ey,eb,l⟩
 ·subst ey
  obtain ⟨z,hd,vs,rel,dd⟩:=dk_rd I.hok e
  obtain ⟨w',hw,rw'⟩:=RelO.some_of (v:=v) (o:=valueAt vs k) (by rw [l]; exact rel.val k)
  exact wpAny_getItem_of (kV_is ry) dd.mapOf hw (h w' _ (I.tok _) rw')
 ·subst ey
  cases (show u=Value.ref b from ry)
  obtain ⟨z,hd,xs,rel,dd⟩:=dt_rd I.hok e
  obtain ⟨w',hw,rw'⟩:=RelO.some_of (v:=v) (o:=(atKey xs k).map (·.2)) (by rw [l]; exact rel.val k)
  obtain ⟨p,hp,hp2⟩:=Option.map_eq_some_iff.mp hw
  refine wpAny_getItem_heap (tupleKind_room_in1 hu) (key_of I.hok eb) dd hp ?_
  rw [hp2]
  exact h w' _ (I.tok _) rw'
theorem d_notIn {Q:Value→Shared→Prop} (hu:A.units + 1 < cLine) (I:Inv X pins σ H s) (g:DGet H a y o) (ry:RelV y u) (h:∀ s',Inv X pins σ H s'→Q (.bool (!o.isSome)) s') :
  wpAny (model X.prog X.w) A (compareOp .NotIn u (.ref a)) Q E s:=by
 rcases g with ⟨kvs,k,e,ey,l⟩ | ⟨kvs,k,b,e,ey,eb,l⟩
 ·subst ey
  obtain ⟨z,hd,vs,rel,dd⟩:=dk_rd I.hok e
  refine wpAny_notIn_of (kV_is ry) hd dd.mapOf ?_
  rw [← (rel.val k).isSome_eq,← l]
  exact h _ (I.tok _)
 ·subst ey
  cases (show u=Value.ref b from ry)
  obtain ⟨z,hd,xs,rel,dd⟩:=dt_rd I.hok e
  refine wpAny_notIn_heap (tupleKind_room_in1 hu) (key_of I.hok eb) hd dd ?_
  have q:=(rel.val k).isSome_eq
  rw [Option.isSome_map] at q
  rw [← q,← l]
  exact h _ (I.tok _)
theorem d_write {h':Heap} {t':Nat} {ob:HO} (I:Inv X pins σ H s) (mu:Mut (H a)) (hs:Heap.SameBut a s.heap h') (he:∃ q,h'.get? a=some q) (new:ObjOk X.prog X.w (upd H a ob) h' a ob) :
  Inv X pins σ (upd H a ob) { s with heap:=h',toks:=t' }:=
 I.write (x:=a) (e:=a) mu (.inl rfl) (fun b q hb z=>(hs.2 b hb).trans z) he new
theorem dk_new {P:Program} {w:World} {H':Hp} {h':Heap} {kvs:List (Key×V)} {vs:List (Key×Value)} (z:kvs.length≤sizeLine) (hd:(a == sysModules)=false) (rel:KV kvs vs) (dd:h'.DictOf (mixKind P w) a vs) :
  ObjOk P w H' h' a (.dK kvs):=⟨z,hd,vs,rel,dd⟩
theorem d_setItem {H':Hp} {Q:Unit→Shared→Prop} (hu:A.units + 1 < cLine) (I:Inv X pins σ H s) (g:DPut H a y v H') (ry:RelV y u) (rv:RelV v r) (h:∀ s',Inv X pins σ H' s'→Q () s') :
  wpAny (model X.prog X.w) A (setItem (.ref a) u r) Q E s:=by
 rcases g with ⟨kvs,k,e,ey,l,eH⟩ | ⟨kvs,k,b,e,ey,eb,l,eH⟩
 ·subst ey eH
  obtain ⟨z,hd,vs,rel,dd⟩:=dk_of I.hok e
  have hz:vs.length≤sizeLine:=by rw [← rel.length]; exact z
  have hl:(putK kvs k v).length≤sizeLine:=by have:=length_putK kvs k v; omega
  refine wpAny_setItem_pairs (hsz:=hz) (kV_is ry) dd fun h' dd' hs=>h _ ?_
  have he:∃ q,h'.get? a=some q:=let ⟨q,_,_,hq,_⟩:=dd'; ⟨q,hq⟩
  exact d_write I (by rw [e]; exact True.intro) hs he (dk_new hl hd (rel.put k rv) dd')
 ·subst ey eH
  cases (show u=Value.ref b from ry)
  obtain ⟨z,hd,xs,rel,dd⟩:=dt_of I.hok e
  have hz:xs.length≤sizeLine:=by rw [← Paired.length rel]; exact z
  have hl:(putK kvs k v).length≤sizeLine:=by have:=length_putK kvs k v; omega
  refine wpAny_setItem_heap (hsz:=hz) (tupleKind_room_in1 hu) (key_of I.hok eb) dd fun h' dd' hs=>h _ ?_
  obtain ⟨q,es,ep,hq,h2,h3,h4,_,h5⟩:=dd'
  refine d_write I (by rw [e]; exact True.intro) hs ⟨q,hq⟩ ⟨hl,hd,_,(rel.put k eb rv).keeps fun c ys ec=>?_,q,es,ep,hq,h2,h3,h4,h5⟩
  rw [upd_ne (ne_of ec e (fun z=>nomatch z))]
  exact ec
end
section
variable {X:Cx} {pins:List (Addr×Obj)} {σ:St} {H:Hp} {s:Shared} {a:Addr} {kvs:List (Key×V)} {k:Key} {u:Value} {A:Around} {E:Value→Shared→Prop}
theorem d_len {Q:Value→Shared→Prop} (I:Inv X pins σ H s) (e:Rd H a (.dK kvs)) (h:∀ t s',Inv X pins σ H s'→Q (.int kvs.length t) s'):wpAny (model X.prog X.w) A (call (.builtin "len") [.ref a]) Q E s:=by
 obtain ⟨z,hd,vs,rel,dd⟩:=dk_rd I.hok e
 refine call_len_dict hd dd (by rw [← rel.length]; rw [sizeLine_eq] at z; omega) ?_
 rw [← rel.length]
 exact h _ _ (I.tok _)
end
theorem dict_typeIs {X:Cx} {pins:List (Addr×Obj)} {σ:St} {H:Hp} {s:Shared} {a:Addr} {y:V} {o:Option V} (I:Inv X pins σ H s) (g:DGet H a y o):s.TypeIs (.ref a) "dict":=by
 rcases g with ⟨kvs,k,e,_,_⟩ | ⟨kvs,k,b,e,_,_,_⟩
 ·obtain ⟨_,_,vs,_,dd⟩:=dk_rd I.hok e
  exact dd.typeIs
 ·obtain ⟨_,_,xs,_,dd⟩:=dt_rd I.hok e
  exact dd.typeIs
noncomputable def sDPut (td ty tv:TE):TS:=fun D σ H=>tv σ H fun v H1=>td σ H1 fun x H2=>ty σ H2 fun y H3=>∃ a H4,x=.ref a∧DPut H3 a y v H4∧D.nx σ H4
section
variable {X:Cx} {o i e value:Expr} {pos pos' tpos:Pos} {td ty tv:TE}
theorem ps_dput (hu:X.A.units + 1 < cLine) (ho:PE X o td) (hi:PE X i ty) (hv:PE X value tv) (hs:swapsWith value (some (.Subscript o i pos')) pos.line X.env=pure false) :
  PS X (.Assign [.Subscript o i pos'] value pos) (sDPut td ty tv):=by
 intro pins s σ H D I h
 refine wpAny_Assign_Subscript (thn (hv pins s σ H _ I h) fun r s1 ⟨v,H1,I1,rv,q1⟩=>thn (ho pins s1 σ H1 _ I1 q1) fun u s2 ⟨x,H2,I2,rx,q2⟩=>thn (hi pins s2 σ H2 _ I2 q2) fun iv s3 ⟨y,H3,I3,ry,a,H4,ex,g,q3⟩=>?_) hs
 subst ex
 obtain rfl:u=Value.ref a:=rx
 exact d_setItem hu I3 g ry rv fun s4 I4=>⟨σ,H4,I4,q3⟩
end
theorem dk_empty {P:Program} {w:World} {H:Hp} (h:Heap) (hb:sysModules < h.objs.size):ObjOk P w H (h.push { cls:=.type "dict",data:=.dict #[] }) h.objs.size (.dK []):=
 ⟨Nat.zero_le _,beq_eq_false_iff_ne.mpr (Ne.symm (Nat.ne_of_lt hb)),[],.nil,Heap.DictOf.new h⟩
noncomputable def tDNewK:TE:=fun _ H Q=>∀ p,H p=none→Q (.ref p) (upd H p (.dK []))
section
variable {X:Cx} {pos:Pos}
theorem pe_dnewK:PE X (.Dict [] [] pos) tDNewK:=fun pins s σ H Q I h=>
 wpAny_Dict_empty ⟨.ref s.heap.objs.size,_,I.laid (a:=s.heap.objs.size) (o:=.dK []) (t':=s.toks) (fun _ _ q=>Heap.get?_push_of_some _ q) (Nat.le_refl _) (dk_empty s.heap I.big),rfl,h _ (I.hok.fresh (Nat.le_refl _))⟩
end
noncomputable def tPairs:List (TE×TE)→St→Hp→(List (V×V)→Hp→Prop)→Prop
 | [],_,H,Q=>Q [] H
 | (tk,tv)::r,σ,H,Q=>tk σ H fun x H1=>tv σ H1 fun y H2=>tPairs r σ H2 fun ps H3=>Q ((x,y)::ps) H3
noncomputable abbrev VV:List (V×V)→List (Value×Value)→Prop:=Paired fun p q=>RelV p.1 q.1∧RelV p.2 q.2
noncomputable def PPs (X:Cx) (pos:Pos) (keys:List (Option Expr)) (values:List Expr) (trs:List (TE×TE)):Prop:=
 ∀ (pins:List (Addr×Obj)) (s:Shared) (σ:St) (H:Hp) (Q:List (V×V)→Hp→Prop),Inv X pins σ H s→tPairs trs σ H Q →
  wpAny (model X.prog X.w) X.A (evalPairs (pairTrees keys values X.env pos)) (fun vs s'=>∃ ps H',Inv X pins σ H' s'∧VV ps vs∧Q ps H') X.xe s
structure M1 (X:Cx) (o:Expr) (m:Str) (apos:Pos) (e:Expr) (cpos:Pos):Prop where
 base:attributeBase o m X.env (eval o X.env)=eval o X.env
 few:((backTo cpos (starEach [e] X.env)).all (fun x=>!x.1) && (backToKw cpos (keywordEach [] X.env)).all (fun x=>x.1.isSome)
  && decide (([e]:List Expr).length + ([]:List Keyword).length + (if ([]:List Keyword).isEmpty then 0 else 1) < 30))=true
 line:(apos.endLine == cpos.line)=true
 trees:backTo cpos (starEach [e] X.env)=[(false,eval e X.env)]
structure M2 (X:Cx) (o:Expr) (m:Str) (apos:Pos) (e f:Expr) (cpos:Pos):Prop where
 base:attributeBase o m X.env (eval o X.env)=eval o X.env
 few:((backTo cpos (starEach [e,f] X.env)).all (fun x=>!x.1) && (backToKw cpos (keywordEach [] X.env)).all (fun x=>x.1.isSome)
  && decide (([e,f]:List Expr).length + ([]:List Keyword).length + (if ([]:List Keyword).isEmpty then 0 else 1) < 30))=true
 line:(apos.endLine == cpos.line)=true
 trees:backTo cpos (starEach [e,f] X.env)=[(false,eval e X.env),(false,eval f X.env)]
section
variable {X:Cx} {pins:List (Addr×Obj)} {σ:St} {H:Hp} {s:Shared} {a:Addr} {y d:V} {u r:Value} {o:Option V} {A:Around} {E:Value→Shared→Prop}
end
section
variable {X:Cx} {o e f:Expr} {apos cpos:Pos} {td ty tx:TE}
end
section
variable {X:Cx} {pins:List (Addr×Obj)} {σ:St} {H:Hp} {s:Shared} {a:Addr} {kvs:List (Key×V)} {A:Around} {E:Value→Shared→Prop}
end
section
variable {X:Cx} {pins:List (Addr×Obj)} {σ:St} {H:Hp} {s:Shared} {a:Addr} {y:V} {u:Value} {A:Around} {E:Value→Shared→Prop}
end
end L2
namespace Att
open PySem PySem.W PySem.Calls PyProof.Rows
theorem ints_of_wellAll {P:Params} {h:Heap}:∀ (ns:List Int) (vs:List Value),WellAll P h vs (ns.map WData.int)→IntsAre vs ns:=by
 intro ns
 induction ns with
 | nil=>
  intro vs w
  rw [List.map_nil] at w
  cases w
  exact .nil
 | cons n ns ih=>
  intro vs w
  rw [List.map_cons] at w
  cases w with
  | cons a b=>
   cases a
   exact .cons _ _ (ih _ b)
theorem script_of {l:OpenLaw} {n:Nat} (hn:l.most=some n) {P:Params} {h:Heap} {args:List WData} {vals:List Value}
  (hpre:l.row.toRowW.claim.pre args=true) (hwl:WellAll P h vals args) :
  ∃ a vs ns,vals=[Value.ref a]∧args=[WData.list (ns.map WData.int)]∧h.get? a=some { cls:=.type "list",data:=.seq vs.toArray }∧IntsAre vs ns∧ns.length≤n:=by
 have hsh:WShape.hasAll [] args [.list .int]=true:=(pre_splitW hpre).1
 have hc:l.pre.holds [] { args:=args } = true:=(pre_splitW hpre).2
 obtain ⟨d,r,rfl,h1,h2⟩:=hasAllW_cons hsh
 obtain rfl:=hasAllW_nil h2
 obtain ⟨xs,rfl,h3⟩:=hasW_list h1
 obtain ⟨ns,rfl⟩:=items_int h3
 have hlen:ns.length≤n:=by
  unfold OpenLaw.pre at hc
  have h4:(WTm.not (.lt (.lit (.int (n:Int))) (.len (.arg 0)))).holds [] { args:=[.list (ns.map .int)] } = true:=by
   have h4:=(holds_andW hc).1
   rw [hn] at h4
   exact h4
  have h5:=condW_of h4 (w_not (w_lt w_lit (w_len_list (w_arg rfl))))
  rw [List.length_map] at h5
  refine Nat.le_of_not_lt fun q=>?_
  have q':(n:Int) < ((ns.length:Nat):Int):=by omega
  first
   | (rw [decide_eq_true q'] at h5; exact absurd h5 (by decide))
   | (simp at h5; omega)
 cases hwl with
 | cons w1 w2=>
  cases w2
  cases w1 with
  | list ho hall=>exact ⟨_,_,ns,rfl,rfl,ho,ints_of_wellAll ns _ hall,hlen⟩
theorem post_true (l:OpenLaw) (args:List WData):l.row.toRowW.claim.post args (.bool true) args=true:=
 postW_of (r:=l.row.toRowW) (X:=(true == true))
  (show WShape.has [] (.bool true) .bool=true by first | rfl | decide | simp [WShape.has,WShape.arms,WShape.armsAll])
  (show (WTm.eq .res (.lit (.bool true))).value [] { args:=args,res:=some (.bool true),after:=args } = some (.bool (true == true)) from w_eq_bool (w_res rfl) w_lit) rfl
theorem attach_call {l:OpenLaw} {n:Nat} {q:Program} {loose:List Str} {XP:(Str→Option Value)→Heap→Prop} {YP:World→Heap→Prop} {d:DefRec}
  (hn:l.most=some n) (hdf:d.params.defaults=[])
  (call:∀ (w:World) (s₀ s₁:Shared) (mg mb:Str→Option Value) (fa:Addr) (o:Obj) (pm cd doc:Value) (a:Addr) (vs:List Value) (ns:List Int),
   Ground q loose [] XP w s₀ mg mb s₁.heap→YP w s₁.heap →
   s₁.heap.get? fa=some o→o.data=.func (docDef d.name d.params d.body d.scope pm cd doc)→s₁.heap.CodeRec cd d.name→mg d.name=some (.ref fa) →
   s₁.heap.get? a=some { cls:=.type "list",data:=.seq vs.toArray }→IntsAre vs ns→ns.length≤n→s₁.gens = #[] →
   codeAny (model l.prog w) callerA (.call (.ref fa) ⟨[.ref a],[]⟩) (fun r s'=>r=.ok (.ret (.bool true))∧OldK s₁.heap s'.heap∧s'.os=s₁.os∧AllBare s'.gens) s₁) :
  WalkO q loose XP YP l.row.toRowW d [] (fun f vs=>PySem.call f vs):=by
 intro w s₀ s₁ mg mb G Y fa o pm cd doc dV kV ho hd hcd hD hmg hg args vals as hpre hlay hrd hwl hlo
 obtain rfl:dV=.none:=Dflts.none hD hdf
 obtain rfl:kV=.none:=Dflts.noKw hD
 obtain ⟨a,vs,ns,rfl,rfl,hobj,hints,hlen⟩:=script_of hn hpre hwl
 refine enter_call (codeAny_mono (call w s₀ s₁ mg mb fa o pm cd doc a vs ns G Y ho (fd_plain hd) hcd hmg hobj hints hlen hg) fun r s' hq=>?_)
 obtain ⟨rfl,h2,h3,h4⟩:=hq
 exact ⟨.inl ⟨.bool true,.bool true,[],rfl,fun _=>rfl,.bool true,post_true l _,fun _=>⟨List.Pairwise.nil,fun _ hm=>(nomatch hm)⟩⟩,h2,h3,h4⟩
section
variable {prog:Program} {w:World} {A:Around} {E:Value→Shared→Prop} {s:Shared} {K:Frag}
end
end Att
namespace L2
open PySem PySem.Spec PyProof.Rows
theorem vals_ints:∀ {vs:List Value} {ns:List Int},IntsAre vs ns→Vals (ns.map V.int) vs
 | _,_,.nil=>.nil
 | _,_,.cons n t h=>.cons ⟨t,rfl⟩ (vals_ints h)
noncomputable def Only (H:Hp):Prop:=∀ b,H b=none∨∃ o xs,H b=some (.frz o (.lst xs))
theorem law_call {P:Program} {w:World} {K:PySem.W.Frag} {mg mb:Str→Option Value} {CX:CXT} {k:Nat} {fa a:Addr} {fd:FuncData} {x:Str} {sp:Sp} {s₁:Shared} {vs:List Value} {ns:List Int}
  (KX:K.In s₁.heap) (hns:s₁.heap.Ns mainGlobals mg) (hb:s₁.heap.Ns builtinsNs mb) (hbb:∀ x:Str,x≠"__name__"→mb x=bootBuiltins x) (hlim:s₁.heap.NoLimit) (hg:s₁.gens = #[])
  (ha:s₁.heap.get? a=some { cls:=.type "list",data:=.seq vs.toArray }) (hi:IntsAre vs ns) (hl:ns.length≤sizeLine) (hr:Room k callerA)
  (F:∀ base:Heap,K.In base→base.Ns mainGlobals mg→FnOk P w K mg base CX k fa fd [x] sp) (hbind:∀ (s:Shared) (u:Value),BindsTo s fd ⟨[u],[]⟩ [(x,u)])
  (hsp:∀ H:Hp,Only H→SqL K H a (ns.map V.int)→sp [.ref a] H (fun v _=>v=.bl true) fun _ _ _=>False)
  (hCX:∀ H e s',CX [] H s₁ (fun _ _ _=>False) e s'→False) :
  codeAny (model P w) callerA (.call (.ref fa) ⟨[.ref a],[]⟩) (fun r s'=>r=.ok (.ret (.bool true))∧OldK s₁.heap s'.heap∧s'.os=s₁.os∧AllBare s'.gens) s₁:=by
 have rv:=vals_ints hi
 have lenV:=hi.length
 have core:∀ H:Hp,Only H→SqL K H a (ns.map V.int)→HOk P w H s₁.heap→(∀ b,H b≠none→b=a)→(H a≠none→K.lookup a=none) →
   codeAny (model P w) callerA (.call (.ref fa) ⟨[.ref a],[]⟩) (fun r s'=>r=.ok (.ret (.bool true))∧OldK s₁.heap s'.heap∧s'.os=s₁.os∧AllBare s'.gens) s₁:=by
  intro H hO hS hok hA hK
  have base_of:∀ {b:Addr} {o:Obj},s₁.heap.get? b=some o→H b=none→(hidT s₁.heap H).get? b=some o:=fun e n=>hidT_get e n
  have noA:∀ {b:Addr} {o:Obj} {es:Array DictEntry} {ep:Nat},s₁.heap.get? b=some o→o.data=.dict es ep→H b=none:=fun {b o es ep} e d=>by
   cases q:H b with
   | none=>rfl
   | some u=>
    have e':b=a:=hA b (by rw [q]; simp)
    subst e'
    rw [ha] at e; cases e
    have d':Data.seq vs.toArray _=Data.dict es ep:=d
    cases d'
  have nsK:∀ {b:Addr} {m:Str→Option Value},s₁.heap.Ns b m→(hidT s₁.heap H).Ns b m:=fun {b m} ⟨o,es,ep,e,d,r⟩=>⟨o,es,ep,base_of e (noA e d),d,r⟩
  have hKb:K.In (hidT s₁.heap H):=fun b o e=>base_of (KX b o e) (by
   cases q:H b with
   | none=>rfl
   | some u=>
    have e':b=a:=hA b (by rw [q]; simp)
    subst e'
    rw [hK (by rw [q]; simp)] at e; cases e)
  have hM:Mod K mg (hidT s₁.heap H):=⟨hKb,nsK hns,⟨mb,nsK hb,hbb⟩,let ⟨mc,h1,h2⟩:=hlim; ⟨mc,nsK h1,h2⟩⟩
  have e0:Env0 P w K mg (hidT s₁.heap H) callerA [] s₁ H:=⟨rfl,hM,fun b o e=>of_hidT e,Nat.le_of_eq (hidT_size _ _),trivial,fun b hb=>absurd (show b∈([]:List Addr) from hb) (by simp),hok,.of_eq hg⟩
  refine codeAny_mono ((F _ hKb (nsK hns)).run callerA [] s₁ H ⟨[.ref a],[]⟩ [.ref a] [.ref a] _ _ hr e0 (hbind s₁ (.ref a)) (.cons rfl .nil) (hsp H hO hS)) fun r s' h=>?_
  cases r with
  | error e=>exact (hCX H e s' h).elim
  | ok fl=>
   cases fl with
   | next=>exact False.elim h
   | brk=>exact False.elim h
   | cont=>exact False.elim h
   | ret u=>
    obtain ⟨v,H',os,bare,un,hok',r',q⟩:=h
    have q':v=.bl true:=q
    subst q'
    obtain rfl:u=Value.bool true:=r'
    refine ⟨rfl,OldK.of_keep fun b o e=>?_,os,bare⟩
    cases q:H b with
    | none=>exact un.keep b o e q (by intro z; exact absurd (show b∈([]:List Addr) from z) (by simp)) (by simp)
    | some u=>
     rcases hO b with z | ⟨ob,xs,z⟩
     ·rw [q] at z; cases z
     ·have z2:=un.frzs b ob _ z
      obtain ⟨e1,_⟩:=hok b _ z
      obtain ⟨e2,_⟩:=hok' b _ z2
      rw [e] at e1; cases e1
      exact e2
 cases hk:K.lookup a with
 | some o=>
  have e:=KX a o hk
  rw [ha] at e
  cases e
  refine core (fun _=>none) (fun _=>.inl rfl) (.inr ⟨_,vs.toArray,_,hk,rfl,rfl,rfl,by rw [List.size_toArray,lenV]; exact hl,by simpa using rv⟩) (fun b u z=>by have z':(none:Option HO)=some u:=z; cases z') (fun b z=>absurd rfl z) fun z=>absurd rfl z
 | none=>
  refine core (fun b=>if b=a then some (.frz { cls:=.type "list",data:=.seq vs.toArray } (.lst (ns.map V.int))) else none) (fun b=>?_) (.inl (.inr ⟨{ cls:=.type "list",data:=.seq vs.toArray },if_pos rfl⟩)) (fun b u z=>?_) (fun b z=>?_) fun _=>hk
  ·by_cases hb:b=a
   ·exact .inr ⟨_,_,if_pos hb⟩
   ·exact .inl (if_neg hb)
  ·by_cases hb:b=a
   ·have z':=(if_pos hb).symm.trans z
    cases z'
    subst hb
    exact ⟨ha,by rw [List.length_map]; exact hl,vs,_,rv,ha⟩
   ·have z':=(if_neg hb).symm.trans z
    cases z'
  ·by_cases hb:b=a
   ·exact hb
   ·exact absurd (if_neg hb) z
end L2
namespace L2
open PySem PySem.Spec PyProof.Rows
theorem walk_of {l:PySem.W.OpenLaw} {n k:Nat} {q:Program} {loose:List Str} {XP:(Str→Option Value)→Heap→Prop} {YP:World→Heap→Prop} {d:DefRec} {K:Params→PySem.W.Frag} {CX:World→CXT} {sp:World→Sp} {x:Str}
  (hn:l.most=some n) (hn2:n≤sizeLine) (hdf:d.params.defaults=[]) (hr:Room k callerA)
  (hY:∀ (w:World) (h:Heap),YP w h→(K w.params).In h)
  (F:∀ (w:World) (mg:Str→Option Value) (fa:Addr) (h:Heap),(K w.params).In h→h.Ns mainGlobals mg→mg d.name=some (.ref fa) →
   ∃ fd:FuncData,(∀ (s:Shared) (u:Value),BindsTo s fd ⟨[u],[]⟩ [(x,u)]) ∧
    ∀ base:Heap,(K w.params).In base→base.Ns mainGlobals mg→FnOk l.prog w (K w.params) mg base (CX w) k fa fd [x] (sp w))
  (hsp:∀ (w:World) (H:Hp) (a:Addr) (ns:List Int),ns.length≤n→Only H→SqL (K w.params) H a (ns.map V.int)→sp w [.ref a] H (fun v _=>v=.bl true) fun _ _ _=>False)
  (hCX:∀ (w:World) (H:Hp) (s:Shared) (e:Value) (s':Shared),CX w [] H s (fun _ _ _=>False) e s'→False) :
  PySem.W.WalkO q loose XP YP l.row.toRowW d [] (fun f vs=>PySem.call f vs):=by
 refine Att.attach_call hn hdf fun w s₀ s₁ mg mb fa o pm cd doc a vs ns G Y ho hd hcd hmg hobj hints hlen hg=>?_
 have KX:=hY w _ Y
 obtain ⟨fd,hb,hF⟩:=F w mg fa _ KX G.T.g hmg
 exact law_call KX G.T.g G.T.b G.T.builtins G.T.nolimit hg hobj hints (Nat.le_trans hlen hn2) hr hF hb (fun H hO hS=>hsp w H a ns hlen hO hS) fun H e s'=>hCX w H s₁ e s'
end L2
namespace L2
open PySem PySem.Spec PyProof.Rows
noncomputable def defArgs (s:Stmt):Arguments:=match s with
 | .FunctionDef _ a _ _ _ _ _ _ _ _=>a
 | _=>{ posonlyargs:=[],args:=[],vararg:=none,kwonlyargs:=[],kw_defaults:=[],kwarg:=none,defaults:=[] }
noncomputable def defBody (s:Stmt):List Stmt:=match s with
 | .FunctionDef _ _ b _ _ _ _ _ _ _=>b
 | _=>[]
noncomputable def defScope (s:Stmt):Scope:=match s with
 | .FunctionDef _ _ _ _ _ _ sc _ _ _=>sc
 | _=>{ kind:=.function,names:=[],isGenerator:=false,isCoroutine:=false }
noncomputable abbrev CX0:CXT:=fun _ _ _ _ _ _=>False
noncomputable abbrev E0:XK:=fun _ _ _=>False
theorem pass0 {X:Cx}:Passes CX0 X E0:=fun _ _ _ _ _ _ _ h=>h.elim
structure Fun (K:PySem.W.Frag) (x qual:Str) (st:Stmt) (f:Addr) (fd:FuncData):Prop where
 ex:∃ (oc:Value) (od:Option Addr) (kV doc pm:Value) (an:Option Addr) (cdv ct:Value) (osl:Array (Option Value)),
  fd=PySem.W.fnOf x qual (defArgs st) (defBody st) (defScope st) .none kV doc pm an cdv ct∧K.lookup f=some ⟨oc,od,.func fd,osl⟩∧PySem.W.codeIn K cdv qual=true
 kp:PySem.W.keepIn K (.ref f)=true
section
variable {P:Program} {w:World} {K:PySem.W.Frag} {mg:Str→Option Value} {base:Heap}
theorem Fun.ok {x qual:Str} {st:Stmt} {f:Addr} {fd:FuncData} {N ps:List Str} {k:Nat} {sp:Sp} (F:Fun K x qual st f fd) (S:FnScope N ps (defScope st)) (len:∀ vs H Q E,sp vs H Q E→vs.length=ps.length)
  (hbody:∀ (cdv:Value) (A:Around) (outer:List Env) (s:Shared) (H:Hp) (vs:List V) (Q:VK) (E:XK),Room k (A.deeper (envOfC qual (defScope st) s.heap.objs.size f cdv))→sp vs H Q E →
   ∃ t,PSs (cxOf CX0 P w K mg base N qual (defScope st) f cdv A outer s H E).nox (defBody st) t∧t { nx:=fun _ H'=>Q .non H',rt:=Q } (start N vs) H):FnOk P w K mg base CX0 (k + 1) f fd ps sp:=by
 obtain ⟨oc,od,kV,doc,pm,an,cdv,ct,osl,rfl,lk,hcd⟩:=F.ex
 refine fn_of lk hcd S len fun A outer s H vs Q E hr hsp=>?_
 obtain ⟨t,h,q⟩:=hbody cdv A outer s H vs Q E hr hsp
 exact ⟨t,h.nox,q⟩
theorem Fun.binds {x qual:Str} {st:Stmt} {f:Addr} {fd:FuncData} {ps:List Str} (F:Fun K x qual st f fd)
  (h:∀ (kV doc pm:Value) (an:Option Addr) (cdv ct:Value) (us:List Value),us.length=ps.length→bindArgs (PySem.W.fnOf x qual (defArgs st) (defBody st) (defScope st) .none kV doc pm an cdv ct) ⟨us,[]⟩=pure (ps.zip us)):Binds K fd ps []:=by
 obtain ⟨oc,od,kV,doc,pm,an,cdv,ct,osl,rfl,lk,hcd⟩:=F.ex
 exact .all (h kV doc pm an cdv ct)
theorem fun_mk {x qual:Str} {st:Stmt} {f:Addr} {oc:Value} {od an:Option Addr} {osl:Array (Option Value)} {kV doc pm cdv ct:Value} (l:K.lookup f=some ⟨oc,od,.func (PySem.W.fnOf x qual (defArgs st) (defBody st) (defScope st) .none kV doc pm an cdv ct),osl⟩)
  (c:PySem.W.codeIn K cdv qual=true) (k:PySem.W.keepIn K (.ref f)=true):Fun K x qual st f (PySem.W.fnOf x qual (defArgs st) (defBody st) (defScope st) .none kV doc pm an cdv ct):=⟨⟨oc,od,kV,doc,pm,an,cdv,ct,osl,rfl,l,c⟩,k⟩
end
theorem hu_of {A:Around} {k:Nat} (hr:Room k A):A.units + 1 < cLine:=Nat.lt_of_le_of_lt (Nat.add_le_add_left (by decide:1≤64) _) hr.units
section
variable {X:Cx}
theorem pv (i:Nat) {x:Str} {pos:Pos} (hN:X.N[i]? = some x:=by rfl) (hv:Vis X.env.scope x:=by first | exact Or.inl rfl | exact Or.inr (Or.inl rfl) | exact Or.inr (Or.inr rfl)) (hd:(x == ("__debug__" : Str))=false:=by decide)
  (hcd:(x == ("__classdict__" : Str))=false:=by decide):PE X (.Name x pos) (tVar i):=pe_var hN hv hd hcd
end
theorem iteF {A B:Prop} (h:B):if false=true then A else B:=by
 rw [if_neg Bool.false_ne_true]
 exact h
theorem iteT {A B:Prop} (h:A):if true=true then A else B:=by
 rw [if_pos rfl]
 exact h
noncomputable def Same (H H':Hp):Prop:=∀ b o,H b=some o→H' b=some o
theorem Same.refl (H:Hp):Same H H:=fun _ _ h=>h
theorem Same.trans {H H1 H2:Hp} (a:Same H H1) (b:Same H1 H2):Same H H2:=fun c o h=>b c o (a c o h)
theorem Same.free {H H':Hp} (e:Same H H') {l:Addr} (h:H' l=Option.none):H l=Option.none:=by
 cases q:H l with
 | none=>rfl
 | some o=>
  rw [e l o q] at h
  cases h
theorem Same.seq {K:PySem.W.Frag} {H H':Hp} {a:Addr} {xs:List V} (e:Same H H') (h:SqL K H a xs):SqL K H' a xs:=by
 rcases h with (h | ⟨o,h⟩) | h
 ·exact .inl (.inl (e _ _ h))
 ·exact .inl (.inr ⟨o,e _ _ h⟩)
 ·exact .inr h
end L2
set_option maxHeartbeats 4000000
namespace K1
open PySem
noncomputable def has (signs x:Str):Bool:=x.cps.toList.all fun c=>decide (c∈signs.cps.toList)
noncomputable def maxFrom (best:Int):List Int→Int
 | []=>best
 | n::r=>maxFrom (if n > best then n else best) r
noncomputable def maxD (d:Int):List Int→Int
 | []=>d
 | n::r=>maxFrom n r
end K1
namespace L2
open PySem
noncomputable def closOf (env:Env):List (Str×NameKind)→List (Str×Addr)→List (Str×Addr)
 | [],acc=>acc
 | (n,k)::r,acc=>closOf env r (if (k == .free)=true then (n,(env.cells.lookup n).getD 0)::acc else acc)
theorem clos_fold {env:Env}:∀ (l:List (Str×NameKind)) (acc:List (Str×Addr)),(∀ x∈l,x.2=.free→∃ c,env.cells.lookup x.1=some c) →
  (forIn l acc (fun x r=>match x with
   | (name,kind)=>if (kind == NameKind.free)=true then (do
     let c ← cellOf env name
     pure (ForInStep.yield ((name,c)::r))) else pure (ForInStep.yield r)):Sem (List (Str×Addr)))=pure (closOf env l acc)
 | [],acc,_=>rfl
 | (n,k)::r,acc,h=>by
  rw [List.forIn_cons]
  have hr:∀ x∈r,x.2=.free→∃ c,env.cells.lookup x.1=some c:=fun x hx=>h x (List.mem_cons_of_mem _ hx)
  cases hk:(k == NameKind.free) with
  | false=>
   have ih:=clos_fold r acc hr
   have e:closOf env ((n,k)::r) acc=closOf env r acc:=by simp [closOf,hk]
   rw [e]
   dsimp only
   rw [if_neg (by rw [hk]; exact Bool.false_ne_true)]
   exact ih
  | true=>
   obtain ⟨c,hc⟩:=h (n,k) List.mem_cons_self (by simpa using hk)
   have ih:=clos_fold r ((n,c)::acc) hr
   have hc':env.cells.lookup n=some c:=hc
   have e:closOf env ((n,k)::r) acc=closOf env r ((n,c)::acc):=by simp [closOf,hk,hc']
   have e2:cellOf env n=pure c:=by unfold cellOf; rw [hc']
   rw [e]
   dsimp only
   rw [if_pos hk,e2]
   exact ih
theorem closure_eq {scope:Scope} {env:Env} (h:∀ x∈scope.names,x.2=.free→∃ c,env.cells.lookup x.1=some c):closureFor scope env=pure (closOf env scope.names []):=by
 have q:=clos_fold (env:=env) scope.names [] h
 unfold closureFor
 exact congrArg (fun t=>t >>= fun z=>pure z) q
theorem closOf_look {env:Env}:∀ (l:List (Str×NameKind)) (acc:List (Str×Addr)) (x:Str) (c:Addr),(∀ y d,acc.lookup y=some d→env.cells.lookup y=some d) →
  (∀ y∈l,y.2=.free→∃ c,env.cells.lookup y.1=some c)→(closOf env l acc).lookup x=some c→env.cells.lookup x=some c
 | [],acc,x,c,ha,_,e=>ha x c e
 | (n,k)::r,acc,x,c,ha,h,e=>by
  have hr:∀ x∈r,x.2=.free→∃ c,env.cells.lookup x.1=some c:=fun x hx=>h x (List.mem_cons_of_mem _ hx)
  refine closOf_look r _ x c ?_ hr e
  intro y d q
  cases hk:(k == NameKind.free) with
  | false=>rw [hk,if_neg Bool.false_ne_true] at q; exact ha y d q
  | true=>
   rw [hk,if_pos rfl] at q
   obtain ⟨c',hc⟩:=h (n,k) List.mem_cons_self (by simpa using hk)
   have hc':env.cells.lookup n=some c':=hc
   rw [List.lookup_cons] at q
   by_cases z:y=n
   ·subst z
    simp [hc'] at q
    rw [hc',q]
   ·have z':(y == n)=false:=beq_eq_false_iff_ne.mpr z
    rw [z'] at q
    exact ha y d q
theorem closOf_acc {env:Env}:∀ (l:List (Str×NameKind)) (acc:List (Str×Addr)) (x:Str),(acc.lookup x).isSome=true→((closOf env l acc).lookup x).isSome=true
 | [],_,_,h=>h
 | (n,k)::r,acc,x,h=>by
  refine closOf_acc r _ x ?_
  cases hk:(k == NameKind.free) with
  | false=>rw [if_neg Bool.false_ne_true]; exact h
  | true=>
   rw [if_pos rfl,List.lookup_cons]
   cases z:(x == n) with
   | true=>rfl
   | false=>exact h
theorem closOf_has {env:Env}:∀ (l:List (Str×NameKind)) (acc:List (Str×Addr)) (x:Str),(x,NameKind.free)∈l→((closOf env l acc).lookup x).isSome=true
 | [],_,_,h=>absurd h (by simp)
 | (n,k)::r,acc,x,h=>by
  rcases List.mem_cons.mp h with e | e
  ·cases e
   refine closOf_acc r _ _ ?_
   rw [if_pos (by decide),List.lookup_cons]
   simp
  ·exact closOf_has r _ x e
end L2
namespace L2
open PySem PySem.Spec PyProof.Rows
structure CS (osc:Scope) (N:List Str) (x:Str) (scope:Scope) (N':List Str):Prop where
 kind:scope.kind=.function
 nocell:∀ y∈scope.names,y.2≠.cell
 names:∀ y∈scope.names,y.2=.local→scope.names.lookup y.1=some .local
 hx:scope.names.lookup x=some .local
 only:∀ y∈scope.names,y.2=.local→y.1=x∨y.1 = ".0"
 free:∀ y∈scope.names,y.2=.free→osc.names.lookup y.1=some .cell∨osc.names.lookup y.1=some .free
 nd:(x::N').Nodup
 n0:(".0" : Str)∉N'
 len:N'.length=N.length
 rel:∀ p∈N'.zip N,p.1=p.2∨∀ q∈scope.names,q.1≠p.1
theorem CS.at {osc:Scope} {N N':List Str} {x:Str} {scope:Scope} (S:CS osc N x scope N') {j:Nat} {y:Str} (h:N'[j]? = some y):N[j]? = some y∨∀ q∈scope.names,q.1≠y:=by
 have hl:j < N'.length:=(List.getElem?_eq_some_iff.mp h).1
 have hl2:j < N.length:=by rw [← S.len]; exact hl
 have m:(N'.zip N)[j]? = some (y,N[j]):=by
  rw [List.getElem?_zip_eq_some]
  exact ⟨h,List.getElem?_eq_getElem hl2⟩
 rcases S.rel _ (List.mem_of_getElem? m) with z | z
 ·left
  rw [List.getElem?_eq_getElem hl2]
  exact congrArg some z.symm
 ·exact .inr z
theorem look_map {c:Str×NameKind→Bool}:∀ {names:List (Str×NameKind)} {y:Str} {k':NameKind},
  (names.map fun p=>if (p.2 == NameKind.free && c p)=true then (p.1,NameKind.cell) else (p.1,p.2)).lookup y=some k'→∃ k,(y,k)∈names∧(k'=k∨(k=.free∧k'=.cell))
 | [],_,_,h=>by simp at h
 | (n,k)::r,y,k',h=>by
  rw [List.map_cons] at h
  by_cases hy:y=n
  ·subst hy
   cases hc:(k == NameKind.free && c (y,k)) with
   | false=>
    simp only [hc,Bool.false_eq_true,if_false,List.lookup_cons,beq_self_eq_true] at h
    cases h
    exact ⟨k,List.mem_cons_self,.inl rfl⟩
   | true=>
    simp only [hc,if_true,List.lookup_cons,beq_self_eq_true] at h
    cases h
    have e:k=.free:=by
     have:=(Bool.and_eq_true _ _).mp hc
     simpa using this.1
    exact ⟨k,List.mem_cons_self,.inr ⟨e,rfl⟩⟩
  ·have hb:(y == n)=false:=beq_eq_false_iff_ne.mpr hy
   have h':(r.map fun p=>if (p.2 == NameKind.free && c p)=true then (p.1,NameKind.cell) else (p.1,p.2)).lookup y=some k':=by
    cases hc:(k == NameKind.free && c (n,k)) with
    | false=>simp only [hc,Bool.false_eq_true,if_false,List.lookup_cons,hb] at h; exact h
    | true=>simp only [hc,if_true,List.lookup_cons,hb] at h; exact h
   obtain ⟨k2,m,e⟩:=look_map h'
   exact ⟨k2,List.mem_cons_of_mem _ m,e⟩
theorem look_relabel {scope:Scope} {env:Env} {y:Str} {k':NameKind} (h:(relabel scope env).names.lookup y=some k'):∃ k,(y,k)∈scope.names∧(k'=k∨(k=.free∧k'=.cell)):=by
 refine look_map (c:=fun p=>env.scope.kind == .function && env.kindOf p.1 == some .cell) ?_
 rw [← h]
 unfold relabel
 congr 1
 refine List.map_congr_left fun p _=>?_
 obtain ⟨n,k⟩:=p
 simp only [Bool.and_assoc]
noncomputable abbrev compCx (X:Cx) (x:Str) (scope:Scope) (C:Addr) (s0:Shared) (H0:Hp) (ex:List Addr) (N':List Str):Cx where
 prog:=X.prog
 w:=X.w
 K:=X.K
 mg:=X.mg
 base:=X.base
 A:=X.A
 N:=x::N'
 s₀:=s0
 H₀:=H0
 env:=compEnvC scope (closOf X.env scope.names []) C X.env
 outer:=X.stack
 stack:=X.stack
 ex:=ex
 fn:=fun _=>false
 calm:=X.calm
 pn:=[]
 xe:=fun _ _=>False
section
variable {X:Cx} {pins:List (Addr×Obj)} {σ:St} {H:Hp} {s:Shared} {x:Str} {scope:Scope} {N':List Str}
theorem free_has (I:Inv X pins σ H s) (S:CS X.env.scope X.N x scope N'):∀ y∈scope.names,y.2=.free→∃ c,X.env.cells.lookup y.1=some c:=fun y hy e=>
 I.ok.has y.1 (S.free y hy e)
theorem clos_look (I:Inv X pins σ H s) (S:CS X.env.scope X.N x scope N') {y:Str} {c:Addr} (e:(closOf X.env scope.names []).lookup y=some c):X.env.cells.lookup y=some c:=
 closOf_look scope.names [] y c (fun _ _ z=>by simp at z) (free_has I S) e
theorem clos_has (I:Inv X pins σ H s) (S:CS X.env.scope X.N x scope N') {y:Str} (e:(y,NameKind.free)∈scope.names):∃ c,(closOf X.env scope.names []).lookup y=some c∧X.env.cells.lookup y=some c:=by
 obtain ⟨c,hc⟩:=Option.isSome_iff_exists.mp (closOf_has (env:=X.env) scope.names [] y e)
 exact ⟨c,hc,clos_look I S hc⟩
theorem comp_enter {fp:List Addr} {h':Heap} {m:Str→Option Value} {tk:Nat} {oD oC:Obj} (I:Inv X pins σ H s) (S:CS X.env.scope X.N x scope N') (hf:∀ b∈fp,FpOk X pins H b) (ho:∀ b∈fp,∃ o,s.heap.get? b=some o)
  (hns:h'.Ns (s.heap.push oD).objs.size m) (hsb:Heap.SameBut (s.heap.push oD).objs.size ((s.heap.push oD).push oC) h') :
  Inv (compCx X x scope (s.heap.push oD).objs.size { s with heap:=s.heap.push oD } H (s.heap.objs.size::fp) N') [] (none::σ) H { s with heap:=h',toks:=tk }:=by
 have I3:Inv X pins σ H { s with heap:=s.heap.push oD,toks:=s.toks }:=I.kept fun b o e=>Heap.get?_push_of_some _ e
 have hC:(s.heap.push oD).objs.size=s.heap.objs.size + 1:=Heap.size_push ..
 have up3:∀ b o,(s.heap.push oD).get? b=some o→h'.get? b=some o:=fun b o e=>
  (hsb.2 b (Nat.ne_of_lt (Heap.lt_size e))).trans (Heap.get?_push_of_some _ e)
 have up:∀ b o,s.heap.get? b=some o→h'.get? b=some o:=fun b o e=>up3 b o (Heap.get?_push_of_some _ e)
 have cl:=fun {y c} e=>clos_look (y:=y) (c:=c) I S e
 have clt:∀ y c,X.env.cells.lookup y=some c→c < s.heap.objs.size:=fun y c e=>let ⟨v,q⟩:=I.cell y c e; q.lt
 have inner:∀ {y:Str} {k':NameKind},(relabel scope X.env).names.lookup y=some k'→(k'=.cell∨k'=.free)→(y,NameKind.free)∈scope.names:=fun {y k'} e hk=>by
  obtain ⟨k,mem,r⟩:=look_relabel e
  rcases r with r | ⟨r,_⟩
  ·rcases hk with z | z
   ·exact absurd (r.symm.trans z) (S.nocell _ mem)
   ·rw [← r.symm.trans z]; exact mem
  ·rw [← r]; exact mem
 have ok:(compCx X x scope (s.heap.push oD).objs.size { s with heap:=s.heap.push oD } H (s.heap.objs.size::fp) N').Ok:=by
  refine ⟨I.ok.mod,S.kind,I.ok.glob,I.ok.blt,Nat.le_refl _,fun y z c e1 e2=>I.ok.inj y z c (cl e1) (cl e2),fun y hk=>?_,fun y c e=>(nomatch e),I.ok.hd,I.ok.frames,.inl rfl,fun b hb=>?_,fun b o e=>?_,
   Nat.le_trans (Nat.le_trans I.ok.bsz I.sz) (by show s.heap.objs.size≤(s.heap.push oD).objs.size; omega),fun b o e hb=>?_,fun b hb z=>?_,I3.stack,I.stkFree⟩
  ·have mem:(y,NameKind.free)∈scope.names:=by
    rcases hk with z | z
    ·exact inner z (.inl rfl)
    ·exact inner z (.inr rfl)
   obtain ⟨c,hc,_⟩:=clos_has I S mem
   exact ⟨c,hc⟩
  ·rcases List.mem_cons.mp hb with e | e
   ·subst e
    exact ⟨by show s.heap.objs.size≠(s.heap.push oD).objs.size; omega,fun y c e=>Nat.ne_of_lt (clt y c (cl e))⟩
   ·obtain ⟨o,q⟩:=ho b e
    have q2:=Heap.lt_size q
    exact ⟨by show b≠(s.heap.push oD).objs.size; rw [hC]; exact Nat.ne_of_lt (Nat.lt_succ_of_lt q2),fun y c e'=>(hf b e).2.2.2.2.1 y c (cl e')⟩
  ·exact ⟨Heap.get?_push_of_some _ (I.bs b o e).1,(I.bs b o e).2⟩
  ·rcases List.mem_cons.mp hb with z | z
   ·have q2:=Heap.lt_size (I.bs b o e).1
    rw [z] at q2
    exact Nat.lt_irrefl _ q2
   ·rcases (hf b z).2.2.2.1 with q | q
    ·exact I.ok.noex b o e q
    ·have q2:=Heap.lt_size (I.ok.bs b o e).1
     exact Nat.lt_irrefl _ (Nat.lt_of_lt_of_le q2 q)
  ·have z':=I.stkSub b z
   rcases List.mem_cons.mp hb with e | e
   ·subst e
    rcases List.mem_cons.mp z' with q | q
    ·have q2:=I.lt
     rw [← q] at q2
     exact Nat.lt_irrefl _ q2
    ·exact I.nofs (Nat.le_refl _) q
   ·rcases List.mem_cons.mp z' with q | q
    ·exact (hf b e).2.1 q
    ·exact (hf b e).2.2.1 q
 obtain ⟨mo,hno,hlo⟩:=I.loc
 refine ⟨ok,rfl,I.bare,Un.kept up3,⟨m,hns,fun i y v e1 e2 e3=>?_⟩,fun y c e=>?_,I.hok.fresh (by show s.heap.objs.size≤(s.heap.push oD).objs.size; omega),fun y c e=>I.freeC y c (cl e),fun p hp=>absurd hp (by simp),I.hok.kept up,?_⟩
 ·cases i with
  | zero=>simp at e2
  | succ j=>
   have e1n:N'[j]? = some y:=by simpa using e1
   have vis:∃ k,(y,k)∈scope.names:=by
    rcases (show Vis (relabel scope X.env) y from e3) with z | z | z <;> exact let ⟨k,mem,_⟩:=look_relabel z; ⟨k,mem⟩
   have e1':X.N[j]? = some y:=by
    rcases S.at e1n with z | z
    ·exact z
    ·obtain ⟨k,mem⟩:=vis
     exact absurd rfl (z _ mem)
   have e2':σ[j]? = some (some v):=by simpa using e2
   have yx:y≠x:=fun z=>by
    have nd:=S.nd
    rw [List.nodup_cons] at nd
    refine nd.1 ?_
    rw [← z]
    exact List.mem_of_getElem? e1n
   have kin:((relabel scope X.env).names.lookup y=some .cell∨(relabel scope X.env).names.lookup y=some .free):=by
    rcases (show Vis (relabel scope X.env) y from e3) with z | z | z
    ·obtain ⟨k,mem,r⟩:=look_relabel z
     rcases r with r | ⟨_,r⟩
     ·rcases S.only _ mem r.symm with z2 | z2
      ·exact absurd z2 yx
      ·exact absurd (List.mem_of_getElem? e1n) (by rw [show y=(".0" : Str) from z2]; exact S.n0)
     ·cases r
    ·exact .inl z
    ·exact .inr z
   have mem:(y,NameKind.free)∈scope.names:=by
    rcases kin with z | z
    ·exact inner z (.inl rfl)
    ·exact inner z (.inr rfl)
   have vo:Vis X.env.scope y:=by
    rcases S.free _ mem rfl with z | z
    ·exact .inr (.inl z)
    ·exact .inr (.inr z)
   obtain ⟨u,ru,lk⟩:=hlo j y v e1' e2' vo
   refine ⟨u,ru,.inr ⟨kin,?_⟩⟩
   obtain ⟨c,hc,hc'⟩:=clos_has I S mem
   refine ⟨c,hc,?_⟩
   rcases lk with ⟨z,_⟩ | ⟨_,c2,z2,q⟩
   ·exfalso
    have z':X.env.scope.names.lookup y=some .local:=z
    rcases S.free _ mem rfl with r | r <;> (rw [z'] at r; cases r)
   ·rw [hc'] at z2
    cases z2
    obtain ⟨o,q1,q2⟩:=q
    exact ⟨o,up _ _ q1,q2⟩
 ·obtain ⟨v,o,q1,q2⟩:=I.cell y c (cl e)
  exact ⟨v,o,up _ _ q1,q2⟩
 ·have:=I.len
  simp [this,S.len]
theorem comp_leave {fp:List Addr} {σ':St} {pins':List (Addr×Obj)} {H1:Hp} {s1:Shared} {h':Heap} {C:Addr} {oD:Obj} {ys:List V} (I:Inv X pins σ H s) (hf:∀ b∈fp,FpOk X pins H b)
  (hCd:C=(s.heap.push oD).objs.size) (J:Inv (compCx X x scope C { s with heap:=s.heap.push oD } H (s.heap.objs.size::fp) N') pins' σ' H1 s1) (hsb:Heap.SameBut C s1.heap h') (hD0:H1 s.heap.objs.size=none)
  (new:∃ its n,Vals ys its∧s1.heap.get? s.heap.objs.size=some { cls:=.type "list",data:=.seq its.toArray n }) (hz:ys.length≤sizeLine) :
  Inv X pins σ (upd H1 s.heap.objs.size (.lst ys)) { s1 with heap:=h' }:=by
 have hC:C=s.heap.objs.size + 1:=by rw [hCd]; exact Heap.size_push ..
 have nD:∀ b o,s.heap.get? b=some o→b≠s.heap.objs.size:=fun b o e=>Nat.ne_of_lt (Heap.lt_size e)
 have nC:∀ b o,s.heap.get? b=some o→b≠C:=fun b o e=>by rw [hC]; exact Nat.ne_of_lt (Nat.lt_succ_of_lt (Heap.lt_size e))
 have up:∀ b o,s.heap.get? b=some o→(s.heap.push oD).get? b=some o:=fun b o e=>Heap.get?_push_of_some _ e
 have nx:∀ b,b∉fp→b≠s.heap.objs.size→b∉s.heap.objs.size::fp:=fun b h1 h2 z=>(List.mem_cons.mp z).elim h2 h1
 have hDC:s.heap.objs.size≠C:=by rw [hC]; exact Nat.ne_of_lt (Nat.lt_succ_self _)
 have tr:∀ b u,H1 b=some u→b≠s.heap.objs.size:=fun b u e z=>by rw [z,hD0] at e; cases e
 have trC:∀ b u,H1 b=some u→b≠C:=fun b u e z=>by
  have:=J.free
  rw [z] at e
  have q:H1 C=none:=J.free
  rw [q] at e; cases e
 obtain ⟨its,n,rv,eD⟩:=new
 have B:Un (frs X.stack) (s.heap.objs.size::fp) H H1 (s.heap.push oD) s1.heap:=J.base
 refine I.call' (s':={ s1 with heap:=h' }) (ch:=fp) J.os ⟨fun b o e q h1 h2=>?_,fun b o e q h1 h2=>?_,fun b o e q h2=>?_,fun b o e h2=>?_,fun b xs e=>?_,fun b o u e=>?_,fun b ps e=>?_⟩ (fun b u e=>?_) J.bare fun b hb=>?_
 ·exact (hsb.2 b (nC b o e)).trans (B.keep b o (up b o e) q h1 (nx b h2 (nD b o e)))
 ·obtain ⟨sl,z⟩:=B.slot b o (up b o e) q h1 (nx b h2 (nD b o e))
  exact ⟨sl,(hsb.2 b (nC b o e)).trans z⟩
 ·rw [upd_ne (nD b o e)]
  exact B.free b o (up b o e) q (nx b h2 (nD b o e))
 ·obtain ⟨o',z⟩:=B.there b o (up b o e) (nx b h2 (nD b o e))
  exact ⟨o',(hsb.2 b (nC b o e)).trans z⟩
 ·have z:=B.tups b xs e
  rw [upd_ne (tr b _ z)]; exact z
 ·have z:=B.frzs b o u e
  rw [upd_ne (tr b _ z)]; exact z
 ·obtain ⟨more,z⟩:=B.tbls b ps e
  exact ⟨more,by rw [upd_ne (tr b _ z)]; exact z⟩
 ·by_cases hb:b=s.heap.objs.size
  ·subst hb
   rw [upd_same] at e
   cases e
   exact ⟨hz,its,n,rv,(hsb.2 _ hDC).trans eD⟩
  ·rw [upd_ne hb] at e
   refine (J.hok b u e).stay (fun c v hc q=>(hsb.2 c ?_).trans q) (fun c q=>by rw [upd_ne (tr c _ q)]; exact q) fun c xs q=>by rw [upd_ne (tr c _ q)]; exact q
   rcases hc with z | z
   ·rw [z]; exact trC b u e
   ·exact trC c _ z
 ·obtain ⟨_,f1,_,f3,f4,f5⟩:=hf b hb
  exact ⟨f3,f1,f4,f5⟩
end
noncomputable def PTs (X:Cx) (ifs:List Expr) (t:TT):Prop:=
 ∀ (pins:List (Addr×Obj)) (s:Shared) (σ:St) (H:Hp) (Q:Bool→Hp→Prop) (E:Value→Shared→Prop),Inv X pins σ H s→t σ H Q →
  wpAny (model X.prog X.w) X.A (forIn ifs true fun c r=>if r=true then do
   let ok ← isTrue c X.env (eval c X.env)
   pure (ForInStep.yield ok) else pure (ForInStep.yield r)) (TP X pins σ Q) E s
theorem pts_nil {X:Cx}:PTs X [] (fun _ H Q=>Q true H):=fun _ _ _ H _ _ I h=>wpAny_tests_nil ⟨H,I,h⟩
noncomputable def cLoop (σ:St) (J:It) (tt:TT) (te:TE) (W:Nat→Nat→List V→Hp→Prop) (D:List V→Hp→Prop):Prop:=∀ i m ys H,W i m ys H →
 (J.stop i H∧ys.length≤sizeLine∧D ys H)∨(J.go i H∧ys.length < sizeLine∧∃ N:List V→Hp→Prop,(∀ ys' H',N ys' H'→∃ m',m' < m∧W (i + 1) m' ys' H')∧∀ v H',J.yld i H v H'→tt (some v::σ) H' fun b H2=>
  if b=true then te (some v::σ) H2 fun y H3=>N (ys++[y]) H3 else N ys H2)
section
variable {X:Cx} {pins:List (Addr×Obj)} {σ:St} {H:Hp} {s:Shared} {x:Str} {scope:Scope} {N':List Str}
theorem comp_loop {fp:List Addr} {it C:Addr} {tn:Nat→Heap→Prop} {J:It} {oD:Obj} {elt iter:Expr} {ifs:List Expr} {px pos:Pos} {te:TE} {tt:TT} {W:Nat→Nat→List V→Hp→Prop} {Dn:List V→Hp→Prop}
  {R:Result→Shared→Prop} {σ':St} {s4:Shared} {m0:Nat} (hcalm:X.calm=true) (S:CS X.env.scope X.N x scope N') (hf:∀ b∈fp,FpOk X pins H b) (ho:∀ b∈fp,∃ o,s.heap.get? b=some o) (hCd:C=(s.heap.push oD).objs.size)
  (T:Turn X.prog X.w X.K (.Name x px) J fp it tn) (I4:Inv (compCx X x scope C { s with heap:=s.heap.push oD } H (s.heap.objs.size::fp) N') [] (none::σ) H s4) (st4:tn 0 s4.heap) (hD4:s4.heap.get? s.heap.objs.size=some { cls:=.type "list",data:=.seq #[] 0 })
  (hDn:H s.heap.objs.size=none) (hte:PE (compCx X x scope C { s with heap:=s.heap.push oD } H (s.heap.objs.size::fp) N') elt te) (htt:PTs (compCx X x scope C { s with heap:=s.heap.push oD } H (s.heap.objs.size::fp) N') ifs tt)
  (w0:W 0 m0 [] H) (turn:cLoop σ J tt te W Dn)
  (hR:∀ s1 H1 σ1 ys its n,Inv (compCx X x scope C { s with heap:=s.heap.push oD } H (s.heap.objs.size::fp) N') [] σ1 H1 s1→H1 s.heap.objs.size=none→Vals ys its→s1.heap.get? s.heap.objs.size=some { cls:=.type "list",data:=.seq its.toArray n }→ys.length≤sizeLine→Dn ys H1→R (.ok .next) s1) :
  codeAny (model X.prog X.w) X.A (.compLoop (.ListComp elt [⟨.Name x px,iter,ifs,0⟩] scope pos) 0 (.ref it) (.ref s.heap.objs.size) (compEnvC scope (closOf X.env scope.names []) C X.env)) R s4:=by
 have hC:C=s.heap.objs.size + 1:=by rw [hCd]; exact Heap.size_push ..
 generalize hX:compCx X x scope C { s with heap:=s.heap.push oD } H (s.heap.objs.size::fp) N'=X' at *
 have xP:X'.prog=X.prog:=by rw [← hX]
 have xW:X'.w=X.w:=by rw [← hX]
 have xK:X'.K=X.K:=by rw [← hX]
 have xA:X'.A=X.A:=by rw [← hX]
 have xE:X'.env=compEnvC scope (closOf X.env scope.names []) C X.env:=by rw [← hX]
 have xC:X'.calm=true:=by rw [← hX]; exact hcalm
 have xex:X'.ex=s.heap.objs.size::fp:=by rw [← hX]
 have xpn:X'.pn=[]:=by rw [← hX]
 have xxe:X'.xe=fun _ _=>False:=by rw [← hX]
 have xN:X'.N=x::N':=by rw [← hX]
 have xL:X'.env.locals=C:=by rw [xE]; rfl
 have xloc:X'.env.scope.names.lookup x=some .local:=by rw [xE]; exact lookup_relabel_local S.hx
 have lt:∀ b∈fp,b < s.heap.objs.size:=fun b hb=>let ⟨_,e⟩:=ho b hb; Heap.lt_size e
 have fpk:∀ {pl:List (Addr×Obj)} {H':Hp},(∀ p∈pl,p.1=s.heap.objs.size)→(∀ b∈fp,H' b=none)→∀ b∈fp,FpOk X' pl H' b:=fun {pl H'} hp hn b hb=>by
  have okk:=I4.ok
  have hm:b∈X'.ex:=by rw [xex]; exact List.mem_cons_of_mem _ hb
  refine ⟨hn b hb,(okk.exf b hm).1,okk.exfs b hm,.inl hm,(okk.exf b hm).2,fun p hpl z=>?_⟩
  rw [xpn] at hpl
  have q1:=hp p (by simpa using hpl)
  have q2:=lt b hb
  rw [← z,q1] at q2
  exact Nat.lt_irrefl _ q2
 have dok:∀ {pl:List (Addr×Obj)} {H':Hp},(∀ p∈pl,p.1∈fp)→H' s.heap.objs.size=none→FpOk X' pl H' s.heap.objs.size:=fun {pl H'} hp hn=>by
  have okk:=I4.ok
  have hm:s.heap.objs.size∈X'.ex:=by rw [xex]; exact List.mem_cons_self
  refine ⟨hn,(okk.exf _ hm).1,okk.exfs _ hm,.inl hm,(okk.exf _ hm).2,fun p hpl z=>?_⟩
  rw [xpn] at hpl
  have q2:=lt p.1 (hp p (by simpa using hpl))
  rw [z] at q2
  exact Nat.lt_irrefl _ q2
 refine codeAny_compLoop_tests (I:=fun m s'=>∃ i σx H' ys its n,Inv X' [] (σx::σ) H' s'∧tn i s'.heap∧(∀ b∈fp,H' b=none)∧H' s.heap.objs.size=none∧Vals ys its∧s'.heap.get? s.heap.objs.size=some { cls:=.type "list",data:=.seq its.toArray n }∧W i m ys H') ?_ m0
  ⟨0,none,H,[],[],0,I4,st4,fun b hb=>(hf b hb).1,hDn,.nil,hD4,w0⟩
 rintro m s5 ⟨i,σx,H5,ys,its,n,I5,st5,fr5,d5,rv,e5,w5⟩
 have I5d:Inv X' ([]++pinsAt [s.heap.objs.size] s5.heap) (σx::σ) H5 s5:=I5.pinned (fun b hb=>by
   have e:b=s.heap.objs.size:=by simpa using hb
   rw [e]; exact dok (fun p hp=>absurd hp (by simp)) d5) fun b hb=>by
   have e:b=s.heap.objs.size:=by simpa using hb
   rw [e]; exact ⟨_,e5,fun v z=>by cases z⟩
 have pD:([]++pinsAt [s.heap.objs.size] s5.heap:List (Addr×Obj))=[(s.heap.objs.size,{ cls:=.type "list",data:=.seq its.toArray n })]:=by
  simp [pinsAt,e5]
 rw [pD] at I5d
 have p1:∀ p∈[(s.heap.objs.size,({ cls:=.type "list",data:=.seq its.toArray n }:Obj))],p.1=s.heap.objs.size:=fun p hp=>by
  have e:p=(s.heap.objs.size,{ cls:=.type "list",data:=.seq its.toArray n }):=by simpa using hp
  rw [e]
 have hsz:its.length=ys.length:=rv.length.symm
 rcases turn i m ys H5 w5 with ⟨stop,hz,dn⟩ | ⟨go,hz,N,hN,step⟩
 ·have q:=T.done X' xP xW xK xC i _ s5 (σx::σ) H5 (notedBy (model X.prog X.w) X.A (compEnvC scope (closOf X.env scope.names []) C X.env) fun e s'=>R (.error e) s') I5d (fpk p1 fr5) st5 stop
  rw [xA] at q
  refine wpAny_mono q (fun r s6 z=>?_) fun _ _ z=>z
  obtain ⟨rfl,I6⟩:=z
  refine hR s6 H5 (σx::σ) ys its n ?_ d5 rv (I6.pin _ (List.mem_append_right _ (List.mem_singleton.mpr rfl))).1 hz dn
  exact I6.pins_of fun p hp=>absurd hp (by simp)
 ·have q:=T.item X' xP xW xK xC i _ s5 (σx::σ) H5 (notedBy (model X.prog X.w) X.A (compEnvC scope (closOf X.env scope.names []) C X.env) fun e s'=>R (.error e) s') I5d (fpk p1 fr5) st5 go
  rw [xA] at q
  refine wpAny_mono q (fun r s6 z=>?_) fun _ _ z=>z
  obtain ⟨u,rfl,z⟩:=z
  dsimp only
  have z':wpAny (model X.prog X.w) X.A (pure ()) _ _ s6:=z
  refine wpAny_bind (m:=pure ()) (f:=fun _=>assign (.Name x px) (compEnvC scope (closOf X.env scope.names []) C X.env) u) (wpAny_mono z' (fun _ s7 z=>?_) fun _ _ z=>z)
  obtain ⟨v,H7,I7,rv7,y7,st7,fr7⟩:=z
  have I7p:=I7.pinned (fpk p1 fr7) (T.obj _ _ st7)
  rw [← xE]
  have nd:X'.N.Nodup:=by rw [xN]; exact S.nd
  have hi0:X'.N[0]? = some x:=by rw [xN]; rfl
  refine wpAny_assign_Name (store_ok (E:=notedBy (model X.prog X.w) X.A X'.env fun e s'=>R (.error e) s') (i:=0) I7p nd hi0 (.inl xloc) rv7 (fun s8 I8=>?_) (.inr xloc))
  have I8':Inv X' _ (some v::σ) H7 s8:=I8
  have t8:=htt _ s8 (some v::σ) H7 _ (notedBy (model X.prog X.w) X.A X'.env fun e s'=>R (.error e) s') I8' (step v H7 y7)
  rw [xP,xW,xA] at t8
  refine wpAny_mono t8 (fun ok s9 z=>?_) fun _ _ z=>z
  obtain ⟨H9,I9,q9⟩:=z
  have back:∀ {s':Shared} {H':Hp} {σ2:St},Inv X' ([(s.heap.objs.size,({ cls:=.type "list",data:=.seq its.toArray n }:Obj))]++pinsAt fp s7.heap) σ2 H' s' →
    tn (i + 1) s'.heap∧(∀ b∈fp,H' b=none)∧H' s.heap.objs.size=none∧s'.heap.get? s.heap.objs.size=some { cls:=.type "list",data:=.seq its.toArray n }∧Inv X' [] σ2 H' s':=fun {s' H' σ2} I'=>by
   refine ⟨T.keep _ _ _ st7 fun b hb o e=>(I'.pin (b,o) (List.mem_append_right _ (List.mem_append_right _ (mem_pinsAt hb e)))).1,fun b hb=>?_,?_,?_,I'.pins_of fun p hp=>absurd hp (by simp)⟩
   ·obtain ⟨o,e,_⟩:=T.obj _ _ st7 b hb
    exact (I'.pin (b,o) (List.mem_append_right _ (List.mem_append_right _ (mem_pinsAt hb e)))).2.1
   ·exact (I'.pin (s.heap.objs.size,_) (List.mem_append_right _ (List.mem_append_left _ (List.mem_singleton.mpr rfl)))).2.1
   ·exact (I'.pin (s.heap.objs.size,_) (List.mem_append_right _ (List.mem_append_left _ (List.mem_singleton.mpr rfl)))).1
  cases ok with
  | false=>
   simp only [Bool.false_eq_true,if_false] at q9 ⊢
   obtain ⟨m',hm,w9⟩:=hN _ _ q9
   obtain ⟨a1,a2,a3,a4,a5⟩:=back I9
   exact ⟨m',hm,i + 1,some v,H9,ys,its,n,a5,a1,a2,a3,rv,a4,w9⟩
  | true=>
   simp only [if_true] at q9 ⊢
   have t9:=hte _ s9 (some v::σ) H9 _ I9 q9
   rw [xP,xW,xA,xxe] at t9
   refine wpAny_mono t9 (fun u2 s10 z=>?_) fun _ _ z=>z.elim
   obtain ⟨y,H10,I10,r10,q10⟩:=z
   obtain ⟨m',hm,w10⟩:=hN _ _ q10
   obtain ⟨a1,a2,a3,a4,a5⟩:=back I10
   refine wpAny_list_append_plain ⟨n,a4⟩ (fun h' pl sb=>?_) (by rw [List.size_toArray]; omega)
   obtain ⟨n',e'⟩:=pl
   have D0:=dok (pl:=[]) (fun p hp=>absurd hp (by simp)) a3
   refine ⟨m',hm,i + 1,some v,H10,ys++[y],its++[u2],n',a5.turned (t':=s10.toks) (fun b o hb e=>(sb.2 b hb).trans e) D0.1 D0.2.1 D0.2.2.2.1 D0.2.2.2.2.1 D0.2.2.2.2.2,?_,a2,a3,rv.append (.cons r10 .nil),by simpa using e',w10⟩
   exact T.keep _ _ _ a1 fun b hb o e=>(sb.2 b (Nat.ne_of_lt (lt b hb))).trans e
end
end L2
namespace L2
open PySem PySem.Spec PyProof.Rows
section
variable {X:Cx} {x:Str} {scope:Scope} {N':List Str} {elt iter:Expr} {ifs:List Expr} {px pos:Pos} {wi:TI} {te:TE} {tt:TT}
noncomputable def tComp (wi:TI) (tt:TT) (te:TE):TE:=fun σ H Q=>wi σ H fun J H1=>∃ W:Nat→Nat→List V→Hp→Prop,(∃ m,W 0 m [] H1)∧cLoop σ J tt te W fun ys H=>∀ p,H p=none→Q (.ref p) (upd H p (.lst ys))
theorem pe_comp (hc:X.calm=true) (S:CS X.env.scope X.N x scope N') (hi:PI X (.Name x px) iter wi) (he:∀ C s0 H0 ex,PE (compCx X x scope C s0 H0 ex N') elt te)
  (ht:∀ C s0 H0 ex,PTs (compCx X x scope C s0 H0 ex N') ifs tt) (hs:∀ v,foldedSetIterable iter X.env v=pure v:=by intro _; rfl):PE X (.ListComp elt [⟨.Name x px,iter,ifs,0⟩] scope pos) (tComp wi tt te):=by
 intro pins s σ H Q I h
 rw [eval_ListComp]
 refine wpAny_comprehension_free (use:=none) rfl hs (closure_eq (free_has I S)) S.kind S.names (thn (hi pins s σ H _ I h) fun v s1 h1=>thn h1 fun itv s2 h2=>?_)
 obtain ⟨it,fp,tn,J,H2,rfl,I2,T,st2,f2,W,⟨m0,w0⟩,turn⟩:=h2
 have ho:∀ b∈fp,∃ o,s2.heap.get? b=some o:=fun b hb=>let ⟨o,e,_⟩:=T.obj _ _ st2 b hb; ⟨o,e⟩
 refine wpAny_newObj_type (wpAny_newFunctionEnv S.nocell (by intro y hy; simp at hy) (fun h' hns hsb=>?_) S.kind)
 have I4:=comp_enter (x:=x) (scope:=scope) (tk:=s2.toks + ([]:List (Str×Value)).length) I2 S f2 ho hns hsb
 have up3:∀ b o,(s2.heap.push { cls:=.type "list",dict:=none,data:=.seq ([]:List Value).toArray }).get? b=some o→h'.get? b=some o:=fun b o e=>
  (hsb.2 b (Nat.ne_of_lt (Heap.lt_size e))).trans (Heap.get?_push_of_some _ e)
 have st4:tn 0 h':=T.keep _ _ _ st2 fun b _ o e=>up3 b o (Heap.get?_push_of_some _ e)
 have loop:=comp_loop (elt:=elt) (iter:=iter) (ifs:=ifs) (pos:=pos) (R:=compPost (model X.prog X.w) X.A X.xe none (EP X pins σ Q) (.ref s2.heap.objs.size) (s2.heap.push { cls:=.type "list",dict:=none,data:=.seq ([]:List Value).toArray }).objs.size) (σ':=σ)
  hc S f2 ho rfl T I4 st4 (up3 _ _ (Heap.get?_push_size _ rfl)) (I2.hok.fresh (Nat.le_refl _)) (he _ _ _ _) (ht _ _ _ _) w0 turn fun s5 H5 σ5 ys its n J5 d5 rv e5 hz dn=>by
   obtain ⟨m,hn,_⟩:=J5.loc
   exact ⟨m,hn,fun h'' sb=>⟨.ref s2.heap.objs.size,_,comp_leave I2 f2 rfl J5 sb d5 ⟨its,n,rv,e5⟩ hz,rfl,dn _ d5⟩⟩
 exact codeAny_compStart_list loop (T.self X.A 0 _ _ _ st4 loop)
noncomputable def sComp (i:Nat) (wi:TI) (tt:TT) (te:TE):TS:=fun D σ H=>wi σ H fun J H1=>∃ W:Nat→Nat→List V→Hp→Prop,(∃ m,W 0 m [] H1)∧cLoop σ J tt te W fun ys H=>∀ p,H p=none→D.nx (σ.set i (some (.ref p))) (upd H p (.lst ys))
theorem ps_setC {i:Nat} {y:Str} {py spos:Pos} (hc:X.calm=true) (S:CS X.env.scope X.N x scope N') (hN:X.N.Nodup) (hi':X.N[i]? = some y) (hy:Loc X.env.scope y) (hf':X.fn y=true∨X.env.scope.names.lookup y=some .local)
  (hi:PI X (.Name x px) iter wi) (he:∀ C s0 H0 ex,PE (compCx X x scope C s0 H0 ex N') elt te)
  (ht:∀ C s0 H0 ex,PTs (compCx X x scope C s0 H0 ex N') ifs tt) (hsw:swapsWith (.ListComp elt [⟨.Name x px,iter,ifs,0⟩] scope pos) (some (.Name y py)) spos.line X.env=pure true) (hs:∀ v,foldedSetIterable iter X.env v=pure v:=by intro _; rfl) :
  PS X (.Assign [.Name y py] (.ListComp elt [⟨.Name x px,iter,ifs,0⟩] scope pos) spos) (sComp i wi tt te):=by
 intro pins s σ H D I h
 rw [exec_Assign_Name_used _ _ _ _ hsw]
 refine wpAny_bind (wpAny_standAt (wpAny_bind ?_))
 show wpAny _ _ (do let _ ← comprehension (.ListComp elt [⟨.Name x px,iter,ifs,0⟩] scope pos) scope X.env _ (newList []) false (eval iter X.env) (some (assign (.Name y py) X.env))) _ _ s
 refine wpAny_bind (wpAny_mono (wpAny_comprehension_free (use:=some (assign (.Name y py) X.env)) (Q:=fun _ s'=>SP X pins D .next s') rfl hs (closure_eq (free_has I S)) S.kind S.names (thn (hi pins s σ H _ I h) fun v s1 h1=>thn h1 fun itv s2 h2=>?_)) (fun _ _ q=>wpAny_pure (wpAny_pure q)) fun _ _ q=>q)
 obtain ⟨it,fp,tn,J,H2,rfl,I2,T,st2,f2,W,⟨m0,w0⟩,turn⟩:=h2
 have ho:∀ b∈fp,∃ o,s2.heap.get? b=some o:=fun b hb=>let ⟨o,e,_⟩:=T.obj _ _ st2 b hb; ⟨o,e⟩
 refine wpAny_newObj_type (wpAny_newFunctionEnv S.nocell (by intro y hy; simp at hy) (fun h' hns hsb=>?_) S.kind)
 have I4:=comp_enter (x:=x) (scope:=scope) (tk:=s2.toks + ([]:List (Str×Value)).length) I2 S f2 ho hns hsb
 have up3:∀ b o,(s2.heap.push { cls:=.type "list",dict:=none,data:=.seq ([]:List Value).toArray }).get? b=some o→h'.get? b=some o:=fun b o e=>
  (hsb.2 b (Nat.ne_of_lt (Heap.lt_size e))).trans (Heap.get?_push_of_some _ e)
 have st4:tn 0 h':=T.keep _ _ _ st2 fun b _ o e=>up3 b o (Heap.get?_push_of_some _ e)
 have hCs:s2.heap.objs.size≤(s2.heap.push { cls:=.type "list",dict:=none,data:=.seq ([]:List Value).toArray }).objs.size:=by rw [Heap.size_push]; omega
 have hDC:(s2.heap.push { cls:=.type "list",dict:=none,data:=.seq ([]:List Value).toArray }).objs.size≠s2.heap.objs.size:=by rw [Heap.size_push]; omega
 have loop:=comp_loop (elt:=elt) (iter:=iter) (ifs:=ifs) (pos:=pos) (R:=compPost (model X.prog X.w) X.A X.xe (some (assign (.Name y py) X.env)) (fun _ s'=>SP X pins D .next s') (.ref s2.heap.objs.size) (s2.heap.push { cls:=.type "list",dict:=none,data:=.seq ([]:List Value).toArray }).objs.size) (σ':=σ)
  hc S f2 ho rfl T I4 st4 (up3 _ _ (Heap.get?_push_size _ rfl)) (I2.hok.fresh (Nat.le_refl _)) (he _ _ _ _) (ht _ _ _ _) w0 turn fun s5 H5 σ5 ys its n J5 d5 rv e5 hz dn=>by
   have J6:=comp_leave I2 f2 rfl J5 (Heap.SameBut.refl _ _) d5 ⟨its,n,rv,e5⟩ hz
   obtain ⟨m,hn,_⟩:=J5.loc
   refine wpAny_assign_Name (store_ok2 (u:=.ref s2.heap.objs.size) J6 hN hi' hy (show RelV (.ref s2.heap.objs.size) _ from rfl) (fun s7 I7 ⟨a,sb,ha⟩=>?_) hf')
   have hCa:(s2.heap.push { cls:=.type "list",dict:=none,data:=.seq ([]:List Value).toArray }).objs.size≠a:=by
    rcases ha with z | z
    ·rw [z]
     exact Nat.ne_of_gt (Nat.lt_of_lt_of_le I2.lt hCs)
    ·obtain ⟨v,q⟩:=I2.cell _ _ z
     exact Nat.ne_of_gt (Nat.lt_of_lt_of_le q.lt hCs)
   have hn5:H5 (s2.heap.push { cls:=.type "list",dict:=none,data:=.seq ([]:List Value).toArray }).objs.size=none:=J5.free
   have fk:=I2.fpOk (b:=(s2.heap.push { cls:=.type "list",dict:=none,data:=.seq ([]:List Value).toArray }).objs.size) (H':=upd H5 s2.heap.objs.size (.lst ys)) hCs (by rw [upd_ne hDC]; exact hn5)
   refine ⟨m,hn.sameBut sb hCa,fun h'' sb2=>⟨_,_,I7.turned (t':=s7.toks) (fun b o hb e=>(sb2.2 b hb).trans e) fk.1 fk.2.1 fk.2.2.2.1 fk.2.2.2.2.1 fk.2.2.2.2.2,dn _ d5⟩⟩
 exact codeAny_compStart_list loop (T.self X.A 0 _ _ _ st4 loop)
end
section
variable {σ:St} {tt:TT} {te:TE}
end
noncomputable def Its (z:Str):It:=⟨fun i _=>i < z.cps.size,fun i H v H'=>H'=H∧∃ c,z.cps[i]? = some c∧v=.str ⟨#[c]⟩,fun i _=>z.cps.size≤i⟩
end L2
namespace L2
open PySem PySem.Spec PyProof.Rows
theorem turn_str {P:Program} {w:World} {K:PySem.W.Frag} {tg:Expr} (z:Str) (t:Tok) (ty:String) (it:Addr) (hty:ty = "str_ascii_iterator"∨ty = "str_iterator") :
  Turn P w K tg (Its z) [it] it (fun i h=>h.IsStrIter it ty z t i) where
 mem:=by simp
 obj:=fun i h st b hb=>by
  have e:b=it:=by simpa using hb
  subst e
  obtain ⟨o,e,c,d⟩:=st
  exact ⟨o,e,fun v q=>by rw [d] at q; cases q⟩
 keep:=fun i h h' st k=>let ⟨o,e,r⟩:=st; ⟨o,k it (by simp) o e,r⟩
 item:=by
  intro X hP hw hK hc i pins s σ H E I hf st hg
  subst hP hw hK
  have hi:i < z.cps.size:=hg
  obtain ⟨f0,f1,f2,f3,f4,f5⟩:=hf it (by simp)
  have fin:∀ h',h'.IsStrIter it ty z t (i + 1)→Heap.SameBut it s.heap h'→∃ u,(some (Value.str ⟨#[z.cps[i]]⟩ s.toks):Option Value)=some u ∧
    wpAny (model X.prog X.w) X.A (letOwnedTupleGo tg (.ref it) u) (fun _ s2=>∃ x H',Inv X pins σ H' s2∧RelV x u∧(Its z).yld i H x H'∧s2.heap.IsStrIter it ty z t (i + 1)∧∀ b∈[it],H' b=none) E { s with heap:=h',toks:=s.toks + 1 }:=fun h' st' sb=>by
   have I1:Inv X pins σ H { s with heap:=h',toks:=s.toks + 1 }:=I.turned (fun b o hb e=>(sb.2 b hb).trans e) f0 f1 f3 f4 f5
   obtain ⟨o,e,c,d⟩:=id st'
   refine ⟨_,rfl,go_of (s:={ s with heap:=h',toks:=s.toks + 1 }) (n:=ty) e c d ?_ ⟨.str ⟨#[z.cps[i]]⟩,H,I1,⟨_,rfl⟩,⟨rfl,z.cps[i],by simp [hi],rfl⟩,st',fun b hb=>(hf b hb).1⟩⟩
   rcases hty with e | e <;> (rw [e]; decide)
  rcases hty with e | e
  ·subst e
   exact wpAny_pyNext_ascii_item st (c:=z.cps[i]) (by simp [hi]) fin
  ·subst e
   exact wpAny_pyNext_wide_item st (c:=z.cps[i]) (by simp [hi]) fin
 done:=by
  intro X hP hw hK hc i pins s σ H E I hf st hg
  subst hP hw hK
  have hi:z.cps.size≤i:=hg
  obtain ⟨f0,f1,f2,f3,f4,f5⟩:=hf it (by simp)
  have fin:∀ h',Heap.ExtBut it s.heap h'→(none:Option Value)=none∧Inv X pins σ H { s with heap:=h' }:=fun h' eb=>⟨rfl,I.turned (t':=s.toks) (fun b o hb e=>eb b o hb e) f0 f1 f3 f4 f5⟩
  rcases hty with e | e
  ·subst e
   exact wpAny_pyNext_ascii_end (I.ok.hd hc) st (by simp; omega) fin
  ·subst e
   exact wpAny_pyNext_wide_end (I.ok.hd hc) st (by simp; omega) fin
 self:=fun _ _ _ _ _ st h=>by
  rcases hty with e | e
  ·subst e
   exact wpAny_pyIter_striter_ascii st h
  ·subst e
   exact wpAny_pyIter_striter_wide st h
section
variable {X:Cx} {tg:Expr}
end
theorem all_range (bs:List Bool) (n:Nat) (hn:n=bs.length):(List.range n).all (fun i=>bs.getD i false)=bs.all id:=by
 subst hn
 rw [Bool.eq_iff_iff,List.all_eq_true,List.all_eq_true]
 constructor
 ·intro h b hb
  obtain ⟨i,hi,rfl⟩:=List.getElem_of_mem hb
  have:=h i (List.mem_range.mpr hi)
  simpa [List.getD,hi] using this
 ·intro h i hi
  have hi':=List.mem_range.mp hi
  have:=h bs[i] (List.getElem_mem hi')
  simpa [List.getD,hi'] using this
section
variable {X:Cx}
theorem call_all (hc:X.calm=true):CallR X (.builtin "all") (fun xs H Q=>∃ (p:Addr) (bs:List Bool),xs=[.ref p]∧SqL X.K H p (bs.map V.bl)∧Q (.bl (bs.all id)) H):=by
 intro pins s σ H xs us Q I r h
 obtain ⟨p,bs,rfl,hq,q⟩:=h
 obtain ⟨u,rfl,ru⟩:=vals1 r
 cases ru
 obtain ⟨its,rv,pl,hz⟩:=I.list hq
 have hlen:its.length=bs.length:=by have:=rv.length; simpa using this.symm
 have hlt:p < s.heap.objs.size:=by
  obtain ⟨o,n,e,_⟩:=pl
  exact Heap.lt_size e
 refine call_all_walk (wpAny_pyIter_list pl.isList ?_)
 refine ⟨s.heap.objs.size,_,_,_,_,_,fun i=>bs.getD i false,rfl,Walks.list (A:=X.A.in1) (I.ok.hd hc) _ p (Nat.ne_of_lt hlt) its.toArray,⟨⟨_,Heap.get?_push_size _ rfl,rfl,rfl⟩,?_⟩,fun i v s' Q' E' hv hQ'=>?_,fun h' tk hk=>?_⟩
 ·obtain ⟨o,n,e,r⟩:=pl.isList
  exact ⟨o,Heap.get?_push_of_some _ n,e,r⟩
 ·have hi:i < its.length:=by
   have:=(Array.getElem?_eq_some_iff.mp hv).1
   simpa using this
  have hi2:i < bs.length:=by omega
  obtain ⟨u,hu,ru⟩:=rv.get (i:=i) (x:=.bl bs[i]) (by simp [hi2])
  have e:v=u:=by
   have hv':its[i]? = some v:=by simpa using hv
   rw [hu] at hv'
   exact (Option.some.inj hv').symm
  subst e
  cases (show v=Value.bool bs[i] from ru)
  refine wpAny_truthy_bool ?_
  have e:bs[i]=bs.getD i false:=by simp [List.getD,hi2]
  rw [e]
  exact hQ'
 ·have e:(List.range its.toArray.size).all (fun i=>bs.getD i false)=bs.all id:=all_range bs _ (by simpa using hlen)
  rw [e]
  exact ⟨.bl _,H,I.kept (t':=tk) fun b o q=>hk b o (by simp; exact Nat.ne_of_lt (Heap.lt_size q)) (Heap.get?_push_of_some _ q),rfl,q⟩
end
end L2
namespace L2
open PySem PySem.Spec PyProof.Rows
open K1 (maxFrom maxD)
section
variable {prog:Program} {w:World} {A:Around} {R:Result→Shared→Prop} {it S:Addr} {fp wr:List Addr} {P:Nat→Value→Prop} {St:Nat→Heap→Prop} {ns:List Int} {kw:List (Str×Value)}
end
section
variable {X:Cx}
end
end L2
namespace L2
open PySem PySem.Spec PyProof.Rows
open K1 (maxFrom maxD)
section
variable {X:Cx} {e ed:Expr} {te td:TE} {p pos kpos:Pos}
end
end L2
namespace L2
open PySem PySem.Spec PyProof.Rows
section
variable {X:Cx}
theorem op_catG:OpR X (binaryOp .Add) (fun x y H Q=>∃ a b xs ys,x=.ref a∧y=.ref b∧SqT X.K H a xs∧SqT X.K H b ys∧xs.length + ys.length≤sizeLine ∧
  (xs=[]→Q (.ref b) H)∧(xs≠[]→ys=[]→Q (.ref a) H)∧(xs≠[]→ys≠[]→∀ p,H p=none→Q (.ref p) (upd H p (.tup (xs++ys))))):=by
 intro pins s σ H x y v u Q I rx ry h
 obtain ⟨a,b,xs,ys,rfl,rfl,ha,hb,hz,q0,q1,q2⟩:=h
 by_cases hx:xs=[]
 ·cases rx
  cases ry
  obtain ⟨its,r1,p1,_⟩:=I.tuple ha
  obtain ⟨its2,r2,p2,_⟩:=I.tuple hb
  have hv:its=[]:=r1.nil_iff.mpr hx
  obtain ⟨⟨cls,dd,data,sl⟩,ho,hc,n,hd⟩:=id p1
  obtain ⟨⟨cls2,dd2,data2,sl2⟩,ho2,hc2,n2,hd2⟩:=id p2
  simp only at hc hd hc2 hd2
  subst hc hd hc2 hd2
  exact concat_meets ⟨_,ho,rfl⟩ ⟨_,ho2,rfl⟩ noFill_tuple_add seq_tuple_add PySem.F.slot_tuple_add PySem.F.entry_tuple_add (PySem.F.args_tuple_add_2 _ _)
   (tuple_addW0 a b its.toArray its2.toArray n n2 dd dd2 sl sl2 (by simp [hv])) ⟨ho,ho2,⟨.ref b,H,I,rfl,q0 hx⟩⟩
 ·exact op_catT pins s σ H _ _ v u Q I rx ry ⟨a,b,xs,ys,rfl,rfl,ha,hb,hx,hz,q1 hx,q2 hx⟩
theorem sl_str:SlR X (fun x lo hi H Q=>∃ z:Str,x=.str z∧z.length≤sizeLine∧Q (.str (Txt.slice z lo hi)) H):=by
 intro pins s σ H x v vl vu lo hi sl Q I rx hs pl pu h
 obtain ⟨z,rfl,hz,q⟩:=h
 obtain ⟨t,rfl⟩:=rx
 have fin:∀ l u:Option (Int×Tok),l.map (·.1)=lo→u.map (·.1)=hi→s.heap.IsSlice sl l u none→wpAny (model X.prog X.w) X.A (getItem (.str z t) (.ref sl)) (EP X pins σ Q) X.xe s:=fun l u el eu h=>by
  refine wpAny_getItem_str_slice h rfl ?_
  refine post_val_or_made (fun _=>?_) fun t' k=>?_
  ·have:=sliceIndices_le (l.map (·.1)) (u.map (·.1)) z.length
   have e:=List.length_filterMap_le (fun i=>z.cps[i]?) (slicePicked z l u none)
   show ((slicePicked z l u none).filterMap (z.cps[·]?)).toArray.size≤sizeLine
   rw [List.size_toArray]
   unfold slicePicked at e ⊢
   simp only [Option.map_none,Option.getD_none] at e ⊢
   omega
  ·refine ⟨.str (Txt.slice z lo hi),H,I.tok _,⟨t',?_⟩,q⟩
   rw [← el,← eu]
   rfl
 refine ⟨"str",_,PySem.F.slot_str_getitem.lookup,typeIs_str s z t,?_⟩
 cases pl with
 | none=>
  cases pu with
  | none=>exact fin none none rfl rfl hs
  | int j u=>exact fin none (some (j,u)) rfl rfl hs
 | int i u=>
  cases pu with
  | none=>exact fin (some (i,u)) none rfl rfl hs
  | int j u'=>exact fin (some (i,u)) (some (j,u')) rfl rfl hs
theorem op_mulS:OpR X (binaryOp .Mult) (fun x y H Q=>∃ z k,x=.str z∧y=.int k∧0≤k∧k≤2000∧z.length≤1000∧Q (.str (Txt.mul z k)) H):=by
 intro pins s σ H x y v u Q I rx ry h
 obtain ⟨z,k,rfl,rfl,h1,h2,h3,q⟩:=h
 obtain ⟨t,rfl⟩:=rx
 obtain ⟨t',rfl⟩:=ry
 have hm:z.length * k.toNat≤1000 * 2000:=Nat.mul_le_mul h3 (by omega)
 refine SB.mul ⟨?_,fun g1 g2=>?_,fun g1 g2=>?_⟩ fun t' k'=>⟨.str _,H,I.tok _,⟨t',rfl⟩,q⟩
 ·simp; omega
 ·have hk:1≤k:=by simp at g1; omega
  have e1:(1000:Int)≤(2 ^ 63 - 1) / k:=by
   rw [Int.le_ediv_iff_mul_le (by omega)]
   omega
  omega
 ·unfold Builtin.Str.tooLong
  simp [sizeLine]
  omega
end
end L2
namespace L2
open PySem PySem.Spec PyProof.Rows
theorem strsAre_of {ys:List Str}:∀ {us:List Value},Vals (ys.map V.str) us→StrsAre us ys:=by
 induction ys with
 | nil=>intro us r; rw [List.map_nil] at r; cases r; exact .nil
 | cons y ys ih=>
  intro us r
  rw [List.map_cons] at r
  cases r with
  | cons r1 r2=>
   obtain ⟨t,e⟩:=r1
   subst e
   exact .cons y t (ih r2)
section
variable {X:Cx}
end
end L2
namespace L2
open PySem PySem.Spec PyProof.Rows
structure Fn (P:Program) (w:World) (K:PySem.W.Frag) (mg:Str→Option Value) (base:Heap) (name:Str) (ps:List Str) (k:Nat) (sp:Sp):Prop where
 ex:∃ f fd,FnOk P w K mg base CX0 k f fd ps sp∧Binds K fd ps []∧PySem.W.keepIn K (.ref f)=true∧mg name=some (.ref f)
section
variable {X:Cx} {name:Str} {ps:List Str} {k:Nat} {sp:Sp} {e:Expr} {es:List Expr} {t:TA} {p pos:Pos}
theorem pe_fn (F:Fn X.prog X.w X.K X.mg X.base name ps k sp) (hr:Room k X.A) (hg:Gl X name) (ha:PA X (e::es) t) (hdb:(name == ("__debug__" : Str))=false:=by decide)
  (he:starEach (e::es) X.env=(false,eval e X.env)::starEach es X.env:=by rfl) (hpl:(backTo pos (starEach es X.env)).any (·.1)=false:=by rfl):PE X (.Call (.Name name p) (e::es) [] pos) (tCall sp [] E0 t):=by
 obtain ⟨f,fd,h1,h2,h3,h4⟩:=F.ex
 exact pe_call h1 hr hg h4 h3 h2 .nil pass0 ha hdb he hpl
end
theorem Fn.mono {P:Program} {w:World} {K:PySem.W.Frag} {mg:Str→Option Value} {base:Heap} {name:Str} {ps:List Str} {k k':Nat} {sp:Sp} (F:Fn P w K mg base name ps k sp) (h:k≤k'):Fn P w K mg base name ps k' sp:=by
 obtain ⟨f,fd,h1,h2⟩:=F.ex
 exact ⟨f,fd,h1.mono h,h2⟩
theorem pe_compD {X:Cx} {x:Str} {scope osc:Scope} {N N':List Str} {elt iter:Expr} {ifs:List Expr} {px pos:Pos} {wi:TI} {te:TE} {tt:TT} (S:CS osc N x scope N') (hi:PI X (.Name x px) iter wi)
  (he:∀ C s0 H0 ex,PE (compCx X x scope C s0 H0 ex N') elt te) (ht:∀ C s0 H0 ex,PTs (compCx X x scope C s0 H0 ex N') ifs tt) (hc:X.calm=true:=by rfl) (hs:X.env.scope=osc:=by rfl) (hN:X.N=N:=by rfl)
  (hf:∀ v,foldedSetIterable iter X.env v=pure v:=by intro _; rfl):PE X (.ListComp elt [⟨.Name x px,iter,ifs,0⟩] scope pos) (tComp wi tt te):=by
 subst hs hN
 exact pe_comp hc S hi he ht hf
end L2
namespace D
open PySem PySem.Spec PyProof.Rows L2
inductive Gh (P:Hp→Prop):Hp→Prop where
 | done {H:Hp}:P H→Gh P H
 | frz {H:Hp} {a:Addr} {kvs:List (Key×V)}:H a=some (.dK kvs)→(∀ o,Gh P (upd H a (.frz o (.dK kvs))))→Gh P H
theorem Gh.imp {P P':Hp→Prop} {H:Hp} (g:Gh P H) (i:∀ H,P H→P' H):Gh P' H:=by
 induction g with
 | done h=>exact .done (i _ h)
 | frz e _ ih=>exact .frz e ih
section
variable {X:Cx} {pins:List (Addr×Obj)} {σ:L2.St} {H:Hp} {s:Shared}
theorem inv_frz (I:Inv X pins σ H s) {a:Addr} {kvs:List (Key×V)} (e:H a=some (.dK kvs)):∃ o,Inv X pins σ (upd H a (.frz o (.dK kvs))) s:=by
 obtain ⟨z,y,vs,kv,o,es,ep,eo,r⟩:=I.hok a _ e
 have U:∀ {b:Addr} {u:HO},H b=some u→(∀ ks,u≠.dK ks)→upd H a (.frz o (.dK kvs)) b=some u:=fun {b u} q n=>by
  rw [upd_ne (fun z=>by subst z; rw [e] at q; cases q; exact n _ rfl)]
  exact q
 have hok:HOk X.prog X.w (upd H a (.frz o (.dK kvs))) s.heap:=fun b u q=>by
  by_cases hb:b=a
  ·subst hb
   rw [upd_same] at q
   cases q
   exact ⟨eo,(I.hok b _ e).stay (fun _ _ _ q=>q) (fun c q=>U q (fun _ z=>nomatch z)) fun c xs q=>U q (fun _ z=>nomatch z)⟩
  ·rw [upd_ne hb] at q
   exact (I.hok b u q).stay (fun _ _ _ q=>q) (fun c q=>U q (fun _ z=>nomatch z)) fun c xs q=>U q (fun _ z=>nomatch z)
 exact ⟨o,I.un (h':=s.heap) (t':=s.toks) ⟨fun b ob q n _ _=>q,fun b ob q n _ _=>⟨_,q⟩,fun b ob q n _=>by rw [upd_ne (fun z=>by subst z; rw [e] at n; cases n)]; exact n,fun b ob q _=>⟨_,q⟩,fun b xs q=>U q (fun _ z=>nomatch z),
  fun b ob u q=>U q (fun _ z=>nomatch z),fun b ps q=>⟨#[],by rw [U q (fun _ z=>nomatch z)]; simp⟩⟩ hok⟩
theorem Gh.ok {P:Hp→Prop} (g:Gh P H) (I:Inv X pins σ H s):∃ H',Inv X pins σ H' s∧P H':=by
 induction g with
 | done h=>exact ⟨_,I,h⟩
 | frz e _ ih=>
  obtain ⟨o,I'⟩:=inv_frz I e
  exact ih o I'
end
section
variable {X:Cx}
theorem ps_gh {st:Stmt} {t:TS} (h:PS X st t):PS X st (fun D σ H=>Gh (t D σ) H):=fun pins s σ H D I q=>by
 obtain ⟨H',I',q'⟩:=q.ok I
 exact h pins s σ H' D I' q'
end
end D
namespace D
open PySem PySem.Spec PyProof.Rows L2
noncomputable def epOf (o:Obj):Nat:=match o.data with
 | .dict _ ep=>ep
 | _=>0
noncomputable def Itd (a:Addr) (o:Obj) (kvs:List (Key×V)):It:=
 ⟨fun i H=>H a=some (.frz o (.dK kvs))∧i < kvs.length,fun i H x H'=>H'=H∧∃ k v,kvs[i]? = some (k,v)∧x=kV k,fun i H=>H a=some (.frz o (.dK kvs))∧i=kvs.length⟩
theorem dictAt_of {P:Program} {w:World} {H:Hp} {h:Heap} {a:Addr} {o:Obj} {kvs:List (Key×V)} (ok:HOk P w H h) (e:H a=some (.frz o (.dK kvs))):kvs.length≤sizeLine∧(a == sysModules)=false∧∃ vs,KV kvs vs∧h.DictAt (mixKind P w) a vs (epOf o):=by
 obtain ⟨e1,z,y,vs,kv,o',es,ep,e2,ed,dd,r⟩:=ok a _ e
 rw [e1] at e2
 cases e2
 refine ⟨z,y,vs,kv,o,es,e1,ed,?_,r⟩
 unfold epOf
 rw [dd]
theorem keyV {P:Program} {w:World} {k:Key} {v:Value} (e:(mixKind P w).is k v=true):RelV (kV k) v:=by
 rcases keyIs_shape (show keyIs k v=true from e) with ⟨i,t,rfl,rfl⟩ | ⟨x,t,rfl,rfl⟩
 ·exact ⟨t,rfl⟩
 ·exact ⟨t,rfl⟩
theorem kv_at {kvs:List (Key×V)} {vs:List (Key×Value)} (r:KV kvs vs) {i:Nat} {k:Key} {x:Value} (e:vs[i]? = some (k,x)):∃ v,kvs[i]? = some (k,v):=by
 have h:=r.keys
 have h1:(vs.map (·.1))[i]? = some k:=by rw [List.getElem?_map,e]; rfl
 rw [← h,List.getElem?_map] at h1
 cases q:kvs[i]? with
 | none=>rw [q] at h1; cases h1
 | some p=>
  rw [q] at h1
  cases h1
  exact ⟨p.2,rfl⟩
theorem turn_dict {P:Program} {w:World} {K:PySem.W.Frag} {tg:Expr} (a it:Addr) (o:Obj) (kvs:List (Key×V)):Turn P w K tg (Itd a o kvs) [it] it (fun i h=>h.IsKeyIter it a i kvs.length (epOf o)) where
 mem:=by simp
 obj:=fun i h st b hb=>by
  have e:b=it:=by simpa using hb
  subst e
  obtain ⟨o,e,c,d⟩:=st
  exact ⟨o,e,fun v z=>by rw [d] at z; cases z⟩
 keep:=fun i h h' st k=>st.at fun o e=>k it (by simp) o e
 item:=by
  intro X hP hw hK hc i pins s σ H E I hf st hg
  subst hP hw hK
  obtain ⟨hg1,hg2⟩:=hg
  obtain ⟨z,y,vs,kv,dd⟩:=dictAt_of I.hok hg1
  obtain ⟨f0,f1,f2,f3,f4,f5⟩:=hf it (by simp)
  have hl:=kv.length
  have ne:a≠it:=fun q=>by rw [q,f0] at hg1; cases hg1
  have W:=Walks.dictKeys (prog:=X.prog) (w:=X.w) (knd:=mixKind X.prog X.w) (I.ok.hd hc) it a ne vs (epOf o)
  refine W.item i s _ _ (by omega) ⟨by rw [← hl]; exact st,dd⟩ fun v h' tk hv st' kk=>?_
  obtain ⟨k,x,h1,h2⟩:=hv
  have I1:Inv X pins σ H { s with heap:=h',toks:=tk }:=I.turned (fun b o hb e=>kk b o (by simpa using hb) e) f0 f1 f3 f4 f5
  have st1:h'.IsKeyIter it a (i + 1) kvs.length (epOf o):=by rw [hl]; exact st'.1
  obtain ⟨o1,e1,c1,d1⟩:=id st1
  obtain ⟨v0,h3⟩:=kv_at kv h1
  exact ⟨v,rfl,go_of (s:={ s with heap:=h',toks:=tk }) e1 c1 d1 (by decide) ⟨kV k,H,I1,keyV h2,⟨rfl,k,v0,h3,rfl⟩,st1,fun b hb=>(hf b hb).1⟩⟩
 done:=by
  intro X hP hw hK hc i pins s σ H E I hf st hg
  subst hP hw hK
  obtain ⟨hg1,hg2⟩:=hg
  obtain ⟨z,y,vs,kv,dd⟩:=dictAt_of I.hok hg1
  obtain ⟨f0,f1,f2,f3,f4,f5⟩:=hf it (by simp)
  have hl:=kv.length
  have ne:a≠it:=fun q=>by rw [q,f0] at hg1; cases hg1
  have W:=Walks.dictKeys (prog:=X.prog) (w:=X.w) (knd:=mixKind X.prog X.w) (I.ok.hd hc) it a ne vs (epOf o)
  refine W.done s _ _ ⟨by rw [← hl,← hg2]; rw [← hg2] at st; exact st,dd⟩ fun h' tk kk=>⟨rfl,I.turned (fun b o hb e=>kk b o (by simpa using hb) e) f0 f1 f3 f4 f5⟩
 self:=fun _ _ _ _ _ st h=>wpAny_pyIter_keyiter st h
end D
namespace D
open PySem PySem.Spec PyProof.Rows L2
inductive W where
 | d (x:PyData) | tp (i:Nat) | loc (x:PyData)
noncomputable abbrev Tp:=List (List PyData)
noncomputable abbrev Rho:=List (Option W)
noncomputable def bnd {α β:Type} (o:Option (α×Tp)) (k:α→Tp→Option β):Option β:=match o with
 | some (a,T)=>k a T
 | none=>none
theorem bnd_of {α β:Type} {o:Option (α×Tp)} {k:α→Tp→Option β} {b:β} (h:bnd o k=some b):∃ a T,o=some (a,T)∧k a T=some b:=by
 cases o with
 | none=>cases h
 | some p=>exact ⟨p.1,p.2,rfl,h⟩
noncomputable def keyD:Key→PyData
 | .inl i=>.int i
 | .inr x=>.str x
noncomputable def TupAt (K:PySem.W.Frag) (O:Addr→Prop) (H:Hp) (a:Addr) (vs:List V):Prop:=(¬ O a∧Rd H a (.tup vs))∨SqT K (fun _=>none) a vs
noncomputable def LstAt (K:PySem.W.Frag) (O:Addr→Prop) (H:Hp) (a:Addr) (vs:List V):Prop:=(¬ O a∧Rd H a (.lst vs))∨SqL K (fun _=>none) a vs
theorem sqT_of {K:PySem.W.Frag} {H:Hp} {a:Addr} {vs:List V} (h:SqT K (fun _=>none) a vs):SqT K H a vs:=by
 rcases h with (h | ⟨o,h⟩) | h
 ·cases h
 ·cases h
 ·exact .inr h
theorem sqL_of {K:PySem.W.Frag} {H:Hp} {a:Addr} {vs:List V} (h:SqL K (fun _=>none) a vs):SqL K H a vs:=by
 rcases h with (h | ⟨o,h⟩) | h
 ·cases h
 ·cases h
 ·exact .inr h
theorem TupAt.sq {K:PySem.W.Frag} {O:Addr→Prop} {H:Hp} {a:Addr} {vs:List V} (h:TupAt K O H a vs):SqT K H a vs:=by
 rcases h with h | h
 ·exact .inl h.2
 ·exact sqT_of h
theorem LstAt.sq {K:PySem.W.Frag} {O:Addr→Prop} {H:Hp} {a:Addr} {vs:List V} (h:LstAt K O H a vs):SqL K H a vs:=by
 rcases h with h | h
 ·exact .inl h.2
 ·exact sqL_of h
mutual
inductive Rep (K:PySem.W.Frag) (O:Addr→Prop) (H:Hp):V→PyData→Prop where
 | non:Rep K O H .non .none
 | bl (b:Bool):Rep K O H (.bl b) (.bool b)
 | int (i:Int):Rep K O H (.int i) (.int i)
 | str (x:Str):Rep K O H (.str x) (.str x)
 | tup {a:Addr} {vs:List V} {ds:List PyData}:TupAt K O H a vs→Reps K O H vs ds→Rep K O H (.ref a) (.tuple ds)
 | lst {a:Addr} {vs:List V} {ds:List PyData}:LstAt K O H a vs→Reps K O H vs ds→Rep K O H (.ref a) (.list ds)
 | dct {a:Addr} {o:Obj} {kvs:List (Key×V)} {ds:List (PyData×PyData)}:¬ O a→H a=some (.frz o (.dK kvs))→RepK K O H kvs ds→Rep K O H (.ref a) (.dict ds)
inductive Reps (K:PySem.W.Frag) (O:Addr→Prop) (H:Hp):List V→List PyData→Prop where
 | nil:Reps K O H [] []
 | cons {v:V} {d:PyData} {vs:List V} {ds:List PyData}:Rep K O H v d→Reps K O H vs ds→Reps K O H (v::vs) (d::ds)
inductive RepK (K:PySem.W.Frag) (O:Addr→Prop) (H:Hp):List (Key×V)→List (PyData×PyData)→Prop where
 | nil:RepK K O H [] []
 | cons {k:Key} {v:V} {d:PyData} {kvs:List (Key×V)} {ds:List (PyData×PyData)}:Rep K O H v d→RepK K O H kvs ds→RepK K O H ((k,v)::kvs) ((keyD k,d)::ds)
end
noncomputable def Le (O:Addr→Prop) (H:Hp) (O':Addr→Prop) (H':Hp):Prop:=∀ a o,¬ O a→H a=some o→¬ O' a∧H' a=some o
theorem Le.trans {O O1 O2:Addr→Prop} {H H1 H2:Hp} (h:Le O H O1 H1) (g:Le O1 H1 O2 H2):Le O H O2 H2:=fun a o n e=>let ⟨n1,e1⟩:=h a o n e; g a o n1 e1
theorem TupAt.mono {K:PySem.W.Frag} {O O':Addr→Prop} {H H':Hp} (h:Le O H O' H') {a:Addr} {vs:List V} (t:TupAt K O H a vs):TupAt K O' H' a vs:=by
 rcases t with ⟨n,t | ⟨o,t⟩⟩ | t
 ·exact .inl ⟨(h _ _ n t).1,.inl (h _ _ n t).2⟩
 ·exact .inl ⟨(h _ _ n t).1,.inr ⟨o,(h _ _ n t).2⟩⟩
 ·exact .inr t
theorem LstAt.mono {K:PySem.W.Frag} {O O':Addr→Prop} {H H':Hp} (h:Le O H O' H') {a:Addr} {vs:List V} (t:LstAt K O H a vs):LstAt K O' H' a vs:=by
 rcases t with ⟨n,t | ⟨o,t⟩⟩ | t
 ·exact .inl ⟨(h _ _ n t).1,.inl (h _ _ n t).2⟩
 ·exact .inl ⟨(h _ _ n t).1,.inr ⟨o,(h _ _ n t).2⟩⟩
 ·exact .inr t
mutual
theorem Rep.mono {K:PySem.W.Frag} {O O':Addr→Prop} {H H':Hp} (e:Le O H O' H'):∀ {v:V} {d:PyData},Rep K O H v d→Rep K O' H' v d
 | _,_,.non=>.non
 | _,_,.bl b=>.bl b
 | _,_,.int i=>.int i
 | _,_,.str x=>.str x
 | _,_,.tup t r=>.tup (t.mono e) (Reps.mono e r)
 | _,_,.lst t r=>.lst (t.mono e) (Reps.mono e r)
 | _,_,.dct n h r=>.dct (e _ _ n h).1 (e _ _ n h).2 (RepK.mono e r)
theorem Reps.mono {K:PySem.W.Frag} {O O':Addr→Prop} {H H':Hp} (e:Le O H O' H'):∀ {vs:List V} {ds:List PyData},Reps K O H vs ds→Reps K O' H' vs ds
 | _,_,.nil=>.nil
 | _,_,.cons r t=>.cons (Rep.mono e r) (Reps.mono e t)
theorem RepK.mono {K:PySem.W.Frag} {O O':Addr→Prop} {H H':Hp} (e:Le O H O' H'):∀ {vs:List (Key×V)} {ds:List (PyData×PyData)},RepK K O H vs ds→RepK K O' H' vs ds
 | _,_,.nil=>.nil
 | _,_,.cons r t=>.cons (Rep.mono e r) (RepK.mono e t)
end
section
variable {K:PySem.W.Frag} {O:Addr→Prop} {H:Hp}
theorem Reps.length:∀ {vs:List V} {ds:List PyData},Reps K O H vs ds→vs.length=ds.length
 | _,_,.nil=>rfl
 | _,_,.cons _ t=>congrArg (· + 1) (Reps.length t)
theorem Reps.get:∀ {vs:List V} {ds:List PyData} {i:Nat} {v:V},Reps K O H vs ds→vs[i]? = some v→∃ d,ds[i]? = some d∧Rep K O H v d
 | _,_,_,_,.nil,e=>by simp at e
 | _,_,0,_,.cons r _,e=>by simp at e; subst e; exact ⟨_,rfl,r⟩
 | _,_,i + 1,v,.cons _ t,e=>by
  obtain ⟨d,h1,h2⟩:=Reps.get (i:=i) (v:=v) t (by simpa using e)
  exact ⟨d,by simpa using h1,h2⟩
theorem Reps.getD:∀ {vs:List V} {ds:List PyData} {i:Nat} {d:PyData},Reps K O H vs ds→ds[i]? = some d→∃ v,vs[i]? = some v∧Rep K O H v d
 | _,_,_,_,.nil,e=>by simp at e
 | _,_,0,_,.cons r _,e=>by simp at e; subst e; exact ⟨_,rfl,r⟩
 | _,_,i + 1,v,.cons _ t,e=>by
  obtain ⟨d,h1,h2⟩:=Reps.getD (i:=i) (d:=v) t (by simpa using e)
  exact ⟨d,by simpa using h1,h2⟩
theorem Reps.set {v:V} {d:PyData} (r:Rep K O H v d):∀ {vs:List V} {ds:List PyData} (i:Nat),Reps K O H vs ds→Reps K O H (vs.set i v) (ds.set i d)
 | _,_,_,.nil=>.nil
 | _,_,0,.cons _ t=>.cons r t
 | _,_,i + 1,.cons q t=>.cons q (Reps.set r i t)
theorem Reps.append {ws:List V} {es:List PyData}:∀ {vs:List V} {ds:List PyData},Reps K O H vs ds→Reps K O H ws es→Reps K O H (vs++ws) (ds++es)
 | _,_,.nil,r=>r
 | _,_,.cons q t,r=>.cons q (Reps.append t r)
theorem Reps.take:∀ {vs:List V} {ds:List PyData} (n:Nat),Reps K O H vs ds→Reps K O H (vs.take n) (ds.take n)
 | _,_,0,_=>.nil
 | _,_,_ + 1,.nil=>.nil
 | _,_,n + 1,.cons r t=>.cons r (Reps.take n t)
theorem Reps.drop:∀ {vs:List V} {ds:List PyData} (n:Nat),Reps K O H vs ds→Reps K O H (vs.drop n) (ds.drop n)
 | _,_,0,r=>r
 | _,_,_ + 1,.nil=>.nil
 | _,_,n + 1,.cons _ t=>Reps.drop n t
theorem Reps.rep {vs:List V} {ds:List PyData} (r:Reps K O H vs ds):∀ n:Nat,Reps K O H (List.replicate n vs).flatten (List.replicate n ds).flatten
 | 0=>.nil
 | n + 1=>by
  rw [List.replicate_succ,List.replicate_succ,List.flatten_cons,List.flatten_cons]
  exact r.append (r.rep n)
end
noncomputable def SameX (ts:List Addr) (H H':Hp):Prop:=∀ b o,b∉ts→H b=some o→H' b=some o
theorem SameX.refl (ts:List Addr) (H:Hp):SameX ts H H:=fun _ _ _ h=>h
theorem SameX.trans {ts:List Addr} {H H1 H2:Hp} (a:SameX ts H H1) (b:SameX ts H1 H2):SameX ts H H2:=fun c o n h=>b c o n (a c o n h)
theorem SameX.new {ts:List Addr} {H:Hp} {p:Addr} (h:H p=none) (o:HO):SameX ts H (upd H p o):=fun b u _ q=>by rw [upd_ne (ne_of_none q h)]; exact q
noncomputable def Mut (o:Option HO):Prop:=(∃ vs,o=some (.lst vs))∨(∃ kvs,o=some (.dK kvs))∨∃ C dx fs,o=some (.ins C dx fs)
theorem Mut.ex {o:Option HO} (h:Mut o):∃ u,o=some u:=by
 rcases h with ⟨vs,e⟩ | ⟨vs,e⟩ | ⟨C,dx,fs,e⟩ <;> exact ⟨_,e⟩
theorem Mut.to {o o':Option HO} (h:Mut o) (k:∀ u,o=some u→o'=some u):Mut o':=by
 rcases h with ⟨vs,e⟩ | ⟨vs,e⟩ | ⟨C,dx,fs,e⟩
 ·exact .inl ⟨vs,k _ e⟩
 ·exact .inr (.inl ⟨vs,k _ e⟩)
 ·exact .inr (.inr ⟨C,dx,fs,k _ e⟩)
noncomputable def tagO (C:Addr):PyData:=.dict [(.none,.int (C:Int))]
noncomputable def isO:List PyData→Bool
 | .dict [(.none,_)]::_=>true
 | _=>false
noncomputable def pairF (p:Str×PyData):PyData:=.tuple [.str p.1,p.2]
inductive RepF (K:PySem.W.Frag) (O:Addr→Prop) (H:Hp):List (Str×V)→List (Str×PyData)→Prop where
 | nil:RepF K O H [] []
 | cons {n:Str} {v:V} {d:PyData} {vs:List (Str×V)} {ds:List (Str×PyData)}:Rep K O H v d→RepF K O H vs ds→RepF K O H ((n,v)::vs) ((n,d)::ds)
theorem RepF.mono {K:PySem.W.Frag} {O O':Addr→Prop} {H H':Hp} (e:Le O H O' H') {vs:List (Str×V)} {ds:List (Str×PyData)} (r:RepF K O H vs ds):RepF K O' H' vs ds:=by
 induction r with
 | nil=>exact .nil
 | cons r _ ih=>exact .cons (Rep.mono e r) ih
noncomputable def RowAt (K:PySem.W.Frag) (O:Addr→Prop) (H:Hp) (a:Addr) (xs:List PyData):Prop:=
 (isO xs=false∧∃ vs,H a=some (.lst vs)∧Reps K O H vs xs)∨∃ C dx fs fd,H a=some (.ins C dx fs)∧xs=tagO C::fd.map pairF∧RepF K O H fs fd
theorem RowAt.mono {K:PySem.W.Frag} {O O':Addr→Prop} {H H':Hp} {a:Addr} {xs:List PyData} (h:RowAt K O H a xs) (k:∀ o,H a=some o→H' a=some o) (l:Le O H O' H'):RowAt K O' H' a xs:=by
 rcases h with ⟨n,vs,h1,h2⟩ | ⟨C,dx,fs,fd,h1,h2,h3⟩
 ·exact .inl ⟨n,vs,k _ h1,h2.mono l⟩
 ·exact .inr ⟨C,dx,fs,fd,k _ h1,h2,h3.mono l⟩
theorem RowAt.lst {K:PySem.W.Frag} {O:Addr→Prop} {H:Hp} {a:Addr} {xs:List PyData} (h:RowAt K O H a xs) (n:isO xs=false):∃ vs,H a=some (.lst vs)∧Reps K O H vs xs:=by
 rcases h with ⟨_,h⟩ | ⟨C,dx,fs,fd,h1,h2,h3⟩
 ·exact h
 ·rw [h2] at n
  cases n
theorem rep_tag {K:PySem.W.Frag} {O:Addr→Prop} {H:Hp} {v:V} {y:PyData} (h:Rep K O H v (.dict [(.none,y)])):False:=by
 cases h with
 | dct _ _ r=>
  generalize hl:[(PyData.none,y)]=l at r
  cases r with
  | nil=>cases hl
  | @cons k _ _ _ _ _ _=>
   injection hl with h1 _
   injection h1 with h1 _
   rcases k with i | x
   ·cases h1
   ·cases h1
theorem Reps.notO {K:PySem.W.Frag} {O:Addr→Prop} {H:Hp} {vs:List V} {xs:List PyData} (r:Reps K O H vs xs):isO xs=false:=by
 cases r with
 | nil=>rfl
 | cons h _=>
  rename_i d _ _ _
  unfold isO
  split
  ·rename_i e
   cases e
   exact (rep_tag h).elim
  ·rfl
structure HC (K:PySem.W.Frag) (O:Addr→Prop) (ts:List Addr) (H:Hp) (T:Tp):Prop where
 own:∀ b∈ts,O b
 trk:∀ b,O b→Mut (H b)
 nd:ts.Nodup
 len:ts.length=T.length
 tape:∀ (i:Nat) (a:Addr) (xs:List PyData),ts[i]? = some a→T[i]? = some xs→RowAt K O H a xs
section
variable {K:PySem.W.Frag} {O:Addr→Prop} {ts:List Addr} {H H':Hp} {T:Tp}
theorem HC.le (c:HC K O ts H T) (s:SameX ts H H'):Le O H O H':=fun a o n e=>⟨n,s a o (fun z=>n (c.own a z)) e⟩
theorem HC.step (c:HC K O ts H T) (s:SameX ts H H') (t:∀ b∈ts,H' b=H b):HC K O ts H' T where
 own:=c.own
 trk:=fun b hb=>by
  by_cases z:b∈ts
  ·rw [t b z]; exact c.trk b hb
  ·exact (c.trk b hb).to fun u e=>s b _ z e
 nd:=c.nd
 len:=c.len
 tape:=fun i a xs e1 e2=>by
  exact (c.tape i a xs e1 e2).mono (fun o h1=>by rw [t a (List.mem_of_getElem? e1)]; exact h1) (c.le s)
theorem HC.fresh (c:HC K O ts H T) {p:Addr} (h:H p=none):¬ O p:=fun z=>by
 obtain ⟨u,e⟩:=(c.trk p z).ex
 rw [h] at e
 cases e
theorem HC.new (c:HC K O ts H T) {p:Addr} (h:H p=none) (o:HO):HC K O ts (upd H p o) T:=
 c.step (.new h o) fun b hb=>upd_ne fun z=>c.fresh h (z ▸ c.own b hb)
theorem HC.leNew (c:HC K O ts H T) {p:Addr} (h:H p=none) (o:HO):Le O H O (upd H p o):=c.le (.new h o)
theorem HC.newT (c:HC K O ts H T) {p:Addr} (h:H p=none) {vs:List V} {ds:List PyData} (r:Reps K O H vs ds):Rep K O (upd H p (.tup vs)) (.ref p) (.tuple ds):=
 .tup (.inl ⟨c.fresh h,.inl upd_same⟩) (r.mono (c.leNew h _))
theorem HC.newL (c:HC K O ts H T) {p:Addr} (h:H p=none) {vs:List V} {ds:List PyData} (r:Reps K O H vs ds):Rep K O (upd H p (.lst vs)) (.ref p) (.list ds):=
 .lst (.inl ⟨c.fresh h,.inl upd_same⟩) (r.mono (c.leNew h _))
end
inductive Vw (K:PySem.W.Frag) (O:Addr→Prop) (H:Hp):V→PyData→Prop where
 | rep {v:V} {x:PyData}:Rep K O H v x→Vw K O H v x
 | raw {a:Addr} {vs:List V} {xs:List PyData}:H a=some (.lst vs)→Reps K O H vs xs→Vw K O H (.ref a) (.list xs)
 | rawD {a:Addr} {kvs:List (Key×V)} {ds:List (PyData×PyData)}:H a=some (.dK kvs)→RepK K O H kvs ds→Vw K O H (.ref a) (.dict ds)
section
variable {K:PySem.W.Frag} {O:Addr→Prop} {H:Hp} {v:V}
theorem Vw.int {i:Int} (h:Vw K O H v (.int i)):v=.int i:=by cases h with | rep h=>cases h; rfl
theorem Vw.str {x:Str} (h:Vw K O H v (.str x)):v=.str x:=by cases h with | rep h=>cases h; rfl
theorem Vw.bl {b:Bool} (h:Vw K O H v (.bool b)):v=.bl b:=by cases h with | rep h=>cases h; rfl
theorem Vw.non (h:Vw K O H v .none):v=.non:=by cases h with | rep h=>cases h; rfl
theorem Vw.tup {ds:List PyData} (h:Vw K O H v (.tuple ds)):∃ a vs,v=.ref a∧TupAt K O H a vs∧Reps K O H vs ds:=by
 cases h with | rep h=>cases h with | tup t r=>exact ⟨_,_,rfl,t,r⟩
theorem Vw.tupR {ds:List PyData} (h:Vw K O H v (.tuple ds)):Rep K O H v (.tuple ds):=by cases h with | rep h=>exact h
theorem Vw.lst {ds:List PyData} (h:Vw K O H v (.list ds)):∃ a vs,v=.ref a∧SqL K H a vs∧Reps K O H vs ds:=by
 cases h with
 | rep h=>cases h with | lst t r=>exact ⟨_,_,rfl,t.sq,r⟩
 | raw h r=>exact ⟨_,_,rfl,SqL.of h,r⟩
theorem Vw.dct {ds:List (PyData×PyData)} (h:Vw K O H v (.dict ds)):∃ a kvs,v=.ref a∧Rd H a (.dK kvs)∧RepK K O H kvs ds:=by
 cases h with
 | rep h=>cases h with | dct n t r=>exact ⟨_,_,rfl,.inr ⟨_,t⟩,r⟩
 | rawD t r=>exact ⟨_,_,rfl,.inl t,r⟩
end
noncomputable def OwnAt (K:PySem.W.Frag) (O:Addr→Prop) (H:Hp) (a:Addr):PyData→Prop
 | .list xs=>∃ vs,H a=some (.lst vs)∧Reps K O H vs xs
 | .dict ds=>∃ kvs,H a=some (.dK kvs)∧RepK K O H kvs ds
 | _=>False
theorem OwnAt.mono {K:PySem.W.Frag} {O O':Addr→Prop} {H H':Hp} {a:Addr} {x:PyData} (h:OwnAt K O H a x) (k:∀ o,H a=some o→H' a=some o) (l:Le O H O' H'):OwnAt K O' H' a x:=by
 cases x with
 | list xs=>obtain ⟨vs,h1,h2⟩:=h; exact ⟨vs,k _ h1,h2.mono l⟩
 | dict ds=>obtain ⟨vs,h1,h2⟩:=h; exact ⟨vs,k _ h1,h2.mono l⟩
 | _=>cases h
theorem OwnAt.some {K:PySem.W.Frag} {O:Addr→Prop} {H:Hp} {a:Addr} {x:PyData} (h:OwnAt K O H a x):∃ o,H a=some o:=by
 cases x with
 | list xs=>obtain ⟨vs,h1,h2⟩:=h; exact ⟨_,h1⟩
 | dict ds=>obtain ⟨vs,h1,h2⟩:=h; exact ⟨_,h1⟩
 | _=>cases h
noncomputable def RepW (K:PySem.W.Frag) (O:Addr→Prop) (ts:List Addr) (H:Hp) (v:V):W→Prop
 | .d x=>Rep K O H v x
 | .tp i=>∃ a,ts[i]? = some a∧v=.ref a
 | .loc x=>∃ a,v=.ref a∧O a∧a∉ts∧OwnAt K O H a x
noncomputable def rowV (xs:List PyData):Option PyData:=if isO xs=true then none else some (.list xs)
noncomputable def view (T:Tp):W→Option PyData
 | .d x=>some x
 | .tp i=>(T[i]?).bind rowV
 | .loc (.list xs)=>some (.list xs)
 | .loc (.dict ds)=>some (.dict ds)
 | .loc _=>none
noncomputable def views (T:Tp):List W→Option (List PyData)
 | []=>some []
 | w::r=>match view T w with
  | some x=>(match views T r with
   | some xs=>some (x::xs)
   | none=>none)
  | none=>none
noncomputable def RepWs (K:PySem.W.Frag) (O:Addr→Prop) (ts:List Addr) (H:Hp):List V→List W→Prop:=Paired fun v w=>RepW K O ts H v w
noncomputable def Vws (K:PySem.W.Frag) (O:Addr→Prop) (H:Hp):List V→List PyData→Prop:=Paired fun v x=>Vw K O H v x
noncomputable def RelE (K:PySem.W.Frag) (O:Addr→Prop) (ts:List Addr) (H:Hp) (σ:L2.St) (ρ:Rho):Prop:=∀ (i:Nat) (w:W),ρ[i]? = some (some w)→∃ v,σ[i]? = some (some v)∧RepW K O ts H v w
section
variable {K:PySem.W.Frag} {O:Addr→Prop} {ts:List Addr} {H H':Hp} {T:Tp} {v:V} {w:W}
theorem RepW.mono (r:RepW K O ts H v w) (c:HC K O ts H T) (s:SameX ts H H'):RepW K O ts H' v w:=by
 cases w with
 | d x=>exact Rep.mono (c.le s) r
 | tp i=>exact r
 | loc xs=>
  obtain ⟨a,e,h1,h2,h3⟩:=r
  exact ⟨a,e,h1,h2,h3.mono (fun o q=>s _ _ h2 q) (c.le s)⟩
theorem RelE.mono {σ:L2.St} {ρ:Rho} (r:RelE K O ts H σ ρ) (c:HC K O ts H T) (s:SameX ts H H'):RelE K O ts H' σ ρ:=fun i w e=>
 let ⟨v,h1,h2⟩:=r i w e; ⟨v,h1,h2.mono c s⟩
theorem RepWs.mono {vs:List V} {ws:List W} (r:RepWs K O ts H vs ws) (c:HC K O ts H T) (s:SameX ts H H'):RepWs K O ts H' vs ws:=Paired.mapP r fun _ _ h=>h.mono c s
theorem HC.view (c:HC K O ts H T) {x:PyData} (r:RepW K O ts H v w) (e:view T w=some x):Vw K O H v x:=by
 cases w with
 | d y=>cases e; exact .rep r
 | tp i=>
  obtain ⟨a,h1,rfl⟩:=r
  have e':(T[i]?).bind rowV=some x:=e
  cases ht:T[i]? with
  | none=>rw [ht] at e'; cases e'
  | some xs=>
   rw [ht] at e'
   have e2:(if isO xs=true then none else some (PyData.list xs))=some x:=e'
   split at e2
   ·cases e2
   ·rename_i hn
    cases e2
    obtain ⟨vs,h2,h3⟩:=(c.tape i a xs h1 ht).lst (by simpa using hn)
    exact .raw h2 h3
 | loc xs=>
  obtain ⟨a,rfl,_,_,h3⟩:=r
  cases xs with
  | list xs=>cases e; obtain ⟨vs,h1,h2⟩:=h3; exact .raw h1 h2
  | dict ds=>cases e; obtain ⟨vs,h1,h2⟩:=h3; exact .rawD h1 h2
  | _=>cases h3
theorem HC.views (c:HC K O ts H T):∀ {vs:List V} {ws:List W} {xs:List PyData},RepWs K O ts H vs ws→views T ws=some xs→Vws K O H vs xs
 | _,[],xs,.nil,e=>by cases e; exact .nil
 | _,w::r,xs,.cons h t,e=>by
  unfold D.views at e
  split at e
  ·rename_i x h1
   split at e
   ·rename_i ys h2
    cases e
    exact .cons (c.view h h1) (HC.views c t h2)
   ·cases e
  ·cases e
end
end D
namespace D
open PySem PySem.Spec PyProof.Rows L2
noncomputable def noStar:Expr→Bool
 | .Starred _ _=>false
 | _=>true
theorem star_cons {e:Expr} {es:List Expr} {env:Env} (h:noStar e=true):starEach (e::es) env=(false,eval e env)::starEach es env:=by
 cases e <;> first | rfl | cases h
theorem star_one {e:Expr} {env:Env} (h:noStar e=true):starEach [e] env=[(false,eval e env)]:=star_cons h
theorem star_two {e e':Expr} {env:Env} (h:noStar e=true) (h':noStar e'=true):starEach [e,e'] env=[(false,eval e env),(false,eval e' env)]:=by rw [star_cons h,star_one h']
theorem star_any {env:Env} {pos:Pos}:∀ {es:List Expr},es.all noStar=true→(backTo pos (starEach es env)).any (·.1)=false
 | [],_=>rfl
 | e::r,h=>by
  rw [List.all_cons,Bool.and_eq_true] at h
  rw [star_cons h.1]
  show (false || (backTo pos (starEach r env)).any (·.1))=false
  rw [star_any h.2]
  rfl
theorem few1 {e:Expr} {env:Env} {cpos:Pos} (h:noStar e=true):((backTo cpos (starEach [e] env)).all (fun x=>!x.1) && (backToKw cpos (keywordEach [] env)).all (fun x=>x.1.isSome)
   && decide (([e]:List Expr).length + ([]:List Keyword).length + (if ([]:List Keyword).isEmpty then 0 else 1) < 30))=true:=by
 rw [star_one h]
 rfl
noncomputable abbrev FE:=Rho→Tp→Option (W×Tp)
noncomputable abbrev FT:=Rho→Tp→Option (Bool×Tp)
noncomputable abbrev FA:=Rho→Tp→Option (List W×Tp)
inductive LiftP (K:PySem.W.Frag) (f:FE) (σ:L2.St) (H:Hp) (Q:VK):Prop where
 | mk (O:Addr→Prop) (ts:List Addr) (ρ:Rho) (T:Tp) (w:W) (T':Tp) (hc:HC K O ts H T) (re:RelE K O ts H σ ρ) (e:f ρ T=some (w,T')) (q:∀ v H',SameX ts H H'→HC K O ts H' T'→RepW K O ts H' v w→Q v H'):LiftP K f σ H Q
noncomputable def lift (K:PySem.W.Frag) (f:FE):TE:=fun σ H Q=>LiftP K f σ H Q
inductive LiftTP (K:PySem.W.Frag) (f:FT) (σ:L2.St) (H:Hp) (Q:Bool→Hp→Prop):Prop where
 | mk (O:Addr→Prop) (ts:List Addr) (ρ:Rho) (T:Tp) (b:Bool) (T':Tp) (hc:HC K O ts H T) (re:RelE K O ts H σ ρ) (e:f ρ T=some (b,T')) (q:∀ H',SameX ts H H'→HC K O ts H' T'→Q b H'):LiftTP K f σ H Q
noncomputable def liftT (K:PySem.W.Frag) (f:FT):TT:=fun σ H Q=>LiftTP K f σ H Q
inductive LiftAP (K:PySem.W.Frag) (f:FA) (σ:L2.St) (H:Hp) (Q:List V→Hp→Prop):Prop where
 | mk (O:Addr→Prop) (ts:List Addr) (ρ:Rho) (T:Tp) (ws:List W) (T':Tp) (hc:HC K O ts H T) (re:RelE K O ts H σ ρ) (e:f ρ T=some (ws,T')) (q:∀ vs H',SameX ts H H'→HC K O ts H' T'→RepWs K O ts H' vs ws→Q vs H'):LiftAP K f σ H Q
noncomputable def liftA (K:PySem.W.Frag) (f:FA):TA:=fun σ H Q=>LiftAP K f σ H Q
structure DE (X:Cx) (e:Expr) (f:FE):Prop where
 pe:PE X e (lift X.K f)
structure DT (X:Cx) (e:Expr) (f:FT):Prop where
 pe:PT X e (liftT X.K f)
structure DW (X:Cx) (e:Expr) (f:FT):Prop where
 pe:PW X e (liftT X.K f)
structure DA (X:Cx) (es:List Expr) (f:FA):Prop where
 pe:PA X es (liftA X.K f)
theorem pe_imp {X:Cx} {e:Expr} {t t':TE} (h:PE X e t) (i:∀ σ H Q,t' σ H Q→t σ H Q):PE X e t':=fun pins s σ H Q I q=>h pins s σ H Q I (i σ H Q q)
theorem pt_imp {X:Cx} {e:Expr} {t t':TT} (h:PT X e t) (i:∀ σ H Q,t' σ H Q→t σ H Q):PT X e t':=fun pins s σ H Q I q=>h pins s σ H Q I (i σ H Q q)
theorem pw_imp {X:Cx} {e:Expr} {t t':TT} (h:PW X e t) (i:∀ σ H Q,t' σ H Q→t σ H Q):PW X e t':=fun wh pins s σ H Q I q=>h wh pins s σ H Q I (i σ H Q q)
theorem pa_imp {X:Cx} {e:List Expr} {t t':TA} (h:PA X e t) (i:∀ σ H Q,t' σ H Q→t σ H Q):PA X e t':=fun po pins s σ H Q I q=>h po pins s σ H Q I (i σ H Q q)
noncomputable def fVar (i:Nat):FE:=fun ρ T=>match ρ[i]? with
 | some (some w)=>some (w,T)
 | _=>none
noncomputable def fC (x:PyData):FE:=fun _ T=>some (.d x,T)
section
variable {X:Cx} {pos:Pos}
theorem de_var (i:Nat) {x:Str} (hN:X.N[i]? = some x:=by rfl) (hv:Vis X.env.scope x:=by first | exact Or.inl rfl | exact Or.inr (Or.inl rfl) | exact Or.inr (Or.inr rfl)) (hd:(x == ("__debug__" : Str))=false:=by decide)
  (hcd:(x == ("__classdict__" : Str))=false:=by decide):DE X (.Name x pos) (fVar i):=by
 refine ⟨?_⟩
 refine pe_imp (pv i hN hv hd hcd) fun σ H Q=>?_
 rintro ⟨O,ts,ρ,T,w,T',hc,re,e,q⟩
 unfold fVar at e
 split at e
 ·rename_i w' he
  cases e
  obtain ⟨v,h1,h2⟩:=re i _ he
  exact ⟨v,h1,q v H (.refl _ _) hc h2⟩
 ·cases e
theorem lift_c {x:PyData} {v:V} (h:∀ O H,Rep X.K O H v x):∀ σ H Q,lift X.K (fC x) σ H Q→tC v σ H Q:=by
 rintro σ H Q ⟨O,ts,ρ,T,w,T',hc,re,e,q⟩
 cases e
 exact q v H (.refl _ _) hc (h O H)
theorem de_int {i j}:DE X (.Constant (.int i) j pos) (fC (.int i)):=⟨pe_imp pe_int (lift_c fun _ _=>.int i)⟩
theorem de_bl {i j}:DE X (.Constant (.bool i) j pos) (fC (.bool i)):=⟨pe_imp pe_bl (lift_c fun _ _=>.bl i)⟩
theorem de_str {i j}:DE X (.Constant (.str i) j pos) (fC (.str i)):=⟨pe_imp pe_str (lift_c fun _ _=>.str i)⟩
theorem de_non {j}:DE X (.Constant .none j pos) (fC .none):=⟨pe_imp pe_non (lift_c fun _ _=>.non)⟩
end
noncomputable def op1 (g:PyData→Option PyData) (T:Tp) (w:W):Option (W×Tp):=match view T w with
 | some x=>match g x with
  | some d=>some (.d d,T)
  | none=>none
 | none=>none
noncomputable def op2 (g:PyData→PyData→Option PyData) (T:Tp) (w1 w2:W):Option (W×Tp):=match view T w1,view T w2 with
 | some x,some y=>match g x y with
  | some d=>some (.d d,T)
  | none=>none
 | _,_=>none
theorem op1_of {g:PyData→Option PyData} {T T':Tp} {w1 w:W} (e:op1 g T w1=some (w,T')):∃ x d,view T w1=some x∧g x=some d∧w=.d d∧T'=T:=by
 unfold op1 at e
 split at e
 ·rename_i x h1
  split at e
  ·rename_i d h3
   cases e
   exact ⟨x,d,h1,h3,rfl,rfl⟩
  ·cases e
 ·cases e
theorem op2_of {g:PyData→PyData→Option PyData} {T T':Tp} {w1 w2 w:W} (e:op2 g T w1 w2=some (w,T')):∃ x y d,view T w1=some x∧view T w2=some y∧g x y=some d∧w=.d d∧T'=T:=by
 unfold op2 at e
 split at e
 ·rename_i x y h1 h2
  split at e
  ·rename_i d h3
   cases e
   exact ⟨x,y,d,h1,h2,h3,rfl,rfl⟩
  ·cases e
 ·cases e
noncomputable def fBin (g:PyData→PyData→Option PyData) (fa fb:FE):FE:=fun ρ T=>bnd (fa ρ T) fun w1 T1=>bnd (fb ρ T1) fun w2 T2=>op2 g T2 w1 w2
noncomputable def fUn (g:PyData→Option PyData) (fa:FE):FE:=fun ρ T=>bnd (fa ρ T) fun w1 T1=>op1 g T1 w1
noncomputable def Snd2 (K:PySem.W.Frag) (r:R2) (g:PyData→PyData→Option PyData):Prop:=∀ (O:Addr→Prop) (ts:List Addr) (H:Hp) (T:Tp) (v1 v2:V) (x y d:PyData) (Q:VK),HC K O ts H T→Vw K O H v1 x→Vw K O H v2 y→g x y=some d →
 (∀ v H',SameX ts H H'→HC K O ts H' T→Rep K O H' v d→Q v H')→r v1 v2 H Q
noncomputable def Snd1 (K:PySem.W.Frag) (r:V→Hp→VK→Prop) (g:PyData→Option PyData):Prop:=∀ (O:Addr→Prop) (ts:List Addr) (H:Hp) (T:Tp) (v1:V) (x d:PyData) (Q:VK),HC K O ts H T→Vw K O H v1 x→g x=some d →
 (∀ v H',SameX ts H H'→HC K O ts H' T→Rep K O H' v d→Q v H')→r v1 H Q
noncomputable def OpD (X:Cx) (f:Value→Value→Sem Value) (g:PyData→PyData→Option PyData):Prop:=∃ r,OpR X f r∧Snd2 X.K r g
noncomputable def IxD (X:Cx) (g:PyData→PyData→Option PyData):Prop:=∃ r,IxR X r∧Snd2 X.K r g
theorem bin_imp {K:PySem.W.Frag} {r:R2} {g:PyData→PyData→Option PyData} {fa fb:FE} (snd:Snd2 K r g) {σ:L2.St} {H:Hp} {Q:VK} (h:lift K (fBin g fa fb) σ H Q):tOp r (lift K fa) (lift K fb) σ H Q:=by
 obtain ⟨O,ts,ρ,T,w,T',hc,re,e,q⟩:=h
 obtain ⟨w1,T1,e1,e⟩:=bnd_of e
 obtain ⟨w2,T2,e2,e⟩:=bnd_of e
 obtain ⟨x,y,d,h1,h2,h3,rfl,rfl⟩:=op2_of e
 refine ⟨O,ts,ρ,T,w1,T1,hc,re,e1,fun v1 H1 s1 hc1 r1=>?_⟩
 refine ⟨O,ts,ρ,T1,w2,T',hc1,re.mono hc s1,e2,fun v2 H2 s2 hc2 r2=>?_⟩
 exact snd O ts H2 T' v1 v2 x y d Q hc2 (hc2.view (r1.mono hc1 s2) h1) (hc2.view r2 h2) h3 fun v H' s3 hc3 r3=>q v H' (s1.trans (s2.trans s3)) hc3 r3
noncomputable def asB:W→Option Bool
 | .d (.bool b)=>some b
 | _=>none
theorem asB_of {w:W} {b:Bool} (h:asB w=some b):w=.d (.bool b):=by
 unfold asB at h
 split at h
 ·cases h; rfl
 ·cases h
noncomputable def fTst (f:FE):FT:=fun ρ T=>bnd (f ρ T) fun w T1=>match asB w with
 | some b=>some (b,T1)
 | none=>none
theorem tst_imp {K:PySem.W.Frag} {f:FE} {σ:L2.St} {H:Hp} {Q:Bool→Hp→Prop} (h:liftT K (fTst f) σ H Q):lift K f σ H fun x H'=>∃ k,x=.bl k∧Q k H':=by
 obtain ⟨O,ts,ρ,T,w,T',hc,re,e,q⟩:=h
 obtain ⟨w1,T1,e1,e⟩:=bnd_of e
 refine ⟨O,ts,ρ,T,w1,T1,hc,re,e1,fun v1 H1 s1 hc1 r1=>?_⟩
 split at e
 ·rename_i b hb
  cases e
  have hw:=asB_of hb
  subst hw
  cases (show Rep K O H1 v1 _ from r1)
  exact ⟨_,rfl,q H1 s1 hc1⟩
 ·cases e
section
variable {X:Cx} {pos:Pos} {a b c:Expr} {fa fb fc:FE} {g g':PyData→PyData→Option PyData}
theorem de_bin {op:Operator} (ho:OpD X (binaryOp op) g) (ha:DE X a fa) (hb:DE X b fb):DE X (.BinOp a op b pos) (fBin g fa fb):=by
 refine ⟨?_⟩
 obtain ⟨r,hr,snd⟩:=ho
 exact pe_imp (pe_op hr ha.pe hb.pe) fun σ H Q=>bin_imp snd
theorem de_cmp {op:CmpOp} (ho:OpD X (compareOp op) g) (ha:DE X a fa) (hb:DE X b fb) (hm:behindInMarks op b=false:=by first | exact nomark _ | with_unfolding_all rfl):DE X (.Compare a [op] [b] pos) (fBin g fa fb):=by
 refine ⟨?_⟩
 obtain ⟨r,hr,snd⟩:=ho
 exact pe_imp (pe_cmpR hr ha.pe hb.pe hm) fun σ H Q=>bin_imp snd
theorem dt_cmp {op:CmpOp} (ho:OpD X (compareOp op) g) (ha:DE X a fa) (hb:DE X b fb) (hm:behindInMarks op b=false:=by first | exact nomark _ | with_unfolding_all rfl):DT X (.Compare a [op] [b] pos) (fTst (fBin g fa fb)):=by
 refine ⟨?_⟩
 obtain ⟨r,hr,snd⟩:=ho
 exact pt_imp (pt_cmpR hr ha.pe hb.pe hm) fun σ H Q h=>bin_imp snd (tst_imp h)
theorem de_ix (ho:IxD X g) (ha:DE X a fa) (hb:DE X b fb) (hs:PlainIx b:=by exact fun _ _=>rfl):DE X (.Subscript a b pos) (fBin g fa fb):=by
 refine ⟨?_⟩
 obtain ⟨r,hr,snd⟩:=ho
 exact pe_imp (pe_ix hr ha.pe hb.pe hs) fun σ H Q=>bin_imp snd
noncomputable def fChain (g g':PyData→PyData→Option PyData) (fa fb fc:FE):FE:=fun ρ T=>bnd (fa ρ T) fun w1 T1=>bnd (fb ρ T1) fun w2 T2=>bnd (op2 g T2 w1 w2) fun w T3=>match asB w with
 | some b=>if b=true then bnd (fc ρ T3) fun w3 T4=>op2 g' T4 w2 w3 else some (.d (.bool false),T3)
 | none=>none
theorem chain_imp {K:PySem.W.Frag} {r r':R2} (snd:Snd2 K r g) (snd':Snd2 K r' g') {σ:L2.St} {H:Hp} {Q:VK} (h:lift K (fChain g g' fa fb fc) σ H Q):tChain r r' (lift K fa) (lift K fb) (lift K fc) σ H Q:=by
 obtain ⟨O,ts,ρ,T,w,T',hc,re,e,q⟩:=h
 obtain ⟨w1,T1,e1,e⟩:=bnd_of e
 obtain ⟨w2,T2,e2,e⟩:=bnd_of e
 obtain ⟨wz,T3,e3,ez⟩:=bnd_of e
 obtain ⟨x,y,d,h1,h2,h3,rfl,rfl⟩:=op2_of e3
 clear e
 refine ⟨O,ts,ρ,T,w1,T1,hc,re,e1,fun v1 H1 s1 hc1 r1=>?_⟩
 refine ⟨O,ts,ρ,T1,w2,T3,hc1,re.mono hc s1,e2,fun v2 H2 s2 hc2 r2=>?_⟩
 refine snd O ts H2 T3 v1 v2 x y d _ hc2 (hc2.view (r1.mono hc1 s2) h1) (hc2.view r2 h2) h3 fun v H3 s3 hc3 r3=>?_
 split at ez
 ·rename_i b hb
  have hd:=asB_of hb
  injection hd with hd
  subst hd
  cases r3
  cases b with
  | true=>
   rw [if_pos rfl] at ez
   refine ⟨true,rfl,iteT ?_⟩
   obtain ⟨w3,T4,e4,e5⟩:=bnd_of ez
   obtain ⟨x',y',d',h1',h2',h3',rfl,rfl⟩:=op2_of e5
   refine ⟨O,ts,ρ,T3,w3,T',hc3,(re.mono hc (s1.trans (s2.trans s3))),e4,fun v3 H4 s4 hc4 r4=>?_⟩
   exact snd' O ts H4 T' v2 v3 x' y' d' Q hc4 (hc4.view (r2.mono hc2 (s3.trans s4)) h1') (hc4.view r4 h2') h3' fun v H' s5 hc5 r5=>q v H' (s1.trans (s2.trans (s3.trans (s4.trans s5)))) hc5 r5
  | false=>
   rw [if_neg Bool.false_ne_true] at ez
   cases ez
   exact ⟨false,rfl,iteF (q _ H3 (s1.trans (s2.trans s3)) hc3 (.bl false))⟩
 ·cases ez
theorem de_chain {op op':CmpOp} (ho:OpD X (compareOp op) g) (ho':OpD X (compareOp op') g') (ha:DE X a fa) (hb:DE X b fb) (hc:DE X c fc)
  (hm:lastMarks [op,op'] [b,c]=false:=by with_unfolding_all rfl):DE X (.Compare a [op,op'] [b,c] pos) (fChain g g' fa fb fc):=by
 refine ⟨?_⟩
 obtain ⟨r,hr,snd⟩:=ho
 obtain ⟨r',hr',snd'⟩:=ho'
 exact pe_imp (pe_chain hr hr' ha.pe hb.pe hc.pe hm) fun σ H Q=>chain_imp snd snd'
theorem dt_chain {op op':CmpOp} (ho:OpD X (compareOp op) g) (ho':OpD X (compareOp op') g') (ha:DE X a fa) (hb:DE X b fb) (hc:DE X c fc)
  (hm:lastMarks [op,op'] [b,c]=false:=by with_unfolding_all rfl):DT X (.Compare a [op,op'] [b,c] pos) (fTst (fChain g g' fa fb fc)):=by
 refine ⟨?_⟩
 obtain ⟨r,hr,snd⟩:=ho
 obtain ⟨r',hr',snd'⟩:=ho'
 exact pt_imp (pt_chain hr hr' ha.pe hb.pe hc.pe hm) fun σ H Q h=>chain_imp snd snd' (tst_imp h)
noncomputable def truD:PyData→Option Bool
 | .none=>some false
 | .bool b=>some b
 | .int i=>some (i != 0)
 | .str y=>if y.length≤sizeLine then some ((y.length:Int) != 0) else none
 | .list xs=>some (!xs.isEmpty)
 | .tuple xs=>some (!xs.isEmpty)
 | .dict _=>none
noncomputable def tru1 (T:Tp) (w:W):Option (Bool×Tp):=match view T w with
 | some x=>match truD x with
  | some b=>some (b,T)
  | none=>none
 | none=>none
noncomputable def fTru (f:FE):FT:=fun ρ T=>bnd (f ρ T) fun w T1=>tru1 T1 w
theorem reps_empty {K:PySem.W.Frag} {O:Addr→Prop} {H:Hp} {vs:List V} {ds:List PyData} (r:Reps K O H vs ds):vs.isEmpty=ds.isEmpty:=by cases r <;> rfl
theorem tru_of {K:PySem.W.Frag} {O:Addr→Prop} {H:Hp} {v:V} {x:PyData} {b:Bool} (h:Vw K O H v x) (e:truD x=some b):TruV K v H b:=by
 cases x with
 | none=>cases h.non; cases e; rfl
 | bool c=>cases h.bl; cases e; rfl
 | int i=>cases h.int; cases e; rfl
 | str y=>
  cases h.str
  have e':(if y.length≤sizeLine then some ((y.length:Int) != 0) else none)=some b:=e
  split at e'
  ·rename_i hl
   cases e'
   exact ⟨hl,rfl⟩
  ·cases e'
 | list xs=>
  obtain ⟨a,vs,rfl,h1,h2⟩:=h.lst
  cases e
  exact .inl ⟨vs,h1,by rw [reps_empty h2]⟩
 | tuple xs=>
  obtain ⟨a,vs,rfl,h1,h2⟩:=h.tup
  cases e
  exact .inr (.inl ⟨vs,h1.sq,by rw [reps_empty h2]⟩)
 | dict kvs=>
  cases e
theorem dt_tru (ha:DE X a fa) (he:∀ whole,isTrue a X.env whole=(do let v ← whole; standAt a.pos; holding [v] (truthy v)):=by intro _; rfl):DT X a (fTru fa):=by
 refine ⟨?_⟩
 refine pt_imp (pt_truth ha.pe he) fun σ H Q=>?_
 rintro ⟨O,ts,ρ,T,b,T',hc,re,e,q⟩
 obtain ⟨w1,T1,e1,e⟩:=bnd_of e
 refine ⟨O,ts,ρ,T,w1,T1,hc,re,e1,fun v1 H1 s1 hc1 r1=>?_⟩
 unfold tru1 at e
 split at e
 ·rename_i x h1
  split at e
  ·rename_i k h2
   cases e
   exact ⟨b,tru_of (hc1.view r1 h1) h2,q H1 s1 hc1⟩
  ·cases e
 ·cases e
noncomputable def fAndT (f g:FT):FT:=fun ρ T=>bnd (f ρ T) fun b T1=>if b=true then g ρ T1 else some (false,T1)
noncomputable def fOrT (f g:FT):FT:=fun ρ T=>bnd (f ρ T) fun b T1=>if b=true then some (true,T1) else g ρ T1
noncomputable def fNotT (f:FT):FT:=fun ρ T=>bnd (f ρ T) fun b T1=>some (!b,T1)
variable {ta tb:FT} {rest:List Expr}
theorem dw_pt {f:FT} (h:DW X a f):DT X a f:=⟨PW.pt h.pe⟩
theorem dw_and1 (ha:DT X a ta):DW X (.BoolOp .And [a] pos) ta:=⟨pw_and1 ha.pe⟩
theorem dw_or1 (ha:DT X a ta):DW X (.BoolOp .Or [a] pos) ta:=⟨pw_or1 ha.pe⟩
theorem dw_and (ha:DT X a ta) (hb:DW X (.BoolOp .And (b::rest) pos) tb):DW X (.BoolOp .And (a::b::rest) pos) (fAndT ta tb):=by
 refine ⟨?_⟩
 refine pw_imp (pw_and ha.pe hb.pe) fun σ H Q=>?_
 rintro ⟨O,ts,ρ,T,b,T',hc,re,e,q⟩
 obtain ⟨b1,T1,e1,e⟩:=bnd_of e
 refine ⟨O,ts,ρ,T,b1,T1,hc,re,e1,fun H1 s1 hc1=>?_⟩
 cases b1 with
 | true=>exact iteT ⟨O,ts,ρ,T1,b,T',hc1,re.mono hc s1,by simpa using e,fun H2 s2 hc2=>q H2 (s1.trans s2) hc2⟩
 | false=>
  have e':some (false,T1)=some (b,T'):=by simpa using e
  cases e'
  exact iteF (q H1 s1 hc1)
theorem dw_or (ha:DT X a ta) (hb:DW X (.BoolOp .Or (b::rest) pos) tb):DW X (.BoolOp .Or (a::b::rest) pos) (fOrT ta tb):=by
 refine ⟨?_⟩
 refine pw_imp (pw_or ha.pe hb.pe) fun σ H Q=>?_
 rintro ⟨O,ts,ρ,T,b,T',hc,re,e,q⟩
 obtain ⟨b1,T1,e1,e⟩:=bnd_of e
 refine ⟨O,ts,ρ,T,b1,T1,hc,re,e1,fun H1 s1 hc1=>?_⟩
 cases b1 with
 | false=>exact iteF ⟨O,ts,ρ,T1,b,T',hc1,re.mono hc s1,by simpa using e,fun H2 s2 hc2=>q H2 (s1.trans s2) hc2⟩
 | true=>
  have e':some (true,T1)=some (b,T'):=by simpa using e
  cases e'
  exact iteT (q H1 s1 hc1)
theorem dt_not (ha:DT X a ta):DT X (.UnaryOp .Not a pos) (fNotT ta):=by
 refine ⟨?_⟩
 refine pt_imp (pt_not ha.pe) fun σ H Q=>?_
 rintro ⟨O,ts,ρ,T,b,T',hc,re,e,q⟩
 obtain ⟨b1,T1,e1,e⟩:=bnd_of e
 cases e
 exact ⟨O,ts,ρ,T,b1,T',hc,re,e1,fun H1 s1 hc1=>q H1 s1 hc1⟩
noncomputable def fAndV (f g:FE):FE:=fun ρ T=>bnd (f ρ T) fun w T1=>match asB w with
 | some b=>if b=true then g ρ T1 else some (.d (.bool false),T1)
 | none=>none
noncomputable def fOrV (f g:FE):FE:=fun ρ T=>bnd (f ρ T) fun w T1=>match asB w with
 | some b=>if b=true then some (.d (.bool true),T1) else g ρ T1
 | none=>none
noncomputable def fNotV (f:FE):FE:=fun ρ T=>bnd (f ρ T) fun w T1=>match asB w with
 | some b=>some (.d (.bool (!b)),T1)
 | none=>none
theorem de_one {op} (h:DE X a fa):DE X (.BoolOp op [a] pos) fa:=⟨pe_one h.pe⟩
theorem de_and (ha:DE X a fa) (hb:DE X (.BoolOp .And (b::rest) pos) fb):DE X (.BoolOp .And (a::b::rest) pos) (fAndV fa fb):=by
 refine ⟨?_⟩
 refine pe_imp (pe_and ha.pe hb.pe) fun σ H Q=>?_
 rintro ⟨O,ts,ρ,T,w,T',hc,re,e,q⟩
 obtain ⟨w1,T1,e1,e⟩:=bnd_of e
 refine ⟨O,ts,ρ,T,w1,T1,hc,re,e1,fun v1 H1 s1 hc1 r1=>?_⟩
 split at e
 ·rename_i b hb
  have hw:=asB_of hb
  subst hw
  cases (show Rep X.K O H1 v1 _ from r1)
  cases b with
  | true=>exact ⟨_,rfl,iteT ⟨O,ts,ρ,T1,w,T',hc1,re.mono hc s1,by simpa using e,fun v H2 s2 hc2 r2=>q v H2 (s1.trans s2) hc2 r2⟩⟩
  | false=>
   rw [if_neg Bool.false_ne_true] at e
   cases e
   exact ⟨_,rfl,iteF (q _ H1 s1 hc1 (.bl false))⟩
 ·cases e
noncomputable def fIfE (c:FT) (f g:FE):FE:=fun ρ T=>bnd (c ρ T) fun b T1=>if b=true then f ρ T1 else g ρ T1
theorem de_if (hc:DT X c ta) (ha:DE X a fa) (hb:DE X b fb):DE X (.IfExp c a b pos) (fIfE ta fa fb):=by
 refine ⟨?_⟩
 refine pe_imp (pe_ifExp hc.pe ha.pe hb.pe) fun σ H Q=>?_
 rintro ⟨O,ts,ρ,T,w,T',hc,re,e,q⟩
 obtain ⟨b1,T1,e1,e⟩:=bnd_of e
 refine ⟨O,ts,ρ,T,b1,T1,hc,re,e1,fun H1 s1 hc1=>?_⟩
 cases b1 with
 | true=>exact iteT ⟨O,ts,ρ,T1,w,T',hc1,re.mono hc s1,by simpa using e,fun v H2 s2 hc2 r2=>q v H2 (s1.trans s2) hc2 r2⟩
 | false=>exact iteF ⟨O,ts,ρ,T1,w,T',hc1,re.mono hc s1,by simpa using e,fun v H2 s2 hc2 r2=>q v H2 (s1.trans s2) hc2 r2⟩
theorem de_un {op:UnaryOp} {r:V→Hp→VK→Prop} {g1:PyData→Option PyData} (hr:UnR X (unaryOp op) r) (snd:Snd1 X.K r g1) (ha:DE X a fa):DE X (.UnaryOp op a pos) (fUn g1 fa):=by
 refine ⟨?_⟩
 refine pe_imp (pe_un hr ha.pe) fun σ H Q=>?_
 rintro ⟨O,ts,ρ,T,w,T',hc,re,e,q⟩
 obtain ⟨w1,T1,e1,e⟩:=bnd_of e
 obtain ⟨x,d,h1,h3,rfl,rfl⟩:=op1_of e
 refine ⟨O,ts,ρ,T,w1,T',hc,re,e1,fun v1 H1 s1 hc1 r1=>?_⟩
 exact snd O ts H1 T' v1 x d Q hc1 (hc1.view r1 h1) h3 fun v H' s3 hc3 r3=>q v H' (s1.trans s3) hc3 r3
end
noncomputable def fNil:FA:=fun _ T=>some ([],T)
noncomputable def fCons (f:FE) (g:FA):FA:=fun ρ T=>bnd (f ρ T) fun w T1=>bnd (g ρ T1) fun ws T2=>some (w::ws,T2)
noncomputable def datas:List W→Option (List PyData)
 | []=>some []
 | .d x::r=>match datas r with
  | some xs=>some (x::xs)
  | none=>none
 | _::_=>none
theorem datas_of {K:PySem.W.Frag} {O:Addr→Prop} {ts:List Addr} {H:Hp}:∀ {vs:List V} {ws:List W} {xs:List PyData},RepWs K O ts H vs ws→datas ws=some xs→Reps K O H vs xs
 | _,[],_,.nil,e=>by cases e; exact .nil
 | _,.d x::r,xs,.cons h t,e=>by
  unfold datas at e
  split at e
  ·rename_i ys h2
   cases e
   exact .cons h (datas_of t h2)
  ·cases e
 | _,.tp _::_,_,.cons _ _,e=>by cases e
 | _,.loc _::_,_,.cons _ _,e=>by cases e
noncomputable def fSeqD (mk:List PyData→PyData) (f:FA):FE:=fun ρ T=>bnd (f ρ T) fun ws T1=>match datas ws with
 | some xs=>if xs.length≤1000 then some (.d (mk xs),T1) else none
 | none=>none
theorem le_line {n:Nat} (h:n≤1000):n≤sizeLine:=Nat.le_trans h (by decide)
noncomputable def CallD (X:Cx) (f:Value) (g:List PyData→Option PyData):Prop:=∃ r,CallR X f r∧∀ (O:Addr→Prop) (ts:List Addr) (H:Hp) (T:Tp) (vs:List V) (xs:List PyData) (d:PyData) (Q:VK),HC X.K O ts H T→Vws X.K O H vs xs→g xs=some d →
 (∀ v H',SameX ts H H'→HC X.K O ts H' T→Rep X.K O H' v d→Q v H')→r vs H Q
noncomputable def fCB (g:List PyData→Option PyData) (f:FA):FE:=fun ρ T=>bnd (f ρ T) fun ws T1=>match views T1 ws with
 | some xs=>match g xs with
  | some d=>some (.d d,T1)
  | none=>none
 | none=>none
section
variable {X:Cx} {pos p:Pos} {e:Expr} {es:List Expr} {f:FE} {g:FA}
theorem da_nil:DA X [] fNil:=by
 refine ⟨?_⟩
 refine pa_imp pa_nil fun σ H Q=>?_
 rintro ⟨O,ts,ρ,T,w,T',hc,re,e,q⟩
 cases e
 exact q [] H (.refl _ _) hc .nil
theorem da_cons (ha:DE X e f) (hr:DA X es g) (hs:starEach (e::es) X.env=(false,eval e X.env)::starEach es X.env:=by exact star_cons rfl):DA X (e::es) (fCons f g):=by
 refine ⟨?_⟩
 refine pa_imp (pa_cons ha.pe hr.pe hs) fun σ H Q=>?_
 rintro ⟨O,ts,ρ,T,w,T',hc,re,e,q⟩
 obtain ⟨w1,T1,e1,e⟩:=bnd_of e
 obtain ⟨ws,T2,e2,e⟩:=bnd_of e
 cases e
 refine ⟨O,ts,ρ,T,w1,T1,hc,re,e1,fun v1 H1 s1 hc1 r1=>?_⟩
 exact ⟨O,ts,ρ,T1,ws,_,hc1,re.mono hc s1,e2,fun vs H2 s2 hc2 r2=>q _ H2 (s1.trans s2) hc2 (.cons (r1.mono hc1 s2) r2)⟩
theorem seqD_of {mk:List PyData→PyData} {g:FA} {ρ:Rho} {T T':Tp} {w:W} (e:fSeqD mk g ρ T=some (w,T')):∃ ws xs,g ρ T=some (ws,T')∧datas ws=some xs∧xs.length≤1000∧w=.d (mk xs):=by
 obtain ⟨ws,T1,e1,e⟩:=bnd_of e
 split at e
 ·rename_i xs h1
  split at e
  ·rename_i h2
   cases e
   exact ⟨ws,xs,e1,h1,h2,rfl⟩
  ·cases e
 ·cases e
theorem de_tup {x1} (h:DA X es g):DE X (.Tuple es x1 pos) (fSeqD .tuple g):=by
 refine ⟨?_⟩
 refine pe_imp (pe_tup h.pe) fun σ H Q=>?_
 rintro ⟨O,ts,ρ,T,w,T',hc,re,e,q⟩
 obtain ⟨ws,xs,e1,h1,h2,rfl⟩:=seqD_of e
 refine ⟨O,ts,ρ,T,ws,T',hc,re,e1,fun vs H1 s1 hc1 r1=>?_⟩
 have rs:=datas_of r1 h1
 refine ⟨le_line (by rw [rs.length]; exact h2),fun p hp=>?_⟩
 exact q _ _ (s1.trans (.new hp _)) (hc1.new hp _) (hc1.newT hp rs)
theorem de_lst (h:DA X es g):DE X (.List es pos) (fSeqD .list g):=by
 refine ⟨?_⟩
 refine pe_imp (pe_lst h.pe) fun σ H Q=>?_
 rintro ⟨O,ts,ρ,T,w,T',hc,re,e,q⟩
 obtain ⟨ws,xs,e1,h1,h2,rfl⟩:=seqD_of e
 refine ⟨O,ts,ρ,T,ws,T',hc,re,e1,fun vs H1 s1 hc1 r1=>?_⟩
 have rs:=datas_of r1 h1
 refine ⟨le_line (by rw [rs.length]; exact h2),fun p hp=>?_⟩
 exact q _ _ (s1.trans (.new hp _)) (hc1.new hp _) (hc1.newL hp rs)
theorem cb_imp {K:PySem.W.Frag} {r:List V→Hp→VK→Prop} {gg:List PyData→Option PyData} (snd:∀ (O:Addr→Prop) (ts:List Addr) (H:Hp) (T:Tp) (vs:List V) (xs:List PyData) (d:PyData) (Q:VK),HC K O ts H T→Vws K O H vs xs→gg xs=some d →
  (∀ v H',SameX ts H H'→HC K O ts H' T→Rep K O H' v d→Q v H')→r vs H Q) {σ:L2.St} {H:Hp} {Q:VK} (h:lift K (fCB gg g) σ H Q):tCB r (liftA K g) σ H Q:=by
 obtain ⟨O,ts,ρ,T,w,T',hc,re,e,q⟩:=h
 obtain ⟨ws,T1,e1,e⟩:=bnd_of e
 refine ⟨O,ts,ρ,T,ws,T1,hc,re,e1,fun vs H1 s1 hc1 r1=>?_⟩
 split at e
 ·rename_i xs h1
  split at e
  ·rename_i d h2
   cases e
   exact snd O ts H1 T' vs xs d Q hc1 (hc1.views r1 h1) h2 fun v H' s3 hc3 r3=>q v H' (s1.trans s3) hc3 r3
  ·cases e
 ·cases e
theorem de_callB {x:Str} {id:String} {gg:List PyData→Option PyData} (hc:CallD X (.builtin id) gg) (hg:Gl X x) (hm:X.mg x=none) (hv:bootBuiltins x=some (.builtin id)) (ha:DA X (e::es) g) (hn:x≠"__name__":=by decide) (hdb:(x == ("__debug__" : Str))=false:=by decide)
  (he:starEach (e::es) X.env=(false,eval e X.env)::starEach es X.env:=by exact star_cons rfl) (hpl:(backTo pos (starEach es X.env)).any (·.1)=false:=by exact star_any rfl):DE X (.Call (.Name x p) (e::es) [] pos) (fCB gg g):=by
 refine ⟨?_⟩
 obtain ⟨r,hr,snd⟩:=hc
 exact pe_imp (pe_callB hr hg hm hv ha.pe hn hdb he hpl) fun σ H Q h=>cb_imp snd h
theorem de_callTy {x:Str} {id:String} {gg:List PyData→Option PyData} (hc:CallD X (.type id) gg) (hg:Gl X x) (hm:X.mg x=none) (hv:bootBuiltins x=some (.type id)) (ha:DA X (e::es) g) (hn:x≠"__name__":=by decide) (hdb:(x == ("__debug__" : Str))=false:=by decide)
  (he:starEach (e::es) X.env=(false,eval e X.env)::starEach es X.env:=by exact star_cons rfl) (hpl:(backTo pos (starEach es X.env)).any (·.1)=false:=by exact star_any rfl):DE X (.Call (.Name x p) (e::es) [] pos) (fCB gg g):=by
 refine ⟨?_⟩
 obtain ⟨r,hr,snd⟩:=hc
 exact pe_imp (pe_callTy hr hg hm hv ha.pe hn hdb he hpl) fun σ H Q h=>cb_imp snd h
end
end D
namespace D
open PySem PySem.Spec PyProof.Rows L2
noncomputable abbrev FI:=Rho→Tp→Option (List PyData×Tp)
noncomputable def iAny (K:PySem.W.Frag) (tl:TE):TI:=fun σ H R=>tl σ H fun x H1=>(∃ a xs,x=.ref a∧SqL K H1 a xs∧(xs.length≤sizeLine→R (Itl K a) H1))∨(∃ a xs,x=.ref a∧SqT K H1 a xs∧(xs.length≤sizeLine→R (Itt K a) H1))∨(∃ z,x=.str z∧R (Its z) H1)∨∃ a o kvs,x=.ref a∧H1 a=some (.frz o (.dK kvs))∧(kvs.length≤sizeLine→R (Itd a o kvs) H1)
theorem pi_any {X:Cx} {tg l:Expr} {tl:TE} (hl:PE X l tl):PI X tg l (iAny X.K tl):=by
 intro pins s σ H R I h
 refine thn (hl pins s σ H _ I h) fun v s1 ⟨x,H1,I1,r1,q1⟩=>?_
 have fk:∀ b∈[s1.heap.objs.size],FpOk X pins H1 b:=fun b hb=>by
  have e:b=s1.heap.objs.size:=by simpa using hb
  subst e
  exact I1.fpOk (Nat.le_refl _) (I1.hok.fresh (Nat.le_refl _))
 rcases q1 with ⟨a,xs,e,hq,q⟩ | ⟨a,xs,e,hq,q⟩ | ⟨z,e,q⟩ | ⟨a,o,kvs,e,hq,q⟩
 ·subst e
  cases r1
  obtain ⟨its,rv,p,hz⟩:=I1.list hq
  refine wpAny_pyIter_list p.isList ?_
  exact ⟨s1.heap.objs.size,[s1.heap.objs.size],_,_,H1,rfl,I1.kept (t':=s1.toks) fun b o e=>Heap.get?_push_of_some _ e,turn_list a _,⟨_,Heap.get?_push_size _ rfl,rfl,rfl⟩,fk,q hz⟩
 ·subst e
  cases r1
  obtain ⟨its,rv,p,hz⟩:=I1.tuple hq
  refine wpAny_pyIter_tuple (show s1.heap.IsTuple a its.toArray from p) ?_
  exact ⟨s1.heap.objs.size,[s1.heap.objs.size],_,_,H1,rfl,I1.kept (t':=s1.toks) fun b o e=>Heap.get?_push_of_some _ e,turn_tuple a _,⟨_,Heap.get?_push_size _ rfl,rfl,rfl⟩,fk,q hz⟩
 ·subst e
  obtain ⟨t,rfl⟩:=r1
  cases ha:z.cps.all (· < 128) with
  | false=>
   refine wpAny_pyIter_wide ha ?_
   exact ⟨s1.heap.objs.size,[s1.heap.objs.size],_,_,H1,rfl,I1.kept (t':=s1.toks) fun b o e=>Heap.get?_push_of_some _ e,turn_str z t "str_iterator" _ (.inr rfl),⟨_,Heap.get?_push_size _ rfl,rfl,rfl⟩,fk,q⟩
  | true=>
   refine wpAny_pyIter_ascii ha ?_
   exact ⟨s1.heap.objs.size,[s1.heap.objs.size],_,_,H1,rfl,I1.kept (t':=s1.toks) fun b o e=>Heap.get?_push_of_some _ e,turn_str z t "str_ascii_iterator" _ (.inl rfl),⟨_,Heap.get?_push_size _ rfl,rfl,rfl⟩,fk,q⟩
 ·subst e
  cases r1
  obtain ⟨z,y,vs,kv,dd⟩:=dictAt_of I1.hok hq
  refine wpAny_pyIter_dict y dd ?_
  exact ⟨s1.heap.objs.size,[s1.heap.objs.size],_,_,H1,rfl,I1.kept (t':=s1.toks) fun b o e=>Heap.get?_push_of_some _ e,turn_dict a _ o kvs,⟨_,Heap.get?_push_size _ rfl,rfl,by rw [kv.length]; rfl⟩,fk,q z⟩
noncomputable def ItOk (K:PySem.W.Frag) (O:Addr→Prop) (H1:Hp) (J:It) (ds:List PyData):Prop:=∀ O' H',Le O H1 O' H'→(∀ i,i < ds.length→J.go i H')∧J.stop ds.length H'∧∀ i v H'',J.yld i H' v H''→i < ds.length→H''=H'∧∃ d,ds[i]? = some d∧Rep K O' H' v d
inductive LiftIP (K:PySem.W.Frag) (f:FI) (σ:L2.St) (H:Hp) (R:It→Hp→Prop):Prop where
 | mk (O:Addr→Prop) (ts:List Addr) (ρ:Rho) (T:Tp) (ds:List PyData) (T':Tp) (hc:HC K O ts H T) (re:RelE K O ts H σ ρ) (e:f ρ T=some (ds,T')) (q:∀ J H1,SameX ts H H1→HC K O ts H1 T'→ItOk K O H1 J ds→ds.length≤sizeLine→R J H1):LiftIP K f σ H R
noncomputable def liftI (K:PySem.W.Frag) (f:FI):TI:=fun σ H R=>LiftIP K f σ H R
structure DI (X:Cx) (tg e:Expr) (f:FI):Prop where
 pe:PI X tg e (liftI X.K f)
theorem pi_imp {X:Cx} {tg e:Expr} {t t':TI} (h:PI X tg e t) (i:∀ σ H Q,t' σ H Q→t σ H Q):PI X tg e t':=fun pins s σ H Q I q=>h pins s σ H Q I (i σ H Q q)
noncomputable def signs (z:Str):List PyData:=z.cps.toList.map fun c=>.str ⟨#[c]⟩
noncomputable def itemsD:PyData→Option (List PyData)
 | .list xs=>some xs
 | .tuple xs=>some xs
 | .str z=>if z.length≤sizeLine then some (signs z) else none
 | .dict ds=>some (ds.map (·.1))
 | _=>none
noncomputable def fIter (f:FE):FI:=fun ρ T=>bnd (f ρ T) fun w T1=>match w with
 | .d x=>match itemsD x with
  | some xs=>some (xs,T1)
  | none=>none
 | _=>none
theorem ItOk.lst {K:PySem.W.Frag} {O:Addr→Prop} {H1:Hp} {a:Addr} {vs:List V} {ds:List PyData} (h:LstAt K O H1 a vs) (r:Reps K O H1 vs ds):ItOk K O H1 (Itl K a) ds:=fun O' H' le=>by
 have sq:=(h.mono le).sq
 have hl:=r.length
 refine ⟨fun i hi=>⟨vs,vs[i]'(by omega),sq,by simp⟩,⟨vs,sq,by omega⟩,fun i v H'' y hi=>?_⟩
 obtain ⟨e,y⟩:=y
 obtain ⟨d,h1,h2⟩:=r.get (y vs sq)
 exact ⟨e,d,h1,h2.mono le⟩
theorem ItOk.tup {K:PySem.W.Frag} {O:Addr→Prop} {H1:Hp} {a:Addr} {vs:List V} {ds:List PyData} (h:TupAt K O H1 a vs) (r:Reps K O H1 vs ds):ItOk K O H1 (Itt K a) ds:=fun O' H' le=>by
 have sq:=(h.mono le).sq
 have hl:=r.length
 refine ⟨fun i hi=>⟨vs,vs[i]'(by omega),sq,by simp⟩,⟨vs,sq,by omega⟩,fun i v H'' y hi=>?_⟩
 obtain ⟨e,y⟩:=y
 obtain ⟨d,h1,h2⟩:=r.get (y vs sq)
 exact ⟨e,d,h1,h2.mono le⟩
theorem ItOk.str {K:PySem.W.Frag} {O:Addr→Prop} {H1:Hp} {z:Str}:ItOk K O H1 (Its z) (signs z):=fun O' H' le=>by
 have hl:(signs z).length=z.cps.size:=by simp [signs]
 refine ⟨fun i hi=>by rw [hl] at hi; exact hi,by rw [hl]; exact Nat.le_refl _,fun i v H'' y hi=>?_⟩
 obtain ⟨e,c,hc,y⟩:=y
 subst y
 refine ⟨e,.str ⟨#[c]⟩,?_,.str _⟩
 unfold signs
 rw [List.getElem?_map]
 have:z.cps.toList[i]? = some c:=by simpa using hc
 rw [this]
 rfl
theorem repk_leng {K:PySem.W.Frag} {O:Addr→Prop} {H:Hp}:∀ {kvs:List (Key×V)} {ds:List (PyData×PyData)},RepK K O H kvs ds→kvs.length=ds.length
 | _,_,.nil=>rfl
 | _,_,.cons _ t=>congrArg (· + 1) (repk_leng t)
theorem repk_key {K:PySem.W.Frag} {O:Addr→Prop} {H:Hp}:∀ {kvs:List (Key×V)} {ds:List (PyData×PyData)} {i:Nat} {k:Key} {v:V},RepK K O H kvs ds→kvs[i]? = some (k,v)→(ds.map (·.1))[i]? = some (keyD k)
 | _,_,_,_,_,.nil,e=>by simp at e
 | _,_,0,_,_,.cons r _,e=>by simp at e; obtain ⟨rfl,rfl⟩:=e; rfl
 | _,_,i + 1,k,v,.cons _ t,e=>by
  have:=repk_key (i:=i) t (by simpa using e)
  simpa using this
theorem rep_key {K:PySem.W.Frag} {O:Addr→Prop} {H:Hp} (k:Key):Rep K O H (kV k) (keyD k):=by
 cases k with
 | inl i=>exact .int i
 | inr x=>exact .str x
theorem ItOk.dct {K:PySem.W.Frag} {O:Addr→Prop} {H1:Hp} {a:Addr} {o:Obj} {kvs:List (Key×V)} {ds:List (PyData×PyData)} (n:¬ O a) (h:H1 a=some (.frz o (.dK kvs))) (r:RepK K O H1 kvs ds):ItOk K O H1 (Itd a o kvs) (ds.map (·.1)):=fun O' H' le=>by
 have h':=(le a _ n h).2
 have hl:=repk_leng r
 refine ⟨fun i hi=>⟨h',by simp at hi; omega⟩,⟨h',by simp [hl]⟩,fun i v H'' y hi=>?_⟩
 obtain ⟨e,k,v0,y1,y2⟩:=y
 subst y2
 exact ⟨e,_,repk_key r y1,rep_key k⟩
theorem di_iter {X:Cx} {tg e:Expr} {f:FE} (h:DE X e f):DI X tg e (fIter f):=by
 refine ⟨?_⟩
 refine pi_imp (pi_any h.pe) fun σ H R=>?_
 rintro ⟨O,ts,ρ,T,ds,T',hc,re,e,q⟩
 obtain ⟨w1,T1,e1,e⟩:=bnd_of e
 refine ⟨O,ts,ρ,T,w1,T1,hc,re,e1,fun v1 H1 s1 hc1 r1=>?_⟩
 split at e
 ·rename_i x
  split at e
  ·rename_i xs h1
   cases e
   have rr:Rep X.K O H1 v1 x:=r1
   cases x with
   | list ys=>
    cases h1
    cases rr with
    | lst t r=>exact .inl ⟨_,_,rfl,t.sq,fun hz=>q _ H1 s1 hc1 (.lst t r) (by rw [← r.length]; exact hz)⟩
   | tuple ys=>
    cases h1
    cases rr with
    | tup t r=>exact .inr (.inl ⟨_,_,rfl,t.sq,fun hz=>q _ H1 s1 hc1 (.tup t r) (by rw [← r.length]; exact hz)⟩)
   | str z=>
    have h1':(if z.length≤sizeLine then some (signs z) else none)=some _:=h1
    split at h1'
    ·rename_i hz
     cases h1'
     cases rr
     exact .inr (.inr (.inl ⟨z,rfl,q _ H1 s1 hc1 .str (by rw [show (signs z).length=z.cps.size by simp [signs]]; exact hz)⟩))
    ·cases h1'
   | dict ys=>
    cases h1
    cases rr with
    | dct n t r=>exact .inr (.inr (.inr ⟨_,_,_,rfl,t,fun hz=>q _ H1 s1 hc1 (.dct n t r) (by rw [List.length_map,← repk_leng r]; exact hz)⟩))
   | _=>cases h1
  ·cases e
 ·cases e
noncomputable def numsD (lo:Int) (n:Nat):List PyData:=(List.range n).map fun (i:Nat)=>.int (lo + (i:Int))
theorem ItOk.rng {K:PySem.W.Frag} {O:Addr→Prop} {H1:Hp} {lo:Int} {n:Nat}:ItOk K O H1 (Itr lo n) (numsD lo n):=fun O' H' le=>by
 have hl:(numsD lo n).length=n:=by simp [numsD]
 refine ⟨fun i hi=>by rw [hl] at hi; exact hi,by rw [hl]; exact Nat.le_refl _,fun i v H'' y hi=>?_⟩
 obtain ⟨e,y⟩:=y
 subst y
 rw [hl] at hi
 exact ⟨e,.int (lo + i),by simp [numsD,hi],.int _⟩
noncomputable def rngOk (j:Int):Bool:=decide (-1000000≤j∧j≤16777216)
theorem rng_ok {j:Int} (h:rngOk j=true) : -(2 ^ 62)≤j∧j < 2 ^ 62∧j.toNat≤sizeLine:=by
 have h':=of_decide_eq_true h
 have e:sizeLine=16777216:=by decide
 omega
noncomputable def fRng1 (f:FE):FI:=fun ρ T=>bnd (f ρ T) fun w T1=>match w with
 | .d (.int j)=>if rngOk j=true then some (numsD 0 j.toNat,T1) else none
 | _=>none
theorem di_rng1 {X:Cx} {tg a:Expr} {f:FE} {p pos:Pos} (hg:Gl X "range") (hm:X.mg "range" = none) (ha:DE X a f) (hs:starEach [a] X.env=[(false,eval a X.env)]:=by exact star_one rfl):DI X tg (.Call (.Name "range" p) [a] [] pos) (fRng1 f):=by
 refine ⟨?_⟩
 refine pi_imp (pi_range1 (ta:=tCons (lift X.K f) tNil) hg hm (pa_cons ha.pe pa_nil (by rw [hs]; rfl)) hs) fun σ H R=>?_
 rintro ⟨O,ts,ρ,T,ds,T',hc,re,e,q⟩
 obtain ⟨w1,T1,e1,e⟩:=bnd_of e
 refine ⟨O,ts,ρ,T,w1,T1,hc,re,e1,fun v1 H1 s1 hc1 r1=>?_⟩
 split at e
 ·rename_i j
  split at e
  ·rename_i h1
   cases e
   cases (show Rep X.K O H1 v1 _ from r1)
   obtain ⟨b1,b2,b3⟩:=rng_ok h1
   exact ⟨j,rfl,b1,b2,q _ H1 s1 hc1 .rng (by simpa [numsD] using b3)⟩
  ·cases e
 ·cases e
noncomputable def compL (c:FT) (e:FE) (ρ:Rho):List PyData→Tp→Option (List PyData×Tp)
 | [],T=>some ([],T)
 | d::r,T=>bnd (c (some (.d d)::ρ) T) fun b T1=>if b=true then bnd (e (some (.d d)::ρ) T1) fun w T2=>match w with
   | .d y=>bnd (compL c e ρ r T2) fun ys T3=>some (y::ys,T3)
   | _=>none
  else compL c e ρ r T1
noncomputable def fComp (it:FI) (c:FT) (e:FE):FE:=fun ρ T=>bnd (it ρ T) fun ds T1=>bnd (compL c e ρ ds T1) fun ys T2=>some (.d (.list ys),T2)
noncomputable def fTrue:FT:=fun _ T=>some (true,T)
theorem RelE.cons {K:PySem.W.Frag} {O:Addr→Prop} {ts:List Addr} {H:Hp} {σ:L2.St} {ρ:Rho} {v:V} {d:PyData} (re:RelE K O ts H σ ρ) (r:Rep K O H v d):RelE K O ts H (some v::σ) (some (.d d)::ρ):=fun i w e=>by
 cases i with
 | zero=>cases e; exact ⟨v,rfl,r⟩
 | succ i=>
  obtain ⟨u,h1,h2⟩:=re i w (by simpa using e)
  exact ⟨u,by simpa using h1,h2⟩
theorem comp_ok {K:PySem.W.Frag} {O:Addr→Prop} {ts:List Addr} {H1:Hp} {σ:L2.St} {ρ:Rho} {J:It} {c:FT} {e:FE} {ds ys:List PyData} {T1 T2:Tp} {Dn:List V→Hp→Prop} (hc:HC K O ts H1 T1) (re:RelE K O ts H1 σ ρ) (ok:ItOk K O H1 J ds) (hz:ds.length≤sizeLine)
  (ee:compL c e ρ ds T1=some (ys,T2)) (q:∀ vs H',SameX ts H1 H'→HC K O ts H' T2→Reps K O H' vs ys→Dn vs H') :
  ∃ W:Nat→Nat→List V→Hp→Prop,(∃ m,W 0 m [] H1)∧cLoop σ J (liftT K c) (lift K e) W Dn:=by
 refine ⟨fun i m vs H'=>m=ds.length - i∧i≤ds.length∧vs.length≤i∧∃ T dn rs,SameX ts H1 H'∧HC K O ts H' T∧Reps K O H' vs dn∧compL c e ρ (ds.drop i) T=some (rs,T2)∧ys=dn++rs,⟨_,rfl,Nat.zero_le _,Nat.le_refl _,T1,[],ys,.refl _ _,hc,.nil,ee,rfl⟩,?_⟩
 rintro i m vs H' ⟨rfl,hi,hv,T,dn,rs,s1,hc1,rv,ec,ey⟩
 obtain ⟨k1,k2,k3⟩:=ok O H' (hc.le s1)
 by_cases hlt:i < ds.length
 ·refine .inr ⟨k1 i hlt,by omega,fun vs' H2=>i + 1≤ds.length∧vs'.length≤i + 1∧∃ T dn rs,SameX ts H1 H2∧HC K O ts H2 T∧Reps K O H2 vs' dn∧compL c e ρ (ds.drop (i + 1)) T=some (rs,T2)∧ys=dn++rs,fun vs' H2 n=>⟨ds.length - (i + 1),by omega,rfl,n⟩,fun v H2 y=>?_⟩
  obtain ⟨e2,d,hd,rd⟩:=k3 i v H2 y hlt
  subst e2
  have hdr:ds.drop i=d::ds.drop (i + 1):=by
   rw [List.drop_eq_getElem_cons hlt]
   have:=(List.getElem?_eq_some_iff.mp hd).2
   rw [this]
  rw [hdr] at ec
  obtain ⟨b,T3,e3,ec⟩:=bnd_of ec
  refine ⟨O,ts,some (.d d)::ρ,T,b,T3,hc1,(re.mono hc s1).cons rd,e3,fun H3 s3 hc3=>?_⟩
  cases b with
  | false=>
   rw [if_neg Bool.false_ne_true] at ec
   exact iteF ⟨hlt,by omega,T3,dn,rs,s1.trans s3,hc3,rv.mono (hc1.le s3),ec,ey⟩
  | true=>
   rw [if_pos rfl] at ec
   obtain ⟨w,T4,e4,ec⟩:=bnd_of ec
   refine iteT ⟨O,ts,some (.d d)::ρ,T3,w,T4,hc3,((re.mono hc s1).cons rd).mono hc1 s3,e4,fun u H4 s4 hc4 r4=>?_⟩
   split at ec
   ·rename_i y
    obtain ⟨zs,T5,e5,ec⟩:=bnd_of ec
    cases ec
    refine ⟨hlt,by simp; omega,T4,dn++[y],zs,s1.trans (s3.trans s4),hc4,(rv.mono (hc1.le (s3.trans s4))).append (.cons r4 .nil),e5,by rw [ey]; simp⟩
   ·cases ec
 ·have e:i=ds.length:=by omega
  subst e
  rw [List.drop_eq_nil_of_le (Nat.le_refl _)] at ec
  cases ec
  rw [List.append_nil] at ey
  subst ey
  exact .inl ⟨k2,by omega,q vs H' s1 hc1 rv⟩
structure DTs (X:Cx) (es:List Expr) (f:FT):Prop where
 pe:PTs X es (liftT X.K f)
theorem dts_nil {X:Cx}:DTs X [] fTrue:=⟨fun pins s σ H Q E I h=>by
 refine pts_nil pins s σ H Q E I ?_
 obtain ⟨O,ts,ρ,T,w,T',hc,re,e,q⟩:=h
 cases e
 exact q H (.refl _ _) hc⟩
theorem de_comp {X:Cx} {x:Str} {scope osc:Scope} {N N':List Str} {elt iter:Expr} {ifs:List Expr} {px pos:Pos} {it:FI} {c:FT} {f:FE} (S:CS osc N x scope N') (hi:DI X (.Name x px) iter it)
  (he:∀ C s0 H0 ex,DE (compCx X x scope C s0 H0 ex N') elt f) (ht:∀ C s0 H0 ex,DTs (compCx X x scope C s0 H0 ex N') ifs c) (hc:X.calm=true:=by rfl) (hs:X.env.scope=osc:=by rfl) (hN:X.N=N:=by rfl)
  (hf:∀ v,foldedSetIterable iter X.env v=pure v:=by intro _; rfl):DE X (.ListComp elt [⟨.Name x px,iter,ifs,0⟩] scope pos) (fComp it c f):=by
 refine ⟨?_⟩
 refine pe_imp (pe_compD (wi:=liftI X.K it) (tt:=liftT X.K c) (te:=lift X.K f) S hi.pe (fun C s0 H0 ex=>(he C s0 H0 ex).pe) (fun C s0 H0 ex=>(ht C s0 H0 ex).pe) hc hs hN hf) fun σ H Q=>?_
 rintro ⟨O,ts,ρ,T,w,T',hc,re,e,q⟩
 obtain ⟨ds,T1,e1,e⟩:=bnd_of e
 obtain ⟨ys,T2,e2,e⟩:=bnd_of e
 cases e
 refine ⟨O,ts,ρ,T,ds,T1,hc,re,e1,fun J H1 s1 hc1 ok hz=>?_⟩
 exact comp_ok hc1 (re.mono hc s1) ok hz e2 fun vs H' s2 hc2 r2 p hp=>q _ _ (s1.trans (s2.trans (.new hp _))) (hc2.new hp _) (hc2.newL hp r2)
end D
namespace D
open PySem PySem.Spec PyProof.Rows L2
inductive Fl where
 | nx | rt (x:PyData) | ro (x:PyData) | bk | ct
noncomputable abbrev FS:=Rho→Tp→Option ((Fl×Rho)×Tp)
structure RS (K:PySem.W.Frag) (O₀:Addr→Prop) (H₀:Hp) (F:List ((Addr→Prop)×Hp)) (ts:List Addr) (O:Addr→Prop) (H:Hp) (σ:L2.St) (ρ:Rho) (T:Tp):Prop where
 hc:HC K O ts H T
 re:RelE K O ts H σ ρ
 sub:∀ b,O₀ b→O b
 ots:∀ b∈ts,O₀ b
 same:SameX ts H₀ H
 fresh:∀ (i:Nat) (xs:PyData) (a:Addr),ρ[i]? = some (some (.loc xs))→σ[i]? = some (some (.ref a))→H₀ a=none∧¬ O₀ a
 dist:∀ (i j:Nat) (xs ys:PyData) (v:V),ρ[i]? = some (some (.loc xs))→ρ[j]? = some (some (.loc ys))→σ[i]? = some (some v)→σ[j]? = some (some v)→i=j
 frs:∀ f∈F,Le f.1 f.2 O H
 len:σ.length=ρ.length
noncomputable def OwnV (K:PySem.W.Frag) (O A:Addr→Prop) (H:Hp) (v:V):PyData→Prop
 | .tuple [x,y]=>∃ p a b,v=.ref p∧a≠b∧(∀ c,A c↔c=a∨c=b)∧¬ O p∧H p=some (.tup [.ref a,.ref b])∧OwnAt K O H a x∧OwnAt K O H b y
 | .none=>v=.non∧∀ c,¬ A c
 | x=>∃ a,v=.ref a∧(∀ c,A c↔c=a)∧OwnAt K O H a x
theorem OwnV.mono {K:PySem.W.Frag} {O O' A:Addr→Prop} {H:Hp} {v:V} {x:PyData} (le:Le O H O' H) (h:OwnV K O A H v x):OwnV K O' A H v x:=by
 unfold OwnV at h ⊢
 split at h
 ·obtain ⟨p,a,b,e1,e2,e3,np,hp,oa,ob⟩:=h
  exact ⟨p,a,b,e1,e2,e3,(le p _ np hp).1,hp,oa.mono (fun _ h=>h) le,ob.mono (fun _ h=>h) le⟩
 ·exact h
 ·obtain ⟨a,e,hA,oa⟩:=h
  exact ⟨a,e,hA,oa.mono (fun _ h=>h) le⟩
noncomputable def EndsD (K:PySem.W.Frag) (O₀:Addr→Prop) (H₀:Hp) (F:List ((Addr→Prop)×Hp)) (ts:List Addr) (D:Ends) (ρ':Rho) (T':Tp):Fl→Prop
 | .nx=>∀ O' σ' H',RS K O₀ H₀ F ts O' H' σ' ρ' T'→D.nx σ' H'
 | .bk=>∀ O' σ' H',RS K O₀ H₀ F ts O' H' σ' ρ' T'→D.bk σ' H'
 | .ct=>∀ O' σ' H',RS K O₀ H₀ F ts O' H' σ' ρ' T'→D.ct σ' H'
 | .rt x=>∀ v H',SameX ts H₀ H'→HC K O₀ ts H' T'→Rep K O₀ H' v x→D.rt v H'
 | .ro x=>∀ (A:Addr→Prop) v H',SameX ts H₀ H'→(∀ b,A b→H₀ b=none∧¬ O₀ b)→HC K (fun b=>O₀ b∨A b) ts H' T'→OwnV K (fun b=>O₀ b∨A b) A H' v x→D.rt v H'
inductive LiftSP (K:PySem.W.Frag) (f:FS) (D:Ends) (σ:L2.St) (H:Hp):Prop where
 | mk (O₀:Addr→Prop) (H₀:Hp) (F:List ((Addr→Prop)×Hp)) (ts:List Addr) (O:Addr→Prop) (ρ:Rho) (T:Tp) (fl:Fl) (ρ':Rho) (T':Tp) (rs:RS K O₀ H₀ F ts O H σ ρ T) (e:f ρ T=some ((fl,ρ'),T')) (q:EndsD K O₀ H₀ F ts D ρ' T' fl):LiftSP K f D σ H
noncomputable def liftS (K:PySem.W.Frag) (f:FS):TS:=fun D σ H=>LiftSP K f D σ H
structure DS (X:Cx) (s:Stmt) (f:FS):Prop where
 pe:PS X s (liftS X.K f)
structure DSs (X:Cx) (s:List Stmt) (f:FS):Prop where
 pe:PSs X s (liftS X.K f)
theorem ps_imp {X:Cx} {e:Stmt} {t t':TS} (h:PS X e t) (i:∀ D σ H,t' D σ H→t D σ H):PS X e t':=fun pins s σ H D I q=>h pins s σ H D I (i D σ H q)
theorem pss_imp {X:Cx} {e:List Stmt} {t t':TS} (h:PSs X e t) (i:∀ D σ H,t' D σ H→t D σ H):PSs X e t':=fun pins s σ H D I q=>h pins s σ H D I (i D σ H q)
section
variable {K:PySem.W.Frag} {O₀:Addr→Prop} {H₀:Hp} {F:List ((Addr→Prop)×Hp)} {ts:List Addr} {O:Addr→Prop} {H H1:Hp} {σ:L2.St} {ρ:Rho} {T T1:Tp}
theorem RS.step (r:RS K O₀ H₀ F ts O H σ ρ T) (s:SameX ts H H1) (c:HC K O ts H1 T1):RS K O₀ H₀ F ts O H1 σ ρ T1 where
 hc:=c
 re:=r.re.mono r.hc s
 sub:=r.sub
 ots:=r.ots
 same:=r.same.trans s
 fresh:=r.fresh
 dist:=r.dist
 frs:=fun f hf=>(r.frs f hf).trans (r.hc.le s)
 len:=r.len
theorem set_loc {i j:Nat} {w:W} {xs:PyData} (hw:∀ ys,w≠.loc ys) (e:(ρ.set i (some w))[j]? = some (some (.loc xs))):j≠i∧ρ[j]? = some (some (.loc xs)):=by
 by_cases z:i=j
 ·subst z
  rw [List.getElem?_set_self'] at e
  cases h:ρ[i]? with
  | none=>rw [h] at e; cases e
  | some u=>
   rw [h] at e
   have e':some (some w)=some (some (W.loc xs)):=e
   cases e'
   exact absurd rfl (hw xs)
 ·rw [List.getElem?_set_ne z] at e
  exact ⟨fun q=>z q.symm,e⟩
theorem RS.set {i:Nat} {v:V} {w:W} (r:RS K O₀ H₀ F ts O H σ ρ T) (rw':RepW K O ts H v w) (hw:∀ ys,w≠.loc ys):RS K O₀ H₀ F ts O H (σ.set i (some v)) (ρ.set i (some w)) T where
 hc:=r.hc
 re:=fun j u e=>by
  by_cases z:i=j
  ·subst z
   have hl:i < ρ.length:=by
    have:=(List.getElem?_eq_some_iff.mp e).1
    simpa using this
   rw [List.getElem?_set_self hl] at e
   cases e
   exact ⟨v,by rw [List.getElem?_set_self (by rw [r.len]; exact hl)],rw'⟩
  ·rw [List.getElem?_set_ne z] at e
   obtain ⟨x,h1,h2⟩:=r.re j u e
   exact ⟨x,by rw [List.getElem?_set_ne z]; exact h1,h2⟩
 sub:=r.sub
 ots:=r.ots
 same:=r.same
 fresh:=fun j xs a e1 e2=>by
  obtain ⟨n,e⟩:=set_loc hw e1
  rw [List.getElem?_set_ne (Ne.symm n)] at e2
  exact r.fresh j xs a e e2
 dist:=fun j k xs ys u e1 e2 e3 e4=>by
  obtain ⟨n1,e1⟩:=set_loc hw e1
  obtain ⟨n2,e2⟩:=set_loc hw e2
  rw [List.getElem?_set_ne (Ne.symm n1)] at e3
  rw [List.getElem?_set_ne (Ne.symm n2)] at e4
  exact r.dist j k xs ys u e1 e2 e3 e4
 frs:=r.frs
 len:=by simp [r.len]
theorem RS.ownO {i:Nat} {p:Addr} {o:HO} {xs:PyData} (r:RS K O₀ H₀ F ts O H σ ρ T) (hp:H p=none) (hm:Mut (some o)) (rv:Le O H (fun b=>O b∨b=p) (upd H p o)→OwnAt K (fun b=>O b∨b=p) (upd H p o) p xs):RS K O₀ H₀ F ts (fun b=>O b∨b=p) (upd H p o) (σ.set i (some (.ref p))) (ρ.set i (some (.loc xs))) T:=by
 have le:Le O H (fun b=>O b∨b=p) (upd H p o):=fun a o n e=>by
  have z:a≠p:=ne_of_none e hp
  exact ⟨fun q=>q.elim n z,by rw [upd_ne z]; exact e⟩
 have h0:∀ {G:Hp},SameX ts G H→p∉ts→G p=none:=fun {G} s nt=>by
  cases e:G p with
  | none=>rfl
  | some o=>rw [s p o nt e] at hp; cases hp
 have nO:=r.hc.fresh hp
 have nt:p∉ts:=fun z=>nO (r.hc.own p z)
 have old:∀ {j:Nat} {v:V} {w:W},σ[j]? = some (some v)→RepW K O ts H v w→RepW K (fun b=>O b∨b=p) ts (upd H p o) v w:=fun {j v w} e q=>by
  cases w with
  | d x=>exact Rep.mono le q
  | tp k=>exact q
  | loc ys=>
   obtain ⟨a,e1,h1,h2,h3⟩:=q
   exact ⟨a,e1,.inl h1,h2,h3.mono (fun o' q=>by rw [upd_ne (ne_of_none q hp)]; exact q) le⟩
 have notp:∀ {j:Nat} {ys:PyData},ρ[j]? = some (some (.loc ys))→σ[j]? = some (some (.ref p))→False:=fun {j ys} e1 e2=>by
  obtain ⟨v,h1,a,ea,h2,h3,h4⟩:=r.re j _ e1
  rw [e2] at h1
  cases h1
  cases ea
  obtain ⟨o',h5⟩:=h4.some
  rw [hp] at h5
  cases h5
 refine ⟨⟨fun b hb=>.inl (r.hc.own b hb),fun b hb=>?_,r.hc.nd,r.hc.len,fun j a ys e1 e2=>?_⟩,fun j w e=>?_,fun b hb=>.inl (r.sub b hb),r.ots,r.same.trans (.new hp _),fun j ys a e1 e2=>?_,fun j k ys zs v e1 e2 e3 e4=>?_,fun f hf=>(r.frs f hf).trans le,by simp [r.len]⟩
 ·by_cases z:b=p
  ·subst z; rw [upd_same]; exact hm
  ·rw [upd_ne z]
   exact r.hc.trk b (hb.resolve_right z)
 ·exact (r.hc.tape j a ys e1 e2).mono (fun o' h1=>by rw [upd_ne (ne_of_none h1 hp)]; exact h1) le
 ·by_cases z:i=j
  ·subst z
   have hl:i < ρ.length:=by
    have:=(List.getElem?_eq_some_iff.mp e).1
    simpa using this
   rw [List.getElem?_set_self hl] at e
   cases e
   exact ⟨.ref p,by rw [List.getElem?_set_self (by rw [r.len]; exact hl)],p,rfl,.inr rfl,nt,rv le⟩
  ·rw [List.getElem?_set_ne z] at e
   obtain ⟨x,h1,h2⟩:=r.re j w e
   exact ⟨x,by rw [List.getElem?_set_ne z]; exact h1,old h1 h2⟩
 ·by_cases z:i=j
  ·subst z
   have hl:i < ρ.length:=by
    have:=(List.getElem?_eq_some_iff.mp e1).1
    simpa using this
   rw [List.getElem?_set_self (by rw [r.len]; exact hl)] at e2
   cases e2
   exact ⟨h0 r.same nt,fun q=>nO (r.sub _ q)⟩
  ·rw [List.getElem?_set_ne z] at e1 e2
   exact r.fresh j ys a e1 e2
 ·by_cases z:i=j
  ·by_cases z':i=k
   ·rw [← z,← z']
   ·exfalso
    subst z
    have hl:i < ρ.length:=by
     have:=(List.getElem?_eq_some_iff.mp e1).1
     simpa using this
    rw [List.getElem?_set_self (by rw [r.len]; exact hl)] at e3
    cases e3
    rw [List.getElem?_set_ne z'] at e2 e4
    exact notp e2 e4
  ·by_cases z':i=k
   ·exfalso
    subst z'
    have hl:i < ρ.length:=by
     have:=(List.getElem?_eq_some_iff.mp e2).1
     simpa using this
    rw [List.getElem?_set_self (by rw [r.len]; exact hl)] at e4
    cases e4
    rw [List.getElem?_set_ne z] at e1 e3
    exact notp e1 e3
   ·rw [List.getElem?_set_ne z] at e1 e3
    rw [List.getElem?_set_ne z'] at e2 e4
    exact r.dist j k ys zs v e1 e2 e3 e4
theorem RS.own {i:Nat} {p:Addr} {vs:List V} {xs:List PyData} (r:RS K O₀ H₀ F ts O H σ ρ T) (hp:H p=none) (rv:Reps K O H vs xs):RS K O₀ H₀ F ts (fun b=>O b∨b=p) (upd H p (.lst vs)) (σ.set i (some (.ref p))) (ρ.set i (some (.loc (.list xs)))) T:=
 r.ownO hp (.inl ⟨_,rfl⟩) fun le=>⟨vs,upd_same,rv.mono le⟩
theorem RS.putO {i:Nat} {a:Addr} {o:HO} {xs ys:PyData} (r:RS K O₀ H₀ F ts O H σ ρ T) (e1:ρ[i]? = some (some (.loc xs))) (e2:σ[i]? = some (some (.ref a))) (hm:Mut (some o)) (rv:Le O H O (upd H a o)→OwnAt K O (upd H a o) a ys):RS K O₀ H₀ F ts O (upd H a o) σ (ρ.set i (some (.loc ys))) T:=by
 obtain ⟨v,z1,a',ea,oa,nt,ha⟩:=r.re i _ e1
 rw [e2] at z1
 cases z1
 cases ea
 have hl:i < ρ.length:=(List.getElem?_eq_some_iff.mp e1).1
 obtain ⟨f1,f2⟩:=r.fresh i xs a e1 e2
 have le:Le O H O (upd H a o):=fun b o n e=>⟨n,by rw [upd_ne (show b≠a from fun z=>n (by rw [z]; exact oa))]; exact e⟩
 have back:∀ {j:Nat} {zs:PyData},(ρ.set i (some (W.loc ys)))[j]? = some (some (.loc zs))→∃ ws,ρ[j]? = some (some (.loc ws)):=fun {j zs} e=>by
  by_cases z:i=j
  ·subst z; exact ⟨xs,e1⟩
  ·rw [List.getElem?_set_ne z] at e; exact ⟨zs,e⟩
 refine ⟨⟨r.hc.own,fun b hb=>?_,r.hc.nd,r.hc.len,fun j b zs q1 q2=>?_⟩,fun j w e=>?_,r.sub,r.ots,fun b o n e=>?_,fun j zs b q1 q2=>?_,fun j k zs zs' v q1 q2 q3 q4=>?_,fun f hf=>(r.frs f hf).trans le,by simp [r.len]⟩
 ·by_cases z:b=a
  ·subst z; rw [upd_same]; exact hm
  ·rw [upd_ne z]; exact r.hc.trk b hb
 ·exact (r.hc.tape j b zs q1 q2).mono (fun o' h1=>by rw [upd_ne (show b≠a from fun z=>nt (by rw [← z]; exact List.mem_of_getElem? q1))]; exact h1) le
 ·by_cases z:i=j
  ·subst z
   rw [List.getElem?_set_self hl] at e
   cases e
   exact ⟨.ref a,e2,a,rfl,oa,nt,rv le⟩
  ·rw [List.getElem?_set_ne z] at e
   obtain ⟨x,h1,h2⟩:=r.re j w e
   refine ⟨x,h1,?_⟩
   cases w with
   | d x=>exact Rep.mono le h2
   | tp k=>exact h2
   | loc zs=>
    obtain ⟨b,eb,k1,k2,k3⟩:=h2
    have n:b≠a:=fun q=>z (r.dist i j xs zs (.ref a) e1 e e2 (by rw [h1,eb,q]))
    exact ⟨b,eb,k1,k2,k3.mono (fun o' q=>by rw [upd_ne n]; exact q) le⟩
 ·have:=r.same b o n e
  rw [upd_ne (show b≠a from fun z=>by rw [z,f1] at e; cases e)]
  exact this
 ·obtain ⟨ws,q⟩:=back q1
  exact r.fresh j ws b q q2
 ·obtain ⟨ws,q⟩:=back q1
  obtain ⟨ws',q'⟩:=back q2
  exact r.dist j k ws ws' v q q' q3 q4
theorem RS.put {i:Nat} {a:Addr} {vs us:List V} {xs ys:List PyData} (r:RS K O₀ H₀ F ts O H σ ρ T) (e1:ρ[i]? = some (some (.loc (.list xs)))) (e2:σ[i]? = some (some (.ref a))) (rv:Reps K O H vs ys):RS K O₀ H₀ F ts O (upd H a (.lst vs)) σ (ρ.set i (some (.loc (.list ys)))) T:=
 r.putO e1 e2 (.inl ⟨_,rfl⟩) fun le=>⟨vs,upd_same,rv.mono le⟩
theorem RS.tapeO {n:Nat} {a:Addr} {o:HO} {ys:List PyData} (r:RS K O₀ H₀ F ts O H σ ρ T) (e:ts[n]? = some a) (hm:Mut (some o)) (rv:Le O H O (upd H a o)→RowAt K O (upd H a o) a ys):RS K O₀ H₀ F ts O (upd H a o) σ ρ (T.set n ys):=by
 have am:a∈ts:=List.mem_of_getElem? e
 have le:Le O H O (upd H a o):=fun b o' k q=>⟨k,by rw [upd_ne (show b≠a from fun z=>k (by rw [z]; exact r.hc.own a am))]; exact q⟩
 have sx:SameX ts H (upd H a o):=fun b o' k q=>by rw [upd_ne (show b≠a from fun z=>k (by rw [z]; exact am))]; exact q
 refine ⟨⟨r.hc.own,fun b hb=>?_,r.hc.nd,by simp [r.hc.len],fun j b zs q1 q2=>?_⟩,r.re.mono r.hc sx,r.sub,r.ots,r.same.trans sx,r.fresh,r.dist,fun f hf=>(r.frs f hf).trans le,r.len⟩
 ·by_cases z:b=a
  ·subst z; rw [upd_same]; exact hm
  ·rw [upd_ne z]; exact r.hc.trk b hb
 ·by_cases z:n=j
  ·subst z
   rw [e] at q1
   cases q1
   have hl:n < T.length:=by
    have:=(List.getElem?_eq_some_iff.mp e).1
    rw [← r.hc.len]; exact this
   rw [List.getElem?_set_self hl] at q2
   cases q2
   exact rv le
  ·rw [List.getElem?_set_ne z] at q2
   refine (r.hc.tape j b zs q1 q2).mono (fun o' h1=>?_) le
   have nb:b≠a:=fun q=>by
    rw [q] at q1
    exact z ((List.getElem?_inj (List.getElem?_eq_some_iff.mp e).1 r.hc.nd).mp (e.trans q1.symm))
   rw [upd_ne nb]
   exact h1
theorem RS.tape {n:Nat} {a:Addr} {vs:List V} {ys:List PyData} (r:RS K O₀ H₀ F ts O H σ ρ T) (e:ts[n]? = some a) (rv:Reps K O H vs ys):RS K O₀ H₀ F ts O (upd H a (.lst vs)) σ ρ (T.set n ys):=
 r.tapeO e (.inl ⟨_,rfl⟩) fun le=>.inl ⟨rv.notO,vs,upd_same,rv.mono le⟩
noncomputable def frzW:W→W
 | .loc x=>.d x
 | w=>w
noncomputable def frzR (ρ:Rho):Rho:=ρ.map (Option.map frzW)
theorem RS.frzH (r:RS K O₀ H₀ F ts O H σ ρ T):HC K O₀ ts H T:=by
 have le:Le O H O₀ H:=fun a o n e=>⟨fun z=>n (r.sub a z),e⟩
 exact ⟨r.ots,fun b hb=>r.hc.trk b (r.sub b hb),r.hc.nd,r.hc.len,fun i a xs e1 e2=>(r.hc.tape i a xs e1 e2).mono (fun _ h=>h) le⟩
noncomputable def NoLD (ρ:Rho):Prop:=∀ (i:Nat) (ds:List (PyData×PyData)),ρ[i]?≠some (some (.loc (.dict ds)))
theorem RS.frz (r:RS K O₀ H₀ F ts O H σ ρ T) (nd:NoLD ρ):HC K O₀ ts H T∧RelE K O₀ ts H σ (frzR ρ):=by
 have le:Le O H O₀ H:=fun a o n e=>⟨fun z=>n (r.sub a z),e⟩
 refine ⟨r.frzH,fun i w e=>?_⟩
 unfold frzR at e
 rw [List.getElem?_map] at e
 cases hu:ρ[i]? with
 | none=>rw [hu] at e; cases e
 | some u=>
  cases u with
  | none=>rw [hu] at e; cases e
  | some u=>
   rw [hu] at e
   cases e
   obtain ⟨v,h1,h2⟩:=r.re i u hu
   refine ⟨v,h1,?_⟩
   cases u with
   | d x=>exact Rep.mono le h2
   | tp k=>exact h2
   | loc xs=>
    obtain ⟨a,rfl,k1,k2,k3⟩:=h2
    cases xs with
    | list xs=>obtain ⟨vs,k3,k4⟩:=k3; exact .lst (.inl ⟨(r.fresh i _ a hu h1).2,.inl k3⟩) (k4.mono le)
    | dict xs=>exact absurd hu (nd i xs)
    | _=>cases k3
theorem RS.frzD {i:Nat} {ds:List (PyData×PyData)} (r:RS K O₀ H₀ F ts O H σ ρ T) (h1:ρ[i]? = some (some (.loc (.dict ds)))):∃ a kvs,H a=some (.dK kvs)∧∀ o,RS K O₀ H₀ F ts (fun b=>O b∧b≠a) (upd H a (.frz o (.dK kvs))) σ (ρ.set i (some (.d (.dict ds)))) T:=by
 obtain ⟨v,k1,a,rfl,k2,k3,kvs,k4,k5⟩:=r.re i _ h1
 refine ⟨a,kvs,k4,fun o=>?_⟩
 have hl:i < ρ.length:=(List.getElem?_eq_some_iff.mp h1).1
 have U:∀ {b:Addr},b≠a→upd H a (.frz o (.dK kvs)) b=H b:=fun n=>upd_ne n
 have le:Le O H (fun b=>O b∧b≠a) (upd H a (.frz o (.dK kvs))):=fun b u n e=>⟨fun z=>n z.1,by rw [U (show b≠a from fun z=>n (by rw [z]; exact k2))]; exact e⟩
 have fr:=r.fresh i _ a h1 k1
 have hw:∀ ys,W.d (.dict ds)≠.loc ys:=fun _ z=>nomatch z
 refine ⟨⟨fun b hb=>⟨r.hc.own b hb,fun z=>k3 (z ▸ hb)⟩,fun b hb=>by rw [U hb.2]; exact r.hc.trk b hb.1,r.hc.nd,r.hc.len,fun j b ys e1 e2=>?_⟩,fun j w e=>?_,fun b hb=>⟨r.sub b hb,fun z=>fr.2 (z ▸ hb)⟩,r.ots,fun b u n e=>?_,fun j ys b e1 e2=>?_,fun j k ys zs v e1 e2 e3 e4=>?_,fun f hf=>(r.frs f hf).trans le,by simp [r.len]⟩
 ·exact (r.hc.tape j b ys e1 e2).mono (fun _ h=>by rw [U (show b≠a from fun z=>k3 (by rw [← z]; exact List.mem_of_getElem? e1))]; exact h) le
 ·by_cases z:i=j
  ·subst z
   rw [List.getElem?_set_self hl] at e
   cases e
   exact ⟨.ref a,k1,.dct (fun z=>z.2 rfl) upd_same (k5.mono le)⟩
  ·rw [List.getElem?_set_ne z] at e
   obtain ⟨x,q1,q2⟩:=r.re j w e
   refine ⟨x,q1,?_⟩
   cases w with
   | d y=>exact Rep.mono le q2
   | tp k=>exact q2
   | loc ys=>
    obtain ⟨b,eb,m1,m2,m3⟩:=q2
    have nb:b≠a:=fun q=>z (r.dist i j _ ys (.ref a) h1 e k1 (by rw [q1,eb,q]))
    exact ⟨b,eb,⟨m1,nb⟩,m2,m3.mono (fun _ q=>by rw [U nb]; exact q) le⟩
 ·rw [U (show b≠a from fun z=>by rw [z,fr.1] at e; cases e)]
  exact r.same b u n e
 ·obtain ⟨n,e⟩:=set_loc hw e1
  exact r.fresh j ys b e e2
 ·obtain ⟨n1,e1⟩:=set_loc hw e1
  obtain ⟨n2,e2⟩:=set_loc hw e2
  exact r.dist j k ys zs v e1 e2 e3 e4
theorem frzR_set {i:Nat} {x:PyData} (h:ρ[i]? = some (some (.loc x))):frzR (ρ.set i (some (.d x)))=frzR ρ:=by
 apply List.ext_getElem?
 intro j
 unfold frzR
 rw [List.getElem?_map,List.getElem?_map]
 by_cases z:i=j
 ·subst z
  rw [List.getElem?_set_self (List.getElem?_eq_some_iff.mp h).1,h]
  rfl
 ·rw [List.getElem?_set_ne z]
theorem RS.frzN (R:Rho):∀ (k:Nat) {O:Addr→Prop} {H:Hp} {ρ:Rho},RS K O₀ H₀ F ts O H σ ρ T→(∀ j ds,k≤j→ρ[j]?≠some (some (.loc (.dict ds))))→frzR ρ=R →
  Gh (fun H'=>∃ O' ρ',RS K O₀ H₀ F ts O' H' σ ρ' T∧NoLD ρ'∧frzR ρ'=R) H
 | 0,O,H,ρ,r,n,e=>.done ⟨O,ρ,r,fun j ds=>n j ds (Nat.zero_le _),e⟩
 | k + 1,O,H,ρ,r,n,e=>by
  by_cases h:∃ ds,ρ[k]? = some (some (.loc (.dict ds)))
  ·obtain ⟨ds,h⟩:=h
   obtain ⟨a,kvs,e1,f⟩:=r.frzD h
   refine .frz e1 fun o=>RS.frzN R k (f o) (fun j es hj=>?_) (by rw [frzR_set h]; exact e)
   by_cases z:k=j
   ·subst z
    rw [List.getElem?_set_self (List.getElem?_eq_some_iff.mp h).1]
    intro q
    cases q
   ·rw [List.getElem?_set_ne z]
    exact n j es (by omega)
  ·refine RS.frzN R k r (fun j ds hj=>?_) e
   by_cases z:k=j
   ·subst z
    exact fun q=>h ⟨ds,q⟩
   ·exact n j ds (by omega)
theorem RS.frzG (r:RS K O₀ H₀ F ts O H σ ρ T):Gh (fun H'=>SameX ts H₀ H'∧HC K O₀ ts H' T∧RelE K O₀ ts H' σ (frzR ρ)) H:=
 (RS.frzN (frzR ρ) ρ.length r (fun j ds hj=>by rw [List.getElem?_eq_none hj]; exact fun z=>nomatch z) rfl).imp fun H' ⟨O',ρ',r',n,e⟩=>⟨r'.same,by rw [← e]; exact r'.frz n⟩
end
noncomputable def fNext:FS:=fun ρ T=>some ((.nx,ρ),T)
noncomputable def fSeq (f g:FS):FS:=fun ρ T=>bnd (f ρ T) fun p T1=>match p with
 | (.nx,ρ1)=>g ρ1 T1
 | (fl,ρ1)=>some ((fl,ρ1),T1)
noncomputable def fSet (i:Nat) (f:FE):FS:=fun ρ T=>bnd (f ρ T) fun w T1=>match w with
 | .d x=>some ((.nx,ρ.set i (some (.d x))),T1)
 | .tp k=>some ((.nx,ρ.set i (some (.tp k))),T1)
 | .loc _=>none
noncomputable def fSetL (i:Nat) (g:FA):FS:=fun ρ T=>bnd (g ρ T) fun ws T1=>match datas ws with
 | some xs=>if xs.length≤1000 then some ((.nx,ρ.set i (some (.loc (.list xs)))),T1) else none
 | none=>none
noncomputable def fApp (i:Nat) (f:FE):FS:=fun ρ T=>bnd (f ρ T) fun w T1=>match w with
 | .d x=>(match ρ[i]? with
  | some (some (.loc (.list xs)))=>if xs.length < sizeLine then some ((.nx,ρ.set i (some (.loc (.list (xs++[x]))))),T1) else none
  | _=>none)
 | _=>none
noncomputable def fIf (c:FT) (f g:FS):FS:=fun ρ T=>bnd (c ρ T) fun b T1=>if b=true then f ρ T1 else g ρ T1
noncomputable def fRet (f:FE):FS:=fun ρ T=>bnd (f (frzR ρ) T) fun w T1=>match w with
 | .d x=>some ((.rt x,ρ),T1)
 | _=>none
noncomputable def fDrop (f:FE):FS:=fun ρ T=>bnd (f ρ T) fun _ T1=>some ((.nx,ρ),T1)
noncomputable def forL (i:Nat) (body:FS):List PyData→FS
 | []=>fNext
 | d::r=>fun ρ T=>bnd (body (ρ.set i (some (.d d))) T) fun p T1=>match p with
  | (.nx,ρ1)=>forL i body r ρ1 T1
  | (.ct,ρ1)=>forL i body r ρ1 T1
  | (.bk,ρ1)=>some ((.nx,ρ1),T1)
  | (.rt x,ρ1)=>some ((.rt x,ρ1),T1)
  | (.ro x,ρ1)=>some ((.ro x,ρ1),T1)
noncomputable def fFor (i:Nat) (it:FI) (body:FS):FS:=fun ρ T=>bnd (it ρ T) fun ds T1=>forL i body ds ρ T1
noncomputable def whileF (c:FT) (body:FS):Nat→FS
 | 0=>fun _ _=>none
 | n + 1=>fun ρ T=>bnd (c ρ T) fun b T1=>if b=true then bnd (body ρ T1) fun p T2=>match p with
   | (.nx,ρ1)=>whileF c body n ρ1 T2
   | (.ct,ρ1)=>whileF c body n ρ1 T2
   | (.bk,ρ1)=>some ((.nx,ρ1),T2)
   | (.rt x,ρ1)=>some ((.rt x,ρ1),T2)
   | (.ro x,ρ1)=>some ((.ro x,ρ1),T2)
  else some ((.nx,ρ),T1)
section
variable {X:Cx} {pos:Pos} {st:Stmt} {rest:List Stmt} {f g:FS} {e:Expr} {fe:FE} {c:FT}
theorem dss_nil:DSs X [] fNext:=by
 refine ⟨?_⟩
 refine pss_imp pss_nil fun D σ H=>?_
 rintro ⟨O₀,H₀,F,ts,O,ρ,T,fl,ρ',T',rs,e,q⟩
 cases e
 exact q O σ H rs
theorem dss_cons (h1:DS X st f) (h2:DSs X rest g):DSs X (st::rest) (fSeq f g):=by
 refine ⟨?_⟩
 refine pss_imp (pss_cons h1.pe h2.pe) fun D σ H=>?_
 rintro ⟨O₀,H₀,F,ts,O,ρ,T,fl,ρ',T',rs,e,q⟩
 obtain ⟨⟨fl1,ρ1⟩,T1,e1,e⟩:=bnd_of e
 refine ⟨O₀,H₀,F,ts,O,ρ,T,fl1,ρ1,T1,rs,e1,?_⟩
 cases fl1 with
 | nx=>exact fun O' σ' H' rs'=>⟨O₀,H₀,F,ts,O',ρ1,T1,fl,ρ',T',rs',e,q⟩
 | rt x=>cases e; exact q
 | ro x=>cases e; exact q
 | bk=>cases e; exact q
 | ct=>cases e; exact q
theorem dss_one (h1:DS X st f):DSs X [st] f:=⟨pss_one h1.pe⟩
theorem ds_set {i:Nat} {x:Str} {pos':Pos} (hN:X.N.Nodup) (he:DE X e fe) (hi:X.N[i]? = some x:=by rfl) (hx:Loc X.env.scope x:=by first | exact Or.inl rfl | exact Or.inr rfl) (hs:swapsWith e (some (.Name x pos')) pos.line X.env=pure false:=by rfl)
  (hf:X.fn x=true∨X.env.scope.names.lookup x=some .local:=by first | exact .inl rfl | exact .inr rfl | assumption):DS X (.Assign [.Name x pos'] e pos) (fSet i fe):=by
 refine ⟨?_⟩
 refine ps_imp (ps_set hN hi hx he.pe hs hf) fun D σ H=>?_
 rintro ⟨O₀,H₀,F,ts,O,ρ,T,fl,ρ',T',rs,e,q⟩
 obtain ⟨w,T1,e1,e⟩:=bnd_of e
 refine ⟨O,ts,ρ,T,w,T1,rs.hc,rs.re,e1,fun v H1 s1 hc1 r1=>?_⟩
 cases w with
 | d x=>cases e; exact q O _ _ ((rs.step s1 hc1).set r1 fun _ z=>nomatch z)
 | tp k=>cases e; exact q O _ _ ((rs.step s1 hc1).set r1 fun _ z=>nomatch z)
 | loc xs=>cases e
theorem ds_setC {i:Nat} {x y:Str} {scope osc:Scope} {N N':List Str} {elt iter:Expr} {ifs:List Expr} {px py spos:Pos} {it:FI} {c:FT} {f:FE} (S:CS osc N x scope N') (hN:X.N.Nodup) (hi:DI X (.Name x px) iter it)
  (he:∀ C s0 H0 ex,DE (compCx X x scope C s0 H0 ex N') elt f) (ht:∀ C s0 H0 ex,DTs (compCx X x scope C s0 H0 ex N') ifs c) (hi':X.N[i]? = some y:=by rfl) (hy:Loc X.env.scope y:=by first | exact Or.inl rfl | exact Or.inr rfl)
  (hf':X.fn y=true∨X.env.scope.names.lookup y=some .local:=by first | exact .inl rfl | exact .inr rfl | assumption) (hc:X.calm=true:=by rfl) (hs:X.env.scope=osc:=by rfl) (hN':X.N=N:=by rfl)
  (hsw:swapsWith (.ListComp elt [⟨.Name x px,iter,ifs,0⟩] scope pos) (some (.Name y py)) spos.line X.env=pure true:=by rfl) (hf:∀ v,foldedSetIterable iter X.env v=pure v:=by intro _; rfl) :
  DS X (.Assign [.Name y py] (.ListComp elt [⟨.Name x px,iter,ifs,0⟩] scope pos) spos) (fSet i (fComp it c f)):=by
 refine ⟨?_⟩
 subst hs hN'
 refine ps_imp (ps_setC (wi:=liftI X.K it) (tt:=liftT X.K c) (te:=lift X.K f) hc S hN hi' hy hf' hi.pe (fun C s0 H0 ex=>(he C s0 H0 ex).pe) (fun C s0 H0 ex=>(ht C s0 H0 ex).pe) hsw hf) fun D σ H=>?_
 rintro ⟨O₀,H₀,F,ts,O,ρ,T,fl,ρ',T',rs,e,q⟩
 obtain ⟨w,T1,e1,e⟩:=bnd_of e
 obtain ⟨ds,T2,e2,e1⟩:=bnd_of e1
 obtain ⟨ys,T3,e3,e1⟩:=bnd_of e1
 cases e1
 cases e
 refine ⟨O,ts,ρ,T,ds,T2,rs.hc,rs.re,e2,fun J H1 s1 hc1 ok hz=>?_⟩
 exact comp_ok hc1 (rs.re.mono rs.hc s1) ok hz e3 fun vs H' s2 hc2 r2 p hp=>q O _ _ ((rs.step (s1.trans (s2.trans (.new hp _))) (hc2.new hp _)).set (hc2.newL hp r2) fun _ z=>nomatch z)
theorem ds_setL {i:Nat} {x:Str} {pos':Pos} {es:List Expr} {lpos:Pos} {g:FA} (hN:X.N.Nodup) (he:DA X es g) (hi:X.N[i]? = some x:=by rfl) (hx:Loc X.env.scope x:=by first | exact Or.inl rfl | exact Or.inr rfl)
  (hs:swapsWith (.List es lpos) (some (.Name x pos')) pos.line X.env=pure false:=by rfl) (hf:X.fn x=true∨X.env.scope.names.lookup x=some .local:=by first | exact .inl rfl | exact .inr rfl | assumption):DS X (.Assign [.Name x pos'] (.List es lpos) pos) (fSetL i g):=by
 refine ⟨?_⟩
 refine ps_imp (ps_set hN hi hx (pe_lst he.pe) hs hf) fun D σ H=>?_
 rintro ⟨O₀,H₀,F,ts,O,ρ,T,fl,ρ',T',rs,e,q⟩
 obtain ⟨ws,T1,e1,e⟩:=bnd_of e
 refine ⟨O,ts,ρ,T,ws,T1,rs.hc,rs.re,e1,fun vs H1 s1 hc1 r1=>?_⟩
 split at e
 ·rename_i xs h1
  split at e
  ·rename_i h2
   cases e
   have rv:=datas_of r1 h1
   exact ⟨le_line (by rw [rv.length]; exact h2),fun p hp=>q _ _ _ ((rs.step s1 hc1).own hp rv)⟩
  ·cases e
 ·cases e
theorem ds_if {ce:Expr} {a b:List Stmt} (hc:DT X ce c) (ha:DSs X a f) (hb:DSs X b g):DS X (.If ce a b pos) (fIf c f g):=by
 refine ⟨?_⟩
 refine ps_imp (ps_if hc.pe ha.pe hb.pe) fun D σ H=>?_
 rintro ⟨O₀,H₀,F,ts,O,ρ,T,fl,ρ',T',rs,e,q⟩
 obtain ⟨b1,T1,e1,e⟩:=bnd_of e
 refine ⟨O,ts,ρ,T,b1,T1,rs.hc,rs.re,e1,fun H1 s1 hc1=>?_⟩
 cases b1 with
 | true=>exact iteT ⟨O₀,H₀,F,ts,O,ρ,T1,fl,ρ',T',rs.step s1 hc1,by simpa using e,q⟩
 | false=>exact iteF ⟨O₀,H₀,F,ts,O,ρ,T1,fl,ρ',T',rs.step s1 hc1,by simpa using e,q⟩
theorem ds_ret (he:DE X e fe):DS X (.Return (some e) pos) (fRet fe):=by
 refine ⟨?_⟩
 refine ps_imp (ps_gh (ps_ret he.pe)) fun D σ H=>?_
 rintro ⟨O₀,H₀,F,ts,O,ρ,T,fl,ρ',T',rs,e,q⟩
 obtain ⟨w,T1,e1,e⟩:=bnd_of e
 refine rs.frzG.imp fun H0 ⟨same,c0,re0⟩=>?_
 refine ⟨O₀,ts,frzR ρ,T,w,T1,c0,re0,e1,fun v H1 s1 hc1 r1=>?_⟩
 cases w with
 | d x=>cases e; exact q v H1 (same.trans s1) hc1 r1
 | tp k=>cases e
 | loc xs=>cases e
theorem ds_app {i:Nat} {x:Str} {p apos:Pos} (he:DE X e fe) (hN:X.N[i]? = some x:=by rfl) (hv:Vis X.env.scope x:=by first | exact Or.inl rfl | exact Or.inr (Or.inl rfl) | exact Or.inr (Or.inr rfl)) (hd:(x == ("__debug__" : Str))=false:=by decide)
  (hcd:(x == ("__classdict__" : Str))=false:=by decide) {cpos:Pos}
  (hbase:attributeBase (.Name x p) "append" X.env (eval (.Name x p) X.env)=eval (.Name x p) X.env:=by rfl)
  (hfew:((backTo cpos (starEach [e] X.env)).all (fun x=>!x.1) && (backToKw cpos (keywordEach [] X.env)).all (fun x=>x.1.isSome)
   && decide (([e]:List Expr).length + ([]:List Keyword).length + (if ([]:List Keyword).isEmpty then 0 else 1) < 30))=true:=by exact few1 rfl)
  (hline:(apos.endLine == cpos.line)=true:=by rfl) (hse:starEach [e] X.env=(false,eval e X.env)::starEach [] X.env:=by exact star_cons rfl) (hplain:(backTo cpos (starEach [] X.env)).any (·.1)=false:=by exact star_any rfl)
  (hs:swapsWith (.Call (.Attribute (.Name x p) "append" apos) [e] [] cpos) none pos.line X.env=pure false:=by rfl) :
  DS X (.Expr (.Call (.Attribute (.Name x p) "append" apos) [e] [] cpos) pos) (fApp i fe):=by
 refine ⟨?_⟩
 refine ps_imp (ps_expr (pe_bm PySem.F.plainAttrs_list PySem.F.slot_list_append PySem.F.type_list_append mt_append (pv i hN hv hd hcd) (pa_cons he.pe pa_nil hse) hbase hfew hline hse hplain) hs) fun D σ H=>?_
 rintro ⟨O₀,H₀,F,ts,O,ρ,T,fl,ρ',T',rs,e,q⟩
 obtain ⟨w,T1,e1,e⟩:=bnd_of e
 split at e
 ·rename_i x0
  split at e
  ·rename_i xs h1
   split at e
   ·rename_i h2
    cases e
    obtain ⟨v,k1,a,rfl,k2,k3,vs,k4,k5⟩:=rs.re i _ h1
    refine ⟨_,k1,.inl ⟨rfl,vs,SqL.of k4⟩,O,ts,ρ,T,_,_,rs.hc,rs.re,e1,fun u H1 s1 hc1 r1=>?_⟩
    have rs1:=rs.step s1 hc1
    exact ⟨a,vs,u,rfl,rfl,s1 _ _ k3 k4,by rw [k5.length]; exact h2,q O _ _ (rs1.put (us:=[]) h1 k1 ((k5.mono (rs.hc.le s1)).append (.cons r1 .nil)))⟩
   ·cases e
  ·cases e
 ·cases e
end
end D
namespace D
open PySem PySem.Spec PyProof.Rows L2
section
variable {K:PySem.W.Frag} {O₀:Addr→Prop} {H₀:Hp} {F:List ((Addr→Prop)×Hp)} {ts:List Addr} {O:Addr→Prop} {H H1:Hp} {σ:L2.St} {ρ:Rho} {T T1:Tp}
theorem RS.less {f:(Addr→Prop)×Hp} (r:RS K O₀ H₀ (f::F) ts O H σ ρ T):RS K O₀ H₀ F ts O H σ ρ T:=⟨r.hc,r.re,r.sub,r.ots,r.same,r.fresh,r.dist,fun f hf=>r.frs f (List.mem_cons_of_mem _ hf),r.len⟩
theorem RS.more (r:RS K O₀ H₀ F ts O H σ ρ T):RS K O₀ H₀ ((O,H)::F) ts O H σ ρ T:=⟨r.hc,r.re,r.sub,r.ots,r.same,r.fresh,r.dist,fun f hf=>by
 rcases List.mem_cons.mp hf with z | z
 ·subst z; exact fun a o n e=>⟨n,e⟩
 ·exact r.frs f z,r.len⟩
end
section
variable {X:Cx} {pos:Pos} {st:Stmt} {rest:List Stmt} {f g:FS} {e:Expr} {fe:FE} {c:FT}
theorem ds_for {i:Nat} {x:Str} {iter:Expr} {body:List Stmt} {tpos:Pos} {it:FI} (hN:X.N.Nodup) (hi:DI X (.Name x tpos) iter it) (hb:DSs X body f) (hix:X.N[i]? = some x:=by rfl) (hx:Loc X.env.scope x:=by first | exact Or.inl rfl | exact Or.inr rfl)
  (hf:X.fn x=true∨X.env.scope.names.lookup x=some .local:=by first | exact .inl rfl | exact .inr rfl | assumption) (hp:PassesOwn (model X.prog X.w) X.A X.env X.xe:=by exact PassesOwn.never) (hc:X.calm=true:=by rfl)
  (hs:∀ x,foldedSetIterable iter X.env x=pure x:=by intro _; rfl):DS X (.For (.Name x tpos) iter body [] pos) (fFor i it f):=by
 refine ⟨?_⟩
 refine ps_imp (ps_for hp hc hi.pe (pg_name hN hix hx hf) hb.pe hs) fun D σ H=>?_
 rintro ⟨O₀,H₀,F,ts,O,ρ,T,fl,ρ',T',rs,e,q⟩
 obtain ⟨ds,T1,e1,e⟩:=bnd_of e
 refine ⟨O,ts,ρ,T,ds,T1,rs.hc,rs.re,e1,fun J H1 s1 hc1 ok hz=>?_⟩
 refine ⟨fun k m σ H=>m=ds.length - k∧k≤ds.length∧∃ O' ρk Tk,RS X.K O₀ H₀ ((O,H1)::F) ts O' H σ ρk Tk∧forL i f (ds.drop k) ρk Tk=some ((fl,ρ'),T'),⟨_,rfl,Nat.zero_le _,O,ρ,T1,(rs.step s1 hc1).more,e⟩,?_⟩
 rintro k m σ2 H2 ⟨rfl,hk,O',ρk,Tk,rs2,ek⟩
 obtain ⟨k1,k2,k3⟩:=ok O' H2 (rs2.frs _ List.mem_cons_self)
 by_cases hlt:k < ds.length
 ·refine .inr ⟨k1 k hlt,fun σ3 H3=>∃ O' ρk Tk,RS X.K O₀ H₀ ((O,H1)::F) ts O' H3 σ3 ρk Tk∧forL i f (ds.drop (k + 1)) ρk Tk=some ((fl,ρ'),T'),fun σ3 H3 n=>⟨ds.length - (k + 1),by omega,rfl,hlt,n⟩,fun v H3 y=>?_⟩
  obtain ⟨e2,d,hd,rd⟩:=k3 k v H3 y hlt
  subst e2
  have hdr:ds.drop k=d::ds.drop (k + 1):=by
   rw [List.drop_eq_getElem_cons hlt]
   have:=(List.getElem?_eq_some_iff.mp hd).2
   rw [this]
  rw [hdr] at ek
  obtain ⟨⟨fl1,ρ1⟩,T3,e3,ek⟩:=bnd_of ek
  refine ⟨O₀,H₀,(O,H1)::F,ts,O',_,Tk,fl1,ρ1,T3,rs2.set (i:=i) (w:=.d d) rd (fun _ z=>nomatch z),e3,?_⟩
  cases fl1 with
  | nx=>exact fun O3 σ3 H3 rs3=>⟨O3,ρ1,T3,rs3,ek⟩
  | ct=>exact fun O3 σ3 H3 rs3=>⟨O3,ρ1,T3,rs3,ek⟩
  | bk=>
   cases ek
   exact fun O3 σ3 H3 rs3=>q O3 σ3 H3 rs3.less
  | rt x=>
   cases ek
   exact q
  | ro x=>
   cases ek
   exact q
 ·have e:k=ds.length:=by omega
  subst e
  rw [List.drop_eq_nil_of_le (Nat.le_refl _)] at ek
  cases ek
  exact .inl ⟨k2,q O' σ2 H2 rs2.less⟩
theorem ds_while {ce:Expr} {body:List Stmt} (n:Nat) (hc:DT X ce c) (hb:DSs X body f) (hp:PassesOwn (model X.prog X.w) X.A X.env X.xe:=by exact PassesOwn.never):DS X (.While ce body [] pos) (whileF c f n):=by
 refine ⟨?_⟩
 refine ps_imp (ps_while hp hc.pe hb.pe) fun D σ H=>?_
 rintro ⟨O₀,H₀,F,ts,O,ρ,T,fl,ρ',T',rs,e,q⟩
 refine ⟨fun m σ H=>∃ O' ρm Tm,RS X.K O₀ H₀ F ts O' H σ ρm Tm∧whileF c f m ρm Tm=some ((fl,ρ'),T'),⟨n,O,ρ,T,rs,e⟩,?_⟩
 rintro m σ2 H2 ⟨O',ρm,Tm,rs2,em⟩
 cases m with
 | zero=>cases em
 | succ m=>
  obtain ⟨b,T3,e3,em⟩:=bnd_of em
  refine ⟨O',ts,ρm,Tm,b,T3,rs2.hc,rs2.re,e3,fun H3 s3 hc3=>?_⟩
  have rs3:=rs2.step s3 hc3
  cases b with
  | false=>
   rw [if_neg Bool.false_ne_true] at em
   cases em
   exact iteF (q O' σ2 H3 rs3)
  | true=>
   rw [if_pos rfl] at em
   obtain ⟨⟨fl1,ρ1⟩,T4,e4,em⟩:=bnd_of em
   refine iteT ⟨fun σ3 H3=>∃ O' ρm Tm,RS X.K O₀ H₀ F ts O' H3 σ3 ρm Tm∧whileF c f m ρm Tm=some ((fl,ρ'),T'),fun σ3 H3 n=>⟨m,Nat.lt_succ_self m,n⟩,O₀,H₀,F,ts,O',ρm,T3,fl1,ρ1,T4,rs3,e4,?_⟩
   cases fl1 with
   | nx=>exact fun O3 σ3 H3 rs3=>⟨O3,ρ1,T4,rs3,em⟩
   | ct=>exact fun O3 σ3 H3 rs3=>⟨O3,ρ1,T4,rs3,em⟩
   | bk=>
    cases em
    exact fun O3 σ3 H3 rs3=>q O3 σ3 H3 rs3
   | rt x=>
    cases em
    exact q
   | ro x=>
    cases em
    exact q
end
noncomputable abbrev FnM:=List W→Tp→Option (PyData×Tp)
noncomputable def noLoc:List W→Bool
 | []=>true
 | .loc _::_=>false
 | _::r=>noLoc r
noncomputable def fnEnd (o:Option ((Fl×Rho)×Tp)):Option (PyData×Tp):=bnd o fun p T=>match p with
 | (.rt x,_)=>some (x,T)
 | (.nx,_)=>some (.none,T)
 | _=>none
noncomputable def mkFn (N:Nat) (f:FS):FnM:=fun ws T=>if noLoc ws=true then fnEnd (f (ws.map some++List.replicate (N - ws.length) none) T) else none
inductive SpMP (K:PySem.W.Frag) (n:Nat) (m:FnM) (vs:List V) (H:Hp) (Q:VK):Prop where
 | mk (O:Addr→Prop) (ts:List Addr) (T:Tp) (ws:List W) (x:PyData) (T':Tp) (hc:HC K O ts H T) (r:RepWs K O ts H vs ws) (hl:ws.length=n) (e:m ws T=some (x,T')) (q:∀ v H',SameX ts H H'→HC K O ts H' T'→Rep K O H' v x→Q v H'):SpMP K n m vs H Q
noncomputable def spM (K:PySem.W.Frag) (n:Nat) (m:FnM):Sp:=fun vs H Q _=>SpMP K n m vs H Q
theorem repws_get {K:PySem.W.Frag} {O:Addr→Prop} {ts:List Addr} {H:Hp}:∀ {vs:List V} {ws:List W} {i:Nat} {w:W},RepWs K O ts H vs ws→ws[i]? = some w→∃ v,vs[i]? = some v∧RepW K O ts H v w
 | _,_,_,_,.nil,e=>by simp at e
 | _,_,0,_,.cons r _,e=>by simp at e; subst e; exact ⟨_,rfl,r⟩
 | _,_,i + 1,w,.cons _ t,e=>by
  obtain ⟨d,h1,h2⟩:=repws_get (i:=i) (w:=w) t (by simpa using e)
  exact ⟨d,by simpa using h1,h2⟩
theorem noLoc_mem:∀ {ws:List W} {xs:PyData},noLoc ws=true→W.loc xs∉ws
 | [],_,_,h=>by cases h
 | .loc _::_,_,e,_=>by cases e
 | .d _::r,_,e,h=>by
  rcases List.mem_cons.mp h with z | z
  ·cases z
  ·exact noLoc_mem (ws:=r) e z
 | .tp _::r,_,e,h=>by
  rcases List.mem_cons.mp h with z | z
  ·cases z
  ·exact noLoc_mem (ws:=r) e z
theorem start_get {ws:List W} {n i:Nat} {w:W} (e:(ws.map some++List.replicate n none)[i]? = some (some w)):ws[i]? = some w:=by
 by_cases h:i < ws.length
 ·rw [List.getElem?_append_left (by simpa using h),List.getElem?_map] at e
  cases q:ws[i]? with
  | none=>rw [q] at e; cases e
  | some u=>rw [q] at e; cases e; rfl
 ·rw [List.getElem?_append_right (by simpa using h)] at e
  have:=List.mem_of_getElem? e
  rw [List.mem_replicate] at this
  cases this.2
theorem dfn {P:Program} {w:World} {K:PySem.W.Frag} {mg:Str→Option Value} {base:Heap} {x qual:Str} {st:Stmt} {f:Addr} {fd:FuncData} {N ps:List Str} {k:Nat} {m:FS} (F:Fun K x qual st f fd) (S:FnScope N ps (defScope st))
  (hbody:∀ (cdv:Value) (A:Around) (outer:List Env) (s:Shared) (H:Hp) (E:XK),Room k (A.deeper (envOfC qual (defScope st) s.heap.objs.size f cdv))→DSs (cxOf CX0 P w K mg base N qual (defScope st) f cdv A outer s H E).nox (defBody st) m) :
  FnOk P w K mg base CX0 (k + 1) f fd ps (spM K ps.length (mkFn N.length m)):=by
 refine F.ok S (fun vs H Q E h=>?_) (fun cdv A outer s H vs Q E hr h=>⟨_,(hbody cdv A outer s H E hr).pe,?_⟩)
 ·obtain ⟨O,ts,T,ws,x,T',hc,rw',hl,_⟩:=h
  rw [← hl]
  exact Paired.length rw'
 obtain ⟨O,ts,T,ws,x,T',hc,rw',hl,e,q⟩:=h
 unfold mkFn at e
 split at e
 ·rename_i hn
  obtain ⟨⟨fl,ρ'⟩,T1,e1,e⟩:=bnd_of e
  have hlen:vs.length=ws.length:=Paired.length rw'
  have noL:∀ {i:Nat} {xs:PyData},(ws.map some++List.replicate (N.length - ws.length) none)[i]? = some (some (W.loc xs))→False:=fun {i xs} e=>noLoc_mem hn (List.mem_of_getElem? (start_get e))
  refine ⟨O,H,[],ts,O,_,T,fl,ρ',T1,⟨hc,fun i u e=>?_,fun _ h=>h,hc.own,.refl _ _,fun i xs a e1 _=>(noL e1).elim,fun i j xs ys v e1 _ _ _=>(noL e1).elim,fun f hf=>absurd hf (by simp),by simp [L2.start,hlen]⟩,e1,?_⟩
  ·obtain ⟨v,h1,h2⟩:=repws_get rw' (start_get e)
   refine ⟨v,?_,h2⟩
   unfold L2.start
   have hi:i < vs.length:=(List.getElem?_eq_some_iff.mp h1).1
   rw [List.getElem?_append_left (by simpa using hi),List.getElem?_map,h1]
   rfl
  ·cases fl with
   | rt y=>cases e; exact fun v H' s1 c1 r1=>q v H' s1 c1 r1
   | nx=>
    cases e
    exact fun O' σ' H' rs=>q _ _ rs.same rs.frzH .non
   | bk=>cases e
   | ct=>cases e
   | ro y=>cases e
 ·cases e
noncomputable def fCall (m:FnM) (g:FA):FE:=fun ρ T=>bnd (g ρ T) fun ws T1=>bnd (m ws T1) fun x T2=>some (.d x,T2)
noncomputable def LenA (g:FA) (n:Nat):Prop:=∀ ρ T ws T',g ρ T=some (ws,T')→ws.length=n
theorem len_nil:LenA fNil 0:=fun ρ T ws T' e=>by cases e; rfl
theorem len_cons {f:FE} {g:FA} {n:Nat} (h:LenA g n):LenA (fCons f g) (n + 1):=fun ρ T ws T' e=>by
 obtain ⟨w1,T1,e1,e⟩:=bnd_of e
 obtain ⟨ws,T2,e2,e⟩:=bnd_of e
 cases e
 rw [List.length_cons,h _ _ _ _ e2]
theorem de_call {X:Cx} {name:Str} {ps:List Str} {k:Nat} {m:FnM} {e:Expr} {es:List Expr} {g:FA} {p pos:Pos} (F:Fn X.prog X.w X.K X.mg X.base name ps k (spM X.K ps.length m)) (hr:Room k X.A) (hg:Gl X name) (ha:DA X (e::es) g) (hl:LenA g ps.length) (hdb:(name == ("__debug__" : Str))=false:=by decide)
  (he:starEach (e::es) X.env=(false,eval e X.env)::starEach es X.env:=by exact star_cons rfl) (hpl:(backTo pos (starEach es X.env)).any (·.1)=false:=by exact star_any rfl):DE X (.Call (.Name name p) (e::es) [] pos) (fCall m g):=by
 refine ⟨?_⟩
 refine pe_imp (pe_fn F hr hg ha.pe hdb he hpl) fun σ H Q=>?_
 rintro ⟨O,ts,ρ,T,w,T',hc,re,e,q⟩
 obtain ⟨ws,T1,e1,e⟩:=bnd_of e
 obtain ⟨x,T2,e2,e⟩:=bnd_of e
 cases e
 refine ⟨O,ts,ρ,T,ws,T1,hc,re,e1,fun vs H1 s1 hc1 r1=>?_⟩
 refine ⟨O,ts,T1,ws,x,_,hc1,by rw [List.append_nil]; exact r1,hl _ _ _ _ e1,e2,fun v H2 s2 hc2 r2=>q v H2 (s1.trans s2) hc2 r2⟩
end D
namespace D
open PySem PySem.Spec PyProof.Rows L2
noncomputable def iop (g:Int→Int→Option PyData):PyData→PyData→Option PyData
 | .int i,.int j=>g i j
 | _,_=>none
noncomputable def subD:PyData→PyData→Option PyData:=iop fun i j=>some (.int (i - j))
noncomputable def modD:PyData→PyData→Option PyData:=iop fun i j=>if 0 < j then some (.int (i % j)) else none
noncomputable def fdivD:PyData→PyData→Option PyData:=iop fun i j=>if 0 < j∧j < 1073741824 then some (.int (i / j)) else none
noncomputable def powD:PyData→PyData→Option PyData:=iop fun i j=>if 0≤j∧j≤1000000∧i.natAbs < 2 ^ 64 then some (.int (i ^ j.toNat)) else none
noncomputable def ltD:PyData→PyData→Option PyData:=iop fun i j=>some (.bool (decide (i < j)))
noncomputable def leD:PyData→PyData→Option PyData:=iop fun i j=>some (.bool (decide (i≤j)))
noncomputable def gtD:PyData→PyData→Option PyData:=iop fun i j=>some (.bool (decide (j < i)))
noncomputable def geD:PyData→PyData→Option PyData:=iop fun i j=>some (.bool (decide (j≤i)))
theorem iop_of {g:Int→Int→Option PyData} {x y d:PyData} (e:iop g x y=some d):∃ i j,x=.int i∧y=.int j∧g i j=some d:=by
 unfold iop at e
 split at e
 ·exact ⟨_,_,rfl,rfl,e⟩
 ·cases e
theorem snd_rI {K:PySem.W.Frag} {C:Int→Int→Prop} {g:Int→Int→V} {gd:Int→Int→Option PyData} (h:∀ i j d,gd i j=some d→C i j∧∀ O H,Rep K O H (g i j) d):Snd2 K (rI C g) (iop gd):=fun O ts H T v1 v2 x y d Q hc h1 h2 e q=>by
 obtain ⟨i,j,rfl,rfl,e⟩:=iop_of e
 obtain ⟨c,r⟩:=h i j d e
 exact ⟨i,j,h1.int,h2.int,c,q _ H (.refl _ _) hc (r O H)⟩
theorem snd_rI0 {K:PySem.W.Frag} {g:Int→Int→V} {gd:Int→Int→Option PyData} (h:∀ i j d,gd i j=some d→∀ O H,Rep K O H (g i j) d):Snd2 K (rI0 g) (iop gd):=fun O ts H T v1 v2 x y d Q hc h1 h2 e q=>by
 obtain ⟨i,j,rfl,rfl,e⟩:=iop_of e
 exact ⟨i,j,h1.int,h2.int,q _ H (.refl _ _) hc (h i j d e O H)⟩
section
variable {X:Cx}
theorem o_mod:OpD X (binaryOp .Mod) modD:=⟨_,op_mod,snd_rI fun i j d e=>by
 split at e
 ·rename_i h; cases e; exact ⟨h,fun _ _=>.int _⟩
 ·cases e⟩
theorem o_fdiv:OpD X (binaryOp .FloorDiv) fdivD:=⟨_,op_fdiv,snd_rI fun i j d e=>by
 split at e
 ·rename_i h; cases e; exact ⟨h,fun _ _=>.int _⟩
 ·cases e⟩
theorem o_pow:OpD X (binaryOp .Pow) powD:=⟨_,op_pow,snd_rI fun i j d e=>by
 split at e
 ·rename_i h; cases e; exact ⟨h,fun _ _=>.int _⟩
 ·cases e⟩
theorem o_lt:OpD X (compareOp .Lt) ltD:=⟨_,op_lt,snd_rI0 fun i j d e O H=>by cases e; exact .bl _⟩
theorem o_le:OpD X (compareOp .LtE) leD:=⟨_,op_le,snd_rI0 fun i j d e O H=>by cases e; exact .bl _⟩
theorem o_gt:OpD X (compareOp .Gt) gtD:=⟨_,op_gt,snd_rI0 fun i j d e O H=>by cases e; exact .bl _⟩
theorem o_ge:OpD X (compareOp .GtE) geD:=⟨_,op_ge,snd_rI0 fun i j d e O H=>by cases e; exact .bl _⟩
noncomputable def addD:PyData→PyData→Option PyData
 | .int i,.int j=>some (.int (i + j))
 | .str x,.str y=>if x.length + y.length≤sizeLine then some (.str (x++y)) else none
 | .tuple xs,.tuple ys=>if xs.length + ys.length≤sizeLine then some (.tuple (xs++ys)) else none
 | .list xs,.list ys=>if xs.length + ys.length≤sizeLine then some (.list (xs++ys)) else none
 | _,_=>none
noncomputable def rCatL (K:PySem.W.Frag):R2:=fun x y H Q=>∃ l b xs zs,x=.ref l∧y=.ref b∧SqL K H l xs∧SqL K H b zs∧xs.length + zs.length≤sizeLine∧∀ p,H p=none→Q (.ref p) (upd H p (.lst (xs++zs)))
theorem op_catL:OpR X (binaryOp .Add) (rCatL X.K):=by
 intro pins s σ H x y v u Q I rx ry h
 obtain ⟨l,b,xs,zs,rfl,rfl,hH,hB,hz,q⟩:=h
 cases rx
 cases ry
 obtain ⟨its,r,p1,_⟩:=I.list hH
 obtain ⟨its2,r2,p2,_⟩:=I.list hB
 have hl:=r.length
 have hl2:=r2.length
 obtain ⟨⟨cls,dd,data,sl⟩,ho,hc,n,hd⟩:=id p1.isList
 obtain ⟨⟨cls2,dd2,data2,sl2⟩,ho2,hc2,n2,hd2⟩:=id p2.isList
 simp only at hc hd hc2 hd2
 subst hc hd hc2 hd2
 have ea:its.toArray++its2.toArray=(its++its2).toArray:=by simp
 refine concat_meets ⟨_,ho,rfl⟩ ⟨_,ho2,rfl⟩ noFill_list_add seq_list_add PySem.F.slot_list_add PySem.F.entry_list_add (PySem.F.args_list_add_2 _ _) (list_addW l b its.toArray its2.toArray n n2 dd dd2 sl sl2 (by rw [List.size_toArray,List.size_toArray]; omega)) ⟨ho,ho2,?_⟩
 rw [ea]
 exact ⟨.ref _,_,I.lnew (t':=s.toks) (r.append r2) (by rw [List.length_append]; omega),rfl,q _ I.fresh⟩
theorem o_add:OpD X (binaryOp .Add) addD:=by
 refine ⟨_,op_add.or (op_add_str.or (op_catG.or op_catL)),fun O ts H T v1 v2 x y d Q hc h1 h2 e q=>?_⟩
 unfold addD at e
 split at e
 ·cases e
  exact .inl ⟨_,_,h1.int,h2.int,q _ H (.refl _ _) hc (.int _)⟩
 ·split at e
  ·rename_i hz
   cases e
   exact .inr (.inl ⟨_,_,h1.str,h2.str,hz,q _ H (.refl _ _) hc (.str _)⟩)
  ·cases e
 ·split at e
  ·rename_i xs ys hz
   cases e
   obtain ⟨a,vs,rfl,t1,r1⟩:=h1.tup
   obtain ⟨b,us,rfl,t2,r2⟩:=h2.tup
   refine .inr (.inr (.inl ⟨a,b,vs,us,rfl,rfl,t1.sq,t2.sq,by rw [r1.length,r2.length]; exact hz,fun z=>?_,fun _ z=>?_,fun _ _ p hp=>?_⟩))
   ·subst z
    cases r1
    exact q _ H (.refl _ _) hc (.tup t2 r2)
   ·subst z
    cases r2
    rw [List.append_nil] at q
    exact q _ H (.refl _ _) hc (.tup t1 r1)
   ·exact q _ _ (.new hp _) (hc.new hp _) (hc.newT hp (r1.append r2))
  ·cases e
 ·split at e
  ·rename_i xs ys hz
   cases e
   obtain ⟨a,vs,rfl,t1,r1⟩:=h1.lst
   obtain ⟨b,us,rfl,t2,r2⟩:=h2.lst
   exact .inr (.inr (.inr ⟨a,b,vs,us,rfl,rfl,t1,t2,by rw [r1.length,r2.length]; exact hz,fun p hp=>q _ _ (.new hp _) (hc.new hp _) (hc.newL hp (r1.append r2))⟩))
  ·cases e
 ·cases e
theorem noFill_tuple_mul:fillsNumberSlot (.type "tuple") "mul" = pure false:=
 PySem.fillsNumberSlot_seq (id:="tuple.__mul__") (r:=some (.builtin "tuple.__rmul__")) PySem.F.slot_tuple_mul.lookup (by decide +kernel) PySem.F.slot_tuple_rmul.lookup (by decide +kernel)
theorem repeat_tuple:seqRepeat? (.type "tuple")=pure (some (.builtin "tuple.__mul__")):=by
 unfold seqRepeat?
 rw [PySem.seqSlot_of (T:="tuple") (name:="__mul__") (id:="tuple.__mul__") PySem.F.slot_tuple_mul.lookup (by decide +kernel),PySem.seqSlot_of (T:="tuple") (name:="__rmul__") (id:="tuple.__rmul__") PySem.F.slot_tuple_rmul.lookup (by decide +kernel)]
 rfl
theorem int_rmul_tuple (a:Int) (t:Tok) (l:Addr) (items:Array Value) (n:Nat) (dd:Option Addr) (sl:Array (Option Value)) :
  Meets (Builtin.«int.__rmul__» ⟨[.int a t,.ref l],[]⟩) (fun _ R s=>s.heap.get? l=some { cls:=.type "tuple",dict:=dd,data:=.seq items n,slots:=sl }∧R (.ok (.ret Value.notImplemented)) s):=
 .of_wp fun prog w A R s h=>by obtain ⟨hp,g,d,tk,os⟩:=s; obtain ⟨hl,h⟩:=h; wp_walk; exact ⟨_,rfl,h⟩
theorem tuple_mulW (l:Addr) (items:Array Value) (n:Nat) (dd:Option Addr) (sl:Array (Option Value)) (k:Int) (t:Tok) (h1:2≤k) (h2:k≤1000) (h3:items.isEmpty=false) (h4:items.size≤1000) :
  Meets (Builtin.«tuple.__mul__» ⟨[.ref l,.int k t],[]⟩) (fun _ R s=>s.heap.get? l=some { cls:=.type "tuple",dict:=dd,data:=.seq items n,slots:=sl }∧R (.ok (.ret (Value.ref s.heap.objs.size))) { s with heap:=s.heap.push { cls:=Value.type "tuple",data:=Data.seq (List.foldl (fun x1 x2=>x1++x2) #[] (List.replicate k.toNat items)) },toks:=s.toks }):=
 .of_wp fun prog w A R s h=>by
  obtain ⟨hp,g,d,tk,os⟩:=s
  obtain ⟨hl,h⟩:=h
  have hc0:¬ (decide (k < -(2 ^ 63)) || decide (k≥2 ^ 63))=true:=by simp; omega
  have hc1:¬ (items.isEmpty || k == 1)=true:=by rw [h3]; simp; omega
  have hc2:¬ (decide (k≤0) || items.isEmpty)=true:=by rw [h3]; simp; omega
  have hm:items.size * k.toNat≤1000 * 1000:=Nat.mul_le_mul h4 (by omega)
  have hm':(items.size:Int) * k≤1000000:=by
   have e:((items.size * k.toNat:Nat):Int)=(items.size:Int) * k:=by rw [Int.natCast_mul,Int.toNat_of_nonneg (by omega)]
   omega
  have hc3:¬ (items.size:Int) * k > (2 ^ 63 - 1) / 8:=by
   have:(1000000:Int)≤(2 ^ 63 - 1) / 8:=by decide
   omega
  have hc4:¬ Builtin.Tuple.tupleTooMany ((items.size:Int) * k)=true:=by
   unfold Builtin.Tuple.tupleTooMany
   have:sizeLine=16777216:=by decide
   simp
   omega
  have ht:IsTup hp l items:=⟨_,hl,rfl,n,rfl⟩
  wp_walk
  rw [if_neg hc0]
  dsimp only
  refine wpAny_bind (tupleItemsOf_ ht ?_)
  rw [if_neg hc1,if_neg hc2,if_neg hc3,if_neg hc4]
  have fit:sizeOk (.seq (List.foldl (fun x1 x2=>x1++x2) #[] (List.replicate k.toNat items))):=by
   show (List.foldl (fun x1 x2=>x1++x2) #[] (List.replicate k.toNat items)).size≤sizeLine
   have q:=foldl_rep items.toList k.toNat []
   rw [List.nil_append] at q
   have q':List.foldl (fun x1 x2=>x1++x2) #[] (List.replicate k.toNat items)=(List.replicate k.toNat items.toList).flatten.toArray:=by simpa using q
   rw [q',List.size_toArray,len_rep]
   have:sizeLine=16777216:=by decide
   rw [Array.length_toList,Nat.mul_comm]
   omega
  first
  | exact wpAny_bind (m:=Builtin.Tuple.tupleExact _) (wpAny_newObj_type (wpAny_pure ⟨_,rfl,h⟩) fit)
  | exact wpAny_bind (m:=Builtin.Tuple.tupleExact _) (wpAny_newObj_type (wpAny_bind (wpAny_pure (wpAny_pure ⟨_,rfl,h⟩))) fit)
theorem op_repT:OpR X (binaryOp .Mult) (fun x y H Q=>∃ a k xs,x=.ref a∧y=.int k∧SqT X.K H a xs∧2≤k∧k≤1000∧xs≠[]∧xs.length≤1000∧∀ p,H p=none→Q (.ref p) (upd H p (.tup (List.replicate k.toNat xs).flatten))):=by
 intro pins s σ H x y v u Q I rx ry h
 obtain ⟨a,k,xs,rfl,rfl,hq,h1,h2,h3,h4,q⟩:=h
 cases rx
 obtain ⟨t,rfl⟩:=ry
 obtain ⟨its,r,p1,_⟩:=I.tuple hq
 have hl:=r.length
 have hv:its≠[]:=fun z=>h3 (r.nil_iff.mp z)
 obtain ⟨⟨cls,dd,data,sl⟩,ho,hc,n,hd⟩:=id p1
 simp only at hc hd
 subst hc hd
 have hnew:List.foldl (fun x1 x2=>x1++x2) #[] (List.replicate k.toNat its.toArray)=(List.replicate k.toNat its).flatten.toArray:=by
  have q:=foldl_rep its k.toNat []
  rw [List.nil_append] at q
  exact q
 have he:its.toArray.isEmpty=false:=by
  cases its with
  | nil=>exact absurd rfl hv
  | cons _ _=>simp
 refine wpAny_binaryOp_repeat_ref (T:="tuple") (U:="int") (by decide) ⟨_,ho,rfl⟩ (fun s'=>typeIs_int s' k t) noFill_tuple_mul F.fills_int_mul F.slot_int_rmul repeat_tuple F.slot_int_index.lookup
  (call_meets F.slot_int_rmul (typeIs_int s k t) F.entry_int_rmul (F.args_int_rmul_2 _ _) (int_rmul_tuple k t a its.toArray n dd sl)
   ⟨ho,rfl,⟨_,ho,rfl⟩,call_meets PySem.F.slot_tuple_mul ⟨_,ho,rfl⟩ PySem.F.entry_tuple_mul (PySem.F.args_tuple_mul_2 _ _) (tuple_mulW a its.toArray n dd sl k t h1 h2 he (by rw [List.size_toArray]; omega)) ⟨ho,?_⟩⟩)
 rw [hnew]
 refine ⟨.ref s.heap.objs.size,_,I.laid (t':=s.toks) (o:=.tup (List.replicate k.toNat xs).flatten) (fun b ob q=>Heap.get?_push_of_some _ q) (Nat.le_refl _) ?_,rfl,q _ (I.hok.fresh (Nat.le_refl _))⟩
 refine ⟨?_,_,r.rep k.toNat,IsTup.new _ _⟩
 rw [len_rep]
 have:k.toNat * xs.length≤1000 * 1000:=Nat.mul_le_mul (by omega) h4
 have:sizeLine=16777216:=by decide
 omega
noncomputable def mulD:PyData→PyData→Option PyData
 | .int i,.int j=>if (-(2 ^ 64) < i∧i < 2 ^ 64)∨(-(2 ^ 64) < j∧j < 2 ^ 64) then some (.int (i * j)) else none
 | .str z,.int k=>if 0≤k∧k≤2000∧z.length≤1000 then some (.str (Txt.mul z k)) else none
 | .tuple xs,.int k=>if 2≤k∧k≤1000∧xs.isEmpty=false∧xs.length≤1000 then some (.tuple (List.replicate k.toNat xs).flatten) else none
 | _,_=>none
theorem o_mul:OpD X (binaryOp .Mult) mulD:=by
 refine ⟨_,op_mul.or (op_mulS.or op_repT),fun O ts H T v1 v2 x y d Q hc h1 h2 e q=>?_⟩
 unfold mulD at e
 split at e
 ·split at e
  ·rename_i hz
   cases e
   exact .inl ⟨_,_,h1.int,h2.int,hz,q _ H (.refl _ _) hc (.int _)⟩
  ·cases e
 ·split at e
  ·rename_i hz
   cases e
   exact .inr (.inl ⟨_,_,h1.str,h2.int,hz.1,hz.2.1,hz.2.2,q _ H (.refl _ _) hc (.str _)⟩)
  ·cases e
 ·split at e
  ·rename_i xs k hz
   cases e
   obtain ⟨a,vs,rfl,t1,r1⟩:=h1.tup
   exact .inr (.inr ⟨a,_,vs,rfl,h2.int,t1.sq,hz.1,hz.2.1,fun z=>by subst z; cases r1; exact absurd hz.2.2.1 (by simp),by rw [r1.length]; exact hz.2.2.2,fun p hp=>q _ _ (.new hp _) (hc.new hp _) (hc.newT hp (r1.rep _))⟩)
  ·cases e
 ·cases e
noncomputable def eqS:PyData→PyData→Option Bool
 | .int i,.int j=>some (decide (i=j))
 | .str x,.str y=>some (decide (x=y))
 | .bool a,.bool b=>some (decide (a=b))
 | .none,.none=>some true
 | .none,.int _=>some false | .int _,.none=>some false | .none,.bool _=>some false | .bool _,.none=>some false | .none,.str _=>some false | .str _,.none=>some false
 | .int _,.str _=>some false | .str _,.int _=>some false | .bool _,.str _=>some false | .str _,.bool _=>some false
 | _,_=>none
theorem eqS_of {K:PySem.W.Frag} {O:Addr→Prop} {H:Hp} {v1 v2:V} {x y:PyData} {b:Bool} (h1:Vw K O H v1 x) (h2:Vw K O H v2 y) (e:eqS x y=some b):scal v1 v2=true∧decide (v1=v2)=b:=by
 unfold eqS at e
 split at e
 all_goals first | (cases e; done) | skip
 ·cases h1.int; cases h2.int; cases e; exact ⟨rfl,by simp⟩
 ·cases h1.str; cases h2.str; cases e; exact ⟨rfl,by simp⟩
 ·cases h1.bl; cases h2.bl; cases e; exact ⟨rfl,by simp⟩
 ·cases h1.non; cases h2.non; cases e; exact ⟨rfl,by simp⟩
 ·cases h1.non; cases h2.int; cases e; exact ⟨rfl,by simp⟩
 ·cases h1.int; cases h2.non; cases e; exact ⟨rfl,by simp⟩
 ·cases h1.non; cases h2.bl; cases e; exact ⟨rfl,by simp⟩
 ·cases h1.bl; cases h2.non; cases e; exact ⟨rfl,by simp⟩
 ·cases h1.non; cases h2.str; cases e; exact ⟨rfl,by simp⟩
 ·cases h1.str; cases h2.non; cases e; exact ⟨rfl,by simp⟩
 ·cases h1.int; cases h2.str; cases e; exact ⟨rfl,by simp⟩
 ·cases h1.str; cases h2.int; cases e; exact ⟨rfl,by simp⟩
 ·cases h1.bl; cases h2.str; cases e; exact ⟨rfl,by simp⟩
 ·cases h1.str; cases h2.bl; cases e; exact ⟨rfl,by simp⟩
noncomputable def eqD (x y:PyData):Option PyData:=(eqS x y).map .bool
noncomputable def neD (x y:PyData):Option PyData:=(eqS x y).map fun b=>.bool (!b)
theorem o_eq:OpD X (compareOp .Eq) eqD:=⟨_,op_eq,fun O ts H T v1 v2 x y d Q hc h1 h2 e q=>by
 unfold eqD at e
 obtain ⟨b,e1,rfl⟩:=Option.map_eq_some_iff.mp e
 obtain ⟨k1,k2⟩:=eqS_of h1 h2 e1
 exact ⟨k1,by rw [k2]; exact q _ H (.refl _ _) hc (.bl _)⟩⟩
theorem o_ne:OpD X (compareOp .NotEq) neD:=⟨_,op_ne,fun O ts H T v1 v2 x y d Q hc h1 h2 e q=>by
 unfold neD at e
 obtain ⟨b,e1,rfl⟩:=Option.map_eq_some_iff.mp e
 obtain ⟨k1,k2⟩:=eqS_of h1 h2 e1
 exact ⟨k1,by rw [k2]; exact q _ H (.refl _ _) hc (.bl _)⟩⟩
noncomputable def isNone:PyData→Bool
 | .none=>true
 | _=>false
theorem isNone_of {K:PySem.W.Frag} {O:Addr→Prop} {H:Hp} {v:V} {x:PyData} (h:Vw K O H v x):decide (v=.non)=isNone x:=by
 cases h with
 | rep h=>cases h <;> rfl
 | raw _ _=>rfl
 | rawD _ _=>rfl
noncomputable def isD:PyData→PyData→Option PyData
 | x,.none=>some (.bool (isNone x))
 | _,_=>none
theorem o_is:OpD X (compareOp .Is) isD:=⟨_,op_isN,fun O ts H T v1 v2 x y d Q hc h1 h2 e q=>by
 unfold isD at e
 split at e
 ·cases e
  exact ⟨h2.non,by rw [isNone_of h1]; exact q _ H (.refl _ _) hc (.bl _)⟩
 ·cases e⟩
noncomputable def isNotD:PyData→PyData→Option PyData
 | x,.none=>some (.bool (!isNone x))
 | .bool a,.bool b=>some (.bool (a != b))
 | _,_=>none
noncomputable def flatD:PyData→Bool
 | .none=>true | .bool _=>true | .int _=>true | .str _=>true
 | _=>false
noncomputable def eqF:PyData→PyData→Bool
 | .none,.none=>true
 | .bool a,.bool b=>a == b
 | .bool a,.int b=>(if a then 1 else 0) == b
 | .int a,.bool b=>a == (if b then 1 else 0)
 | .int a,.int b=>a == b
 | .str a,.str b=>a == b
 | _,_=>false
noncomputable def hasS (y x:Str):Bool:=!(Builtin.Str.occurrences y x 0 y.length 1).isEmpty
noncomputable def inS:PyData→PyData→Option Bool
 | .str x,.str y=>some (hasS y x)
 | x,.list ys=>if flatD x && ys.all flatD then some (ys.any fun y=>eqF y x) else none
 | x,.tuple ys=>if flatD x && ys.all flatD then some (ys.any fun y=>eqF y x) else none
 | _,_=>none
theorem flat_of {K:PySem.W.Frag} {O:Addr→Prop} {H:Hp} {v:V} {x:PyData} (h:Rep K O H v x) (e:flatD x=true):flatV v=true:=by
 cases h <;> first | rfl | cases e
theorem eqF_of {K:PySem.W.Frag} {O:Addr→Prop} {H:Hp} {v u:V} {x y:PyData} (h:Rep K O H v x) (g:Rep K O H u y) (ex:flatD x=true) (ey:flatD y=true):eqV v u=eqF x y:=by
 cases h <;> cases g <;> first | rfl | cases ex | cases ey
theorem flats_of {K:PySem.W.Frag} {O:Addr→Prop} {H:Hp}:∀ {vs:List V} {xs:List PyData},Reps K O H vs xs→xs.all flatD=true→vs.all flatV=true
 | _,_,.nil,_=>rfl
 | _,_,.cons r t,e=>by
  rw [List.all_cons,Bool.and_eq_true] at e
  rw [List.all_cons,flat_of r e.1,flats_of t e.2]
  rfl
theorem anys_of {K:PySem.W.Frag} {O:Addr→Prop} {H:Hp} {v:V} {x:PyData} (h:Rep K O H v x) (ex:flatD x=true):∀ {vs:List V} {xs:List PyData},Reps K O H vs xs→xs.all flatD=true→(vs.any fun y=>eqV y v)=xs.any fun y=>eqF y x
 | _,_,.nil,_=>rfl
 | _,_,.cons r t,e=>by
  rw [List.all_cons,Bool.and_eq_true] at e
  rw [List.any_cons,List.any_cons,eqF_of r h e.1 ex,anys_of h ex t e.2]
theorem Vw.flat {K:PySem.W.Frag} {O:Addr→Prop} {H:Hp} {v:V} {x:PyData} (h:Vw K O H v x) (e:flatD x=true):Rep K O H v x:=by
 cases h with
 | rep h=>exact h
 | raw _ _=>cases e
 | rawD _ _=>cases e
noncomputable def inD (x y:PyData):Option PyData:=(inS x y).map .bool
noncomputable def notInD (x y:PyData):Option PyData:=(inS x y).map fun b=>.bool (!b)
theorem snd_in {K:PySem.W.Frag} (neg:Bool):Snd2 K (fun x y H Q=>(∃ i j,x=.str i∧y=.str j∧Q (.bl (if neg then !(hasS j i) else hasS j i)) H)∨rIn K neg x y H Q) (fun x y=>(inS x y).map fun b=>.bool (if neg then !b else b)):=fun O ts H T v1 v2 x y d Q hc h1 h2 e q=>by
 obtain ⟨b,e1,rfl⟩:=Option.map_eq_some_iff.mp e
 unfold inS at e1
 split at e1
 ·cases e1
  exact .inl ⟨_,_,h1.str,h2.str,q _ H (.refl _ _) hc (.bl _)⟩
 ·split at e1
  ·rename_i hf
   cases e1
   rw [Bool.and_eq_true] at hf
   obtain ⟨a,vs,rfl,t,r⟩:=h2.lst
   have r1:=h1.flat hf.1
   refine .inr ⟨a,vs,rfl,.inl t,flat_of r1 hf.1,flats_of r hf.2,?_⟩
   have z:inV v1 vs=_:=anys_of r1 hf.1 r hf.2
   rw [z]
   exact q _ H (.refl _ _) hc (.bl _)
  ·cases e1
 ·split at e1
  ·rename_i hf
   cases e1
   rw [Bool.and_eq_true] at hf
   obtain ⟨a,vs,rfl,t,r⟩:=h2.tup
   have r1:=h1.flat hf.1
   refine .inr ⟨a,vs,rfl,.inr t.sq,flat_of r1 hf.1,flats_of r hf.2,?_⟩
   have z:inV v1 vs=_:=anys_of r1 hf.1 r hf.2
   rw [z]
   exact q _ H (.refl _ _) hc (.bl _)
  ·cases e1
 ·cases e1
theorem o_in:OpD X (compareOp .In) inD:=⟨_,op_in_str.or op_in_seq,snd_in false⟩
theorem o_notin:OpD X (compareOp .NotIn) notInD:=⟨_,op_notin_str.or op_notIn_seq,snd_in true⟩
noncomputable def negD:PyData→Option PyData
 | .int i=>some (.int (-i))
 | _=>none
theorem de_neg {a:Expr} {fa:FE} {pos:Pos} (ha:DE X a fa):DE X (.UnaryOp .USub a pos) (fUn negD fa):=de_un un_neg (fun O ts H T v x d Q hc h e q=>by
 unfold negD at e
 split at e
 ·cases e
  exact ⟨_,h.int,q _ H (.refl _ _) hc (.int _)⟩
 ·cases e) ha
noncomputable def ixD:PyData→PyData→Option PyData
 | .list xs,.int i=>atI xs i
 | .tuple xs,.int i=>atI xs i
 | .str z,.int i=>if z.length≤sizeLine then (atI z.cps.toList i).map fun c=>.str ⟨#[c]⟩ else none
 | _,_=>none
theorem reps_at {K:PySem.W.Frag} {O:Addr→Prop} {H:Hp} {vs:List V} {xs:List PyData} {i:Int} {d:PyData} (r:Reps K O H vs xs) (e:atI xs i=some d):∃ v,atI vs i=some v∧Rep K O H v d:=by
 unfold atI at e ⊢
 rw [r.length]
 cases h:ixN xs.length i with
 | none=>rw [h] at e; cases e
 | some j=>
  rw [h] at e
  exact r.getD e
theorem x_seq:IxD X ixD:=⟨_,ix_seq,fun O ts H T v1 v2 x y d Q hc h1 h2 e q=>by
 unfold ixD at e
 split at e
 ·obtain ⟨a,vs,rfl,t,r⟩:=h1.lst
  obtain ⟨v,k1,k2⟩:=reps_at r e
  exact .inl ⟨a,vs,_,v,rfl,h2.int,t,k1,q _ H (.refl _ _) hc k2⟩
 ·obtain ⟨a,vs,rfl,t,r⟩:=h1.tup
  obtain ⟨v,k1,k2⟩:=reps_at r e
  exact .inr (.inl ⟨a,vs,_,v,rfl,h2.int,t.sq,k1,q _ H (.refl _ _) hc k2⟩)
 ·split at e
  ·rename_i hz
   obtain ⟨c,k1,rfl⟩:=Option.map_eq_some_iff.mp e
   exact .inr (.inr ⟨_,_,c,h1.str,h2.int,hz,k1,q _ H (.refl _ _) hc (.str _)⟩)
  ·cases e
 ·cases e⟩
end
end D
namespace D
open PySem PySem.Spec PyProof.Rows L2
theorem getItem_tuple_whole {prog:Program} {w:World} {A:Around} {E:Value→Shared→Prop} {s:Shared} {t sl:Addr} {items:Array Value} {vl vu:Value} {lo hi:Option Int} {Q:Value→Shared→Prop} (ht:IsTup s.heap t items) (hs:s.heap.IsSliceOf sl vl vu .none) (pl:IsPart vl lo) (pu:IsPart vu hi)
  (hw:HT.sIx items.size 0 lo=0∧HT.sIx items.size items.size hi=items.size) (h:Q (.ref t) s):wpAny (model prog w) A (getItem (.ref t) (.ref sl)) Q E s:=by
 obtain ⟨os,hos,hcs,hds⟩:=id hs
 have hTs:s.TypeIs (.ref sl) "slice":=⟨os,hos,hcs⟩
 unfold getItem
 try with_reducible refine wpAny_holding ?_
 first | refine wpAny_bind (wpAny_pure ?_) | skip
 refine wpAny_bind (wpAny_sequenceKey ht.typeIs (by decide) ?_)
 refine wpAny_bind (wpAny_callSpecial?_slot (name:=Str.ofString "__getitem__") ht.typeIs PyProof.Rows.slot_tuple_getitem
  (wpAny_call_entry PyProof.Rows.slot_tuple_getitem ht.typeIs entry_tuple_getitem ?_ (args_tuple_getitem _ _)))
 show wpAny _ _ (Builtin.Tuple.tupleItemsOf (.ref t) >>= _) _ _ s
 refine wpAny_bind (tupleItemsOf_ ht ?_)
 refine wpAny_bind (wpAny_typeOf hTs ?_)
 rw [if_pos (by decide)]
 refine wpAny_bind (HT.sliceApplied_gen hs pl pu ?_)
 have hyes:((((HT.sIx items.size 0 lo:Nat):Int) == 0 && (1:Int) == 1 && (HT.sIx items.size items.size hi - HT.sIx items.size 0 lo) == items.size)=true):=by
  rw [hw.1,hw.2]
  simp
 show wpAny _ _ (if (((HT.sIx items.size 0 lo:Nat):Int) == 0 && (1:Int) == 1 && (HT.sIx items.size items.size hi - HT.sIx items.size 0 lo) == items.size)=true then _ else _) _ _ s
 rw [if_pos hyes]
 refine wpAny_bind (m:=Builtin.Tuple.tupleIsExact (.ref t)) (wpAny_bind (wpAny_typeOf ht.typeIs (wpAny_pure ?_)))
 first
 | exact wpAny_bind (wpAny_rule (wpAny_bind (wpAny_pure ⟨_,rfl,wpAny_pure h⟩)))
 | (simp only [beq_self_eq_true,if_true]; exact wpAny_bind (wpAny_rule (wpAny_pure ⟨_,rfl,wpAny_pure h⟩)))
noncomputable def cutL {α:Type} (xs:List α) (lo hi:Option Int):List α:=(xs.drop (HT.sIx xs.length 0 lo)).take (HT.sIx xs.length xs.length hi - HT.sIx xs.length 0 lo)
theorem Reps.cut {K:PySem.W.Frag} {O:Addr→Prop} {H:Hp} {vs:List V} {ds:List PyData} (r:Reps K O H vs ds) (lo hi:Option Int):Reps K O H (cutV vs lo hi) (cutL ds lo hi):=by
 unfold cutV cutL
 rw [r.length]
 exact (r.drop _).take _
theorem cut_whole {α:Type} {xs:List α} {lo hi:Option Int} (h:HT.sIx xs.length 0 lo=0∧HT.sIx xs.length xs.length hi=xs.length):cutL xs lo hi=xs:=by
 unfold cutL
 rw [h.1,h.2]
 simp
section
variable {X:Cx}
theorem sl_tupA:SlR X (fun x lo hi H Q=>∃ a xs,x=.ref a∧SqT X.K H a xs∧((HT.sIx xs.length 0 lo=0∧HT.sIx xs.length xs.length hi=xs.length)→Q (.ref a) H) ∧
  (¬ (HT.sIx xs.length 0 lo=0∧HT.sIx xs.length xs.length hi=xs.length)→∀ p,H p=none→Q (.ref p) (upd H p (.tup (cutV xs lo hi))))):=by
 intro pins s σ H x v vl vu lo hi sl Q I rx hs pl pu h
 obtain ⟨a,xs,rfl,hx,q1,q2⟩:=h
 by_cases hw:HT.sIx xs.length 0 lo=0∧HT.sIx xs.length xs.length hi=xs.length
 ·cases rx
  obtain ⟨its,r,ht,hz⟩:=I.tuple hx
  have hlen:its.toArray.size=xs.length:=by rw [List.size_toArray]; exact r.length.symm
  refine ⟨"tuple",_,PyProof.Rows.slot_tuple_getitem.lookup,ht.typeIs,?_⟩
  exact getItem_tuple_whole ht hs pl pu (by rw [hlen]; exact hw) ⟨.ref a,H,I,rfl,q1 hw⟩
 ·exact sl_tup pins s σ H _ v vl vu lo hi sl Q I rx hs pl pu ⟨a,xs,rfl,hx,hw,q2 hw⟩
noncomputable def sliceD (x:PyData) (lo hi:Option Int):Option PyData:=match x with
 | .list xs=>some (.list (cutL xs lo hi))
 | .tuple xs=>some (.tuple (cutL xs lo hi))
 | .str z=>if z.length≤sizeLine then some (.str (Txt.slice z lo hi)) else none
 | _=>none
noncomputable abbrev FO:=Rho→Tp→Option (Option Int×Tp)
noncomputable def fNoP:FO:=fun _ T=>some (none,T)
noncomputable def fP (f:FE):FO:=fun ρ T=>bnd (f ρ T) fun w T1=>match w with
 | .d (.int i)=>some (some i,T1)
 | _=>none
inductive LiftOP (K:PySem.W.Frag) (f:FO) (σ:L2.St) (H:Hp) (Q:Option Int→Hp→Prop):Prop where
 | mk (O:Addr→Prop) (ts:List Addr) (ρ:Rho) (T:Tp) (o:Option Int) (T':Tp) (hc:HC K O ts H T) (re:RelE K O ts H σ ρ) (e:f ρ T=some (o,T')) (q:∀ H',SameX ts H H'→HC K O ts H' T'→Q o H'):LiftOP K f σ H Q
noncomputable def liftO (K:PySem.W.Frag) (f:FO):TO:=fun σ H Q=>LiftOP K f σ H Q
structure DO (X:Cx) (e:Option Expr) (f:FO):Prop where
 pe:PO X e (liftO X.K f)
theorem po_imp {e:Option Expr} {t t':TO} (h:PO X e t) (i:∀ σ H Q,t' σ H Q→t σ H Q):PO X e t':=fun pins s σ H Q I q=>h pins s σ H Q I (i σ H Q q)
theorem dp_none:DO X none fNoP:=by
 refine ⟨?_⟩
 refine po_imp po_none fun σ H Q=>?_
 rintro ⟨O,ts,ρ,T,o,T',hc,re,e,q⟩
 cases e
 exact q H (.refl _ _) hc
theorem dp_some {e:Expr} {f:FE} (h:DE X e f):DO X (some e) (fP f):=by
 refine ⟨?_⟩
 refine po_imp (po_some h.pe) fun σ H Q=>?_
 rintro ⟨O,ts,ρ,T,o,T',hc,re,e,q⟩
 obtain ⟨w1,T1,e1,e⟩:=bnd_of e
 refine ⟨O,ts,ρ,T,w1,T1,hc,re,e1,fun v1 H1 s1 hc1 r1=>?_⟩
 split at e
 ·cases e
  cases (show Rep X.K O H1 v1 _ from r1)
  exact ⟨_,rfl,q H1 s1 hc1⟩
 ·cases e
noncomputable def fSl (f:FE) (l u:FO):FE:=fun ρ T=>bnd (f ρ T) fun w T1=>bnd (l ρ T1) fun lo T2=>bnd (u ρ T2) fun hi T3=>op1 (fun x=>sliceD x lo hi) T3 w
theorem de_sl {e:Expr} {lo hi:Option Expr} {f:FE} {l u:FO} {pos p2:Pos} (he:DE X e f) (hl:DO X lo l) (hu:DO X hi u):DE X (.Subscript e (.Slice lo hi none p2) pos) (fSl f l u):=by
 refine ⟨?_⟩
 refine pe_imp (pe_slice (sl_list.or (sl_tupA.or sl_str)) he.pe hl.pe hu.pe) fun σ H Q=>?_
 rintro ⟨O,ts,ρ,T,w,T',hc,re,e,q⟩
 obtain ⟨w1,T1,e1,e⟩:=bnd_of e
 obtain ⟨o1,T2,e2,e⟩:=bnd_of e
 obtain ⟨o2,T3,e3,e⟩:=bnd_of e
 obtain ⟨x,d,h1,h3,rfl,rfl⟩:=op1_of e
 refine ⟨O,ts,ρ,T,w1,T1,hc,re,e1,fun v1 H1 s1 hc1 r1=>?_⟩
 refine ⟨O,ts,ρ,T1,o1,T2,hc1,re.mono hc s1,e2,fun H2 s2 hc2=>?_⟩
 refine ⟨O,ts,ρ,T2,o2,T',hc2,re.mono hc (s1.trans s2),e3,fun H3 s3 hc3=>?_⟩
 have vw:=hc3.view (r1.mono hc1 (s2.trans s3)) h1
 have q':∀ v H',SameX ts H3 H'→HC X.K O ts H' T'→Rep X.K O H' v d→Q v H':=fun v H' s c r=>q v H' (s1.trans (s2.trans (s3.trans s))) c r
 clear q
 cases x with
 | list xs=>
  cases h3
  obtain ⟨a,vs,rfl,t,r⟩:=vw.lst
  exact .inl ⟨a,vs,rfl,t,fun p hp=>q' _ _ (.new hp _) (hc3.new hp _) (hc3.newL hp (r.cut _ _))⟩
 | tuple xs=>
  cases h3
  obtain ⟨a,vs,rfl,t,r⟩:=vw.tup
  refine .inr (.inl ⟨a,vs,rfl,t.sq,fun hw=>?_,fun hw p hp=>?_⟩)
  ·rw [r.length] at hw
   rw [cut_whole hw] at q'
   exact q' _ H3 (.refl _ _) hc3 vw.tupR
  ·exact q' _ _ (.new hp _) (hc3.new hp _) (hc3.newT hp (r.cut _ _))
 | str z=>
  have h3':(if z.length≤sizeLine then some (PyData.str (Txt.slice z o1 o2)) else none)=some d:=h3
  split at h3'
  ·rename_i hz
   cases h3'
   exact .inr (.inr ⟨z,vw.str,hz,q' _ H3 (.refl _ _) hc3 (.str _)⟩)
  ·cases h3'
 | _=>cases h3
end
inductive Kd where
 | non | bl | int | str | tup | lst | dct
 deriving DecidableEq
noncomputable def Kd.name:Kd→String
 | .non=>"NoneType" | .bl=>"bool" | .int=>"int" | .str=>"str" | .tup=>"tuple" | .lst=>"list" | .dct=>"dict"
noncomputable def kd:PyData→Kd
 | .none=>.non | .bool _=>.bl | .int _=>.int | .str _=>.str | .list _=>.lst | .tuple _=>.tup | .dict _=>.dct
noncomputable def isiK (a b:Kd):Bool:=decide (a=b) || (decide (a=.bl) && decide (b=.int))
noncomputable def isiT (t c:String):Option Bool:=if (Value.type t == Value.type c)=true then some true else if PySem.W.kitMeta c=true then (fastBuiltinMro t).map (·.contains (.type c)) else none
theorem isi_all (a b:Kd):b≠.non→isiT a.name b.name=some (isiK a b):=by
 cases a <;> cases b <;> first | (intro h; exact absurd rfl h) | (intro _; decide +kernel)
section
variable {X:Cx}
theorem call_isi:CallR X (.builtin "isinstance") (fun xs H Q=>∃ (x:V) (c:Kd) (O:Addr→Prop) (d:PyData),xs=[x,.ty c.name]∧Vw X.K O H x d∧c≠.non∧Q (.bl (isiK (kd d) c)) H):=by
 intro pins s σ H xs us Q I r h
 obtain ⟨x,c,O,d,rfl,vw,hc,q⟩:=h
 obtain ⟨u,w',rfl,ru,rw'⟩:=vals2 r
 cases (show w'=Value.type c.name from rw')
 have fin:∀ tk,EP X pins σ Q (.bool (isiK (kd d) c)) { s with toks:=tk }:=fun tk=>⟨.bl _,H,I.tok _,rfl,q⟩
 cases d with
 | none=>cases vw.non; exact isinst_ok I ru .non (show PySem.W.kitOne X.K (.type (Kd.name .non)) (.type c.name)=some _ from isi_all .non c hc) fin
 | bool b=>cases vw.bl; exact isinst_ok I ru (.bl b) (show PySem.W.kitOne X.K (.type (Kd.name .bl)) (.type c.name)=some _ from isi_all .bl c hc) fin
 | int i=>cases vw.int; exact isinst_ok I ru (.int i) (show PySem.W.kitOne X.K (.type (Kd.name .int)) (.type c.name)=some _ from isi_all .int c hc) fin
 | str z=>cases vw.str; exact isinst_ok I ru (.str z) (show PySem.W.kitOne X.K (.type (Kd.name .str)) (.type c.name)=some _ from isi_all .str c hc) fin
 | list ds=>
  obtain ⟨a,vs,rfl,t,r⟩:=vw.lst
  cases (show u=Value.ref a from ru)
  obtain ⟨its,_,pl,_⟩:=I.list t
  obtain ⟨o,n,e,c1,_⟩:=pl
  exact PySem.W.kia_one PySem.W.kitx_list I.kIn ⟨o,e,c1⟩ (show PySem.W.kitOne X.K (.type (Kd.name .lst)) (.type c.name)=some _ from isi_all .lst c hc) (fun z=>nomatch z) fin
 | tuple ds=>
  obtain ⟨a,vs,rfl,t,r⟩:=vw.tup
  cases (show u=Value.ref a from ru)
  obtain ⟨its,_,pl,_⟩:=I.tuple t.sq
  obtain ⟨o,e,c1,_⟩:=pl
  exact PySem.W.kia_one PySem.W.kitx_tuple I.kIn ⟨o,e,c1⟩ (show PySem.W.kitOne X.K (.type (Kd.name .tup)) (.type c.name)=some _ from isi_all .tup c hc) (fun z=>nomatch z) fin
 | dict ds=>
  obtain ⟨a,vs,rfl,t,r⟩:=vw.dct
  cases (show u=Value.ref a from ru)
  obtain ⟨_,_,_,_,o,_,_,e,c1,_⟩:=dk_rd I.hok t
  exact PySem.W.kia_one PySem.W.kitx_dict I.kIn ⟨o,e,c1.1⟩ (show PySem.W.kitOne X.K (.type (Kd.name .dct)) (.type c.name)=some _ from isi_all .dct c hc) (fun z=>nomatch z) fin
noncomputable def isiD (c:Kd) (x:PyData):Option PyData:=some (.bool (isiK (kd x) c))
theorem de_isi {e:Expr} {f:FE} {p p' pos:Pos} {T:Str} (c:Kd) (hi:X.mg "isinstance" = none) (he:DE X e f) (hm:X.mg T=none) (hb:bootBuiltins T=some (.type c.name)) (hcn:c≠.non:=by decide) (hg:Gl X "isinstance":=by rfl) (hT:Gl X T:=by rfl) (hn:T≠"__name__":=by decide) (hdb:(T == ("__debug__" : Str))=false:=by decide)
  (hs:starEach [e,.Name T p] X.env=(false,eval e X.env)::starEach [.Name T p] X.env:=by exact star_cons rfl) (hs2:starEach [.Name T p] X.env=(false,eval (.Name T p) X.env)::starEach [] X.env:=by exact star_cons rfl)
  (hpl:(backTo pos (starEach [.Name T p] X.env)).any (·.1)=false:=by exact star_any rfl):DE X (.Call (.Name "isinstance" p') [e,.Name T p] [] pos) (fUn (isiD c) f):=by
 refine ⟨?_⟩
 refine pe_imp (pe_callB call_isi hg hi PyProof.Rows.boot_isinstance (pa_cons he.pe (pa_cons (pe_bltn (v:=.ty c.name) hT hm hb rfl hn hdb) pa_nil hs2) hs) (by decide) (by decide) hs hpl) fun σ H Q=>?_
 rintro ⟨O,ts,ρ,T,w,T',hc,re,e,q⟩
 obtain ⟨w1,T1,e1,e⟩:=bnd_of e
 obtain ⟨x,d,h1,h3,rfl,rfl⟩:=op1_of e
 cases h3
 refine ⟨O,ts,ρ,T,w1,T',hc,re,e1,fun v1 H1 s1 hc1 r1=>?_⟩
 exact ⟨v1,c,O,x,rfl,hc1.view r1 h1,hcn,q _ H1 s1 hc1 (.bl _)⟩
noncomputable def lenD:List PyData→Option PyData
 | [.list xs]=>some (.int xs.length)
 | [.tuple xs]=>some (.int xs.length)
 | [.str z]=>if z.length≤sizeLine then some (.int z.length) else none
 | [.dict kvs]=>some (.int kvs.length)
 | _=>none
theorem vws1 {K:PySem.W.Frag} {O:Addr→Prop} {H:Hp} {vs:List V} {x:PyData} (h:Vws K O H vs [x]):∃ v,vs=[v]∧Vw K O H v x:=by
 cases h with | cons h t=>cases t; exact ⟨_,rfl,h⟩
theorem vws2 {K:PySem.W.Frag} {O:Addr→Prop} {H:Hp} {vs:List V} {x y:PyData} (h:Vws K O H vs [x,y]):∃ v u,vs=[v,u]∧Vw K O H v x∧Vw K O H u y:=by
 cases h with | cons h t=>cases t with | cons h' t=>cases t; exact ⟨_,_,rfl,h,h'⟩
theorem repk_len {K:PySem.W.Frag} {O:Addr→Prop} {H:Hp}:∀ {kvs:List (Key×V)} {ds:List (PyData×PyData)},RepK K O H kvs ds→kvs.length=ds.length
 | _,_,.nil=>rfl
 | _,_,.cons _ t=>congrArg (· + 1) (repk_len t)
theorem call_lenD:CallR X (.builtin "len") (fun xs H Q=>∃ a kvs,xs=[V.ref a]∧Rd H a (.dK kvs)∧Q (.int kvs.length) H):=by
 intro pins s σ H xs us Q I r h
 obtain ⟨a,kvs,rfl,ha,q⟩:=h
 obtain ⟨u,rfl,ru⟩:=vals1 r
 cases ru
 exact d_len I ha fun t s' I'=>⟨.int kvs.length,H,I',⟨t,rfl⟩,q⟩
theorem c_len:CallD X (.builtin "len") lenD:=⟨_,call_len_seq.or (call_len_str.or call_lenD),fun O ts H T vs xs d Q hc h e q=>by
 unfold lenD at e
 split at e
 ·cases e
  obtain ⟨v,rfl,g⟩:=vws1 h
  obtain ⟨a,vs,rfl,t,r⟩:=g.lst
  exact .inl ⟨a,vs,rfl,.inl t,by rw [r.length]; exact q _ H (.refl _ _) hc (.int _)⟩
 ·cases e
  obtain ⟨v,rfl,g⟩:=vws1 h
  obtain ⟨a,vs,rfl,t,r⟩:=g.tup
  exact .inl ⟨a,vs,rfl,.inr t.sq,by rw [r.length]; exact q _ H (.refl _ _) hc (.int _)⟩
 ·split at e
  ·rename_i hz
   cases e
   obtain ⟨v,rfl,g⟩:=vws1 h
   cases g.str
   exact .inr (.inl ⟨_,rfl,hz,q _ H (.refl _ _) hc (.int _)⟩)
  ·cases e
 ·cases e
  obtain ⟨v,rfl,g⟩:=vws1 h
  obtain ⟨a,kvs,rfl,t,r⟩:=g.dct
  exact .inr (.inr ⟨a,kvs,rfl,t,by rw [repk_len r]; exact q _ H (.refl _ _) hc (.int _)⟩)
 ·cases e⟩
noncomputable def absD:List PyData→Option PyData
 | [.int i]=>some (.int (if i < 0 then -i else i))
 | _=>none
noncomputable def maxD2:List PyData→Option PyData
 | [.int i,.int j]=>some (.int (if j > i then j else i))
 | _=>none
noncomputable def minD2:List PyData→Option PyData
 | [.int i,.int j]=>some (.int (if j < i then j else i))
 | _=>none
theorem c_min (hc:X.calm=true:=by rfl):CallD X (.builtin "min") minD2:=⟨_,call_min2 hc,fun O ts H T vs xs d Q hc h e q=>by
 unfold minD2 at e
 split at e
 ·cases e
  obtain ⟨v,u,rfl,g,g'⟩:=vws2 h
  cases g.int
  cases g'.int
  exact ⟨_,_,rfl,q _ H (.refl _ _) hc (.int _)⟩
 ·cases e⟩
noncomputable def boolsD:List PyData→Option (List Bool)
 | []=>some []
 | .bool b::r=>(boolsD r).map (b::·)
 | _=>none
noncomputable def intsD:List PyData→Option (List Int)
 | []=>some []
 | .int b::r=>(intsD r).map (b::·)
 | _=>none
noncomputable def strsD:List PyData→Option (List Str)
 | []=>some []
 | .str b::r=>(strsD r).map (b::·)
 | _=>none
theorem bools_of {K:PySem.W.Frag} {O:Addr→Prop} {H:Hp}:∀ {vs:List V} {xs:List PyData} {bs:List Bool},Reps K O H vs xs→boolsD xs=some bs→vs=bs.map V.bl
 | _,_,_,.nil,e=>by cases e; rfl
 | _,x::r,bs,.cons h t,e=>by
  cases x with
  | bool b=>
   obtain ⟨cs,e1,rfl⟩:=Option.map_eq_some_iff.mp (show (boolsD r).map (b::·)=some bs from e)
   cases h
   rw [bools_of t e1]
   rfl
  | _=>cases e
theorem strs_of {K:PySem.W.Frag} {O:Addr→Prop} {H:Hp}:∀ {vs:List V} {xs:List PyData} {bs:List Str},Reps K O H vs xs→strsD xs=some bs→vs=bs.map V.str
 | _,_,_,.nil,e=>by cases e; rfl
 | _,x::r,bs,.cons h t,e=>by
  cases x with
  | str b=>
   obtain ⟨cs,e1,rfl⟩:=Option.map_eq_some_iff.mp (show (strsD r).map (b::·)=some bs from e)
   cases h
   rw [strs_of t e1]
   rfl
  | _=>cases e
noncomputable def allD:List PyData→Option PyData
 | [.list xs]=>(boolsD xs).map fun bs=>.bool (bs.all id)
 | _=>none
theorem c_all (hc:X.calm=true:=by rfl):CallD X (.builtin "all") allD:=⟨_,call_all hc,fun O ts H T vs xs d Q hc h e q=>by
 unfold allD at e
 split at e
 ·obtain ⟨bs,e1,rfl⟩:=Option.map_eq_some_iff.mp e
  obtain ⟨v,rfl,g⟩:=vws1 h
  obtain ⟨a,vs,rfl,t,r⟩:=g.lst
  rw [bools_of r e1] at t
  exact ⟨a,bs,rfl,t,q _ H (.refl _ _) hc (.bl _)⟩
 ·cases e⟩
noncomputable def sumD:List PyData→Option PyData
 | [.list xs]=>(intsD xs).map fun bs=>.int bs.sum
 | _=>none
noncomputable def maxdD:PyData→PyData→Option PyData
 | .list xs,.int d=>(intsD xs).map fun bs=>.int (K1.maxD d bs)
 | _,_=>none
noncomputable def strD:List PyData→Option PyData
 | [.int i]=>if i.natAbs.log2 < 1920 then some (.str (toString i)) else none
 | _=>none
theorem c_str:CallD X (.type "str") strD:=⟨_,call_str_int,fun O ts H T vs xs d Q hc h e q=>by
 unfold strD at e
 split at e
 ·split at e
  ·rename_i hz
   cases e
   obtain ⟨v,rfl,g⟩:=vws1 h
   cases g.int
   exact ⟨_,rfl,hz,q _ H (.refl _ _) hc (.str _)⟩
  ·cases e
 ·cases e⟩
noncomputable def tupleD:List PyData→Option PyData
 | [.list xs]=>some (.tuple xs)
 | [.tuple xs]=>some (.tuple xs)
 | _=>none
theorem c_tuple:CallD X (.type "tuple") tupleD:=⟨_,call_tuple_of,fun O ts H T vs xs d Q hc h e q=>by
 unfold tupleD at e
 split at e
 ·cases e
  obtain ⟨v,rfl,g⟩:=vws1 h
  obtain ⟨a,vs,rfl,t,r⟩:=g.lst
  exact ⟨a,vs,rfl,.inl ⟨t,fun p hp=>q _ _ (.new hp _) (hc.new hp _) (hc.newT hp r)⟩⟩
 ·cases e
  obtain ⟨v,rfl,g⟩:=vws1 h
  obtain ⟨a,vs,e1,t,r⟩:=g.tup
  subst e1
  exact ⟨a,vs,rfl,.inr ⟨t.sq,q _ H (.refl _ _) hc (.tup t r)⟩⟩
 ·cases e⟩
noncomputable def listD:List PyData→Option PyData
 | [.list xs]=>some (.list xs)
 | [.tuple xs]=>some (.list xs)
 | _=>none
theorem mt_joinG:MtR X "str.join" (fun x vs H Q=>∃ (z:Str) (l:Addr) (ys:List Str),x=.str z∧vs=[.ref l]∧SqL X.K H l (ys.map V.str)∧(ys.map (·.length)).sum + ys.length * z.length≤16777216∧Q (.str (Str.join z ys)) H):=by
 intro pins s σ H x vs v us Q I rx rv h
 obtain ⟨z,l,ys,rfl,rfl,hq,hz,q⟩:=h
 obtain ⟨t,rfl⟩:=rx
 obtain ⟨u,rfl,ru⟩:=vals1 rv
 cases ru
 obtain ⟨its,rw',pl,_⟩:=I.list hq
 refine join_list (ys:=ys) pl.isList (by simpa using strsAre_of rw') hz fun t' k=>⟨.str _,H,I.tok _,⟨t',?_⟩,q⟩
 show Value.str (Builtin.Str.glued z ys) t'=_
 rw [StrLaws.glued_eq_join]
noncomputable def joinD:PyData→PyData→Option PyData
 | .str z,.list xs=>match strsD xs with
  | some ys=>if (ys.map (·.length)).sum + ys.length * z.length≤16777216 then some (.str (Str.join z ys)) else none
  | none=>none
 | _,_=>none
theorem de_join {o e:Expr} {fo fe:FE} {apos cpos:Pos} (ho:DE X o fo) (he:DE X e fe)
  (hbase:attributeBase o "join" X.env (eval o X.env)=eval o X.env:=by rfl)
  (hfew:((backTo cpos (starEach [e] X.env)).all (fun x=>!x.1) && (backToKw cpos (keywordEach [] X.env)).all (fun x=>x.1.isSome)
   && decide (([e]:List Expr).length + ([]:List Keyword).length + (if ([]:List Keyword).isEmpty then 0 else 1) < 30))=true:=by exact few1 rfl)
  (hline:(apos.endLine == cpos.line)=true:=by rfl) (hse:starEach [e] X.env=(false,eval e X.env)::starEach [] X.env:=by exact star_cons rfl) (hplain:(backTo cpos (starEach [] X.env)).any (·.1)=false:=by exact star_any rfl) :
  DE X (.Call (.Attribute o "join" apos) [e] [] cpos) (fBin joinD fo fe):=by
 refine ⟨?_⟩
 refine pe_imp (pe_bm PySem.F.plainAttrs_str PySem.F.slot_str_join PySem.F.type_str_join mt_joinG ho.pe (pa_cons he.pe pa_nil hse) hbase hfew hline hse hplain) fun σ H Q=>?_
 rintro ⟨O,ts,ρ,T,w,T',hc,re,e,q⟩
 obtain ⟨w1,T1,e1,e⟩:=bnd_of e
 obtain ⟨w2,T2,e2,e⟩:=bnd_of e
 obtain ⟨x,y,d,h1,h2,h3,rfl,rfl⟩:=op2_of e
 unfold joinD at h3
 split at h3
 ·rename_i z xs
  split at h3
  ·rename_i ys hy
   split at h3
   ·rename_i hz
    cases h3
    refine ⟨O,ts,ρ,T,w1,T1,hc,re,e1,fun v1 H1 s1 hc1 r1=>?_⟩
    have ev:v1=.str z:=by
     cases w1 with
     | d x=>cases h1; cases (show Rep X.K O H1 v1 _ from r1); rfl
     | tp k=>exact (by
       have h1':(T'[k]?).bind rowV=some (PyData.str z):=h1
       cases hk:T'[k]? with
       | none=>rw [hk] at h1'; cases h1'
       | some xs=>
        rw [hk] at h1'
        have e2:(if isO xs=true then none else some (PyData.list xs))=some (PyData.str z):=h1'
        split at e2 <;> cases e2)
     | loc zs=>cases zs <;> cases h1
    subst ev
    refine ⟨rfl,O,ts,ρ,T1,w2,T',hc1,re.mono hc s1,e2,fun v2 H2 s2 hc2 r2=>?_⟩
    obtain ⟨a,vs,rfl,t,r⟩:=(hc2.view r2 h2).lst
    rw [strs_of r hy] at t
    exact ⟨z,a,ys,rfl,rfl,t,hz,q _ H2 (s1.trans s2) hc2 (.str _)⟩
   ·cases h3
  ·cases h3
 ·cases h3
end
end D
namespace D
open PySem PySem.Spec PyProof.Rows L2
mutual
noncomputable def noLst:PyData→Bool
 | .list _=>false
 | .tuple ds=>noLsts ds
 | .dict kvs=>noLstK kvs
 | .none | .bool _ | .int _ | .str _=>true
noncomputable def noLsts:List PyData→Bool
 | []=>true
 | d::r=>noLst d && noLsts r
noncomputable def noLstK:List (PyData×PyData)→Bool
 | []=>true
 | (_,v)::r=>noLst v && noLstK r
end
section
variable {X:Cx} {pins:List (Addr×Obj)} {σ:L2.St} {H:Hp} {s:Shared} {O:Addr→Prop}
theorem key_reads {h:Heap} {k:Key} {v:Value} (e:keyIs k v=true):Reads h v (keyD k) []:=by
 rcases keyIs_shape e with ⟨i,t,rfl,rfl⟩ | ⟨x,t,rfl,rfl⟩
 ·exact .int i t
 ·exact .str x t
mutual
theorem Rep.reads (I:Inv X pins σ H s):∀ {v:V} {d:PyData} {u:Value},Rep X.K O H v d→RelV v u→∃ as,Reads s.heap u d as∧(noLst d=true→sysModules∉as)
 | _,_,_,.non,r=>by cases r; exact ⟨_,.none,fun _=>by simp⟩
 | _,_,_,.bl b,r=>by cases r; exact ⟨_,.bool b,fun _=>by simp⟩
 | _,_,_,.int i,r=>by obtain ⟨t,rfl⟩:=r; exact ⟨_,.int i t,fun _=>by simp⟩
 | _,_,_,.str x,r=>by obtain ⟨t,rfl⟩:=r; exact ⟨_,.str x t,fun _=>by simp⟩
 | _,_,_,.tup (a:=a) (vs:=vs) h rs,r=>by
  cases r
  obtain ⟨its,rv,⟨o,e,c,n,dd⟩,_⟩:=I.tuple h.sq
  obtain ⟨as,q,f⟩:=Reps.reads I rs rv
  exact ⟨as,.tuple e c dd (by simpa using q),f⟩
 | _,_,_,.lst (a:=a) (vs:=vs) h rs,r=>by
  cases r
  obtain ⟨its,rv,pl,_⟩:=I.list h.sq
  obtain ⟨o,n,e,c,_,dd⟩:=pl
  obtain ⟨as,q,f⟩:=Reps.reads I rs rv
  exact ⟨_,.list e c dd (by simpa using q),fun z=>by cases z⟩
 | _,_,_,.dct (a:=a) (kvs:=kvs) (ds:=ds) _ h rk,r=>by
  cases r
  obtain ⟨z,y,vs,kv,o,es,ep,e,ed,dd,_,ek,_⟩:=(show ObjOk X.prog X.w H s.heap a (.dK kvs) from (I.hok a _ h).2)
  obtain ⟨bs,q1,q2,f⟩:=RepK.reads I rk kv ek
  refine ⟨_,.dict (kvs:=ds) (as:=[]) (bs:=bs) e ed.1 dd q1 q2,fun zz hm=>?_⟩
  rcases List.mem_cons.mp (by simpa using hm:sysModules∈a::bs) with q | q
  ·rw [q] at y
   simp at y
  ·exact f zz q
theorem Reps.reads (I:Inv X pins σ H s):∀ {vs:List V} {ds:List PyData} {us:List Value},Reps X.K O H vs ds→Vals vs us→∃ as,ReadsAll s.heap us ds as∧(noLsts ds=true→sysModules∉as)
 | _,_,_,.nil,r=>by cases r; exact ⟨_,.nil,fun _=>by simp⟩
 | _,_,_,.cons (d:=d) (ds:=ds) q t,r=>by
  cases r with
  | cons r1 r2=>
   obtain ⟨as,h1,f1⟩:=Rep.reads I q r1
   obtain ⟨bs,h2,f2⟩:=Reps.reads I t r2
   refine ⟨as++bs,.cons h1 h2,fun z=>?_⟩
   have z':(noLst d && noLsts ds)=true:=z
   rw [Bool.and_eq_true] at z'
   intro hm
   rcases List.mem_append.mp hm with hm | hm
   ·exact f1 z'.1 hm
   ·exact f2 z'.2 hm
theorem RepK.reads (I:Inv X pins σ H s):∀ {kvs:List (Key×V)} {ds:List (PyData×PyData)} {vs:List (Key×Value)} {es:List DictEntry},RepK X.K O H kvs ds→KV kvs vs→Pairs (mixKind X.prog X.w) es vs →
  ∃ bs,ReadsAll s.heap (es.map (·.key)) (ds.map (·.1)) []∧ReadsAll s.heap (es.map (·.val)) (ds.map (·.2)) bs∧(noLstK ds=true→sysModules∉bs)
 | _,_,_,_,.nil,r,ek=>by
  cases r
  cases ek
  exact ⟨[],.nil,.nil,fun _=>by simp⟩
 | _,_,_,_,.cons (k:=k) (d:=d) (ds:=ds) q t,r,ek=>by
  cases r with
  | cons r1 r2=>
   cases ek with
   | cons e1 e1' e2=>
    obtain ⟨as,h1,f1⟩:=Rep.reads I q r1.2
    obtain ⟨bs,h2,h3,f2⟩:=RepK.reads I t r2 e2
    rw [← e1'] at h1
    have k1:=key_reads (h:=s.heap) (show keyIs _ _=true from e1)
    rw [← r1.1] at k1
    refine ⟨as++bs,.cons (as:=[]) (bs:=[]) k1 h2,.cons h1 h3,fun z=>?_⟩
    have z':(noLst d && noLstK ds)=true:=z
    rw [Bool.and_eq_true] at z'
    intro hm
    rcases List.mem_append.mp hm with hm | hm
    ·exact f1 z'.1 hm
    ·exact f2 z'.2 hm
end
end
noncomputable def goodB (d:PyData):Bool:=d.showable && d.leavesShort 200 && decide (d.depth≤60) && decide (d.weight≤60000) && (!d.hasDict || noLst d)
theorem shown_fits {d:PyData} (h1:d.leavesShort 200=true) (h2:d.weight≤60000):d.shown.length≤sizeLine:=by
 have q:=PyData.shown_le 200 (by decide) d h1
 have e:sizeLine=16777216:=by decide
 have:(200 + 2) * d.weight≤202 * 60000:=Nat.mul_le_mul_left _ h2
 omega
section
variable {X:Cx}
theorem call_repr {k:Nat} (hr:Room k X.A):CallR X (.builtin "repr") (fun xs H Q=>∃ O x d,xs=[x]∧Rep X.K O H x d∧goodB d=true∧Q (.str d.shown) H):=by
 intro pins s σ H xs us Q I r h
 obtain ⟨O,x,d,rfl,rp,hg,q⟩:=h
 unfold goodB at hg
 rw [Bool.and_eq_true,Bool.and_eq_true,Bool.and_eq_true,Bool.and_eq_true] at hg
 obtain ⟨⟨⟨⟨g1,g2⟩,g3⟩,g4⟩,g5⟩:=hg
 have g3:=of_decide_eq_true g3
 have g4:=of_decide_eq_true g4
 obtain ⟨u,rfl,ru⟩:=vals1 r
 have hz:=shown_fits g2 g4
 have fin:∀ h' t k',(∀ b o,s.heap.get? b=some o→h'.get? b=some o)→EP X pins σ Q (.str d.shown t) { s with heap:=h',toks:=k' }:=fun h' t k' kk=>⟨.str d.shown,H,I.kept kk,⟨t,rfl⟩,q⟩
 have big:∀ a,u=.ref a→wpAny (model X.prog X.w) X.A (call (.builtin "repr") [u]) (EP X pins σ Q) X.xe s:=fun a e=>by
  obtain ⟨as,rd,f⟩:=rp.reads I ru
  subst e
  refine repr_of_reads' rd g1 (fun z=>f ?_) hr.gd ?_ (fun _ _ e=>e) (fun h' u tk kk=>fin h' u tk kk) hz
  ·rw [z] at g5
   simpa using g5
  ·have h2:=hr.un
   omega
 cases rp with
 | non=>cases ru; exact PySem.P.repr_of_none (fin _ _ _ fun _ _ e=>e)
 | bl b=>cases ru; exact PySem.P.repr_of_bool (fin _ _ _ fun _ _ e=>e)
 | int i=>
  obtain ⟨t,rfl⟩:=ru
  exact PySem.P.repr_of_int (of_decide_eq_true g1) (fin _ _ _ fun _ _ e=>e)
 | str x=>
  obtain ⟨t,rfl⟩:=ru
  exact PySem.P.repr_of_str (fin _ _ _ fun _ _ e=>e) hz
 | tup _ _=>exact big _ ru
 | lst _ _=>exact big _ ru
 | dct _ _ _=>exact big _ ru
noncomputable def reprW (T:Tp) (w:W):Option (W×Tp):=match w with
 | .d x=>if goodB x=true then some (.d (.str x.shown),T) else none
 | _=>none
noncomputable def fRepr (f:FE):FE:=fun ρ T=>bnd (f ρ T) fun w T1=>reprW T1 w
theorem de_repr {k:Nat} {e:Expr} {f:FE} {p pos:Pos} (hr:Room k X.A) (hm:X.mg "repr" = none) (he:DE X e f) (hg:Gl X "repr":=by rfl) (hse:starEach [e] X.env=(false,eval e X.env)::starEach [] X.env:=by exact star_cons rfl) (hpl:(backTo pos (starEach [] X.env)).any (·.1)=false:=by exact star_any rfl) :
  DE X (.Call (.Name "repr" p) [e] [] pos) (fRepr f):=by
 refine ⟨?_⟩
 refine pe_imp (pe_callB (call_repr hr) hg hm boot_repr (pa_cons he.pe pa_nil hse) (by decide) (by decide) hse hpl) fun σ H Q=>?_
 rintro ⟨O,ts,ρ,T,w,T',hc,re,e,q⟩
 obtain ⟨w1,T1,e1,e⟩:=bnd_of e
 refine ⟨O,ts,ρ,T,w1,T1,hc,re,e1,fun v1 H1 s1 hc1 r1=>?_⟩
 unfold reprW at e
 split at e
 ·split at e
  ·rename_i x hx
   cases e
   exact ⟨O,v1,x,rfl,r1,hx,q _ H1 s1 hc1 (.str _)⟩
  ·cases e
 ·cases e
end
end D
namespace D
open PySem PySem.Spec PyProof.Rows L2
structure Df (K:PySem.W.Frag) (name:Str) (st:Stmt):Prop where
 ex:∃ (f:Addr) (oc:Value) (od an:Option Addr) (sl:Array (Option Value)) (kV dc pm cd ct:Value),PySem.W.nsIn K mainGlobals name=some (some (.ref f)) ∧
  K.lookup f=some ⟨oc,od,.func (PySem.W.fnOf name name (defArgs st) (defBody st) (defScope st) .none kV dc pm an cd ct),sl⟩∧PySem.W.codeIn K cd name=true∧PySem.W.keepIn K (.ref f)=true
theorem df_mk {K:PySem.W.Frag} {name:Str} {st:Stmt} {f:Addr} {oc:Value} {od an:Option Addr} {sl:Array (Option Value)} {kV dc pm cd ct:Value} (a:PySem.W.nsIn K mainGlobals name=some (some (.ref f)))
  (l:K.lookup f=some ⟨oc,od,.func (PySem.W.fnOf name name (defArgs st) (defBody st) (defScope st) .none kV dc pm an cd ct),sl⟩) (c:PySem.W.codeIn K cd name=true) (k:PySem.W.keepIn K (.ref f)=true):Df K name st:=
 ⟨f,oc,od,an,sl,kV,dc,pm,cd,ct,a,l,c,k⟩
theorem Df.fn {P:Program} {w:World} {K:PySem.W.Frag} {mg:Str→Option Value} {base h:Heap} {name:Str} {st:Stmt} {ps:List Str} {k:Nat} {sp:Sp} (d:Df K name st) (X:K.In h) (G:h.Ns mainGlobals mg)
  (hb:∀ (kV doc pm:Value) (an:Option Addr) (cdv ct:Value) (us:List Value),us.length=ps.length→bindArgs (PySem.W.fnOf name name (defArgs st) (defBody st) (defScope st) .none kV doc pm an cdv ct) ⟨us,[]⟩=pure (ps.zip us))
  (ok:∀ f fd,Fun K name name st f fd→FnOk P w K mg base CX0 k f fd ps sp):Fn P w K mg base name ps k sp:=by
 obtain ⟨f,oc,od,an,sl,kV,dc,pm,cd,ct,a,l,c,kp⟩:=d.ex
 have F:=fun_mk (st:=st) l c kp
 exact ⟨f,_,ok f _ F,F.binds hb,kp,PySem.W.mg_of X G a⟩
theorem fn_none {P:Program} {w:World} {K:PySem.W.Frag} {mg:Str→Option Value} {base:Heap} {k n:Nat} {f:Addr} {fd:FuncData} {ps:List Str}:FnOk P w K mg base CX0 k f fd ps (spM K n fun _ _=>none):=by
 have no:∀ vs H Q E,¬ spM K n (fun _ _=>none) vs H Q E:=fun vs H Q E h=>by
  obtain ⟨O,ts,T,ws,x,T',_,_,_,e,_⟩:=h
  cases e
 exact ⟨fun vs H Q E h=>absurd h (no vs H Q E),fun A outer s H args us vs Q E _ _ _ _ h=>absurd h (no vs H Q E)⟩
noncomputable def spLaw (K:PySem.W.Frag):Sp:=fun vs H Q _=>∃ (a:Addr) (ns:List Int),vs=[.ref a]∧SqL K H a (ns.map V.int)∧ns.length≤63∧∀ H',Q (.bl true) H'
noncomputable def script (ns:List Int):PyData:=.list (ns.map .int)
theorem reps_ints {K:PySem.W.Frag} {O:Addr→Prop} {H:Hp}:∀ ns:List Int,Reps K O H (ns.map V.int) (ns.map PyData.int)
 | []=>.nil
 | _::r=>.cons (.int _) (reps_ints r)
end D
namespace D
open PySem PySem.Spec PyProof.Rows L2
section
variable {α β:Type} {ρ:Rho} {T:Tp} {f g:FE} {c c':FT} {s s':FS} {a:FA} {w w':W} {x y:PyData}
@[simp] theorem ev_bnd {b:α} {k:α→Tp→Option β}:bnd (some (b,T)) k=k b T:=rfl
@[simp] theorem ev_bndN {k:α→Tp→Option β}:bnd none k=none:=rfl
@[simp] theorem ev_bndI {p:Prop} [Decidable p] {u v:Option (α×Tp)} {k:α→Tp→Option β}:bnd (if p then u else v) k=if p then bnd u k else bnd v k:=by split <;> rfl
@[simp] theorem ev_mk {N:Nat} {ws:List W}:mkFn N s ws T=if noLoc ws=true then fnEnd (s (ws.map some++List.replicate (N - ws.length) none) T) else none:=rfl
@[simp] theorem ev_noLoc0:noLoc []=true:=rfl
@[simp] theorem ev_noLocD {r:List W}:noLoc (.d x::r)=noLoc r:=rfl
@[simp] theorem ev_noLocT {i:Nat} {r:List W}:noLoc (.tp i::r)=noLoc r:=rfl
@[simp] theorem ev_endR {r:Rho}:fnEnd (some ((.rt x,r),T))=some (x,T):=rfl
@[simp] theorem ev_endN {r:Rho}:fnEnd (some ((.nx,r),T))=some (.none,T):=rfl
@[simp] theorem ev_endI {p:Prop} [Decidable p] {u v:Option ((Fl×Rho)×Tp)}:fnEnd (if p then u else v)=if p then fnEnd u else fnEnd v:=by split <;> rfl
noncomputable def seqK (s':FS) (p:Fl×Rho) (T:Tp):Option ((Fl×Rho)×Tp):=match p with
 | (.nx,ρ1)=>s' ρ1 T
 | (fl,ρ1)=>some ((fl,ρ1),T)
@[simp] theorem ev_seq:fSeq s s' ρ T=bnd (s ρ T) (seqK s'):=rfl
@[simp] theorem ev_seqN {ρ1:Rho}:seqK s' (.nx,ρ1) T=s' ρ1 T:=rfl
@[simp] theorem ev_seqR {ρ1:Rho}:seqK s' (.rt x,ρ1) T=some ((.rt x,ρ1),T):=rfl
@[simp] theorem ev_seqB {ρ1:Rho}:seqK s' (.bk,ρ1) T=some ((.bk,ρ1),T):=rfl
@[simp] theorem ev_seqC {ρ1:Rho}:seqK s' (.ct,ρ1) T=some ((.ct,ρ1),T):=rfl
@[simp] theorem ev_next:fNext ρ T=some ((.nx,ρ),T):=rfl
noncomputable def ifK (s s':FS) (ρ:Rho) (b:Bool) (T1:Tp):Option ((Fl×Rho)×Tp):=if b=true then s ρ T1 else s' ρ T1
@[simp] theorem ev_if:fIf c s s' ρ T=bnd (c ρ T) (ifK s s' ρ):=rfl
@[simp] theorem ev_ifK {b:Bool}:ifK s s' ρ b T=if b=true then s ρ T else s' ρ T:=rfl
noncomputable def retK (ρ:Rho):W→Tp→Option ((Fl×Rho)×Tp):=fun w T1=>match w with
 | .d x=>some ((.rt x,ρ),T1)
 | _=>none
@[simp] theorem ev_ret:fRet f ρ T=bnd (f (frzR ρ) T) (retK ρ):=rfl
@[simp] theorem ev_retD:retK ρ (.d x) T=some ((.rt x,ρ),T):=rfl
@[simp] theorem ev_frz0:frzR []=[]:=rfl
@[simp] theorem ev_frzN {r:Rho}:frzR (none::r)=none::frzR r:=rfl
@[simp] theorem ev_frzD {r:Rho}:frzR (some (.d x)::r)=some (.d x)::frzR r:=rfl
@[simp] theorem ev_frzT {i:Nat} {r:Rho}:frzR (some (.tp i)::r)=some (.tp i)::frzR r:=rfl
@[simp] theorem ev_frzL {x:PyData} {r:Rho}:frzR (some (.loc x)::r)=some (.d x)::frzR r:=rfl
noncomputable def setK (i:Nat) (ρ:Rho):W→Tp→Option ((Fl×Rho)×Tp):=fun w T1=>match w with
 | .d x=>some ((.nx,ρ.set i (some (.d x))),T1)
 | .tp k=>some ((.nx,ρ.set i (some (.tp k))),T1)
 | .loc _=>none
@[simp] theorem ev_set {i:Nat}:fSet i f ρ T=bnd (f ρ T) (setK i ρ):=rfl
@[simp] theorem ev_setD {i:Nat}:setK i ρ (.d x) T=some ((.nx,ρ.set i (some (.d x))),T):=rfl
@[simp] theorem ev_setT {i k:Nat}:setK i ρ (.tp k) T=some ((.nx,ρ.set i (some (.tp k))),T):=rfl
noncomputable def setLK (i:Nat) (ρ:Rho) (T:Tp):Option (List PyData)→Option ((Fl×Rho)×Tp)
 | some xs=>if xs.length≤1000 then some ((.nx,ρ.set i (some (.loc (.list xs)))),T) else none
 | none=>none
@[simp] theorem ev_setL {i:Nat}:fSetL i a ρ T=bnd (a ρ T) fun ws T1=>setLK i ρ T1 (datas ws):=rfl
@[simp] theorem ev_setLK {i:Nat} {xs:List PyData}:setLK i ρ T (some xs)=if xs.length≤1000 then some ((.nx,ρ.set i (some (.loc (.list xs)))),T) else none:=rfl
noncomputable def appK (i:Nat) (ρ:Rho) (x:PyData) (T:Tp) (o:Option (Option W)):Option ((Fl×Rho)×Tp):=match o with
 | some (some (.loc (.list xs)))=>if xs.length < sizeLine then some ((.nx,ρ.set i (some (.loc (.list (xs++[x]))))),T) else none
 | _=>none
noncomputable def appW (i:Nat) (ρ:Rho):W→Tp→Option ((Fl×Rho)×Tp):=fun w T1=>match w with
 | .d x=>(match ρ[i]? with
  | some (some (.loc (.list xs)))=>if xs.length < sizeLine then some ((.nx,ρ.set i (some (.loc (.list (xs++[x]))))),T1) else none
  | _=>none)
 | _=>none
@[simp] theorem ev_app {i:Nat}:fApp i f ρ T=bnd (f ρ T) (appW i ρ):=rfl
@[simp] theorem ev_appW {i:Nat}:appW i ρ (.d x) T=appK i ρ x T ρ[i]?:=rfl
@[simp] theorem ev_appK {i:Nat} {xs:List PyData}:appK i ρ x T (some (some (.loc (.list xs))))=if xs.length < sizeLine then some ((.nx,ρ.set i (some (.loc (.list (xs++[x]))))),T) else none:=rfl
@[simp] theorem ev_sl {l u:FO}:fSl f l u ρ T=bnd (f ρ T) fun w T1=>bnd (l ρ T1) fun lo T2=>bnd (u ρ T2) fun hi T3=>op1 (fun x=>sliceD x lo hi) T3 w:=rfl
@[simp] theorem ev_noP:fNoP ρ T=some (none,T):=rfl
noncomputable def pK:W→Tp→Option (Option Int×Tp):=fun w T1=>match w with
 | .d (.int i)=>some (some i,T1)
 | _=>none
@[simp] theorem ev_P:fP f ρ T=bnd (f ρ T) pK:=rfl
@[simp] theorem ev_pK {i:Int}:pK (.d (.int i)) T=some (some i,T):=rfl
@[simp] theorem ev_slS {z:Str} {lo hi:Option Int}:sliceD (.str z) lo hi=if z.length≤sizeLine then some (.str (Txt.slice z lo hi)) else none:=rfl
@[simp] theorem ev_slT {xs:List PyData} {lo hi:Option Int}:sliceD (.tuple xs) lo hi=some (.tuple (cutL xs lo hi)):=rfl
@[simp] theorem ev_slL {xs:List PyData} {lo hi:Option Int}:sliceD (.list xs) lo hi=some (.list (cutL xs lo hi)):=rfl
@[simp] theorem ev_drop:fDrop f ρ T=bnd (f ρ T) fun _ T1=>some ((.nx,ρ),T1):=rfl
@[simp] theorem ev_var0 {o:W} {r:Rho}:fVar 0 (some o::r) T=some (o,T):=rfl
@[simp] theorem ev_varS {i:Nat} {o:Option W} {r:Rho}:fVar (i + 1) (o::r) T=fVar i r T:=rfl
@[simp] theorem ev_var1 {o:Option W} {r:Rho}:fVar 1 (o::r) T=fVar 0 r T:=ev_varS
@[simp] theorem ev_var2 {o:Option W} {r:Rho}:fVar 2 (o::r) T=fVar 1 r T:=ev_varS
@[simp] theorem ev_var3 {o:Option W} {r:Rho}:fVar 3 (o::r) T=fVar 2 r T:=ev_varS
@[simp] theorem ev_var4 {o:Option W} {r:Rho}:fVar 4 (o::r) T=fVar 3 r T:=ev_varS
@[simp] theorem ev_var5 {o:Option W} {r:Rho}:fVar 5 (o::r) T=fVar 4 r T:=ev_varS
@[simp] theorem ev_var6 {o:Option W} {r:Rho}:fVar 6 (o::r) T=fVar 5 r T:=ev_varS
@[simp] theorem ev_var7 {o:Option W} {r:Rho}:fVar 7 (o::r) T=fVar 6 r T:=ev_varS
@[simp] theorem ev_var8 {o:Option W} {r:Rho}:fVar 8 (o::r) T=fVar 7 r T:=ev_varS
@[simp] theorem ev_var9 {o:Option W} {r:Rho}:fVar 9 (o::r) T=fVar 8 r T:=ev_varS
@[simp] theorem ev_C:fC x ρ T=some (.d x,T):=rfl
@[simp] theorem ev_view:view T (.d x)=some x:=rfl
@[simp] theorem ev_viewT {i:Nat}:view T (.tp i)=(T[i]?).bind rowV:=rfl
@[simp] theorem ev_rowV {xs:List PyData}:rowV xs=if isO xs=true then none else some (.list xs):=rfl
@[simp] theorem isO_lst {xs r:List PyData}:isO (.list xs::r)=false:=rfl
@[simp] theorem ev_viewL {xs:List PyData}:view T (.loc (.list xs))=some (.list xs):=rfl
@[simp] theorem ev_viewLD {xs:List (PyData×PyData)}:view T (.loc (.dict xs))=some (.dict xs):=rfl
noncomputable def mkD (T:Tp) (o:Option PyData):Option (W×Tp):=match o with
 | some d=>some (.d d,T)
 | none=>none
@[simp] theorem ev_mkD:mkD T (some x)=some (.d x,T):=rfl
@[simp] theorem ev_mkDN:mkD T none=none:=rfl
@[simp] theorem ev_mkDI {p:Prop} [Decidable p] {u v:Option PyData}:mkD T (if p then u else v)=if p then mkD T u else mkD T v:=by split <;> rfl
noncomputable def binK (o:PyData→PyData→Option PyData) (g:FE) (ρ:Rho) (w1:W) (T1:Tp):Option (W×Tp):=bnd (g ρ T1) fun w2 T2=>op2 o T2 w1 w2
@[simp] theorem ev_bin {o:PyData→PyData→Option PyData}:fBin o f g ρ T=bnd (f ρ T) (binK o g ρ):=rfl
@[simp] theorem ev_binK {o:PyData→PyData→Option PyData}:binK o g ρ w T=bnd (g ρ T) fun w2 T2=>op2 o T2 w w2:=rfl
@[simp] theorem ev_op2 {o:PyData→PyData→Option PyData}:op2 o T (.d x) (.d y)=mkD T (o x y):=rfl
@[simp] theorem ev_op2T {o:PyData→PyData→Option PyData} {zs xs:List PyData} {r:Tp}:op2 o ((.list zs::xs)::r) (.tp 0) (.d y)=mkD ((.list zs::xs)::r) (o (.list (.list zs::xs)) y):=rfl
@[simp] theorem ev_un {o:PyData→Option PyData}:fUn o f ρ T=bnd (f ρ T) fun w1 T1=>op1 o T1 w1:=rfl
@[simp] theorem ev_op1 {o:PyData→Option PyData}:op1 o T (.d x)=mkD T (o x):=rfl
@[simp] theorem ev_asB {b:Bool}:asB (.d (.bool b))=some b:=rfl
noncomputable def tstK:W→Tp→Option (Bool×Tp):=fun w T1=>match asB w with
 | some b=>some (b,T1)
 | none=>none
@[simp] theorem ev_tst:fTst f ρ T=bnd (f ρ T) tstK:=rfl
@[simp] theorem ev_tstK {b:Bool}:tstK (.d (.bool b)) T=some (b,T):=rfl
@[simp] theorem ev_tru:fTru f ρ T=bnd (f ρ T) fun w T1=>tru1 T1 w:=rfl
noncomputable def truK (T:Tp) (o:Option Bool):Option (Bool×Tp):=match o with
 | some b=>some (b,T)
 | none=>none
@[simp] theorem ev_tru1:tru1 T (.d x)=truK T (truD x):=rfl
@[simp] theorem ev_truK {b:Bool}:truK T (some b)=some (b,T):=rfl
@[simp] theorem ev_truB {b:Bool}:truD (.bool b)=some b:=rfl
noncomputable def andTK (c':FT) (ρ:Rho) (b:Bool) (T1:Tp):Option (Bool×Tp):=if b=true then c' ρ T1 else some (false,T1)
@[simp] theorem ev_andT:fAndT c c' ρ T=bnd (c ρ T) (andTK c' ρ):=rfl
@[simp] theorem ev_andTK {b:Bool}:andTK c' ρ b T=if b=true then c' ρ T else some (false,T):=rfl
noncomputable def orTK (c':FT) (ρ:Rho) (b:Bool) (T1:Tp):Option (Bool×Tp):=if b=true then some (true,T1) else c' ρ T1
@[simp] theorem ev_orT:fOrT c c' ρ T=bnd (c ρ T) (orTK c' ρ):=rfl
@[simp] theorem ev_orTK {b:Bool}:orTK c' ρ b T=if b=true then some (true,T) else c' ρ T:=rfl
@[simp] theorem ev_notT:fNotT c ρ T=bnd (c ρ T) fun b T1=>some (!b,T1):=rfl
@[simp] theorem ev_trueT:fTrue ρ T=some (true,T):=rfl
noncomputable def andK (g:FE) (ρ:Rho) (w:W) (T:Tp):Option (W×Tp):=match asB w with
 | some b=>if b=true then g ρ T else some (.d (.bool false),T)
 | none=>none
@[simp] theorem ev_andV:fAndV f g ρ T=bnd (f ρ T) (andK g ρ):=rfl
@[simp] theorem ev_andK {b:Bool}:andK g ρ (.d (.bool b)) T=if b=true then g ρ T else some (.d (.bool false),T):=rfl
noncomputable def orK (g:FE) (ρ:Rho) (w:W) (T:Tp):Option (W×Tp):=match asB w with
 | some b=>if b=true then some (.d (.bool true),T) else g ρ T
 | none=>none
@[simp] theorem ev_orV:fOrV f g ρ T=bnd (f ρ T) (orK g ρ):=rfl
@[simp] theorem ev_orK {b:Bool}:orK g ρ (.d (.bool b)) T=if b=true then some (.d (.bool true),T) else g ρ T:=rfl
noncomputable def notK (w:W) (T:Tp):Option (W×Tp):=match asB w with
 | some b=>some (.d (.bool (!b)),T)
 | none=>none
@[simp] theorem ev_notV:fNotV f ρ T=bnd (f ρ T) notK:=rfl
@[simp] theorem ev_notK {b:Bool}:notK (.d (.bool b)) T=some (.d (.bool (!b)),T):=rfl
noncomputable def ifEK (f g:FE) (ρ:Rho) (b:Bool) (T1:Tp):Option (W×Tp):=if b=true then f ρ T1 else g ρ T1
@[simp] theorem ev_ifE:fIfE c f g ρ T=bnd (c ρ T) (ifEK f g ρ):=rfl
@[simp] theorem ev_ifEK {b:Bool}:ifEK f g ρ b T=if b=true then f ρ T else g ρ T:=rfl
noncomputable def chK (o':PyData→PyData→Option PyData) (h:FE) (ρ:Rho) (w2 w:W) (T:Tp):Option (W×Tp):=match asB w with
 | some b=>if b=true then bnd (h ρ T) fun w3 T4=>op2 o' T4 w2 w3 else some (.d (.bool false),T)
 | none=>none
@[simp] theorem ev_chain {o o':PyData→PyData→Option PyData} {h:FE}:fChain o o' f g h ρ T=bnd (f ρ T) fun w1 T1=>bnd (g ρ T1) fun w2 T2=>bnd (op2 o T2 w1 w2) (chK o' h ρ w2):=rfl
@[simp] theorem ev_chK {o':PyData→PyData→Option PyData} {h:FE} {b:Bool}:chK o' h ρ w (.d (.bool b)) T=if b=true then bnd (h ρ T) fun w3 T4=>op2 o' T4 w w3 else some (.d (.bool false),T):=rfl
@[simp] theorem ev_nil:fNil ρ T=some ([],T):=rfl
noncomputable def consK (a:FA) (ρ:Rho) (w:W) (T1:Tp):Option (List W×Tp):=bnd (a ρ T1) fun ws T2=>some (w::ws,T2)
@[simp] theorem ev_cons:fCons f a ρ T=bnd (f ρ T) (consK a ρ):=rfl
@[simp] theorem ev_consK:consK a ρ w T=bnd (a ρ T) fun ws T2=>some (w::ws,T2):=rfl
@[simp] theorem ev_views0:views T []=some []:=rfl
noncomputable def consO (x:PyData) (o:Option (List PyData)):Option (List PyData):=match o with
 | some xs=>some (x::xs)
 | none=>none
@[simp] theorem ev_consO {xs:List PyData}:consO x (some xs)=some (x::xs):=rfl
@[simp] theorem ev_views {r:List W}:views T (.d x::r)=consO x (views T r):=rfl
@[simp] theorem ev_viewsL {xs:List PyData} {r:List W}:views T (.loc (.list xs)::r)=consO (.list xs) (views T r):=rfl
@[simp] theorem ev_datas0:datas []=some []:=rfl
@[simp] theorem ev_datas {r:List W}:datas (.d x::r)=consO x (datas r):=rfl
noncomputable def sqK (mk:List PyData→PyData) (T:Tp):Option (List PyData)→Option (W×Tp)
 | some xs=>if xs.length≤1000 then some (.d (mk xs),T) else none
 | none=>none
@[simp] theorem ev_seqD {mk:List PyData→PyData}:fSeqD mk a ρ T=bnd (a ρ T) fun ws T1=>sqK mk T1 (datas ws):=rfl
@[simp] theorem ev_sqK {mk:List PyData→PyData} {xs:List PyData}:sqK mk T (some xs)=if xs.length≤1000 then some (.d (mk xs),T) else none:=rfl
noncomputable def cbK (o:List PyData→Option PyData) (T:Tp) (v:Option (List PyData)):Option (W×Tp):=match v with
 | some xs=>(match o xs with
  | some d=>some (.d d,T)
  | none=>none)
 | none=>none
@[simp] theorem ev_CB {o:List PyData→Option PyData}:fCB o a ρ T=bnd (a ρ T) fun ws T1=>cbK o T1 (views T1 ws):=rfl
@[simp] theorem ev_cbK {o:List PyData→Option PyData} {xs:List PyData}:cbK o T (some xs)=mkD T (o xs):=rfl
@[simp] theorem ev_call {m:FnM}:fCall m a ρ T=bnd (a ρ T) fun ws T1=>bnd (m ws T1) fun x T2=>some (.d x,T2):=rfl
@[simp] theorem ev_comp {it:FI}:fComp it c f ρ T=bnd (it ρ T) fun ds T1=>bnd (compL c f ρ ds T1) fun ys T2=>some (.d (.list ys),T2):=rfl
noncomputable def itK (T:Tp) (o:Option (List PyData)):Option (List PyData×Tp):=match o with
 | some xs=>some (xs,T)
 | none=>none
noncomputable def itW:W→Tp→Option (List PyData×Tp):=fun w T1=>match w with
 | .d x=>(match itemsD x with
  | some xs=>some (xs,T1)
  | none=>none)
 | _=>none
@[simp] theorem ev_iter:fIter f ρ T=bnd (f ρ T) itW:=rfl
@[simp] theorem ev_itW:itW (.d x) T=itK T (itemsD x):=rfl
@[simp] theorem ev_itK {xs:List PyData}:itK T (some xs)=some (xs,T):=rfl
@[simp] theorem ev_itemsL {xs:List PyData}:itemsD (.list xs)=some xs:=rfl
@[simp] theorem ev_itemsD {ds:List (PyData×PyData)}:itemsD (.dict ds)=some (ds.map (·.1)):=rfl
@[simp] theorem ev_itemsT {xs:List PyData}:itemsD (.tuple xs)=some xs:=rfl
@[simp] theorem ev_itemsS {z:Str}:itemsD (.str z)=if z.length≤sizeLine then some (signs z) else none:=rfl
noncomputable def rngK:W→Tp→Option (List PyData×Tp):=fun w T1=>match w with
 | .d (.int j)=>if rngOk j=true then some (numsD 0 j.toNat,T1) else none
 | _=>none
@[simp] theorem ev_rng1:fRng1 f ρ T=bnd (f ρ T) rngK:=rfl
@[simp] theorem ev_rngK {j:Int}:rngK (.d (.int j)) T=if rngOk j=true then some (numsD 0 j.toNat,T) else none:=rfl
@[simp] theorem ev_for {i:Nat} {it:FI}:fFor i it s ρ T=bnd (it ρ T) fun ds T1=>forL i s ds ρ T1:=rfl
@[simp] theorem ev_sub {i j:Int}:subD (.int i) (.int j)=some (.int (i - j)):=rfl
@[simp] theorem ev_mod {i j:Int}:modD (.int i) (.int j)=if 0 < j then some (.int (i % j)) else none:=rfl
@[simp] theorem ev_fdiv {i j:Int}:fdivD (.int i) (.int j)=if 0 < j∧j < 1073741824 then some (.int (i / j)) else none:=rfl
@[simp] theorem ev_pow {i j:Int}:powD (.int i) (.int j)=if 0≤j∧j≤1000000∧i.natAbs < 2 ^ 64 then some (.int (i ^ j.toNat)) else none:=rfl
@[simp] theorem ev_lt {i j:Int}:ltD (.int i) (.int j)=some (.bool (decide (i < j))):=rfl
@[simp] theorem ev_le {i j:Int}:leD (.int i) (.int j)=some (.bool (decide (i≤j))):=rfl
@[simp] theorem ev_gt {i j:Int}:gtD (.int i) (.int j)=some (.bool (decide (j < i))):=rfl
@[simp] theorem ev_ge {i j:Int}:geD (.int i) (.int j)=some (.bool (decide (j≤i))):=rfl
@[simp] theorem ev_addI {i j:Int}:addD (.int i) (.int j)=some (.int (i + j)):=rfl
@[simp] theorem ev_addS {u v:Str}:addD (.str u) (.str v)=if u.length + v.length≤sizeLine then some (.str (u++v)) else none:=rfl
@[simp] theorem ev_addT {u v:List PyData}:addD (.tuple u) (.tuple v)=if u.length + v.length≤sizeLine then some (.tuple (u++v)) else none:=rfl
@[simp] theorem ev_addL {u v:List PyData}:addD (.list u) (.list v)=if u.length + v.length≤sizeLine then some (.list (u++v)) else none:=rfl
@[simp] theorem ev_mulI {i j:Int}:mulD (.int i) (.int j)=if (-(2 ^ 64) < i∧i < 2 ^ 64)∨(-(2 ^ 64) < j∧j < 2 ^ 64) then some (.int (i * j)) else none:=rfl
@[simp] theorem ev_mulS {z:Str} {k:Int}:mulD (.str z) (.int k)=if 0≤k∧k≤2000∧z.length≤1000 then some (.str (Txt.mul z k)) else none:=rfl
@[simp] theorem ev_mulT {xs:List PyData} {k:Int}:mulD (.tuple xs) (.int k)=if 2≤k∧k≤1000∧xs.isEmpty=false∧xs.length≤1000 then some (.tuple (List.replicate k.toNat xs).flatten) else none:=rfl
@[simp] theorem ev_eqI {i j:Int}:eqD (.int i) (.int j)=some (.bool (decide (i=j))):=rfl
@[simp] theorem ev_eqS {i j:Str}:eqD (.str i) (.str j)=some (.bool (decide (i=j))):=rfl
@[simp] theorem ev_eqB {i j:Bool}:eqD (.bool i) (.bool j)=some (.bool (decide (i=j))):=rfl
@[simp] theorem ev_neI {i j:Int}:neD (.int i) (.int j)=some (.bool (!decide (i=j))):=rfl
@[simp] theorem ev_neS {i j:Str}:neD (.str i) (.str j)=some (.bool (!decide (i=j))):=rfl
@[simp] theorem ev_neB {i j:Bool}:neD (.bool i) (.bool j)=some (.bool (!decide (i=j))):=rfl
@[simp] theorem ev_is:isD x .none=some (.bool (isNone x)):=by cases x <;> rfl
@[simp] theorem ev_isnot {i j:Bool}:isNotD (.bool i) (.bool j)=some (.bool (i != j)):=rfl
@[simp] theorem ev_neg {i:Int}:negD (.int i)=some (.int (-i)):=rfl
@[simp] theorem ev_isi {k:Kd}:isiD k x=some (.bool (isiK (kd x) k)):=rfl
@[simp] theorem ev_ixL {xs:List PyData} {i:Int}:ixD (.list xs) (.int i)=atI xs i:=rfl
@[simp] theorem ev_ixT {xs:List PyData} {i:Int}:ixD (.tuple xs) (.int i)=atI xs i:=rfl
@[simp] theorem ev_ixS {z:Str} {i:Int}:ixD (.str z) (.int i)=if z.length≤sizeLine then (atI z.cps.toList i).map (fun c=>.str ⟨#[c]⟩) else none:=rfl
@[simp] theorem ev_lenL {xs:List PyData}:lenD [.list xs]=some (.int xs.length):=rfl
@[simp] theorem ev_lenT {xs:List PyData}:lenD [.tuple xs]=some (.int xs.length):=rfl
@[simp] theorem ev_lenS {z:Str}:lenD [.str z]=if z.length≤sizeLine then some (.int z.length) else none:=rfl
@[simp] theorem ev_abs {i:Int}:absD [.int i]=some (.int (if i < 0 then -i else i)):=rfl
@[simp] theorem ev_max {i j:Int}:maxD2 [.int i,.int j]=some (.int (if j > i then j else i)):=rfl
@[simp] theorem ev_min {i j:Int}:minD2 [.int i,.int j]=some (.int (if j < i then j else i)):=rfl
@[simp] theorem ev_tupleL {xs:List PyData}:tupleD [.list xs]=some (.tuple xs):=rfl
@[simp] theorem ev_tupleT {xs:List PyData}:tupleD [.tuple xs]=some (.tuple xs):=rfl
@[simp] theorem ev_listL {xs:List PyData}:listD [.list xs]=some (.list xs):=rfl
@[simp] theorem ev_listT {xs:List PyData}:listD [.tuple xs]=some (.list xs):=rfl
@[simp] theorem ev_kdI {i:Int}:kd (.int i)=.int:=rfl
@[simp] theorem ev_kdB {i:Bool}:kd (.bool i)=.bl:=rfl
@[simp] theorem ev_kdS {i:Str}:kd (.str i)=.str:=rfl
@[simp] theorem ev_kdT {i:List PyData}:kd (.tuple i)=.tup:=rfl
@[simp] theorem ev_kdL {i:List PyData}:kd (.list i)=.lst:=rfl
@[simp] theorem ev_kdD {i:List (PyData×PyData)}:kd (.dict i)=.dct:=rfl
@[simp] theorem ev_kdN:kd .none=.non:=rfl
end
theorem compL_map {e:FE} {ρ:Rho} {T:Tp} {g:PyData→PyData}:∀ {ds:List PyData},(∀ d∈ds,e (some (.d d)::ρ) T=some (.d (g d),T))→compL fTrue e ρ ds T=some (ds.map g,T)
 | [],_=>rfl
 | d::r,h=>by
  have ih:=compL_map (ds:=r) fun x hx=>h x (List.mem_cons_of_mem _ hx)
  have h0:=h d List.mem_cons_self
  unfold compL
  simp [h0,ih]
theorem boolsD_map {α:Type} (p:α→Bool):∀ l:List α,boolsD (l.map fun d=>.bool (p d))=some (l.map p)
 | []=>rfl
 | d::r=>by
  show (boolsD (r.map fun d=>.bool (p d))).map (p d::·)=_
  rw [boolsD_map p r]
  rfl
theorem intsD_map {α:Type} (p:α→Int):∀ l:List α,intsD (l.map fun d=>.int (p d))=some (l.map p)
 | []=>rfl
 | d::r=>by
  show (intsD (r.map fun d=>.int (p d))).map (p d::·)=_
  rw [intsD_map p r]
  rfl
theorem strsD_map {α:Type} (p:α→Str):∀ l:List α,strsD (l.map fun d=>.str (p d))=some (l.map p)
 | []=>rfl
 | d::r=>by
  show (strsD (r.map fun d=>.str (p d))).map (p d::·)=_
  rw [strsD_map p r]
  rfl
@[simp] theorem ev_all {α:Type} (p:α→Bool) (l:List α):allD [.list (l.map fun d=>.bool (p d))]=some (.bool (l.all p)):=by
 show (boolsD _).map (fun bs=>PyData.bool (bs.all id))=_
 rw [boolsD_map,Option.map_some,List.all_map]
 rfl
@[simp] theorem ev_sum {α:Type} (p:α→Int) (l:List α):sumD [.list (l.map fun d=>.int (p d))]=some (.int (l.map p).sum):=by
 show (intsD _).map (fun bs=>PyData.int bs.sum)=_
 rw [intsD_map,Option.map_some]
@[simp] theorem ev_maxd {α:Type} (p:α→Int) (l:List α) (k:Int):maxdD (.list (l.map fun d=>.int (p d))) (.int k)=some (.int (K1.maxD k (l.map p))):=by
 show (intsD _).map (fun bs=>PyData.int (K1.maxD k bs))=_
 rw [intsD_map,Option.map_some]
noncomputable def strHas (y:Str):PyData→Bool
 | .str z=>hasS y z
 | _=>false
@[simp] theorem ev_inS {x y:Str}:inD (.str x) (.str y)=some (.bool (hasS y x)):=rfl
theorem signs_mem {x:Str} {d:PyData} (h:d∈D.signs x):∃ c,c∈x.cps.toList∧d=.str ⟨#[c]⟩:=by
 obtain ⟨c,hc,rfl⟩:=List.mem_map.mp h
 exact ⟨c,hc,rfl⟩
end D
namespace D
open PySem PySem.Spec PyProof.Rows L2
section
variable {X:Cx}
noncomputable def startsD:PyData→PyData→Option PyData
 | .str z,.str y=>some (.bool (Txt.startswith z y))
 | _,_=>none
theorem call_intS:CallR X (.type "int") (fun xs H Q=>∃ x n,xs=[.str x]∧PySem.intText? x=some n∧x.length≤640∧Q (.int n) H):=by
 intro pins s σ H xs us Q I r h
 obtain ⟨x,n,rfl,hn,hl,q⟩:=h
 obtain ⟨u,rfl,ru⟩:=vals1 r
 obtain ⟨t,rfl⟩:=ru
 exact PySem.W.KIN.call_text hn hl ⟨.int n,H,I.tok _,⟨_,rfl⟩,q⟩
noncomputable def intD:List PyData→Option PyData
 | [.int i]=>some (.int i)
 | [.bool b]=>some (.int (if b then 1 else 0))
 | [.str x]=>if x.length≤640 then (PySem.intText? x).map .int else none
 | _=>none
theorem c_int:CallD X (.type "int") intD:=⟨_,call_int1.or call_intS,fun O ts H T vs xs d Q hc h e q=>by
 unfold intD at e
 split at e
 ·cases e
  obtain ⟨v,rfl,g⟩:=vws1 h
  cases g.int
  exact .inl (.inl ⟨_,rfl,q _ H (.refl _ _) hc (.int _)⟩)
 ·cases e
  obtain ⟨v,rfl,g⟩:=vws1 h
  cases g.bl
  exact .inl (.inr ⟨_,rfl,q _ H (.refl _ _) hc (.int _)⟩)
 ·split at e
  ·rename_i hz
   obtain ⟨n,e1,rfl⟩:=Option.map_eq_some_iff.mp e
   obtain ⟨v,rfl,g⟩:=vws1 h
   cases g.str
   exact .inr ⟨_,n,rfl,e1,hz,q _ H (.refl _ _) hc (.int _)⟩
  ·cases e
 ·cases e⟩
noncomputable def revD:PyData→Option PyData
 | .tuple xs=>some (.tuple xs.reverse)
 | _=>none
end
@[simp] theorem ev_starts {z y:Str}:startsD (.str z) (.str y)=some (.bool (Txt.startswith z y)):=rfl
@[simp] theorem ev_intS {x:Str}:intD [.str x]=if x.length≤640 then (PySem.intText? x).map .int else none:=rfl
@[simp] theorem ev_intI {i:Int}:intD [.int i]=some (.int i):=rfl
@[simp] theorem ev_intB {b:Bool}:intD [.bool b]=some (.int (if b then 1 else 0)):=rfl
@[simp] theorem ev_rev {xs:List PyData}:revD (.tuple xs)=some (.tuple xs.reverse):=rfl
end D
namespace D
open PySem PySem.Spec PyProof.Rows L2
noncomputable def eqG (x y:PyData):Option PyData:=if SeqAt.shaped x=true∧SeqAt.shaped y=true then some (.bool (PyData.eqv x y)) else none
noncomputable def neG (x y:PyData):Option PyData:=if SeqAt.shaped x=true∧SeqAt.shaped y=true then some (.bool (!PyData.eqv x y)) else none
section
variable {X:Cx}
theorem Vw.reads {pins:List (Addr×Obj)} {σ:L2.St} {H:Hp} {s:Shared} {O:Addr→Prop} {v:V} {d:PyData} {u:Value} (I:Inv X pins σ H s) (h:Vw X.K O H v d) (r:RelV v u):∃ as,Reads s.heap u d as:=by
 cases h with
 | rep h=>obtain ⟨as,rd,_⟩:=h.reads I r; exact ⟨as,rd⟩
 | raw h hs=>
  cases r
  obtain ⟨its,rv,pl,_⟩:=I.list (SqL.of h)
  obtain ⟨o,n,e,c,_,dd⟩:=pl
  obtain ⟨as,rd,_⟩:=hs.reads I rv
  exact ⟨_,.list e c dd (by simpa using rd)⟩
 | rawD h rk=>
  cases r
  obtain ⟨z,y,vs,kv,o,es,ep,e,ed,dd,_,ek,_⟩:=(show ObjOk X.prog X.w H s.heap _ (.dK _) from I.hok _ _ h)
  obtain ⟨bs,q1,q2,f⟩:=RepK.reads I rk kv ek
  exact ⟨_,.dict (as:=[]) (bs:=bs) e ed.1 dd q1 q2⟩
theorem op_eqG {k:Nat} (hr:Room k X.A):OpR X (compareOp .Eq) (fun x y H Q=>∃ O d1 d2,Vw X.K O H x d1∧Vw X.K O H y d2∧SeqAt.shaped d1=true∧SeqAt.shaped d2=true∧Q (.bl (PyData.eqv d1 d2)) H):=by
 intro pins s σ H x y v u Q I rx ry h
 obtain ⟨O,d1,d2,h1,h2,s1,s2,q⟩:=h
 obtain ⟨as,r1⟩:=h1.reads I rx
 obtain ⟨bs,r2⟩:=h2.reads I ry
 exact SeqAt.compareEq_shaped r1 r2 s1 s2 (by have:=hr.un; omega) ⟨.bl _,H,I,rfl,q⟩
theorem op_neG {k:Nat} (hr:Room k X.A):OpR X (compareOp .NotEq) (fun x y H Q=>∃ O d1 d2,Vw X.K O H x d1∧Vw X.K O H y d2∧SeqAt.shaped d1=true∧SeqAt.shaped d2=true∧Q (.bl (!PyData.eqv d1 d2)) H):=by
 intro pins s σ H x y v u Q I rx ry h
 obtain ⟨O,d1,d2,h1,h2,s1,s2,q⟩:=h
 obtain ⟨as,r1⟩:=h1.reads I rx
 obtain ⟨bs,r2⟩:=h2.reads I ry
 exact SeqAt.compareNe_shaped r1 r2 s1 s2 (by have:=hr.un; omega) ⟨.bl _,H,I,rfl,q⟩
theorem o_eqG {k:Nat} (hr:Room k X.A):OpD X (compareOp .Eq) eqG:=⟨_,op_eqG hr,fun O ts H T v1 v2 x y d Q hc h1 h2 e q=>by
 unfold eqG at e
 split at e
 ·rename_i h
  cases e
  exact ⟨O,x,y,h1,h2,h.1,h.2,q _ H (.refl _ _) hc (.bl _)⟩
 ·cases e⟩
theorem o_neG {k:Nat} (hr:Room k X.A):OpD X (compareOp .NotEq) neG:=⟨_,op_neG hr,fun O ts H T v1 v2 x y d Q hc h1 h2 e q=>by
 unfold neG at e
 split at e
 ·rename_i h
  cases e
  exact ⟨O,x,y,h1,h2,h.1,h.2,q _ H (.refl _ _) hc (.bl _)⟩
 ·cases e⟩
open Classical in
noncomputable def eqBy (h:Heap) (x:PyData) (v:Value):Bool:=if e:∃ p:PyData×List Addr,Reads h v p.1 p.2 then PyData.eqv e.choose.1 x else false
theorem eqBy_of {h:Heap} {x d:PyData} {v:Value} {as:List Addr} (r:Reads h v d as):eqBy h x v=PyData.eqv d x:=by
 have e:∃ p:PyData×List Addr,Reads h v p.1 p.2:=⟨(d,as),r⟩
 unfold eqBy
 rw [dif_pos e]
 have:=(PySem.Reads.unique e.choose_spec d as r).1
 rw [this]
theorem eqBy_any {h:Heap} {x:PyData}:∀ {vs:List Value} {ds:List PyData} {as:List Addr},ReadsAll h vs ds as→vs.any (eqBy h x)=ds.any fun d=>PyData.eqv d x
 | _,_,_,.nil=>rfl
 | _,_,_,.cons r rs=>by rw [List.any_cons,List.any_cons,eqBy_of r,eqBy_any rs]
theorem readsAll_mem {h:Heap}:∀ {vs:List Value} {ds:List PyData} {as:List Addr} {v:Value},ReadsAll h vs ds as→v∈vs→∃ d bs,d∈ds∧Reads h v d bs
 | _,_,_,_,.cons r rs,hm=>by
  rcases List.mem_cons.mp hm with z | z
  ·subst z; exact ⟨_,_,List.mem_cons_self,r⟩
  ·obtain ⟨d,bs,h1,h2⟩:=readsAll_mem rs z
   exact ⟨d,bs,List.mem_cons_of_mem _ h1,h2⟩
noncomputable def inG:PyData→PyData→Option PyData
 | x,.tuple ys=>if SeqAt.shaped x=true∧ys.all SeqAt.shaped=true then some (.bool (ys.any fun y=>PyData.eqv y x)) else none
 | _,_=>none
theorem op_inG {k:Nat} (hr:Room k X.A):OpR X (compareOp .In) (fun x y H Q=>∃ O d1 a vs ds,Vw X.K O H x d1∧y=.ref a∧SqT X.K H a vs∧Reps X.K O H vs ds∧SeqAt.shaped d1=true∧ds.all SeqAt.shaped=true∧Q (.bl (ds.any fun y=>PyData.eqv y d1)) H):=by
 intro pins s σ H x y v u Q I rx ry h
 obtain ⟨O,d1,a,vs,ds,h1,rfl,h2,h3,s1,s2,q⟩:=h
 cases ry
 obtain ⟨as,r1⟩:=h1.reads I rx
 obtain ⟨its,rv,p1,_⟩:=I.tuple h2
 obtain ⟨bs,r2,_⟩:=h3.reads I rv
 refine SeqAt.in_tupleAt (eqBy s.heap d1) p1 (fun y hy=>?_) ?_
 ·obtain ⟨d,cs,hd,rd⟩:=readsAll_mem r2 (by simpa using hy)
  rw [eqBy_of rd]
  have sd:=List.all_eq_true.mp s2 d hd
  refine SeqAt.eqAt_reads d d1 _ s y v _ _ rd r1 (SeqAt.canLay_of_shaped sd) (SeqAt.canLay_of_shaped s1) (SeqAt.room_of_shaped sd ?_)
  have:=hr.un
  show X.A.in1.units + 64 < cLine
  have e:X.A.in1.units≤X.A.units + 1:=by simp [Around.in1]
  omega
 ·have e:its.toArray.any (eqBy s.heap d1)=ds.any fun y=>PyData.eqv y d1:=by
   rw [← eqBy_any r2]
   simp
  rw [e]
  exact ⟨.bl _,H,I,rfl,q⟩
theorem o_inG {k:Nat} (hr:Room k X.A):OpD X (compareOp .In) inG:=⟨_,op_inG hr,fun O ts H T v1 v2 x y d Q hc h1 h2 e q=>by
 unfold inG at e
 split at e
 ·split at e
  ·rename_i h
   cases e
   obtain ⟨a,vs,rfl,t,r⟩:=h2.tup
   exact ⟨O,x,a,vs,_,h1,rfl,t.sq,r,h.1,h.2,q _ H (.refl _ _) hc (.bl _)⟩
  ·cases e
 ·cases e⟩
end
end D
namespace D
open PySem PySem.Spec PyProof.Rows L2
section
variable {X:Cx}
variable {pos:Pos} {e:Expr} {fe:FE}
end
end D
namespace D
open PySem PySem.Spec PyProof.Rows L2
section
variable {X:Cx} {pos:Pos} {e:Expr} {f:FE} {x:Str} {p:Pos} {B:List (Str×Int)}
end
end D
namespace D
open PySem PySem.Spec PyProof.Rows L2
end D
namespace L2
open PySem PySem.Spec PyProof.Rows
open K1 (maxFrom maxD)
section
variable {prog:Program} {w:World} {A:Around} {R:Result→Shared→Prop} {it S:Addr} {fp wr:List Addr} {P:Nat→Value→Prop} {St:Nat→Heap→Prop} {ns:List Int} {kw:List (Str×Value)}
end
section
variable {X:Cx}
end
end L2
namespace D
open PySem PySem.Spec PyProof.Rows L2
section
variable {X:Cx} {pos:Pos} {e:Expr} {f:FE} {x:Str} {p:Pos}
variable {B:List (Str×Int)}
end
end D
namespace D
open PySem PySem.Spec PyProof.Rows L2
mutual
noncomputable def tupB:PyData→Bool
 | .tuple ds=>tupBs ds
 | .list _=>false
 | .dict _=>false
 | _=>true
noncomputable def tupBs:List PyData→Bool
 | []=>true
 | d::r=>tupB d && tupBs r
end
section
variable {K:PySem.W.Frag} {O:Addr→Prop} {H:Hp}
theorem TupAt.own (hm:∀ b,O b→Mut (H b)) {a:Addr} {vs:List V} (t:TupAt K (fun _=>False) H a vs):TupAt K O H a vs:=by
 rcases t with ⟨_,t⟩ | t
 ·refine .inl ⟨fun z=>?_,t⟩
  rcases hm a z with ⟨us,e⟩ | ⟨us,e⟩ | ⟨C,dx,us,e⟩ <;> rcases t with t | ⟨o,t⟩ <;> (rw [e] at t; cases t)
 ·exact .inr t
mutual
theorem Rep.own (hm:∀ b,O b→Mut (H b)):∀ {v:V} {d:PyData},Rep K (fun _=>False) H v d→tupB d=true→Rep K O H v d
 | _,_,.non,_=>.non
 | _,_,.bl b,_=>.bl b
 | _,_,.int i,_=>.int i
 | _,_,.str x,_=>.str x
 | _,_,.tup t r,h=>.tup (t.own hm) (Reps.own hm r (by simpa [tupB] using h))
 | _,_,.lst t r,h=>by simp [tupB] at h
 | _,_,.dct n t r,h=>by simp [tupB] at h
theorem Reps.own (hm:∀ b,O b→Mut (H b)):∀ {vs:List V} {ds:List PyData},Reps K (fun _=>False) H vs ds→tupBs ds=true→Reps K O H vs ds
 | _,_,.nil,_=>.nil
 | _,_,.cons (d:=d) (ds:=ds) r t,h=>by
  have h':(tupB d && tupBs ds)=true:=by simpa [tupBs] using h
  rw [Bool.and_eq_true] at h'
  exact .cons (Rep.own hm r h'.1) (Reps.own hm t h'.2)
end
end
noncomputable def noTp:List W→Bool
 | []=>true
 | .tp _::_=>false
 | .loc (.dict _)::_=>false
 | _::r=>noTp r
theorem lent {K:PySem.W.Frag} {O:Addr→Prop} {ts:List Addr} {H:Hp}:∀ {vs:List V} {ws:List W},RepWs K O ts H vs ws→noTp ws=true→RepWs K (fun _=>False) [] H vs (ws.map frzW)
 | _,[],.nil,_=>.nil
 | _,.d x::r,.cons h t,e=>.cons (show Rep K (fun _=>False) H _ x from Rep.mono (fun a o n e=>⟨fun z=>z,e⟩) h) (lent t e)
 | _,.tp _::_,.cons _ _,e=>by cases e
 | _,.loc x::r,.cons h t,e=>by
  have le:Le O H (fun _=>False) H:=fun a o n e=>⟨fun z=>z,e⟩
  obtain ⟨a,rfl,_,_,h3⟩:=h
  cases x with
  | list xs=>obtain ⟨vs,h1,h2⟩:=h3; exact .cons (.lst (.inl ⟨fun z=>z,.inl h1⟩) (h2.mono le)) (lent t e)
  | dict xs=>cases e
  | _=>cases h3
noncomputable def fCallF (m:FnM) (g:FA):FE:=fun ρ T=>bnd (g ρ T) fun ws T1=>if noTp ws=true then (match m (ws.map frzW) [] with
 | some (x,_)=>if tupB x=true then some (.d x,T1) else none
 | none=>none) else none
theorem de_callF {X:Cx} {name:Str} {ps:List Str} {k:Nat} {m:FnM} {e:Expr} {es:List Expr} {g:FA} {p pos:Pos} (F:Fn X.prog X.w X.K X.mg X.base name ps k (spM X.K ps.length m)) (hr:Room k X.A) (hg:Gl X name) (ha:DA X (e::es) g) (hl:LenA g ps.length) (hdb:(name == ("__debug__" : Str))=false:=by decide)
  (he:starEach (e::es) X.env=(false,eval e X.env)::starEach es X.env:=by exact star_cons rfl) (hpl:(backTo pos (starEach es X.env)).any (·.1)=false:=by exact star_any rfl):DE X (.Call (.Name name p) (e::es) [] pos) (fCallF m g):=by
 refine ⟨?_⟩
 refine pe_imp (pe_fn F hr hg ha.pe hdb he hpl) fun σ H Q=>?_
 rintro ⟨O,ts,ρ,T,w,T',hc,re,e,q⟩
 obtain ⟨ws,T1,e1,e⟩:=bnd_of e
 split at e
 ·rename_i hn
  split at e
  ·rename_i x T2 e2
   split at e
   ·rename_i hx
    cases e
    refine ⟨O,ts,ρ,T,ws,_,hc,re,e1,fun vs H1 s1 hc1 r1=>?_⟩
    refine ⟨fun _=>False,[],[],ws.map frzW,x,T2,⟨fun b hb=>(by cases hb),fun b hb=>hb.elim,List.nodup_nil,rfl,fun i a xs e1 _=>by simp at e1⟩,by rw [List.append_nil]; exact lent r1 hn,by rw [List.length_map]; exact hl _ _ _ _ e1,e2,fun v H2 s2 hc2 r2=>?_⟩
    have s2':SameX ts H1 H2:=fun b o _ q=>s2 b o (by simp) q
    have hm:∀ b,O b→Mut (H2 b):=fun b hb=>by
     exact (hc1.trk b hb).to fun u z=>s2 b _ (by simp) z
    have hc2':=hc1.step s2' fun b hb=>by
     obtain ⟨u,z⟩:=(hc1.trk b (hc1.own b hb)).ex
     rw [z]; exact s2 b _ (by simp) z
    exact q v H2 (s1.trans s2') hc2' (Rep.own hm r2 hx)
   ·cases e
  ·cases e
 ·cases e
noncomputable def keyAt (ds:List (PyData×PyData)) (s:Str):Option PyData:=match ds with
 | []=>none
 | (.str k,d)::r=>if k=s then some d else keyAt r s
 | _::r=>keyAt r s
theorem keyAt_of {K:PySem.W.Frag} {O:Addr→Prop} {H:Hp} {s:Str}:∀ {kvs:List (Key×V)} {ds:List (PyData×PyData)},RepK K O H kvs ds→(keyAt ds s=none∧valV kvs (Sum.inr s:Key)=none)∨∃ v d,keyAt ds s=some d∧valV kvs (Sum.inr s:Key)=some v∧Rep K O H v d
 | _,_,.nil=>.inl ⟨rfl,rfl⟩
 | _,_,.cons (k:=.inl i) (v:=v) (d:=d) (kvs:=kvs) (ds:=ds) r t=>by
  have e:valV (((Sum.inl i:Key),v)::kvs) (Sum.inr s:Key)=valV kvs (Sum.inr s:Key):=by simp [valV,List.find?_cons]
  rw [e]
  show (keyAt ds s=none∧_)∨∃ v d,keyAt ds s=some d∧_
  exact keyAt_of (s:=s) t
 | _,_,.cons (k:=.inr k) (v:=v) (d:=d) (kvs:=kvs) (ds:=ds) r t=>by
  by_cases hk:k=s
  ·subst hk
   exact .inr ⟨v,d,by show (if k=k then some d else keyAt ds k)=some d; rw [if_pos rfl],by simp [valV,List.find?_cons],r⟩
  ·have e:valV (((Sum.inr k:Key),v)::kvs) (Sum.inr s:Key)=valV kvs (Sum.inr s:Key):=by simp [valV,List.find?_cons,hk]
   have e2:keyAt ((keyD (Sum.inr k:Key),d)::ds) s=keyAt ds s:=by show (if k=s then some d else keyAt ds s)=_; rw [if_neg hk]
   rw [e,e2]
   exact keyAt_of (s:=s) t
theorem DGet.rd {H:Hp} {a:Addr} {kvs:List (Key×V)} {k:Key} (e:Rd H a (.dK kvs)):DGet H a (kV k) (valV kvs k):=.inl ⟨kvs,k,e,rfl,rfl⟩
section
variable {X:Cx} {pos:Pos} {k:Nat}
theorem hu_of {k:Nat} {A:Around} (hr:Room k A):A.units + 1 < cLine:=by have:=hr.un; omega
end
section
variable {K:PySem.W.Frag} {O₀:Addr→Prop} {H₀:Hp} {F:List ((Addr→Prop)×Hp)} {ts:List Addr} {O:Addr→Prop} {H H1:Hp} {σ:L2.St} {ρ:Rho} {T T1:Tp}
theorem RS.take {i:Nat} {p:Addr} {o:HO} {y:PyData} (r:RS K O₀ H₀ F ts O H σ ρ T) (oa:O p) (nt:p∉ts) (h0:H₀ p=none∧¬ O₀ p) (nh:∀ (j:Nat) (ys:PyData),ρ[j]? = some (some (W.loc ys))→σ[j]? = some (some (V.ref p))→False) (hm:Mut (some o)) (rv:Le O H O (upd H p o)→OwnAt K O (upd H p o) p y) :
  RS K O₀ H₀ F ts O (upd H p o) (σ.set i (some (.ref p))) (ρ.set i (some (.loc y))) T:=by
 have le:Le O H O (upd H p o):=fun b o n e=>⟨n,by rw [upd_ne (show b≠p from fun z=>n (by rw [z]; exact oa))]; exact e⟩
 have at_i:∀ {w:W},(ρ.set i (some w))[i]? = some (some w)∨(ρ.set i (some w))[i]? = none:=fun {w}=>by
  by_cases hl:i < ρ.length
  ·exact .inl (List.getElem?_set_self hl)
  ·exact .inr (List.getElem?_eq_none (by simp; omega))
 refine ⟨⟨r.hc.own,fun b hb=>?_,r.hc.nd,r.hc.len,fun j a ys e1 e2=>?_⟩,fun j w e=>?_,r.sub,r.ots,fun b o n e=>?_,fun j ys a e1 e2=>?_,fun j k ys zs v e1 e2 e3 e4=>?_,fun f hf=>(r.frs f hf).trans le,by simp [r.len]⟩
 ·by_cases z:b=p
  ·subst z; rw [upd_same]; exact hm
  ·rw [upd_ne z]; exact r.hc.trk b hb
 ·exact (r.hc.tape j a ys e1 e2).mono (fun o' h1=>by rw [upd_ne (show a≠p from fun z=>nt (by rw [← z]; exact List.mem_of_getElem? e1))]; exact h1) le
 ·by_cases z:i=j
  ·subst z
   have hl:i < ρ.length:=by
    have:=(List.getElem?_eq_some_iff.mp e).1
    simpa using this
   rw [List.getElem?_set_self hl] at e
   cases e
   exact ⟨.ref p,by rw [List.getElem?_set_self (by rw [r.len]; exact hl)],p,rfl,oa,nt,rv le⟩
  ·rw [List.getElem?_set_ne z] at e
   obtain ⟨x,h1,h2⟩:=r.re j w e
   refine ⟨x,by rw [List.getElem?_set_ne z]; exact h1,?_⟩
   cases w with
   | d x=>exact Rep.mono le h2
   | tp k=>exact h2
   | loc zs=>
    obtain ⟨b,eb,k1,k2,k3⟩:=h2
    have n:b≠p:=fun q=>nh j zs e (by rw [h1,eb,q])
    exact ⟨b,eb,k1,k2,k3.mono (fun o' q=>by rw [upd_ne n]; exact q) le⟩
 ·have:=r.same b o n e
  rw [upd_ne (show b≠p from fun z=>by rw [z,h0.1] at e; cases e)]
  exact this
 ·by_cases z:i=j
  ·subst z
   have hl:i < ρ.length:=by
    have:=(List.getElem?_eq_some_iff.mp e1).1
    simpa using this
   rw [List.getElem?_set_self (by rw [r.len]; exact hl)] at e2
   cases e2
   exact h0
  ·rw [List.getElem?_set_ne z] at e1 e2
   exact r.fresh j ys a e1 e2
 ·by_cases z:i=j
  ·by_cases z':i=k
   ·rw [← z,← z']
   ·exfalso
    subst z
    have hl:i < ρ.length:=by
     have:=(List.getElem?_eq_some_iff.mp e1).1
     simpa using this
    rw [List.getElem?_set_self (by rw [r.len]; exact hl)] at e3
    cases e3
    rw [List.getElem?_set_ne z'] at e2 e4
    exact nh k zs e2 e4
  ·by_cases z':i=k
   ·exfalso
    subst z'
    have hl:i < ρ.length:=by
     have:=(List.getElem?_eq_some_iff.mp e2).1
     simpa using this
    rw [List.getElem?_set_self (by rw [r.len]; exact hl)] at e4
    cases e4
    rw [List.getElem?_set_ne z] at e1 e3
    exact nh j ys e1 e3
   ·rw [List.getElem?_set_ne z] at e1 e3
    rw [List.getElem?_set_ne z'] at e2 e4
    exact r.dist j k ys zs v e1 e2 e3 e4
end
section
variable {X:Cx} {pos:Pos}
noncomputable def putKey (ds:List (PyData×PyData)) (s:Str) (x:PyData):List (PyData×PyData):=match ds with
 | []=>[]
 | (.str k,d)::r=>if k=s then (.str k,x)::putKey r s x else (.str k,d)::putKey r s x
 | p::r=>p::putKey r s x
theorem putKey_of {K:PySem.W.Frag} {O:Addr→Prop} {H:Hp} {s:Str} {v:V} {x:PyData} (rx:Rep K O H v x):∀ {kvs:List (Key×V)} {ds:List (PyData×PyData)},RepK K O H kvs ds→RepK K O H (kvs.map fun kv=>if kv.1=(Sum.inr s:Key) then (kv.1,v) else kv) (putKey ds s x)
 | _,_,.nil=>.nil
 | _,_,.cons (k:=.inl i) r t=>by
  rw [List.map_cons]
  rw [if_neg (by intro z; cases z)]
  exact .cons (k:=.inl i) r (putKey_of rx t)
 | _,_,.cons (k:=.inr k) (v:=u) (d:=d) (kvs:=kvs) (ds:=ds) r t=>by
  rw [List.map_cons]
  have ih:=putKey_of (s:=s) rx t
  show RepK K O H _ (if k=s then (.str k,x)::putKey ds s x else (.str k,d)::putKey ds s x)
  by_cases hk:k=s
  ·rw [if_pos hk,if_pos (by rw [hk])]
   exact .cons (k:=.inr k) rx ih
  ·rw [if_neg hk,if_neg (fun z=>hk (Sum.inr.inj z))]
   exact .cons (k:=.inr k) r ih
theorem repK_len {K:PySem.W.Frag} {O:Addr→Prop} {H:Hp}:∀ {kvs:List (Key×V)} {ds:List (PyData×PyData)},RepK K O H kvs ds→kvs.length=ds.length
 | _,_,.nil=>rfl
 | _,_,.cons _ t=>congrArg (· + 1) (repK_len t)
theorem any_of_val {kvs:List (Key×V)} {k:Key} (h:(valV kvs k).isSome=true):(kvs.any fun kv=>decide (kv.1=k))=true:=by
 unfold valV at h
 rw [Option.isSome_map] at h
 rw [List.any_eq_true]
 obtain ⟨p,hp⟩:=Option.isSome_iff_exists.mp h
 exact ⟨p,List.mem_of_find?_eq_some hp,by have:=List.find?_some hp; simpa using this⟩
end
end D
namespace D
open PySem PySem.Spec PyProof.Rows L2
section
variable {X:Cx} {pos:Pos} {e:Expr} {f:FE} {x:Str} {p:Pos} {B:List (Str×Str)}
end
end D
namespace D
open PySem PySem.Spec PyProof.Rows L2
noncomputable def lookP (f:Str):List PyData→Option PyData
 | .tuple [.str g,y]::r=>if g=f then some y else lookP f r
 | _=>none
noncomputable def objR (C:Addr):List PyData→Option (List PyData)
 | .dict [(.none,.int c)]::ps=>if c=(C:Int) then some ps else none
 | _=>none
noncomputable def objAt (C:Addr) (T:Tp) (n:Nat):Option (List PyData):=(T[n]?).bind (objR C)
section
variable {K:PySem.W.Frag} {O:Addr→Prop} {ts:List Addr} {H H':Hp} {T:Tp} {n:Nat} {a C:Addr} {ps:List PyData}
theorem objR_of {xs:List PyData} (h:objR C xs=some ps):xs=tagO C::ps:=by
 unfold objR at h
 split at h
 ·split at h
  ·rename_i hc
   cases h
   rw [hc]
   rfl
  ·cases h
 ·cases h
theorem objAt_of (h:objAt C T n=some ps):T[n]? = some (tagO C::ps):=by
 unfold objAt at h
 cases hT:T[n]? with
 | none=>rw [hT] at h; cases h
 | some xs=>
  rw [hT] at h
  have h':objR C xs=some ps:=h
  rw [objR_of h']
theorem HC.obj (c:HC K O ts H T) (e:ts[n]? = some a) (h:objAt C T n=some ps):∃ dx fs fd,H a=some (.ins C dx fs)∧ps=fd.map pairF∧RepF K O H fs fd:=by
 rcases c.tape n a _ e (objAt_of h) with ⟨no,_⟩ | ⟨C',dx,fs,fd,h1,h2,h3⟩
 ·cases no
 ·injection h2 with e1 e2
  have e3:(C:Int)=(C':Int):=by
   have z:PyData.dict [(.none,.int (C:Int))]=.dict [(.none,.int (C':Int))]:=e1
   injection z with z
   injection z with z _
   injection z with _ z
   injection z
  have e4:C=C':=by exact Int.ofNat.inj e3
  subst e4
  exact ⟨dx,fs,fd,h1,e2,h3⟩
theorem RepF.look {f:Str} {fs:List (Str×V)} {fd:List (Str×PyData)} (r:RepF K O H fs fd):(lookP f (fd.map pairF)=none∧fs.lookup f=none)∨∃ v y,lookP f (fd.map pairF)=some y∧fs.lookup f=some v∧Rep K O H v y:=by
 induction r with
 | nil=>exact .inl ⟨rfl,rfl⟩
 | cons r _ ih=>
  rename_i g v d vs ds _
  by_cases hg:g=f
  ·subst hg
   refine .inr ⟨v,d,?_,?_,r⟩
   ·show (if g=g then some d else _)=_
    rw [if_pos rfl]
   ·rw [List.lookup_cons,beq_self_eq_true]
  ·have e1:lookP f (((g,d)::ds).map pairF)=lookP f (ds.map pairF):=if_neg hg
   have e2:List.lookup f ((g,v)::vs)=List.lookup f vs:=by
    rw [List.lookup_cons,show (f == g)=false from beq_false_of_ne (Ne.symm hg)]
   rw [e1,e2]
   exact ih
noncomputable def putFD (f:Str) (y:PyData):List (Str×PyData)→List (Str×PyData)
 | []=>[(f,y)]
 | (g,x)::r=>if g=f then (g,y)::r else (g,x)::putFD f y r
theorem RepF.put {f:Str} {v:V} {y:PyData} (ry:Rep K O H v y) {fs:List (Str×V)} {fd:List (Str×PyData)} (r:RepF K O H fs fd):RepF K O H (putF f v fs) (putFD f y fd):=by
 induction r with
 | nil=>exact .cons ry .nil
 | cons r t ih=>
  rename_i g v' d vs ds
  unfold putF putFD
  by_cases hg:g=f
  ·rw [if_pos hg,if_pos hg]
   exact .cons ry t
  ·rw [if_neg hg,if_neg hg]
   exact .cons r ih
end
section
variable {X:Cx} {C:Addr} {o e:Expr} {f m:Str} {pos pos' apos:Pos} {fo fe:FE}
structure Mth (P:Program) (w:World) (K:PySem.W.Frag) (mg:Str→Option Value) (base:Heap) (C:Addr) (m:Str) (ps:List Str) (k:Nat) (sp:Sp):Prop where
 ex:∃ f fd,FnOk P w K mg base CX0 k f fd ps sp∧Binds K fd ps []∧Meth K C m f
theorem Mth.mono {P:Program} {w:World} {K:PySem.W.Frag} {mg:Str→Option Value} {base:Heap} {ps:List Str} {k k':Nat} {sp:Sp} (F:Mth P w K mg base C m ps k sp) (h:k≤k'):Mth P w K mg base C m ps k' sp:=by
 obtain ⟨f,fd,h1,h2⟩:=F.ex
 exact ⟨f,fd,h1.mono h,h2⟩
variable {ps:List Str} {k:Nat} {mm:FnM} {g:FA} {es:List Expr} {pl:Sem Bool}
noncomputable def fNone:FS:=fun _ _=>none
theorem ds_none {st:Stmt}:DS X st fNone:=⟨fun _ _ _ _ _ _ h=>by
 obtain ⟨O₀,H₀,F,ts,O,ρ,T,fl,ρ',T',rs,e,q⟩:=h
 cases e⟩
end
end D
namespace D
open PySem PySem.Spec PyProof.Rows L2
section
variable {X:Cx} {C f:Addr} {e:Expr} {fe:FE} {fr:FS} {rest:List Stmt} {cn x:Str} {p pos pos' cpos:Pos} {ps:List Str} {k i:Nat} {m:FnM} {fd:FuncData}
end
end D
namespace L2
open PySem PySem.Spec PyProof.Rows
section
variable {X:Cx}
end
end L2
namespace D
open PySem PySem.Spec PyProof.Rows L2
section
variable {X:Cx} {pos:Pos}
structure Ini (P:Program) (w:World) (K:PySem.W.Frag) (mg:Str→Option Value) (base:Heap) (C:Addr) (ps:List Str) (k:Nat) (sp:Sp):Prop where
 ex:∃ f fd,FnOk P w K mg base CX0 k f fd ps sp∧L2.Binds K fd ps []∧Mk K C f
noncomputable def clsB (K:PySem.W.Frag) (C:Addr):Bool:=PySem.W.plainGet K C Str.empty && PySem.W.hasDictIn K C && PySem.W.plainOver K C && (match PySem.W.findIn K (.ref C) "__setattr__" with
 | some (some (.builtin s))=>s == "object.__setattr__"
 | _=>false)
theorem clsB_of {K:PySem.W.Frag} {C:Addr} (h:clsB K C=true):Cls K C:=by
 unfold clsB at h
 rw [Bool.and_eq_true,Bool.and_eq_true,Bool.and_eq_true] at h
 obtain ⟨⟨⟨h1,h2⟩,h3⟩,h4⟩:=h
 refine ⟨h1,h2,h3,?_⟩
 split at h4
 ·rename_i s e
  rw [e,beq_iff_eq.mp h4]
 ·cases h4
noncomputable def noB (K:PySem.W.Frag) (C:Addr) (f:Str):Bool:=match PySem.W.findIn K (.ref C) f with
 | some none=>true
 | _=>false
theorem noB_of {K:PySem.W.Frag} {C:Addr} {f:Str} (h:noB K C f=true):NoAttr K C f:=by
 unfold noB at h
 split at h
 ·rename_i e
  exact e
 ·cases h
noncomputable def mkB (K:PySem.W.Frag) (C:Addr):Bool:=PySem.W.makesIn K C && PySem.W.keepIn K (.ref C)
structure DfM (K:PySem.W.Frag) (C:Addr) (name qual:Str) (st:Stmt):Prop where
 ex:∃ (f:Addr) (oc:Value) (od an:Option Addr) (sl:Array (Option Value)) (kV dc pm cd ct:Value),PySem.W.findIn K (.ref C) name=some (some (.ref f)) ∧
  K.lookup f=some ⟨oc,od,.func (PySem.W.fnOf name qual (defArgs st) (defBody st) (defScope st) .none kV dc pm an cd ct),sl⟩∧PySem.W.codeIn K cd qual=true∧PySem.W.keepIn K (.ref f)=true∧PySem.W.isFn K (.ref f)=true
theorem dfm_mk {K:PySem.W.Frag} {C:Addr} {name qual:Str} {st:Stmt} {f:Addr} {oc:Value} {od an:Option Addr} {sl:Array (Option Value)} {kV dc pm cd ct:Value} (a:PySem.W.findIn K (.ref C) name=some (some (.ref f)))
  (l:K.lookup f=some ⟨oc,od,.func (PySem.W.fnOf name qual (defArgs st) (defBody st) (defScope st) .none kV dc pm an cd ct),sl⟩) (c:PySem.W.codeIn K cd qual=true) (k:PySem.W.keepIn K (.ref f)=true) (n:PySem.W.isFn K (.ref f)=true):DfM K C name qual st:=
 ⟨f,oc,od,an,sl,kV,dc,pm,cd,ct,a,l,c,k,n⟩
theorem DfM.mth {P:Program} {w:World} {K:PySem.W.Frag} {mg:Str→Option Value} {base:Heap} {C:Addr} {name qual:Str} {st:Stmt} {ps:List Str} {k:Nat} {sp:Sp} (d:DfM K C name qual st)
  (hb:∀ (kV doc pm:Value) (an:Option Addr) (cdv ct:Value) (us:List Value),us.length=ps.length→bindArgs (PySem.W.fnOf name qual (defArgs st) (defBody st) (defScope st) .none kV doc pm an cdv ct) ⟨us,[]⟩=pure (ps.zip us))
  (ok:∀ f fd,Fun K name qual st f fd→FnOk P w K mg base CX0 k f fd ps sp):Mth P w K mg base C name ps k sp:=by
 obtain ⟨f,oc,od,an,sl,kV,dc,pm,cd,ct,a,l,c,kp,fn⟩:=d.ex
 have F:=fun_mk (st:=st) l c kp
 exact ⟨f,_,ok f _ F,F.binds hb,⟨a,fn,kp⟩⟩
theorem DfM.ini {P:Program} {w:World} {K:PySem.W.Frag} {mg:Str→Option Value} {base:Heap} {C:Addr} {qual:Str} {st:Stmt} {ps:List Str} {k:Nat} {sp:Sp} (d:DfM K C "__init__" qual st) (m:mkB K C=true)
  (hb:∀ (kV doc pm:Value) (an:Option Addr) (cdv ct:Value) (us:List Value),us.length=ps.length→bindArgs (PySem.W.fnOf "__init__" qual (defArgs st) (defBody st) (defScope st) .none kV doc pm an cdv ct) ⟨us,[]⟩=pure (ps.zip us))
  (ok:∀ f fd,Fun K "__init__" qual st f fd→FnOk P w K mg base CX0 k f fd ps sp):Ini P w K mg base C ps k sp:=by
 obtain ⟨f,oc,od,an,sl,kV,dc,pm,cd,ct,a,l,c,kp,fn⟩:=d.ex
 have F:=fun_mk (st:=st) l c kp
 unfold mkB at m
 rw [Bool.and_eq_true] at m
 exact ⟨f,_,ok f _ F,F.binds hb,⟨m.1,a,fn,m.2⟩⟩
end
end D
namespace D
open PySem PySem.Spec PyProof.Rows L2
section
variable {X:Cx} {pos:Pos}
end
section
variable {X:Cx} {pos:Pos}
end
end D
namespace D
open PySem PySem.Spec PyProof.Rows L2
section
variable {X:Cx}
theorem op_dnotin {k:Nat} (hr:Room k X.A):OpR X (compareOp .NotIn) (fun x y H Q=>∃ a kvs s,x=.str s∧y=.ref a∧Rd H a (.dK kvs)∧Q (.bl (!(valV kvs (Sum.inr s:Key)).isSome)) H):=by
 intro pins s σ H x y v u Q I rx ry h
 obtain ⟨a,kvs,z,rfl,rfl,e,q⟩:=h
 cases (show u=Value.ref a from ry)
 exact d_notIn (hu_of hr) I (DGet.rd (k:=Sum.inr z) e) (show RelV (kV (Sum.inr z)) v from rx) fun s' I'=>⟨.bl _,H,I',rfl,q⟩
theorem ix_dct {k:Nat} (hr:Room k X.A):IxR X (fun x y H Q=>∃ a kvs s v,x=.ref a∧y=.str s∧Rd H a (.dK kvs)∧valV kvs (Sum.inr s:Key)=some v∧Q v H):=by
 intro value slice pins s σ H x y v u Q I rx ry h hs
 obtain ⟨a,kvs,z,v0,rfl,rfl,e,l,q⟩:=h
 cases (show v=Value.ref a from rx)
 have g:DGet H a (kV (Sum.inr z)) (some v0):=by rw [← l]; exact DGet.rd e
 unfold subscriptTail
 refine wpAny_bind ?_
 rw [getitemInPython_of_ne (dict_typeIs I g).not_modules]
 refine wpAny_bind (wpAny_specialOf (dict_typeIs I g) PySem.F.slot_dict_getitem.lookup ?_)
 have fin:wpAny (model X.prog X.w) X.A (subscripted slice false (Value.ref a) u) (fun r s₃=>wpAny (model X.prog X.w) X.A (letTemporaryGo value (Value.ref a) r >>= fun _=>pure r) (EP X pins σ Q) X.xe s₃) X.xe s:=by
  rw [hs]
  exact wpAny_operating (d_getItem (hu_of hr) I g (show RelV (kV (Sum.inr z)) u from ry) fun w' s' I' rw'=>wpAny_bind (wpAny_letTemporaryGo (wpAny_pure ⟨v0,H,I',rw',q⟩)))
 first
  | exact wpAny_pure (wpAny_bind fin)
  | exact wpAny_bind (wpAny_pure (wpAny_bind fin))
  | exact wpAny_bind fin
noncomputable def notInB (x y:PyData):Option PyData:=match x,y with
 | .str s,.dict ds=>some (.bool (!(keyAt ds s).isSome))
 | _,.dict _=>none
 | x,y=>(inS x y).map fun b=>.bool (!b)
theorem o_notinA {k:Nat} (hr:Room k X.A):OpD X (compareOp .NotIn) notInB:=⟨_,(op_notin_str.or op_notIn_seq).or (op_dnotin hr),fun O ts H T v1 v2 x y d Q hc h1 h2 e q=>by
 by_cases hd:∃ ds,y=.dict ds
 ·obtain ⟨ds,rfl⟩:=hd
  obtain ⟨a,kvs,rfl,t,r⟩:=h2.dct
  cases x with
  | str s=>
   cases e
   cases h1.str
   refine .inr ⟨a,kvs,s,rfl,rfl,t,?_⟩
   have e:(valV kvs (Sum.inr s:Key)).isSome=(keyAt ds s).isSome:=by
    rcases keyAt_of (s:=s) r with ⟨z1,z2⟩ | ⟨v,d,z1,z2,_⟩ <;> rw [z1,z2] <;> rfl
   rw [e]
   exact q _ H (.refl _ _) hc (.bl _)
  | _=>cases e
 ·have e':((inS x y).map fun b=>.bool (!b))=some d:=by
   cases y with
   | dict ds=>exact absurd ⟨ds,rfl⟩ hd
   | _=>cases x <;> exact e
  exact .inl (snd_in true O ts H T v1 v2 x y d Q hc h1 h2 e' q)⟩
noncomputable def ixA (x y:PyData):Option PyData:=match x,y with
 | .dict ds,.str s=>keyAt ds s
 | .dict _,_=>none
 | x,y=>ixD x y
theorem x_any {k:Nat} (hr:Room k X.A):IxD X ixA:=by
 obtain ⟨r0,h0,s0⟩:=x_seq (X:=X)
 refine ⟨_,h0.or (ix_dct hr),fun O ts H T v1 v2 x y d Q hc h1 h2 e q=>?_⟩
 by_cases hd:∃ ds,x=.dict ds
 ·obtain ⟨ds,rfl⟩:=hd
  obtain ⟨a,kvs,rfl,t,r⟩:=h1.dct
  cases y with
  | str s=>
   have e':keyAt ds s=some d:=e
   cases h2.str
   rcases keyAt_of (s:=s) r with ⟨z1,z2⟩ | ⟨v,d',z1,z2,rv⟩
   ·rw [z1] at e'; cases e'
   ·rw [z1] at e'
    cases e'
    exact .inr ⟨a,kvs,s,v,rfl,rfl,t,z2,q _ H (.refl _ _) hc rv⟩
  | _=>cases e
 ·refine .inl (s0 O ts H T v1 v2 x y d Q hc h1 h2 ?_ q)
  cases x with
  | dict ds=>exact absurd ⟨ds,rfl⟩ hd
  | _=>exact e
end
end D
namespace D
open PySem PySem.Spec PyProof.Rows L2
section
variable {X:Cx} {pins:List (Addr×Obj)} {σ:L2.St} {H H2:Hp} {s s2:Shared}
theorem inv_thaw (I:Inv X pins σ H s) {a:Addr} {kvs:List (Key×V)} {o:Obj} (e:H a=some (.dK kvs)) (I2:Inv X pins σ H2 s2) (e2:H2 a=some (.frz o (.dK kvs))):Inv X pins σ (upd H2 a (.dK kvs)) s2:=by
 have U:∀ {b:Addr} {u:HO},H2 b=some u→(∀ o ks,u≠.frz o ks)→upd H2 a (.dK kvs) b=some u:=fun {b u} q n=>by
  rw [upd_ne (fun z=>by subst z; rw [e2] at q; cases q; exact n _ _ rfl)]
  exact q
 have N:∀ {b:Addr},H2 b=none→upd H2 a (.dK kvs) b=none:=fun {b} q=>by
  rw [upd_ne (fun z=>by subst z; rw [e2] at q; cases q)]
  exact q
 have hok:HOk X.prog X.w (upd H2 a (.dK kvs)) s2.heap:=fun b u q=>by
  by_cases hb:b=a
  ·subst hb
   rw [upd_same] at q
   cases q
   exact ObjOk.stay (I2.hok b _ e2).2 (fun _ _ _ q=>q) (fun c q=>U q (fun _ _ z=>nomatch z)) fun c xs q=>U q (fun _ _ z=>nomatch z)
  ·rw [upd_ne hb] at q
   exact (I2.hok b u q).stay (fun _ _ _ q=>q) (fun c q=>U q (fun _ _ z=>nomatch z)) fun c xs q=>U q (fun _ _ z=>nomatch z)
 refine ⟨I2.ok,I2.os,I2.bare,⟨I2.base.keep,I2.base.slot,fun b ob q n hx=>N (I2.base.free b ob q n hx),I2.base.there,fun b xs q=>U (I2.base.tups b xs q) (fun _ _ z=>nomatch z),fun b ob u q=>?_,fun b ps q=>?_⟩,I2.loc,I2.cell,N I2.free,fun x c q=>N (I2.freeC x c q),fun p hp=>?_,hok,I2.len⟩
 ·have h1:=I.base.frzs b ob u q
  rw [upd_ne (fun z=>by subst z; rw [e] at h1; cases h1)]
  exact I2.base.frzs b ob u q
 ·obtain ⟨more,h1⟩:=I2.base.tbls b ps q
  exact ⟨more,U h1 (fun _ _ z=>nomatch z)⟩
 ·obtain ⟨k1,k2,k3⟩:=I2.pin p hp
  exact ⟨k1,N k2,k3⟩
end
inductive Ln (P:Hp→VK→Prop):Hp→VK→Prop where
 | done {H:Hp} {Q:VK}:P H Q→Ln P H Q
 | frz {H:Hp} {Q:VK} {a:Addr} {kvs:List (Key×V)}:H a=some (.dK kvs)→(∀ o,Ln P (upd H a (.frz o (.dK kvs))) (fun v H2=>H2 a=some (.frz o (.dK kvs))∧Q v (upd H2 a (.dK kvs))))→Ln P H Q
theorem pe_ln {X:Cx} {e:Expr} {t:TE} (h:PE X e t):PE X e (fun σ H Q=>Ln (t σ) H Q):=fun pins s σ H Q I q=>by
 have key:∀ {H:Hp} {Q:VK},Ln (t σ) H Q→Inv X pins σ H s→wpAny (model X.prog X.w) X.A (eval e X.env) (EP X pins σ Q) X.xe s:=by
  intro H Q q
  induction q with
  | done q=>exact fun I=>h pins s σ _ _ I q
  | frz ea _ ih=>
   intro I
   obtain ⟨o,I'⟩:=inv_frz I ea
   refine thn (ih o I') fun u s' ⟨v,H2,I2,r,e2,q2⟩=>?_
   exact ⟨v,_,inv_thaw I ea I2 e2,r,q2⟩
 exact key q I
section
variable {K:PySem.W.Frag}
theorem TupAt.keep {H H':Hp} (h:∀ b o,H b=some o→(∀ ks,o≠.dK ks)→(∀ ob ks,o≠.frz ob (.dK ks))→H' b=some o) {a:Addr} {vs:List V} (t:TupAt K (fun _=>False) H a vs):TupAt K (fun _=>False) H' a vs:=by
 rcases t with ⟨n,t | ⟨o,t⟩⟩ | t
 ·exact .inl ⟨n,.inl (h _ _ t (fun _ z=>nomatch z) (fun _ _ z=>nomatch z))⟩
 ·exact .inl ⟨n,.inr ⟨o,h _ _ t (fun _ z=>nomatch z) (fun _ _ z=>nomatch z)⟩⟩
 ·exact .inr t
mutual
theorem Rep.keep {H H':Hp} (h:∀ b o,H b=some o→(∀ ks,o≠.dK ks)→(∀ ob ks,o≠.frz ob (.dK ks))→H' b=some o):∀ {v:V} {d:PyData},Rep K (fun _=>False) H v d→tupB d=true→Rep K (fun _=>False) H' v d
 | _,_,.non,_=>.non
 | _,_,.bl b,_=>.bl b
 | _,_,.int i,_=>.int i
 | _,_,.str x,_=>.str x
 | _,_,.tup t r,e=>.tup (t.keep h) (Reps.keep h r (by simpa [tupB] using e))
 | _,_,.lst t r,e=>by simp [tupB] at e
 | _,_,.dct n t r,e=>by simp [tupB] at e
theorem Reps.keep {H H':Hp} (h:∀ b o,H b=some o→(∀ ks,o≠.dK ks)→(∀ ob ks,o≠.frz ob (.dK ks))→H' b=some o):∀ {vs:List V} {ds:List PyData},Reps K (fun _=>False) H vs ds→tupBs ds=true→Reps K (fun _=>False) H' vs ds
 | _,_,.nil,_=>.nil
 | _,_,.cons (d:=d) (ds:=ds) r t,e=>by
  have e':(tupB d && tupBs ds)=true:=by simpa [tupBs] using e
  rw [Bool.and_eq_true] at e'
  exact .cons (Rep.keep h r e'.1) (Reps.keep h t e'.2)
end
end
noncomputable def lendW:W→Option W
 | .d x=>some (.d x)
 | .loc x=>some (.d x)
 | .tp _=>none
noncomputable def lendR (ρ:Rho):Rho:=ρ.map fun o=>o.bind lendW
noncomputable def Fz (O:Addr→Prop) (H0 H:Hp):Prop:=∀ b,H b=H0 b∨∃ kvs o,O b∧H0 b=some (.dK kvs)∧H b=some (.frz o (.dK kvs))
section
variable {K:PySem.W.Frag} {O:Addr→Prop} {ts:List Addr} {H0 H:Hp} {T:Tp} {σ:L2.St} {ρ:Rho}
theorem lend_fin (re:RelE K O ts H0 σ ρ) (fz:Fz O H0 H) (all:∀ (j:Nat) (a:Addr) (ds:List (PyData×PyData)),ρ[j]? = some (some (.loc (.dict ds)))→σ[j]? = some (some (.ref a))→∃ o kvs,H a=some (.frz o (.dK kvs))):RelE K (fun _=>False) [] H σ (lendR ρ):=by
 have le:Le O H0 (fun _=>False) H:=fun b o n e=>⟨fun z=>z,by
  rcases fz b with q | ⟨_,_,q,_,_⟩
  ·rw [q]; exact e
  ·exact absurd q n⟩
 intro i w e
 unfold lendR at e
 rw [List.getElem?_map] at e
 cases hu:ρ[i]? with
 | none=>rw [hu] at e; cases e
 | some u=>
  cases u with
  | none=>rw [hu] at e; cases e
  | some u=>
   rw [hu] at e
   have e':lendW u=some w:=Option.some.inj e
   obtain ⟨v,h1,h2⟩:=re i u hu
   cases u with
   | d x=>cases e'; exact ⟨v,h1,Rep.mono le h2⟩
   | tp k=>cases e'
   | loc x=>
    cases e'
    obtain ⟨a,rfl,k1,k2,k3⟩:=h2
    refine ⟨_,h1,?_⟩
    cases x with
    | list xs=>
     obtain ⟨vs,k3,k4⟩:=k3
     refine .lst (.inl ⟨fun z=>z,.inl ?_⟩) (k4.mono le)
     rcases fz a with q | ⟨_,_,_,q,_⟩
     ·rw [q]; exact k3
     ·rw [k3] at q; cases q
    | dict ds=>
     obtain ⟨kvs,k3,k4⟩:=k3
     obtain ⟨o,kvs',h3⟩:=all i a ds hu h1
     rcases fz a with q | ⟨kvs2,o2,_,q,q2⟩
     ·rw [q,k3] at h3; cases h3
     ·rw [k3] at q
      cases q
      exact .dct (fun z=>z) q2 (k4.mono le)
    | _=>cases k3
theorem lend_go {P:Hp→VK→Prop} {x:PyData} (hx:tupB x=true) (re:RelE K O ts H0 σ ρ) (fin:∀ H Q,RelE K (fun _=>False) [] H σ (lendR ρ)→(∀ v H2,SameX [] H H2→Rep K (fun _=>False) H2 v x→Q v H2)→P H Q):∀ (k:Nat) {H:Hp} {Q:VK},Fz O H0 H →
  (∀ (j:Nat) (a:Addr) (ds:List (PyData×PyData)),k≤j→ρ[j]? = some (some (.loc (.dict ds)))→σ[j]? = some (some (.ref a))→∃ o kvs,H a=some (.frz o (.dK kvs)))→(∀ v H2,SameX [] H H2→Rep K (fun _=>False) H2 v x→Q v H2)→Ln P H Q
 | 0,H,Q,fz,all,q=>.done (fin H Q (lend_fin re fz fun j a ds=>all j a ds (Nat.zero_le _)) q)
 | k + 1,H,Q,fz,all,q=>by
  by_cases h:∃ ds,ρ[k]? = some (some (.loc (.dict ds)))
  ·obtain ⟨ds,h⟩:=h
   obtain ⟨v,h1,a,rfl,k1,k2,kvs,k3,k4⟩:=re k _ h
   rcases fz a with z | ⟨kvs2,o2,_,z,z2⟩
   ·rw [k3] at z
    refine .frz z fun o=>lend_go hx re fin k (fun b=>?_) (fun j b es hj e1 e2=>?_) (fun v H2 s2 r=>?_)
    ·by_cases hb:b=a
     ·subst hb; exact .inr ⟨kvs,o,k1,k3,upd_same⟩
     ·rw [upd_ne hb]; exact fz b
    ·by_cases hb:b=a
     ·subst hb; exact ⟨o,kvs,upd_same⟩
     ·rw [upd_ne hb]
      by_cases hk:k=j
      ·subst hk; rw [h1] at e2; cases e2; exact absurd rfl hb
      ·exact all j b es (by omega) e1 e2
    ·have ha:H2 a=some (.frz o (.dK kvs)):=s2 a _ (by simp) upd_same
     refine ⟨ha,q v _ (fun b ob _ e=>?_) (Rep.keep (fun b ob e n1 n2=>?_) r hx)⟩
     ·by_cases hb:b=a
      ·subst hb; rw [z] at e; cases e; exact upd_same
      ·rw [upd_ne hb]
       exact s2 b ob (by simp) (by rw [upd_ne hb]; exact e)
     ·have hb:b≠a:=fun z=>by subst z; rw [ha] at e; cases e; exact n2 _ _ rfl
      rw [upd_ne hb]
      exact e
   ·refine lend_go hx re fin k fz (fun j b es hj e1 e2=>?_) q
    by_cases hk:k=j
    ·subst hk; rw [h1] at e2; cases e2; exact ⟨o2,kvs2,z2⟩
    ·exact all j b es (by omega) e1 e2
  ·refine lend_go hx re fin k fz (fun j b es hj e1 e2=>?_) q
   by_cases hk:k=j
   ·subst hk; exact absurd ⟨es,e1⟩ h
   ·exact all j b es (by omega) e1 e2
end
noncomputable def lendK (T:Tp) (o:Option (W×Tp)):Option (W×Tp):=match o with
 | some (.d x,_)=>if tupB x=true then some (.d x,T) else none
 | _=>none
noncomputable def fLend (f:FE):FE:=fun ρ T=>lendK T (f (lendR ρ) [])
theorem de_lend {X:Cx} {e:Expr} {f:FE} (he:DE X e f):DE X e (fLend f):=by
 refine ⟨pe_imp (pe_ln he.pe) fun σ H Q=>?_⟩
 rintro ⟨O,ts,ρ,T,w,T',hc,re,e,q⟩
 unfold fLend lendK at e
 split at e
 ·rename_i x T1 h1
  split at e
  ·rename_i hx
   cases e
   refine lend_go hx re (fun H1 Q1 re1 q1=>⟨fun _=>False,[],lendR ρ,[],.d x,T1,⟨fun b hb=>(by cases hb),fun b hb=>hb.elim,List.nodup_nil,rfl,fun i a xs e1 _=>by simp at e1⟩,re1,h1,fun v H2 s2 _ r2=>q1 v H2 s2 r2⟩) ρ.length (fun b=>.inl rfl) (fun j a ds hj e1 _=>?_) (fun v H2 s2 r2=>?_)
   ·rw [List.getElem?_eq_none hj] at e1; cases e1
   ·have s2':SameX ts H H2:=fun b o _ q=>s2 b o (by simp) q
    have hm:∀ b,O b→Mut (H2 b):=fun b hb=>(hc.trk b hb).to fun u z=>s2 b _ (by simp) z
    have hc2:=hc.step s2' fun b hb=>by
     obtain ⟨u,z⟩:=(hc.trk b (hc.own b hb)).ex
     rw [z]; exact s2 b _ (by simp) z
    exact q v H2 s2' hc2 (Rep.own hm r2 hx)
  ·cases e
 ·cases e
end D
namespace D
open PySem PySem.Spec PyProof.Rows L2
section
variable {X:Cx} {pos:Pos} {e:Expr} {fe:FE}
noncomputable def fSetE (i:Nat):FS:=fun ρ T=>some ((.nx,ρ.set i (some (.loc (.dict [])))),T)
theorem ds_setE {i:Nat} {x:Str} {pos' dpos:Pos} (hN:X.N.Nodup) (hi:X.N[i]? = some x:=by rfl) (hx:Loc X.env.scope x:=by first | exact Or.inl rfl | exact Or.inr rfl)
  (hs:swapsWith (.Dict [] [] dpos) (some (.Name x pos')) pos.line X.env=pure false:=by rfl) (hf:X.fn x=true∨X.env.scope.names.lookup x=some .local:=by first | exact .inl rfl | exact .inr rfl | assumption):DS X (.Assign [.Name x pos'] (.Dict [] [] dpos) pos) (fSetE i):=by
 refine ⟨?_⟩
 refine ps_imp (ps_set hN hi hx pe_dnewK hs hf) fun D σ H=>?_
 rintro ⟨O₀,H₀,F,ts,O,ρ,T,fl,ρ',T',rs,e,q⟩
 cases e
 intro p hp
 exact q _ _ _ (rs.ownO hp (.inr (.inl ⟨_,rfl⟩)) fun le=>⟨[],upd_same,.nil⟩)
noncomputable def putN (ds:List (PyData×PyData)) (s:Str) (x:PyData):List (PyData×PyData):=if (keyAt ds s).isSome=true then putKey ds s x else ds++[(.str s,x)]
theorem RepK.app {K:PySem.W.Frag} {O:Addr→Prop} {H:Hp} {s:Str} {v:V} {x:PyData} (rx:Rep K O H v x):∀ {kvs:List (Key×V)} {ds:List (PyData×PyData)},RepK K O H kvs ds→RepK K O H (kvs++[(Sum.inr s,v)]) (ds++[(.str s,x)])
 | _,_,.nil=>.cons (k:=Sum.inr s) rx .nil
 | _,_,.cons r t=>.cons r (RepK.app rx t)
theorem putN_of {K:PySem.W.Frag} {O:Addr→Prop} {H:Hp} {s:Str} {v:V} {x:PyData} (rx:Rep K O H v x) {kvs:List (Key×V)} {ds:List (PyData×PyData)} (r:RepK K O H kvs ds):RepK K O H (putK kvs (Sum.inr s) v) (putN ds s x):=by
 unfold putN
 rcases keyAt_of (s:=s) r with ⟨z1,z2⟩ | ⟨v',d',z1,z2,_⟩
 ·rw [z1,if_neg (by simp),putK_new v z2]
  exact r.app rx
 ·rw [z1,if_pos (show (some d').isSome=true by rfl)]
  have hany:(kvs.any fun kv=>decide (kv.1=(Sum.inr s:Key)))=true:=any_of_val (by rw [z2]; rfl)
  unfold putK
  rw [if_pos hany]
  exact putKey_of rx r
noncomputable def putNK (i:Nat) (ρ:Rho) (ds:List (PyData×PyData)) (w k:W) (T:Tp):Option ((Fl×Rho)×Tp):=match w,k with
 | .d x,.d (.str s)=>if ds.length≤1000 then some ((.nx,ρ.set i (some (.loc (.dict (putN ds s x))))),T) else none
 | _,_=>none
noncomputable def putNO (i:Nat) (fk:FE) (ρ:Rho) (w:W) (T:Tp) (o:Option (Option W)):Option ((Fl×Rho)×Tp):=match o with
 | some (some (.loc (.dict ds)))=>bnd (fk ρ T) (putNK i ρ ds w)
 | _=>none
noncomputable def fPutN (i:Nat) (fk fv:FE):FS:=fun ρ T=>bnd (fv ρ T) fun w T1=>putNO i fk ρ w T1 ρ[i]?
theorem ds_putN {i:Nat} {x:Str} {kx:Expr} {fk fv:FE} {p pos':Pos} {k:Nat} (hr:Room k X.A) (hk:DE X kx fk) (he:DE X e fv) (hN:X.N[i]? = some x:=by rfl) (hv:Vis X.env.scope x:=by first | exact Or.inl rfl | exact Or.inr (Or.inl rfl) | exact Or.inr (Or.inr rfl)) (hd:(x == ("__debug__" : Str))=false:=by decide)
  (hcd:(x == ("__classdict__" : Str))=false:=by decide) (hs:swapsWith e (some (.Subscript (.Name x p) kx pos')) pos.line X.env=pure false:=by rfl):DS X (.Assign [.Subscript (.Name x p) kx pos'] e pos) (fPutN i fk fv):=by
 refine ⟨?_⟩
 refine ps_imp (ps_dput (hu_of hr) (pv i hN hv hd hcd) hk.pe he.pe hs) fun D σ H=>?_
 rintro ⟨O₀,H₀,F,ts,O,ρ,T,fl,ρ',T',rs,e,q⟩
 obtain ⟨w,T1,e1,e⟩:=bnd_of e
 refine ⟨O,ts,ρ,T,w,T1,rs.hc,rs.re,e1,fun v H1 s1 hc1 r1=>?_⟩
 have rs1:=rs.step s1 hc1
 unfold putNO at e
 split at e
 ·rename_i ds c3
  obtain ⟨wk,T3,e3,e⟩:=bnd_of e
  unfold putNK at e
  split at e
  ·rename_i xv s _
   split at e
   ·rename_i c2
    cases e
    obtain ⟨u,k1,a,rfl,k2,k3,kvs,k4,k5⟩:=rs1.re i _ c3
    refine ⟨_,k1,O,ts,ρ,T1,_,_,rs1.hc,rs1.re,e3,fun y H3 s3 hc3 r3=>?_⟩
    have rs3:=rs1.step s3 hc3
    cases (show Rep X.K O H3 y (.str s) from r3)
    have k4':H3 a=some (.dK kvs):=s3 _ _ k3 k4
    have k5':RepK X.K O H3 kvs ds:=k5.mono (hc1.le s3)
    have hlen:kvs.length < sizeLine:=by
     rw [repK_len k5']
     exact Nat.lt_of_le_of_lt c2 (by decide)
    have rx:Rep X.K O H3 v xv:=RepW.mono (w:=.d xv) r1 hc1 s3
    refine ⟨a,_,rfl,DPut.k (k:=(Sum.inr s:Key)) k4' hlen,?_⟩
    exact q O σ _ (rs3.putO c3 k1 (.inr (.inl ⟨_,rfl⟩)) fun le=>⟨_,upd_same,putN_of (Rep.mono le rx) (k5'.mono le)⟩)
   ·cases e
  ·cases e
 ·cases e
end
section
variable {K:PySem.W.Frag} {O₀:Addr→Prop} {H₀:Hp} {F:List ((Addr→Prop)×Hp)} {ts:List Addr} {O:Addr→Prop} {H:Hp} {σ:L2.St} {ρ:Rho} {T:Tp}
end
section
variable {X:Cx} {pos:Pos} {rest:List Stmt} {fr:FS}
end
end D
namespace D
open PySem PySem.Spec PyProof.Rows L2
end D
namespace D
open PySem PySem.Spec PyProof.Rows L2
section
variable {X:Cx} {pos:Pos}
end
end D
namespace D
open PySem PySem.Spec PyProof.Rows L2
section
variable {X:Cx}
end
end D
namespace D
open PySem PySem.Spec PyProof.Rows L2
noncomputable def shrD:PyData→PyData→Option PyData:=iop fun i j=>if 0≤j then some (.int (i / 2 ^ j.toNat)) else none
theorem o_shr {X:Cx}:OpD X (binaryOp .RShift) shrD:=⟨_,op_shr,snd_rI fun i j d e=>by
 have e':(if 0≤j then some (PyData.int (i / 2 ^ j.toNat)) else none)=some d:=e
 split at e'
 ·rename_i h
  cases e'
  exact ⟨h,fun O H=>.int _⟩
 ·cases e'⟩
@[simp] theorem ev_shrI {i j:Int}:shrD (.int i) (.int j)=if 0≤j then some (.int (i / 2 ^ j.toNat)) else none:=rfl
end D
namespace D
open PySem PySem.Spec PyProof.Rows L2
section
variable {X:Cx}
end
end D
namespace L2
open PySem PySem.Spec PyProof.Rows
structure CSn (osc:Scope) (N:List Str) (xs:List Str) (scope:Scope) (N':List Str):Prop where
 kind:scope.kind=.function
 nocell:∀ y∈scope.names,y.2≠.cell
 names:∀ y∈scope.names,y.2=.local→scope.names.lookup y.1=some .local
 hx:∀ x∈xs,scope.names.lookup x=some .local
 only:∀ y∈scope.names,y.2=.local→y.1∈xs∨y.1 = ".0"
 free:∀ y∈scope.names,y.2=.free→osc.names.lookup y.1=some .cell∨osc.names.lookup y.1=some .free
 nd:(xs++N').Nodup
 n0:(".0" : Str)∉N'
 len:N'.length=N.length
 rel:∀ p∈N'.zip N,p.1=p.2∨∀ q∈scope.names,q.1≠p.1
theorem CSn.at {osc:Scope} {N N':List Str} {xs:List Str} {scope:Scope} (S:CSn osc N xs scope N') {j:Nat} {y:Str} (h:N'[j]? = some y):N[j]? = some y∨∀ q∈scope.names,q.1≠y:=by
 have hl:j < N'.length:=(List.getElem?_eq_some_iff.mp h).1
 have hl2:j < N.length:=by rw [← S.len]; exact hl
 have m:(N'.zip N)[j]? = some (y,N[j]):=by
  rw [List.getElem?_zip_eq_some]
  exact ⟨h,List.getElem?_eq_getElem hl2⟩
 rcases S.rel _ (List.mem_of_getElem? m) with z | z
 ·left
  rw [List.getElem?_eq_getElem hl2]
  exact congrArg some z.symm
 ·exact .inr z
noncomputable abbrev compCxn (X:Cx) (xs:List Str) (scope:Scope) (C:Addr) (s0:Shared) (H0:Hp) (ex:List Addr) (N':List Str):Cx where
 prog:=X.prog
 w:=X.w
 K:=X.K
 mg:=X.mg
 base:=X.base
 A:=X.A
 N:=xs++N'
 s₀:=s0
 H₀:=H0
 env:=compEnvC scope (closOf X.env scope.names []) C X.env
 outer:=X.stack
 stack:=X.stack
 ex:=ex
 fn:=fun _=>false
 calm:=X.calm
 pn:=[]
 xe:=fun _ _=>False
section
variable {X:Cx} {pins:List (Addr×Obj)} {σ:St} {H:Hp} {s:Shared} {xs:List Str} {scope:Scope} {N':List Str}
theorem free_hasN (I:Inv X pins σ H s) (S:CSn X.env.scope X.N xs scope N'):∀ y∈scope.names,y.2=.free→∃ c,X.env.cells.lookup y.1=some c:=fun y hy e=>
 I.ok.has y.1 (S.free y hy e)
theorem clos_lookN (I:Inv X pins σ H s) (S:CSn X.env.scope X.N xs scope N') {y:Str} {c:Addr} (e:(closOf X.env scope.names []).lookup y=some c):X.env.cells.lookup y=some c:=
 closOf_look scope.names [] y c (fun _ _ z=>by simp at z) (free_hasN I S) e
theorem clos_hasN (I:Inv X pins σ H s) (S:CSn X.env.scope X.N xs scope N') {y:Str} (e:(y,NameKind.free)∈scope.names):∃ c,(closOf X.env scope.names []).lookup y=some c∧X.env.cells.lookup y=some c:=by
 obtain ⟨c,hc⟩:=Option.isSome_iff_exists.mp (closOf_has (env:=X.env) scope.names [] y e)
 exact ⟨c,hc,clos_lookN I S hc⟩
theorem comp_enterN {fp:List Addr} {h':Heap} {m:Str→Option Value} {tk:Nat} {oD oC:Obj} (I:Inv X pins σ H s) (S:CSn X.env.scope X.N xs scope N') (hf:∀ b∈fp,FpOk X pins H b) (ho:∀ b∈fp,∃ o,s.heap.get? b=some o)
  (hns:h'.Ns (s.heap.push oD).objs.size m) (hsb:Heap.SameBut (s.heap.push oD).objs.size ((s.heap.push oD).push oC) h') :
  Inv (compCxn X xs scope (s.heap.push oD).objs.size { s with heap:=s.heap.push oD } H (s.heap.objs.size::fp) N') [] (List.replicate xs.length none++σ) H { s with heap:=h',toks:=tk }:=by
 have I3:Inv X pins σ H { s with heap:=s.heap.push oD,toks:=s.toks }:=I.kept fun b o e=>Heap.get?_push_of_some _ e
 have hC:(s.heap.push oD).objs.size=s.heap.objs.size + 1:=Heap.size_push ..
 have up3:∀ b o,(s.heap.push oD).get? b=some o→h'.get? b=some o:=fun b o e=>
  (hsb.2 b (Nat.ne_of_lt (Heap.lt_size e))).trans (Heap.get?_push_of_some _ e)
 have up:∀ b o,s.heap.get? b=some o→h'.get? b=some o:=fun b o e=>up3 b o (Heap.get?_push_of_some _ e)
 have cl:=fun {y c} e=>clos_lookN (y:=y) (c:=c) I S e
 have clt:∀ y c,X.env.cells.lookup y=some c→c < s.heap.objs.size:=fun y c e=>let ⟨v,q⟩:=I.cell y c e; q.lt
 have inner:∀ {y:Str} {k':NameKind},(relabel scope X.env).names.lookup y=some k'→(k'=.cell∨k'=.free)→(y,NameKind.free)∈scope.names:=fun {y k'} e hk=>by
  obtain ⟨k,mem,r⟩:=look_relabel e
  rcases r with r | ⟨r,_⟩
  ·rcases hk with z | z
   ·exact absurd (r.symm.trans z) (S.nocell _ mem)
   ·rw [← r.symm.trans z]; exact mem
  ·rw [← r]; exact mem
 have ok:(compCxn X xs scope (s.heap.push oD).objs.size { s with heap:=s.heap.push oD } H (s.heap.objs.size::fp) N').Ok:=by
  refine ⟨I.ok.mod,S.kind,I.ok.glob,I.ok.blt,Nat.le_refl _,fun y z c e1 e2=>I.ok.inj y z c (cl e1) (cl e2),fun y hk=>?_,fun y c e=>(nomatch e),I.ok.hd,I.ok.frames,.inl rfl,fun b hb=>?_,fun b o e=>?_,
   Nat.le_trans (Nat.le_trans I.ok.bsz I.sz) (by show s.heap.objs.size≤(s.heap.push oD).objs.size; omega),fun b o e hb=>?_,fun b hb z=>?_,I3.stack,I.stkFree⟩
  ·have mem:(y,NameKind.free)∈scope.names:=by
    rcases hk with z | z
    ·exact inner z (.inl rfl)
    ·exact inner z (.inr rfl)
   obtain ⟨c,hc,_⟩:=clos_hasN I S mem
   exact ⟨c,hc⟩
  ·rcases List.mem_cons.mp hb with e | e
   ·subst e
    exact ⟨by show s.heap.objs.size≠(s.heap.push oD).objs.size; omega,fun y c e=>Nat.ne_of_lt (clt y c (cl e))⟩
   ·obtain ⟨o,q⟩:=ho b e
    have q2:=Heap.lt_size q
    exact ⟨by show b≠(s.heap.push oD).objs.size; rw [hC]; exact Nat.ne_of_lt (Nat.lt_succ_of_lt q2),fun y c e'=>(hf b e).2.2.2.2.1 y c (cl e')⟩
  ·exact ⟨Heap.get?_push_of_some _ (I.bs b o e).1,(I.bs b o e).2⟩
  ·rcases List.mem_cons.mp hb with z | z
   ·have q2:=Heap.lt_size (I.bs b o e).1
    rw [z] at q2
    exact Nat.lt_irrefl _ q2
   ·rcases (hf b z).2.2.2.1 with q | q
    ·exact I.ok.noex b o e q
    ·have q2:=Heap.lt_size (I.ok.bs b o e).1
     exact Nat.lt_irrefl _ (Nat.lt_of_lt_of_le q2 q)
  ·have z':=I.stkSub b z
   rcases List.mem_cons.mp hb with e | e
   ·subst e
    rcases List.mem_cons.mp z' with q | q
    ·have q2:=I.lt
     rw [← q] at q2
     exact Nat.lt_irrefl _ q2
    ·exact I.nofs (Nat.le_refl _) q
   ·rcases List.mem_cons.mp z' with q | q
    ·exact (hf b e).2.1 q
    ·exact (hf b e).2.2.1 q
 obtain ⟨mo,hno,hlo⟩:=I.loc
 refine ⟨ok,rfl,I.bare,Un.kept up3,⟨m,hns,fun i y v e1 e2 e3=>?_⟩,fun y c e=>?_,I.hok.fresh (by show s.heap.objs.size≤(s.heap.push oD).objs.size; omega),fun y c e=>I.freeC y c (cl e),fun p hp=>absurd hp (by simp),I.hok.kept up,?_⟩
 ·by_cases hi:i < xs.length
  ·rw [List.getElem?_append_left (by simpa using hi)] at e2
   have:=List.mem_of_getElem? e2
   rw [List.mem_replicate] at this
   cases this.2
  ·obtain ⟨j,rfl⟩:∃ j,i=xs.length + j:=⟨i - xs.length,by omega⟩
   have e1n:N'[j]? = some y:=by
    have e1':(xs++N')[xs.length + j]? = some y:=e1
    rw [List.getElem?_append_right (by omega)] at e1'
    simpa using e1'
   have vis:∃ k,(y,k)∈scope.names:=by
    rcases (show Vis (relabel scope X.env) y from e3) with z | z | z <;> exact let ⟨k,mem,_⟩:=look_relabel z; ⟨k,mem⟩
   have e1':X.N[j]? = some y:=by
    rcases S.at e1n with z | z
    ·exact z
    ·obtain ⟨k,mem⟩:=vis
     exact absurd rfl (z _ mem)
   have e2':σ[j]? = some (some v):=by
    rw [List.getElem?_append_right (by simp)] at e2
    simpa using e2
   have yx:y∉xs:=fun z=>(List.nodup_append.mp S.nd).2.2 y z y (List.mem_of_getElem? e1n) rfl
   have kin:((relabel scope X.env).names.lookup y=some .cell∨(relabel scope X.env).names.lookup y=some .free):=by
    rcases (show Vis (relabel scope X.env) y from e3) with z | z | z
    ·obtain ⟨k,mem,r⟩:=look_relabel z
     rcases r with r | ⟨_,r⟩
     ·rcases S.only _ mem r.symm with z2 | z2
      ·exact absurd z2 yx
      ·exact absurd (List.mem_of_getElem? e1n) (by rw [show y=(".0" : Str) from z2]; exact S.n0)
     ·cases r
    ·exact .inl z
    ·exact .inr z
   have mem:(y,NameKind.free)∈scope.names:=by
    rcases kin with z | z
    ·exact inner z (.inl rfl)
    ·exact inner z (.inr rfl)
   have vo:Vis X.env.scope y:=by
    rcases S.free _ mem rfl with z | z
    ·exact .inr (.inl z)
    ·exact .inr (.inr z)
   obtain ⟨u,ru,lk⟩:=hlo j y v e1' e2' vo
   refine ⟨u,ru,.inr ⟨kin,?_⟩⟩
   obtain ⟨c,hc,hc'⟩:=clos_hasN I S mem
   refine ⟨c,hc,?_⟩
   rcases lk with ⟨z,_⟩ | ⟨_,c2,z2,q⟩
   ·exfalso
    have z':X.env.scope.names.lookup y=some .local:=z
    rcases S.free _ mem rfl with r | r <;> (rw [z'] at r; cases r)
   ·rw [hc'] at z2
    cases z2
    obtain ⟨o,q1,q2⟩:=q
    exact ⟨o,up _ _ q1,q2⟩
 ·obtain ⟨v,o,q1,q2⟩:=I.cell y c (cl e)
  exact ⟨v,o,up _ _ q1,q2⟩
 ·have:=I.len
  show (List.replicate xs.length none++σ).length=(xs++N').length
  simp [this,S.len]
theorem comp_leaveN {fp:List Addr} {σ':St} {pins':List (Addr×Obj)} {H1:Hp} {s1:Shared} {h':Heap} {C:Addr} {oD:Obj} {ys:List V} (I:Inv X pins σ H s) (hf:∀ b∈fp,FpOk X pins H b)
  (hCd:C=(s.heap.push oD).objs.size) (J:Inv (compCxn X xs scope C { s with heap:=s.heap.push oD } H (s.heap.objs.size::fp) N') pins' σ' H1 s1) (hsb:Heap.SameBut C s1.heap h') (hD0:H1 s.heap.objs.size=none)
  (new:∃ its n,Vals ys its∧s1.heap.get? s.heap.objs.size=some { cls:=.type "list",data:=.seq its.toArray n }) (hz:ys.length≤sizeLine) :
  Inv X pins σ (upd H1 s.heap.objs.size (.lst ys)) { s1 with heap:=h' }:=by
 have hC:C=s.heap.objs.size + 1:=by rw [hCd]; exact Heap.size_push ..
 have nD:∀ b o,s.heap.get? b=some o→b≠s.heap.objs.size:=fun b o e=>Nat.ne_of_lt (Heap.lt_size e)
 have nC:∀ b o,s.heap.get? b=some o→b≠C:=fun b o e=>by rw [hC]; exact Nat.ne_of_lt (Nat.lt_succ_of_lt (Heap.lt_size e))
 have up:∀ b o,s.heap.get? b=some o→(s.heap.push oD).get? b=some o:=fun b o e=>Heap.get?_push_of_some _ e
 have nx:∀ b,b∉fp→b≠s.heap.objs.size→b∉s.heap.objs.size::fp:=fun b h1 h2 z=>(List.mem_cons.mp z).elim h2 h1
 have hDC:s.heap.objs.size≠C:=by rw [hC]; exact Nat.ne_of_lt (Nat.lt_succ_self _)
 have tr:∀ b u,H1 b=some u→b≠s.heap.objs.size:=fun b u e z=>by rw [z,hD0] at e; cases e
 have trC:∀ b u,H1 b=some u→b≠C:=fun b u e z=>by
  have:=J.free
  rw [z] at e
  have q:H1 C=none:=J.free
  rw [q] at e; cases e
 obtain ⟨its,n,rv,eD⟩:=new
 have B:Un (frs X.stack) (s.heap.objs.size::fp) H H1 (s.heap.push oD) s1.heap:=J.base
 refine I.call' (s':={ s1 with heap:=h' }) (ch:=fp) J.os ⟨fun b o e q h1 h2=>?_,fun b o e q h1 h2=>?_,fun b o e q h2=>?_,fun b o e h2=>?_,fun b xs e=>?_,fun b o u e=>?_,fun b ps e=>?_⟩ (fun b u e=>?_) J.bare fun b hb=>?_
 ·exact (hsb.2 b (nC b o e)).trans (B.keep b o (up b o e) q h1 (nx b h2 (nD b o e)))
 ·obtain ⟨sl,z⟩:=B.slot b o (up b o e) q h1 (nx b h2 (nD b o e))
  exact ⟨sl,(hsb.2 b (nC b o e)).trans z⟩
 ·rw [upd_ne (nD b o e)]
  exact B.free b o (up b o e) q (nx b h2 (nD b o e))
 ·obtain ⟨o',z⟩:=B.there b o (up b o e) (nx b h2 (nD b o e))
  exact ⟨o',(hsb.2 b (nC b o e)).trans z⟩
 ·have z:=B.tups b xs e
  rw [upd_ne (tr b _ z)]; exact z
 ·have z:=B.frzs b o u e
  rw [upd_ne (tr b _ z)]; exact z
 ·obtain ⟨more,z⟩:=B.tbls b ps e
  exact ⟨more,by rw [upd_ne (tr b _ z)]; exact z⟩
 ·by_cases hb:b=s.heap.objs.size
  ·subst hb
   rw [upd_same] at e
   cases e
   exact ⟨hz,its,n,rv,(hsb.2 _ hDC).trans eD⟩
  ·rw [upd_ne hb] at e
   refine (J.hok b u e).stay (fun c v hc q=>(hsb.2 c ?_).trans q) (fun c q=>by rw [upd_ne (tr c _ q)]; exact q) fun c xs q=>by rw [upd_ne (tr c _ q)]; exact q
   rcases hc with z | z
   ·rw [z]; exact trC b u e
   ·exact trC c _ z
 ·obtain ⟨_,f1,_,f3,f4,f5⟩:=hf b hb
  exact ⟨f3,f1,f4,f5⟩
end
theorem compT_tests {prog:Program} {w:World} {A:Around} {R:Result→Shared→Prop} {s:Shared} {elt tg iter:Expr} {ifs:List Expr} {scope:Scope} {pos:Pos} {it acc:Value} {env:Env} (I:Nat→Shared→Prop)
  (turn:∀ n s,I n s→wpAny (model prog w) A (pyNext it) (fun r s1=>match r with
   | none=>R (.ok .next) s1
   | some v=>wpAny (model prog w) A (letOwnedTupleGo tg it v) (fun _ s2=>wpAny (model prog w) A (assign tg env v) (fun _ s2=>
     wpAny (model prog w) A (forIn ifs true fun c r=>if r=true then do
      let ok ← isTrue c env (eval c env)
      pure (ForInStep.yield ok) else pure (ForInStep.yield r)) (fun ok s3=>
      if ok=true then wpAny (model prog w) A (eval elt env) (fun x s4=>wpAny (model prog w) A (call (.builtin "list.append") [acc,x]) (fun _ s5=>∃ m,m < n∧I m s5)
       (notedBy (model prog w) A env fun e s'=>R (.error e) s') s4) (notedBy (model prog w) A env fun e s'=>R (.error e) s') s3
      else ∃ m,m < n∧I m s3) (notedBy (model prog w) A env fun e s'=>R (.error e) s') s2) (notedBy (model prog w) A env fun e s'=>R (.error e) s') s2) (notedBy (model prog w) A env fun e s'=>R (.error e) s') s1) (notedBy (model prog w) A env fun e s'=>R (.error e) s') s)
  (n:Nat) (h:I n s):codeAny (model prog w) A (.compLoop (.ListComp elt [⟨tg,iter,ifs,0⟩] scope pos) 0 it acc env) R s:=by
 refine codeAny_loop rfl I (fun n s hI=>wpAny_noted ?_) n h
 rw [compTurn_list]
 refine wpAny_bind (wpAny_standAt (wpAny_bind (thn (turn n s hI) fun r s1 h1=>?_)))
 cases r with
 | none=>exact wpAny_pure h1
 | some v=>
  refine wpAny_bind (thn h1 fun _ s2 h2=>wpAny_bind (thn h2 fun _ s3 h3=>wpAny_bind (thn h3 fun ok s4 h4=>?_)))
  cases ok with
  | false=>exact wpAny_pure ⟨rfl,h4⟩
  | true=>exact wpAny_bind (wpAny_bind (thn h4 fun x s5 h5=>wpAny_bind (thn h5 fun _ s6 h6=>wpAny_pure (wpAny_pure ⟨rfl,h6⟩))))
noncomputable def cLoopN (n:Nat) (g:TG) (σ:St) (J:It) (tt:TT) (te:TE) (W:Nat→Nat→List V→Hp→Prop) (D:List V→Hp→Prop):Prop:=∀ i m ys H,W i m ys H →
 (J.stop i H∧ys.length≤sizeLine∧D ys H)∨(J.go i H∧ys.length < sizeLine∧∃ N:List V→Hp→Prop,(∀ ys' H',N ys' H'→∃ m',m' < m∧W (i + 1) m' ys' H')∧∀ v H',J.yld i H v H'→∀ σx:St,σx.length=n→g v (σx++σ) H' fun σ1 H1=>(∃ σy:St,σy.length=n∧σ1=σy++σ)∧tt σ1 H1 fun b H2=>
  if b=true then te σ1 H2 fun y H3=>N (ys++[y]) H3 else N ys H2)
section
variable {X:Cx} {pins:List (Addr×Obj)} {σ:St} {H:Hp} {s:Shared} {xs:List Str} {scope:Scope} {N':List Str}
theorem comp_loopN {fp:List Addr} {it C:Addr} {tn:Nat→Heap→Prop} {J:It} {oD:Obj} {elt iter:Expr} {ifs:List Expr} {pos:Pos} {tg:Expr} {g:TG} {te:TE} {tt:TT} {W:Nat→Nat→List V→Hp→Prop} {Dn:List V→Hp→Prop}
  {R:Result→Shared→Prop} {σ':St} {s4:Shared} {m0:Nat} (hcalm:X.calm=true) (S:CSn X.env.scope X.N xs scope N') (hf:∀ b∈fp,FpOk X pins H b) (ho:∀ b∈fp,∃ o,s.heap.get? b=some o) (hCd:C=(s.heap.push oD).objs.size)
  (T:Turn X.prog X.w X.K tg J fp it tn) (I4:Inv (compCxn X xs scope C { s with heap:=s.heap.push oD } H (s.heap.objs.size::fp) N') [] (List.replicate xs.length none++σ) H s4) (st4:tn 0 s4.heap) (hD4:s4.heap.get? s.heap.objs.size=some { cls:=.type "list",data:=.seq #[] 0 })
  (hDn:H s.heap.objs.size=none) (hgg:PG (compCxn X xs scope C { s with heap:=s.heap.push oD } H (s.heap.objs.size::fp) N') tg g) (hte:PE (compCxn X xs scope C { s with heap:=s.heap.push oD } H (s.heap.objs.size::fp) N') elt te) (htt:PTs (compCxn X xs scope C { s with heap:=s.heap.push oD } H (s.heap.objs.size::fp) N') ifs tt)
  (w0:W 0 m0 [] H) (turn:cLoopN xs.length g σ J tt te W Dn)
  (hR:∀ s1 H1 σ1 ys its n,Inv (compCxn X xs scope C { s with heap:=s.heap.push oD } H (s.heap.objs.size::fp) N') [] σ1 H1 s1→H1 s.heap.objs.size=none→Vals ys its→s1.heap.get? s.heap.objs.size=some { cls:=.type "list",data:=.seq its.toArray n }→ys.length≤sizeLine→Dn ys H1→R (.ok .next) s1) :
  codeAny (model X.prog X.w) X.A (.compLoop (.ListComp elt [⟨tg,iter,ifs,0⟩] scope pos) 0 (.ref it) (.ref s.heap.objs.size) (compEnvC scope (closOf X.env scope.names []) C X.env)) R s4:=by
 have hC:C=s.heap.objs.size + 1:=by rw [hCd]; exact Heap.size_push ..
 generalize hX:compCxn X xs scope C { s with heap:=s.heap.push oD } H (s.heap.objs.size::fp) N'=X' at *
 have xP:X'.prog=X.prog:=by rw [← hX]
 have xW:X'.w=X.w:=by rw [← hX]
 have xK:X'.K=X.K:=by rw [← hX]
 have xA:X'.A=X.A:=by rw [← hX]
 have xE:X'.env=compEnvC scope (closOf X.env scope.names []) C X.env:=by rw [← hX]
 have xC:X'.calm=true:=by rw [← hX]; exact hcalm
 have xex:X'.ex=s.heap.objs.size::fp:=by rw [← hX]
 have xpn:X'.pn=[]:=by rw [← hX]
 have xxe:X'.xe=fun _ _=>False:=by rw [← hX]
 have xL:X'.env.locals=C:=by rw [xE]; rfl
 have lt:∀ b∈fp,b < s.heap.objs.size:=fun b hb=>let ⟨_,e⟩:=ho b hb; Heap.lt_size e
 have fpk:∀ {pl:List (Addr×Obj)} {H':Hp},(∀ p∈pl,p.1=s.heap.objs.size)→(∀ b∈fp,H' b=none)→∀ b∈fp,FpOk X' pl H' b:=fun {pl H'} hp hn b hb=>by
  have okk:=I4.ok
  have hm:b∈X'.ex:=by rw [xex]; exact List.mem_cons_of_mem _ hb
  refine ⟨hn b hb,(okk.exf b hm).1,okk.exfs b hm,.inl hm,(okk.exf b hm).2,fun p hpl z=>?_⟩
  rw [xpn] at hpl
  have q1:=hp p (by simpa using hpl)
  have q2:=lt b hb
  rw [← z,q1] at q2
  exact Nat.lt_irrefl _ q2
 have dok:∀ {pl:List (Addr×Obj)} {H':Hp},(∀ p∈pl,p.1∈fp)→H' s.heap.objs.size=none→FpOk X' pl H' s.heap.objs.size:=fun {pl H'} hp hn=>by
  have okk:=I4.ok
  have hm:s.heap.objs.size∈X'.ex:=by rw [xex]; exact List.mem_cons_self
  refine ⟨hn,(okk.exf _ hm).1,okk.exfs _ hm,.inl hm,(okk.exf _ hm).2,fun p hpl z=>?_⟩
  rw [xpn] at hpl
  have q2:=lt p.1 (hp p (by simpa using hpl))
  rw [z] at q2
  exact Nat.lt_irrefl _ q2
 refine compT_tests (I:=fun m s'=>∃ i σx H' ys its n,σx.length=xs.length∧Inv X' [] (σx++σ) H' s'∧tn i s'.heap∧(∀ b∈fp,H' b=none)∧H' s.heap.objs.size=none∧Vals ys its∧s'.heap.get? s.heap.objs.size=some { cls:=.type "list",data:=.seq its.toArray n }∧W i m ys H') ?_ m0
  ⟨0,List.replicate xs.length none,H,[],[],0,by simp,I4,st4,fun b hb=>(hf b hb).1,hDn,.nil,hD4,w0⟩
 rintro m s5 ⟨i,σx,H5,ys,its,n,hσx,I5,st5,fr5,d5,rv,e5,w5⟩
 have I5d:Inv X' ([]++pinsAt [s.heap.objs.size] s5.heap) (σx++σ) H5 s5:=I5.pinned (fun b hb=>by
   have e:b=s.heap.objs.size:=by simpa using hb
   rw [e]; exact dok (fun p hp=>absurd hp (by simp)) d5) fun b hb=>by
   have e:b=s.heap.objs.size:=by simpa using hb
   rw [e]; exact ⟨_,e5,fun v z=>by cases z⟩
 have pD:([]++pinsAt [s.heap.objs.size] s5.heap:List (Addr×Obj))=[(s.heap.objs.size,{ cls:=.type "list",data:=.seq its.toArray n })]:=by
  simp [pinsAt,e5]
 rw [pD] at I5d
 have p1:∀ p∈[(s.heap.objs.size,({ cls:=.type "list",data:=.seq its.toArray n }:Obj))],p.1=s.heap.objs.size:=fun p hp=>by
  have e:p=(s.heap.objs.size,{ cls:=.type "list",data:=.seq its.toArray n }):=by simpa using hp
  rw [e]
 have hsz:its.length=ys.length:=rv.length.symm
 rcases turn i m ys H5 w5 with ⟨stop,hz,dn⟩ | ⟨go,hz,N,hN,step⟩
 ·have q:=T.done X' xP xW xK xC i _ s5 (σx++σ) H5 (notedBy (model X.prog X.w) X.A (compEnvC scope (closOf X.env scope.names []) C X.env) fun e s'=>R (.error e) s') I5d (fpk p1 fr5) st5 stop
  rw [xA] at q
  refine wpAny_mono q (fun r s6 z=>?_) fun _ _ z=>z
  obtain ⟨rfl,I6⟩:=z
  refine hR s6 H5 (σx++σ) ys its n ?_ d5 rv (I6.pin _ (List.mem_append_right _ (List.mem_singleton.mpr rfl))).1 hz dn
  exact I6.pins_of fun p hp=>absurd hp (by simp)
 ·have q:=T.item X' xP xW xK xC i _ s5 (σx++σ) H5 (notedBy (model X.prog X.w) X.A (compEnvC scope (closOf X.env scope.names []) C X.env) fun e s'=>R (.error e) s') I5d (fpk p1 fr5) st5 go
  rw [xA] at q
  refine wpAny_mono q (fun r s6 z=>?_) fun _ _ z=>z
  obtain ⟨u,rfl,z⟩:=z
  dsimp only
  refine wpAny_mono z (fun _ s7 z=>?_) fun _ _ z=>z
  obtain ⟨v,H7,I7,rv7,y7,st7,fr7⟩:=z
  have I7p:=I7.pinned (fpk p1 fr7) (T.obj _ _ st7)
  rw [← xE]
  have a7:=hgg _ s7 _ H7 v u _ I7p rv7 (step v H7 y7 σx hσx)
  rw [xP,xW,xA] at a7
  refine wpAny_mono a7 (fun _ s8 z=>?_) fun _ _ z=>by rw [xxe] at z; exact z.elim
  obtain ⟨σ1,H8,I8,⟨σy,hσy,rfl⟩,q8⟩:=z
  have t8:=htt _ s8 (σy++σ) H8 _ (notedBy (model X.prog X.w) X.A X'.env fun e s'=>R (.error e) s') I8 q8
  rw [xP,xW,xA] at t8
  refine wpAny_mono t8 (fun ok s9 z=>?_) fun _ _ z=>z
  obtain ⟨H9,I9,q9⟩:=z
  have back:∀ {s':Shared} {H':Hp} {σ2:St},Inv X' ([(s.heap.objs.size,({ cls:=.type "list",data:=.seq its.toArray n }:Obj))]++pinsAt fp s7.heap) σ2 H' s' →
    tn (i + 1) s'.heap∧(∀ b∈fp,H' b=none)∧H' s.heap.objs.size=none∧s'.heap.get? s.heap.objs.size=some { cls:=.type "list",data:=.seq its.toArray n }∧Inv X' [] σ2 H' s':=fun {s' H' σ2} I'=>by
   refine ⟨T.keep _ _ _ st7 fun b hb o e=>(I'.pin (b,o) (List.mem_append_right _ (List.mem_append_right _ (mem_pinsAt hb e)))).1,fun b hb=>?_,?_,?_,I'.pins_of fun p hp=>absurd hp (by simp)⟩
   ·obtain ⟨o,e,_⟩:=T.obj _ _ st7 b hb
    exact (I'.pin (b,o) (List.mem_append_right _ (List.mem_append_right _ (mem_pinsAt hb e)))).2.1
   ·exact (I'.pin (s.heap.objs.size,_) (List.mem_append_right _ (List.mem_append_left _ (List.mem_singleton.mpr rfl)))).2.1
   ·exact (I'.pin (s.heap.objs.size,_) (List.mem_append_right _ (List.mem_append_left _ (List.mem_singleton.mpr rfl)))).1
  cases ok with
  | false=>
   simp only [Bool.false_eq_true,if_false] at q9 ⊢
   obtain ⟨m',hm,w9⟩:=hN _ _ q9
   obtain ⟨a1,a2,a3,a4,a5⟩:=back I9
   exact ⟨m',hm,i + 1,σy,H9,ys,its,n,hσy,a5,a1,a2,a3,rv,a4,w9⟩
  | true=>
   simp only [if_true] at q9 ⊢
   have t9:=hte _ s9 (σy++σ) H9 _ I9 q9
   rw [xP,xW,xA,xxe] at t9
   refine wpAny_mono t9 (fun u2 s10 z=>?_) fun _ _ z=>z.elim
   obtain ⟨y,H10,I10,r10,q10⟩:=z
   obtain ⟨m',hm,w10⟩:=hN _ _ q10
   obtain ⟨a1,a2,a3,a4,a5⟩:=back I10
   refine wpAny_list_append_plain ⟨n,a4⟩ (fun h' pl sb=>?_) (by rw [List.size_toArray]; omega)
   obtain ⟨n',e'⟩:=pl
   have D0:=dok (pl:=[]) (fun p hp=>absurd hp (by simp)) a3
   refine ⟨m',hm,i + 1,σy,H10,ys++[y],its++[u2],n',hσy,a5.turned (t':=s10.toks) (fun b o hb e=>(sb.2 b hb).trans e) D0.1 D0.2.1 D0.2.2.2.1 D0.2.2.2.2.1 D0.2.2.2.2.2,?_,a2,a3,rv.append (.cons r10 .nil),by simpa using e',w10⟩
   exact T.keep _ _ _ a1 fun b hb o e=>(sb.2 b (Nat.ne_of_lt (lt b hb))).trans e
end
section
variable {X:Cx} {xs:List Str} {scope:Scope} {N':List Str} {tg elt iter:Expr} {ifs:List Expr} {pos:Pos} {wi:TI} {g:TG} {te:TE} {tt:TT}
noncomputable def sCompN (n:Nat) (g:TG) (i:Nat) (wi:TI) (tt:TT) (te:TE):TS:=fun D σ H=>wi σ H fun J H1=>∃ W:Nat→Nat→List V→Hp→Prop,(∃ m,W 0 m [] H1)∧cLoopN n g σ J tt te W fun ys H=>∀ p,H p=none→D.nx (σ.set i (some (.ref p))) (upd H p (.lst ys))
theorem ps_setCN {i:Nat} {y:Str} {py spos:Pos} (hc:X.calm=true) (S:CSn X.env.scope X.N xs scope N') (hN:X.N.Nodup) (hi':X.N[i]? = some y) (hy:Loc X.env.scope y) (hf':X.fn y=true∨X.env.scope.names.lookup y=some .local)
  (hi:PI X tg iter wi) (hg:∀ C s0 H0 ex,PG (compCxn X xs scope C s0 H0 ex N') tg g) (he:∀ C s0 H0 ex,PE (compCxn X xs scope C s0 H0 ex N') elt te)
  (ht:∀ C s0 H0 ex,PTs (compCxn X xs scope C s0 H0 ex N') ifs tt) (hsw:swapsWith (.ListComp elt [⟨tg,iter,ifs,0⟩] scope pos) (some (.Name y py)) spos.line X.env=pure true) (hs:∀ v,foldedSetIterable iter X.env v=pure v:=by intro _; rfl) :
  PS X (.Assign [.Name y py] (.ListComp elt [⟨tg,iter,ifs,0⟩] scope pos) spos) (sCompN xs.length g i wi tt te):=by
 intro pins s σ H D I h
 rw [exec_Assign_Name_used _ _ _ _ hsw]
 refine wpAny_bind (wpAny_standAt (wpAny_bind ?_))
 show wpAny _ _ (do let _ ← comprehension (.ListComp elt [⟨tg,iter,ifs,0⟩] scope pos) scope X.env _ (newList []) false (eval iter X.env) (some (assign (.Name y py) X.env))) _ _ s
 refine wpAny_bind (wpAny_mono (wpAny_comprehension_free (use:=some (assign (.Name y py) X.env)) (Q:=fun _ s'=>SP X pins D .next s') rfl hs (closure_eq (free_hasN I S)) S.kind S.names (thn (hi pins s σ H _ I h) fun v s1 h1=>thn h1 fun itv s2 h2=>?_)) (fun _ _ q=>wpAny_pure (wpAny_pure q)) fun _ _ q=>q)
 obtain ⟨it,fp,tn,J,H2,rfl,I2,T,st2,f2,W,⟨m0,w0⟩,turn⟩:=h2
 have ho:∀ b∈fp,∃ o,s2.heap.get? b=some o:=fun b hb=>let ⟨o,e,_⟩:=T.obj _ _ st2 b hb; ⟨o,e⟩
 refine wpAny_newObj_type (wpAny_newFunctionEnv S.nocell (by intro y hy; simp at hy) (fun h' hns hsb=>?_) S.kind)
 have I4:=comp_enterN (xs:=xs) (scope:=scope) (tk:=s2.toks + ([]:List (Str×Value)).length) I2 S f2 ho hns hsb
 have up3:∀ b o,(s2.heap.push { cls:=.type "list",dict:=none,data:=.seq ([]:List Value).toArray }).get? b=some o→h'.get? b=some o:=fun b o e=>
  (hsb.2 b (Nat.ne_of_lt (Heap.lt_size e))).trans (Heap.get?_push_of_some _ e)
 have st4:tn 0 h':=T.keep _ _ _ st2 fun b _ o e=>up3 b o (Heap.get?_push_of_some _ e)
 have hCs:s2.heap.objs.size≤(s2.heap.push { cls:=.type "list",dict:=none,data:=.seq ([]:List Value).toArray }).objs.size:=by rw [Heap.size_push]; omega
 have hDC:(s2.heap.push { cls:=.type "list",dict:=none,data:=.seq ([]:List Value).toArray }).objs.size≠s2.heap.objs.size:=by rw [Heap.size_push]; omega
 have loop:=comp_loopN (elt:=elt) (iter:=iter) (ifs:=ifs) (pos:=pos) (R:=compPost (model X.prog X.w) X.A X.xe (some (assign (.Name y py) X.env)) (fun _ s'=>SP X pins D .next s') (.ref s2.heap.objs.size) (s2.heap.push { cls:=.type "list",dict:=none,data:=.seq ([]:List Value).toArray }).objs.size) (σ':=σ)
  hc S f2 ho rfl T I4 st4 (up3 _ _ (Heap.get?_push_size _ rfl)) (I2.hok.fresh (Nat.le_refl _)) (hg _ _ _ _) (he _ _ _ _) (ht _ _ _ _) w0 turn fun s5 H5 σ5 ys its n J5 d5 rv e5 hz dn=>by
   have J6:=comp_leaveN I2 f2 rfl J5 (Heap.SameBut.refl _ _) d5 ⟨its,n,rv,e5⟩ hz
   obtain ⟨m,hn,_⟩:=J5.loc
   refine wpAny_assign_Name (store_ok2 (u:=.ref s2.heap.objs.size) J6 hN hi' hy (show RelV (.ref s2.heap.objs.size) _ from rfl) (fun s7 I7 ⟨a,sb,ha⟩=>?_) hf')
   have hCa:(s2.heap.push { cls:=.type "list",dict:=none,data:=.seq ([]:List Value).toArray }).objs.size≠a:=by
    rcases ha with z | z
    ·rw [z]
     exact Nat.ne_of_gt (Nat.lt_of_lt_of_le I2.lt hCs)
    ·obtain ⟨v,q⟩:=I2.cell _ _ z
     exact Nat.ne_of_gt (Nat.lt_of_lt_of_le q.lt hCs)
   have hn5:H5 (s2.heap.push { cls:=.type "list",dict:=none,data:=.seq ([]:List Value).toArray }).objs.size=none:=J5.free
   have fk:=I2.fpOk (b:=(s2.heap.push { cls:=.type "list",dict:=none,data:=.seq ([]:List Value).toArray }).objs.size) (H':=upd H5 s2.heap.objs.size (.lst ys)) hCs (by rw [upd_ne hDC]; exact hn5)
   refine ⟨m,hn.sameBut sb hCa,fun h'' sb2=>⟨_,_,I7.turned (t':=s7.toks) (fun b o hb e=>(sb2.2 b hb).trans e) fk.1 fk.2.1 fk.2.2.2.1 fk.2.2.2.2.1 fk.2.2.2.2.2,dn _ d5⟩⟩
 exact codeAny_compStart_list loop (T.self X.A 0 _ _ _ st4 loop)
end
end L2
namespace D
open PySem PySem.Spec PyProof.Rows L2
noncomputable def compL2 (c:FT) (e:FE) (ρ:Rho):List PyData→Tp→Option (List PyData×Tp)
 | [],T=>some ([],T)
 | .tuple [a,b]::r,T=>bnd (c (some (.d a)::some (.d b)::ρ) T) fun k T1=>if k=true then bnd (e (some (.d a)::some (.d b)::ρ) T1) fun w T2=>match w with
   | .d y=>bnd (compL2 c e ρ r T2) fun ys T3=>some (y::ys,T3)
   | _=>none
  else compL2 c e ρ r T1
 | _,_=>none
noncomputable def fComp2 (it:FI) (c:FT) (e:FE):FE:=fun ρ T=>bnd (it ρ T) fun ds T1=>bnd (compL2 c e ρ ds T1) fun ys T2=>some (.d (.list ys),T2)
theorem comp_ok2 {K:PySem.W.Frag} {O:Addr→Prop} {ts:List Addr} {H1:Hp} {σ:L2.St} {ρ:Rho} {J:It} {c:FT} {e:FE} {g:TG} {ds ys:List PyData} {T1 T2:Tp} {Dn:List V→Hp→Prop} (hc:HC K O ts H1 T1) (re:RelE K O ts H1 σ ρ) (ok:ItOk K O H1 J ds) (hz:ds.length≤sizeLine)
  (hg:∀ (a:Addr) (v u o1 o2:V) (p q:Option V) (H:Hp) (Q:L2.St→Hp→Prop),SqT K H a [v,u]→Q (some v::some u::σ) H→g (.ref a) (p::q::σ) H Q)
  (ee:compL2 c e ρ ds T1=some (ys,T2)) (q:∀ vs H',SameX ts H1 H'→HC K O ts H' T2→Reps K O H' vs ys→Dn vs H') :
  ∃ W:Nat→Nat→List V→Hp→Prop,(∃ m,W 0 m [] H1)∧cLoopN 2 g σ J (liftT K c) (lift K e) W Dn:=by
 refine ⟨fun i m vs H'=>m=ds.length - i∧i≤ds.length∧vs.length≤i∧∃ T dn rs,SameX ts H1 H'∧HC K O ts H' T∧Reps K O H' vs dn∧compL2 c e ρ (ds.drop i) T=some (rs,T2)∧ys=dn++rs,⟨_,rfl,Nat.zero_le _,Nat.le_refl _,T1,[],ys,.refl _ _,hc,.nil,ee,rfl⟩,?_⟩
 rintro i m vs H' ⟨rfl,hi,hv,T,dn,rs,s1,hc1,rv,ec,ey⟩
 obtain ⟨k1,k2,k3⟩:=ok O H' (hc.le s1)
 by_cases hlt:i < ds.length
 ·refine .inr ⟨k1 i hlt,by omega,fun vs' H2=>i + 1≤ds.length∧vs'.length≤i + 1∧∃ T dn rs,SameX ts H1 H2∧HC K O ts H2 T∧Reps K O H2 vs' dn∧compL2 c e ρ (ds.drop (i + 1)) T=some (rs,T2)∧ys=dn++rs,fun vs' H2 n=>⟨ds.length - (i + 1),by omega,rfl,n⟩,fun v H2 y σx hσ=>?_⟩
  obtain ⟨e2,d,hd,rd⟩:=k3 i v H2 y hlt
  subst e2
  have hdr:ds.drop i=d::ds.drop (i + 1):=by
   rw [List.drop_eq_getElem_cons hlt,(List.getElem?_eq_some_iff.mp hd).2]
  rw [hdr] at ec
  generalize ds.drop (i + 1)=rest at ec
  have hab:∃ a b,d=.tuple [a,b]:=by
   unfold compL2 at ec
   split at ec
   ·rename_i h; cases h
   ·rename_i h; injection h with h1 h2; exact ⟨_,_,h1⟩
   ·cases ec
  obtain ⟨a,b,rfl⟩:=hab
  ·cases rd with
   | @tup ad us _ tu ru=>
   cases ru with
   | cons ra ru=>
   cases ru with
   | cons rb ru=>
   cases ru
   obtain ⟨p1,p2,rfl⟩:∃ p1 p2,σx=[p1,p2]:=by
    match σx,hσ with
    | [p1,p2],_=>exact ⟨p1,p2,rfl⟩
   refine hg ad _ _ .non .non p1 p2 H2 _ tu.sq ⟨⟨[_,_],rfl,rfl⟩,?_⟩
   obtain ⟨k,T3,e3,ec⟩:=bnd_of ec
   have re2:RelE K O ts H2 (_::_::σ) (some (.d a)::some (.d b)::ρ):=((re.mono hc s1).cons rb).cons ra
   refine ⟨O,ts,some (.d a)::some (.d b)::ρ,T,k,T3,hc1,re2,e3,fun H3 s3 hc3=>?_⟩
   cases k with
   | false=>
    rw [if_neg Bool.false_ne_true] at ec
    exact iteF ⟨hlt,by omega,T3,dn,rs,s1.trans s3,hc3,rv.mono (hc1.le s3),ec,ey⟩
   | true=>
    rw [if_pos rfl] at ec
    obtain ⟨w,T4,e4,ec⟩:=bnd_of ec
    refine iteT ⟨O,ts,some (.d a)::some (.d b)::ρ,T3,w,T4,hc3,re2.mono hc1 s3,e4,fun u H4 s4 hc4 r4=>?_⟩
    split at ec
    ·rename_i y
     obtain ⟨zs,T5,e5,ec⟩:=bnd_of ec
     cases ec
     exact ⟨hlt,by simp; omega,T4,dn++[y],zs,s1.trans (s3.trans s4),hc4,(rv.mono (hc1.le (s3.trans s4))).append (.cons r4 .nil),e5,by rw [ey]; simp⟩
    ·cases ec
 ·have e:i=ds.length:=by omega
  subst e
  rw [List.drop_eq_nil_of_le (Nat.le_refl _)] at ec
  cases ec
  rw [List.append_nil] at ey
  subst ey
  exact .inl ⟨k2,by omega,q vs H' s1 hc1 rv⟩
theorem ds_setC2 {X:Cx} {i:Nat} {x y z:Str} {scope osc:Scope} {N N':List Str} {elt iter:Expr} {ifs:List Expr} {k:Nat} {px py pz tp pos spos:Pos} {it:FI} {c:FT} {f:FE} (hN:X.N.Nodup) (S:CSn osc N [x,y] scope N') (hi:DI X (.Tuple [.Name x px,.Name y py] k tp) iter it)
  (he:∀ C s0 H0 ex,DE (compCxn X [x,y] scope C s0 H0 ex N') elt f) (ht:∀ C s0 H0 ex,DTs (compCxn X [x,y] scope C s0 H0 ex N') ifs c) (hi':X.N[i]? = some z:=by rfl) (hy:Loc X.env.scope z:=by first | exact Or.inl rfl | exact Or.inr rfl)
  (hf':X.fn z=true∨X.env.scope.names.lookup z=some .local:=by first | exact .inl rfl | exact .inr rfl | assumption) (hc:X.calm=true:=by rfl) (hs:X.env.scope=osc:=by rfl) (hN':X.N=N:=by rfl)
  (hsw:swapsWith (.ListComp elt [⟨.Tuple [.Name x px,.Name y py] k tp,iter,ifs,0⟩] scope pos) (some (.Name z pz)) spos.line X.env=pure true:=by rfl) (hf:∀ v,foldedSetIterable iter X.env v=pure v:=by intro _; rfl) :
  DS X (.Assign [.Name z pz] (.ListComp elt [⟨.Tuple [.Name x px,.Name y py] k tp,iter,ifs,0⟩] scope pos) spos) (fSet i (fComp2 it c f)):=by
 refine ⟨?_⟩
 subst hs hN'
 have lx:∀ C,(compEnvC scope (closOf X.env scope.names []) C X.env).scope.names.lookup x=some .local:=fun C=>lookup_relabel_local (S.hx x (by simp))
 have ly:∀ C,(compEnvC scope (closOf X.env scope.names []) C X.env).scope.names.lookup y=some .local:=fun C=>lookup_relabel_local (S.hx y (by simp))
 refine ps_imp (ps_setCN (xs:=[x,y]) (g:=gTup X.K 2 (gCons (gName 0) (gCons (gName 1) gNil))) (wi:=liftI X.K it) (tt:=liftT X.K c) (te:=lift X.K f) hc S hN hi' hy hf' hi.pe (fun C s0 H0 ex=>pg_tup (X:=compCxn X [x,y] scope C s0 H0 ex N') (n:=2) hc (pgs_cons (pg_name S.nd (i:=0) rfl (.inl (lx C)) (.inr (lx C))) (pgs_cons (pg_name S.nd (i:=1) rfl (.inl (ly C)) (.inr (ly C))) pgs_nil))) (fun C s0 H0 ex=>(he C s0 H0 ex).pe) (fun C s0 H0 ex=>(ht C s0 H0 ex).pe) hsw hf) fun D σ H=>?_
 rintro ⟨O₀,H₀,F,ts,O,ρ,T,fl,ρ',T',rs,e,q⟩
 obtain ⟨w,T1,e1,e⟩:=bnd_of e
 obtain ⟨ds,T2,e2,e1⟩:=bnd_of e1
 obtain ⟨ys,T3,e3,e1⟩:=bnd_of e1
 cases e1
 cases e
 refine ⟨O,ts,ρ,T,ds,T2,rs.hc,rs.re,e2,fun J H1 s1 hc1 ok hz=>?_⟩
 exact comp_ok2 hc1 (rs.re.mono rs.hc s1) ok hz (fun a v u _ _ p q H Q t z=>⟨a,_,rfl,t,rfl,_,_,rfl,_,_,rfl,rfl,z⟩) e3 fun vs H' s2 hc2 r2 p hp=>q O _ _ ((rs.step (s1.trans (s2.trans (.new hp _))) (hc2.new hp _)).set (hc2.newL hp r2) fun _ z=>nomatch z)
end D
namespace D
open PySem PySem.Spec PyProof.Rows L2
theorem turnedN {X:Cx} {pins:List (Addr×Obj)} {σ:L2.St} {H:Hp} {s:Shared} {h':Heap} {t':Nat} {fp:List Addr} (I:Inv X pins σ H s) (k:∀ b o,b∉fp→s.heap.get? b=some o→h'.get? b=some o) (hf:∀ b∈fp,FpOk X pins H b):Inv X pins σ H { s with heap:=h',toks:=t' }:=by
 have nit:∀ b u,H b=some u→b∉fp:=fun b u e z=>by rw [(hf b z).1] at e; cases e
 have hL:X.env.locals∉fp:=fun z=>(hf _ z).2.1 rfl
 refine I.step (g':=s.gens) (d':=s.drawn) (ch:=fp) (fun b hb=>?_) (fun b o _ _ hc e _=>k b o hc e) (fun b o _ _ hc e _=>⟨o.slots,k b o hc e⟩) (fun _ _ _ _ n=>n)
  (fun b o hc e=>⟨o,k b o hc e⟩) (fun _ _ e=>e) (fun _ _ _ e=>e) (fun b ps e=>⟨#[],by rw [e]; simp⟩) (fun m hm=>?_) (fun b u e=>?_) I.bare
 ·obtain ⟨_,f1,_,f3,f4,f5⟩:=hf b hb
  exact ⟨f3,f1,f4,f5⟩
 ·obtain ⟨o,es,ep,ho,r⟩:=hm
  exact ⟨o,es,ep,k _ o hL ho,r⟩
 ·refine (I.hok b u e).stay (fun c v hc q=>k c v ?_ q) (fun _ q=>q) fun _ _ q=>q
  rcases hc with z | z
  ·rw [z]; exact nit b u e
  ·exact nit c _ z
noncomputable def Itz (K:PySem.W.Frag) (a b:Addr):It:=
 ⟨fun i H=>∃ xs ys,SqL K H a xs∧SqL K H b ys∧i < xs.length∧i < ys.length,fun i H x H'=>∃ p v u,H p=none∧(∀ xs,SqL K H a xs→xs[i]? = some v)∧(∀ ys,SqL K H b ys→ys[i]? = some u)∧x=.ref p∧H'=upd H p (.tup [v,u]),
  fun i H=>∃ xs ys,SqL K H a xs∧SqL K H b ys∧(xs.length≤i∨ys.length≤i)⟩
noncomputable abbrev ZSt (l1 l2 z TI TO i1 i2:Addr) (i:Nat) (h:Heap):Prop:=IsZip h z TI TO .none∧IsPair h TI (.ref i1) (.ref i2)∧(∃ a b,IsPair h TO a b)∧h.IsListIter i1 l1 i∧h.IsListIter i2 l2 i
theorem turn_zip {P:Program} {w:World} {K:PySem.W.Frag} {elts:List Expr} {x1:Nat} {tpos:Pos} {l1 l2 z TI TO i1 i2:Addr} (D:ZipApart z TI TO i1 i2 l1 l2):Turn P w K (.Tuple elts x1 tpos) (Itz K l1 l2) [z,TI,TO,i1,i2] z (ZSt l1 l2 z TI TO i1 i2) where
 mem:=by simp
 obj:=fun i h st b hb=>by
  obtain ⟨a1,a2,⟨u,v,a3⟩,⟨o4,a4,_,d4⟩,⟨o5,a5,_,d5⟩⟩:=st
  simp only [List.mem_cons,List.not_mem_nil,or_false] at hb
  rcases hb with e | e | e | e | e <;> subst e
  ·exact ⟨_,a1,fun v z=>nomatch (show Data.fields _=Data.cell v from z)⟩
  ·exact ⟨_,a2,fun v z=>nomatch (show Data.seq _ _=Data.cell v from z)⟩
  ·exact ⟨_,a3,fun v z=>nomatch (show Data.seq _ _=Data.cell v from z)⟩
  ·exact ⟨_,a4,fun v z=>by rw [d4] at z; cases z⟩
  ·exact ⟨_,a5,fun v z=>by rw [d5] at z; cases z⟩
 keep:=fun i h h' st k=>by
  obtain ⟨a1,a2,⟨u,v,a3⟩,a4,a5⟩:=st
  exact ⟨k z (by simp) _ a1,k TI (by simp) _ a2,⟨u,v,k TO (by simp) _ a3⟩,a4.at fun o e=>k i1 (by simp) o e,a5.at fun o e=>k i2 (by simp) o e⟩
 item:=by
  intro X hP hw hK hc i pins s σ H E I hf st hg
  subst hP hw hK
  obtain ⟨xs,ys,hx,hy,k1,k2⟩:=hg
  obtain ⟨a1,a2,⟨ua,ub,a3⟩,a4,a5⟩:=st
  obtain ⟨its,rx,px,_⟩:=I.list hx
  obtain ⟨jts,ry,py,_⟩:=I.list hy
  obtain ⟨u,hu,ru⟩:=rx.get (List.getElem?_eq_getElem k1)
  obtain ⟨v,hv,rv⟩:=ry.get (List.getElem?_eq_getElem k2)
  refine wpAny_pyNext_zip_item D a1 a2 a3 a4 a5 px.isList py.isList (x:=u) (y:=v) (by simpa using hu) (by simpa using hv) fun h' b1 b2 b3 b4 b5 b6 b7=>?_
  refine ⟨.ref s.heap.objs.size,rfl,wpAny_letOwnedTupleGo_zip b1 fun h'' c1 c2=>?_⟩
  have hn:H s.heap.objs.size=none:=I.hok.fresh (Nat.le_refl _)
  have lz:z < s.heap.objs.size:=Heap.lt_size a1
  have lTO:TO < s.heap.objs.size:=Heap.lt_size a3
  have l1:i1 < s.heap.objs.size:=by obtain ⟨_,e,_⟩:=a4; exact Heap.lt_size e
  have l2:i2 < s.heap.objs.size:=by obtain ⟨_,e,_⟩:=a5; exact Heap.lt_size e
  have T1:IsTup (s.heap.push { cls:=.type "tuple",data:=.seq #[u,v] }) s.heap.objs.size #[u,v]:=IsTup.new ..
  have I1:Inv X pins σ (upd H s.heap.objs.size (.tup [xs[i],ys[i]])) { s with heap:=s.heap.push { cls:=.type "tuple",data:=.seq #[u,v] } }:=
   I.laid (t':=s.toks) (o:=.tup [xs[i],ys[i]]) (fun b ob e=>Heap.get?_push_of_some _ e) (Nat.le_refl _) ⟨by show 2≤sizeLine; decide,[u,v],.cons ru (.cons rv .nil),T1⟩
  have nn:∀ b∈[z,TI,TO,i1,i2],b≠s.heap.objs.size:=fun b hb e=>by
   have lTI:TI < s.heap.objs.size:=Heap.lt_size a2
   simp only [List.mem_cons,List.not_mem_nil,or_false] at hb
   rcases hb with q | q | q | q | q <;> rw [e] at q
   ·exact Nat.ne_of_gt lz q
   ·exact Nat.ne_of_gt lTI q
   ·exact Nat.ne_of_gt lTO q
   ·exact Nat.ne_of_gt l1 q
   ·exact Nat.ne_of_gt l2 q
  have f':∀ b∈[z,TI,TO,i1,i2],FpOk X pins (upd H s.heap.objs.size (.tup [xs[i],ys[i]])) b:=fun b hb=>by
   obtain ⟨f0,fr⟩:=hf b hb
   exact ⟨by rw [upd_ne (nn b hb)]; exact f0,fr⟩
  have I2:Inv X pins σ (upd H s.heap.objs.size (.tup [xs[i],ys[i]])) { s with heap:=h'' }:=turnedN (s:={ s with heap:=s.heap.push { cls:=.type "tuple",data:=.seq #[u,v] } }) (t':=s.toks) (h':=h'') (fp:=[z,TI,TO,i1,i2]) I1 (fun b ob hb e=>by
   simp only [List.mem_cons,List.not_mem_nil,or_false,not_or] at hb
   by_cases q:b=s.heap.objs.size
   ·subst q
    have e':some _=some ob:=(Heap.get?_push_size _ rfl).symm.trans e
    cases e'
    exact (c2.2 _ hb.1).trans b5
   ·rw [Heap.get?_push_ne _ _ _ q] at e
    exact (c2.2 b hb.1).trans (b7 b ob hb.1 hb.2.2.1 hb.2.2.2.1 hb.2.2.2.2 e)) f'
  refine ⟨.ref s.heap.objs.size,_,I2,rfl,⟨s.heap.objs.size,xs[i],ys[i],hn,fun xs' h=>by rw [I.list_inj h hx]; exact List.getElem?_eq_getElem k1,fun ys' h=>by rw [I.list_inj h hy]; exact List.getElem?_eq_getElem k2,rfl,rfl⟩,?_,fun b hb=>(f' b hb).1⟩
  have cc:∀ b o,b≠z→h'.get? b=some o→h''.get? b=some o:=fun b o q e=>(c2.2 b q).trans e
  exact ⟨c1,cc _ _ D.TIz (b7 _ _ D.TIz D.TITO D.TIi1 D.TIi2 a2),⟨_,_,cc _ _ D.TOz b2⟩,b3.at fun o e=>cc _ o D.i1z e,b4.at fun o e=>cc _ o D.i2z e⟩
 done:=by
  intro X hP hw hK hc i pins s σ H E I hf st hg
  subst hP hw hK
  obtain ⟨xs,ys,hx,hy,k⟩:=hg
  obtain ⟨a1,a2,⟨ua,ub,a3⟩,a4,a5⟩:=st
  obtain ⟨its,rx,px,_⟩:=I.list hx
  obtain ⟨jts,ry,py,_⟩:=I.list hy
  have h1:=rx.length
  have h2:=ry.length
  refine wpAny_pyNext_zip_end (I.ok.hd hc) D a1 a2 a3 a4 a5 px.isList py.isList (k.imp (fun k=>by simp; omega) fun k=>by simp; omega) fun h' b7=>⟨rfl,turnedN (t':=s.toks) (fp:=[z,TI,TO,i1,i2]) I (fun b ob hb e=>?_) hf⟩
  simp only [List.mem_cons,List.not_mem_nil,or_false,not_or] at hb
  exact b7 b ob hb.1 hb.2.2.1 hb.2.2.2.1 hb.2.2.2.2 e
 self:=fun _ _ _ _ _ st h=>wpAny_pyIter_zip st.1 h
section
variable {X:Cx} {pos:Pos}
noncomputable def iZip (K:PySem.W.Frag) (ta:TA):TI:=fun σ H R=>ta σ H fun vs H1=>∃ a b xs ys,vs=[.ref a,.ref b]∧SqL K H1 a xs∧SqL K H1 b ys∧(xs.length≤sizeLine→ys.length≤sizeLine→R (Itz K a b) H1)
theorem pi_zip {a b:Expr} {ta:TA} {elts:List Expr} {x1:Nat} {tpos p:Pos} (hg:Gl X "zip") (hm:X.mg "zip" = none) (ha:PA X [a,b] ta) (hs:starEach [a,b] X.env=[(false,eval a X.env),(false,eval b X.env)]) (hs2:starEach [b] X.env=[(false,eval b X.env)]) :
  PI X (.Tuple elts x1 tpos) (.Call (.Name "zip" p) [a,b] [] pos) (iZip X.K ta):=by
 intro pins s σ H R I h
 refine Call_ (ld_blt I hg hm boot_zip (PyProof.Rows.callWith_type1 (thn (ha pos pins s σ H _ I h) fun us s1 ⟨vs,H1,I1,r1,q1⟩=>?_) (by rw [hs,hs2]) (by rw [hs2]; rfl)))
 obtain ⟨l1,l2,xs,ys,e,hx,hy,q⟩:=q1
 subst e
 cases r1 with
 | cons r rr=>
  cases rr with
  | cons r' rr=>
   cases rr
   cases r
   cases r'
   obtain ⟨its,rx,px,zx⟩:=I1.list hx
   obtain ⟨jts,ry,py,zy⟩:=I1.list hy
   have L1:l1 < s1.heap.objs.size:=by obtain ⟨_,e,_⟩:=px.isList; exact Heap.lt_size e
   have L2:l2 < s1.heap.objs.size:=by obtain ⟨_,e,_⟩:=py.isList; exact Heap.lt_size e
   refine call_zip_2 px.isList py.isList fun h' c1 c2 c3 c4 c5 c6 c7=>?_
   have I2:Inv X pins σ H1 { s1 with heap:=h' }:=I1.kept (t':=s1.toks) c7
   refine wpAny_pyIter_zip c1 ⟨s1.heap.objs.size + 4,[s1.heap.objs.size + 4,s1.heap.objs.size + 2,s1.heap.objs.size + 3,s1.heap.objs.size,s1.heap.objs.size + 1],_,_,H1,rfl,I2,turn_zip (zipApart_new L1 L2),⟨c1,c2,⟨_,_,c3⟩,c4,c5⟩,fun b hb=>?_,q zx zy⟩
   have hb':s1.heap.objs.size≤b:=by
    simp only [List.mem_cons,List.not_mem_nil,or_false] at hb
    rcases hb with q | q | q | q | q <;> rw [q] <;> first | exact Nat.le_add_right _ _ | exact Nat.le_refl _
   exact I1.fpOk hb' (I1.hok.fresh hb')
end
noncomputable def forZ (i j:Nat) (body:FS):List PyData→List PyData→FS
 | x::xs,y::ys=>fun ρ T=>bnd (body ((ρ.set i (some (.d x))).set j (some (.d y))) T) fun p T1=>match p with
  | (.nx,ρ1)=>forZ i j body xs ys ρ1 T1
  | (.ct,ρ1)=>forZ i j body xs ys ρ1 T1
  | (.bk,ρ1)=>some ((.nx,ρ1),T1)
  | (.rt x,ρ1)=>some ((.rt x,ρ1),T1)
  | (.ro x,ρ1)=>some ((.ro x,ρ1),T1)
 | _,_=>fNext
noncomputable def forZK (i j:Nat) (body:FS) (ρ:Rho) (w u:W) (T:Tp):Option ((Fl×Rho)×Tp):=match w,u with
 | .d (.list xs),.d (.list ys)=>forZ i j body xs ys ρ T
 | _,_=>none
noncomputable def fForZ (i j:Nat) (f g:FE) (body:FS):FS:=fun ρ T=>bnd (f ρ T) fun w T1=>bnd (g ρ T1) fun u T2=>forZK i j body ρ w u T2
theorem ds_forZ {X:Cx} {pos:Pos} {i j:Nat} {x y:Str} {a b:Expr} {f f2:FE} {g:FS} {body:List Stmt} {k:Nat} {px py tpos zp cpos:Pos} (hm:X.mg "zip" = none) (hN:X.N.Nodup) (ha:DE X a f) (hb2:DE X b f2) (hb:DSs X body g) (hg:Gl X "zip":=by rfl) (hi:X.N[i]? = some x:=by rfl) (hj:X.N[j]? = some y:=by rfl) (hx:Loc X.env.scope x:=by first | exact Or.inl rfl | exact Or.inr rfl) (hy:Loc X.env.scope y:=by first | exact Or.inl rfl | exact Or.inr rfl)
  (hf:X.fn x=true∨X.env.scope.names.lookup x=some .local:=by first | exact .inl rfl | exact .inr rfl | assumption) (hf':X.fn y=true∨X.env.scope.names.lookup y=some .local:=by first | exact .inl rfl | exact .inr rfl | assumption) (hp:PassesOwn (model X.prog X.w) X.A X.env X.xe:=by exact PassesOwn.never) (hc:X.calm=true:=by rfl)
  (hs1:starEach [a,b] X.env=[(false,eval a X.env),(false,eval b X.env)]:=by exact star_two rfl rfl) (hs2:starEach [b] X.env=[(false,eval b X.env)]:=by exact star_one rfl) (hs:∀ v,foldedSetIterable (.Call (.Name "zip" zp) [a,b] [] cpos) X.env v=pure v:=by intro _; rfl) :
  DS X (.For (.Tuple [.Name x px,.Name y py] k tpos) (.Call (.Name "zip" zp) [a,b] [] cpos) body [] pos) (fForZ i j f f2 g):=by
 refine ⟨?_⟩
 refine ps_imp (ps_for hp hc (pi_zip (ta:=tCons (lift X.K f) (tCons (lift X.K f2) tNil)) hg hm (pa_cons ha.pe (pa_cons hb2.pe pa_nil (by rw [hs2]; rfl)) (by rw [hs1,hs2])) hs1 hs2) (pg_tup hc (pgs_cons (pg_name hN hi hx hf) (pgs_cons (pg_name hN hj hy hf') pgs_nil))) hb.pe hs) fun D σ H=>?_
 rintro ⟨O₀,H₀,F,ts,O,ρ,T,fl,ρ',T',rs,e,q⟩
 obtain ⟨w1,T1,e1,e⟩:=bnd_of e
 obtain ⟨w2,T2,e2,e⟩:=bnd_of e
 refine ⟨O,ts,ρ,T,w1,T1,rs.hc,rs.re,e1,fun v1 H1 s1 hc1 r1=>?_⟩
 have rs1:=rs.step s1 hc1
 refine ⟨O,ts,ρ,T1,w2,T2,hc1,rs1.re,e2,fun v2 H2 s2 hc2 r2=>?_⟩
 have rs2:=rs1.step s2 hc2
 have hw:∃ dx dy,w1=.d (.list dx)∧w2=.d (.list dy):=by
  unfold forZK at e
  split at e
  ·exact ⟨_,_,rfl,rfl⟩
  ·cases e
 ·obtain ⟨dx,dy,rfl,rfl⟩:=hw
  have r1':Rep X.K O H2 v1 (.list dx):=Rep.mono (hc1.le s2) r1
  have r2':Rep X.K O H2 v2 (.list dy):=r2
  cases r1' with
  | @lst la vx _ tx rx=>
  cases r2' with
  | @lst lb vy _ ty ry=>
  refine ⟨la,lb,vx,vy,rfl,tx.sq,ty.sq,fun zx zy=>?_⟩
  have lx:=rx.length
  have ly:=ry.length
  refine ⟨fun n m σ H=>m=dx.length - n∧n≤dx.length∧n≤dy.length∧∃ O' ρk Tk,RS X.K O₀ H₀ ((O,H2)::F) ts O' H σ ρk Tk∧forZ i j g (dx.drop n) (dy.drop n) ρk Tk=some ((fl,ρ'),T'),⟨_,rfl,Nat.zero_le _,Nat.zero_le _,O,ρ,T2,rs2.more,e⟩,?_⟩
  rintro n m σ3 H3 ⟨rfl,hk,hk2,O',ρk,Tk,rs3,ek⟩
  have le:=rs3.frs _ List.mem_cons_self
  have tx3:=(tx.mono le).sq
  have ty3:=(ty.mono le).sq
  by_cases hlt:n < dx.length∧n < dy.length
  ·refine .inr ⟨⟨vx,vy,tx3,ty3,by omega,by omega⟩,fun σ3 H3=>n + 1≤dy.length∧∃ O' ρk Tk,RS X.K O₀ H₀ ((O,H2)::F) ts O' H3 σ3 ρk Tk∧forZ i j g (dx.drop (n + 1)) (dy.drop (n + 1)) ρk Tk=some ((fl,ρ'),T'),fun σ3 H3 nn=>⟨dx.length - (n + 1),by omega,rfl,hlt.1,nn.1,nn.2⟩,fun v H4 yy=>?_⟩
   obtain ⟨p,v',u',hpn,kx,ky,rfl,rfl⟩:=yy
   obtain ⟨d1,hd1,rd1⟩:=rx.get (kx vx tx3)
   obtain ⟨d2,hd2,rd2⟩:=ry.get (ky vy ty3)
   have hdx:dx.drop n=d1::dx.drop (n + 1):=by rw [List.drop_eq_getElem_cons hlt.1,(List.getElem?_eq_some_iff.mp hd1).2]
   have hdy:dy.drop n=d2::dy.drop (n + 1):=by rw [List.drop_eq_getElem_cons hlt.2,(List.getElem?_eq_some_iff.mp hd2).2]
   rw [hdx,hdy] at ek
   obtain ⟨⟨fl1,ρ1⟩,T3,e3,ek⟩:=bnd_of ek
   have rs4:=rs3.step (.new hpn (.tup [v',u'])) (rs3.hc.new hpn _)
   have le2:=le.trans (rs3.hc.leNew hpn (.tup [v',u']))
   refine ⟨p,_,rfl,SqT.of upd_same,rfl,_,_,rfl,_,_,rfl,rfl,O₀,H₀,(O,H2)::F,ts,O',_,Tk,fl1,ρ1,T3,(rs4.set (i:=i) (w:=.d d1) (Rep.mono le2 rd1) (fun _ z=>nomatch z)).set (i:=j) (w:=.d d2) (Rep.mono le2 rd2) (fun _ z=>nomatch z),e3,?_⟩
   cases fl1 with
   | nx=>exact fun O3 σ3 H3 rs3=>⟨hlt.2,O3,ρ1,T3,rs3,ek⟩
   | ct=>exact fun O3 σ3 H3 rs3=>⟨hlt.2,O3,ρ1,T3,rs3,ek⟩
   | bk=>
    cases ek
    exact fun O3 σ3 H3 rs3=>q O3 σ3 H3 rs3.less
   | rt x=>
    cases ek
    exact q
   | ro x=>
    cases ek
    exact q
  ·have e:forZ i j g (dx.drop n) (dy.drop n)=fNext:=by
    by_cases h1:n < dx.length
    ·rw [List.drop_eq_nil_of_le (show dy.length≤n by omega)]
     cases dx.drop n <;> rfl
    ·rw [List.drop_eq_nil_of_le (show dx.length≤n by omega)]
     cases dy.drop n <;> rfl
   rw [e] at ek
   cases ek
   exact .inl ⟨⟨vx,vy,tx3,ty3,by omega⟩,q O' σ3 H3 rs3.less⟩
end D
namespace D
open PySem PySem.Spec PyProof.Rows L2
section
variable {X:Cx} {pos:Pos}
noncomputable def forT (i j:Nat) (body:FS):List PyData→FS
 | []=>fNext
 | .tuple [a,b]::r=>fun ρ T=>bnd (body ((ρ.set i (some (.d a))).set j (some (.d b))) T) fun p T1=>match p with
  | (.nx,ρ1)=>forT i j body r ρ1 T1
  | (.ct,ρ1)=>forT i j body r ρ1 T1
  | (.bk,ρ1)=>some ((.nx,ρ1),T1)
  | (.rt x,ρ1)=>some ((.rt x,ρ1),T1)
  | (.ro x,ρ1)=>some ((.ro x,ρ1),T1)
 | _=>fun _ _=>none
noncomputable def fForT (i j:Nat) (it:FI) (body:FS):FS:=fun ρ T=>bnd (it ρ T) fun ds T1=>forT i j body ds ρ T1
theorem ds_forT {i j:Nat} {x y:Str} {iter:Expr} {f:FS} {body:List Stmt} {n:Nat} {px py tpos:Pos} {it:FI} (hN:X.N.Nodup) (hi:DI X (.Tuple [.Name x px,.Name y py] n tpos) iter it) (hb:DSs X body f) (hix:X.N[i]? = some x:=by rfl) (hjx:X.N[j]? = some y:=by rfl) (hx:Loc X.env.scope x:=by first | exact Or.inl rfl | exact Or.inr rfl) (hy:Loc X.env.scope y:=by first | exact Or.inl rfl | exact Or.inr rfl)
  (hf:X.fn x=true∨X.env.scope.names.lookup x=some .local:=by first | exact .inl rfl | exact .inr rfl | assumption) (hf':X.fn y=true∨X.env.scope.names.lookup y=some .local:=by first | exact .inl rfl | exact .inr rfl | assumption) (hp:PassesOwn (model X.prog X.w) X.A X.env X.xe:=by exact PassesOwn.never) (hc:X.calm=true:=by rfl)
  (hs:∀ x,foldedSetIterable iter X.env x=pure x:=by intro _; rfl):DS X (.For (.Tuple [.Name x px,.Name y py] n tpos) iter body [] pos) (fForT i j it f):=by
 refine ⟨?_⟩
 refine ps_imp (ps_for hp hc hi.pe (pg_tup hc (pgs_cons (pg_name hN hix hx hf) (pgs_cons (pg_name hN hjx hy hf') pgs_nil))) hb.pe hs) fun D σ H=>?_
 rintro ⟨O₀,H₀,F,ts,O,ρ,T,fl,ρ',T',rs,e,q⟩
 obtain ⟨ds,T1,e1,e⟩:=bnd_of e
 refine ⟨O,ts,ρ,T,ds,T1,rs.hc,rs.re,e1,fun J H1 s1 hc1 ok hz=>?_⟩
 refine ⟨fun k m σ H=>m=ds.length - k∧k≤ds.length∧∃ O' ρk Tk,RS X.K O₀ H₀ ((O,H1)::F) ts O' H σ ρk Tk∧forT i j f (ds.drop k) ρk Tk=some ((fl,ρ'),T'),⟨_,rfl,Nat.zero_le _,O,ρ,T1,(rs.step s1 hc1).more,e⟩,?_⟩
 rintro k m σ2 H2 ⟨rfl,hk,O',ρk,Tk,rs2,ek⟩
 obtain ⟨k1,k2,k3⟩:=ok O' H2 (rs2.frs _ List.mem_cons_self)
 by_cases hlt:k < ds.length
 ·refine .inr ⟨k1 k hlt,fun σ3 H3=>∃ O' ρk Tk,RS X.K O₀ H₀ ((O,H1)::F) ts O' H3 σ3 ρk Tk∧forT i j f (ds.drop (k + 1)) ρk Tk=some ((fl,ρ'),T'),fun σ3 H3 n=>⟨ds.length - (k + 1),by omega,rfl,hlt,n⟩,fun v H3 y=>?_⟩
  obtain ⟨e2,d,hd,rd⟩:=k3 k v H3 y hlt
  subst e2
  have hdr:ds.drop k=d::ds.drop (k + 1):=by rw [List.drop_eq_getElem_cons hlt,(List.getElem?_eq_some_iff.mp hd).2]
  rw [hdr] at ek
  generalize ds.drop (k + 1)=rest at ek ⊢
  have hab:∃ a b,d=.tuple [a,b]:=by
   match d,ek with
   | .tuple [a,b],_=>exact ⟨a,b,rfl⟩
   | .tuple [],ek=>cases ek
   | .tuple [_],ek=>cases ek
   | .tuple (_::_::_::_),ek=>cases ek
   | .none,ek=>cases ek
   | .bool _,ek=>cases ek
   | .int _,ek=>cases ek
   | .str _,ek=>cases ek
   | .list _,ek=>cases ek
   | .dict _,ek=>cases ek
  obtain ⟨a,b,rfl⟩:=hab
  cases rd with
  | tup t r=>
  cases r with
  | cons ra r=>
  cases r with
  | cons rb r=>
  cases r
  obtain ⟨⟨fl1,ρ1⟩,T3,e3,ek⟩:=bnd_of ek
  refine ⟨_,_,rfl,t.sq,rfl,_,_,rfl,_,_,rfl,rfl,O₀,H₀,(O,H1)::F,ts,O',_,Tk,fl1,ρ1,T3,(rs2.set (i:=i) (w:=.d a) ra (fun _ z=>nomatch z)).set (i:=j) (w:=.d b) rb (fun _ z=>nomatch z),e3,?_⟩
  cases fl1 with
  | nx=>exact fun O3 σ3 H3 rs3=>⟨O3,ρ1,T3,rs3,ek⟩
  | ct=>exact fun O3 σ3 H3 rs3=>⟨O3,ρ1,T3,rs3,ek⟩
  | bk=>
   cases ek
   exact fun O3 σ3 H3 rs3=>q O3 σ3 H3 rs3.less
  | rt x=>
   cases ek
   exact q
  | ro x=>
   cases ek
   exact q
 ·have e:k=ds.length:=by omega
  subst e
  rw [List.drop_eq_nil_of_le (Nat.le_refl _)] at ek
  cases ek
  exact .inl ⟨k2,q O' σ2 H2 rs2.less⟩
end
end D
namespace D
open PySem PySem.Spec PyProof.Rows L2
section
variable {X:Cx}
variable {pos:Pos} {e e':Expr} {fe fk:FE}
end
section
variable {K:PySem.W.Frag} {O₀:Addr→Prop} {H₀:Hp} {F:List ((Addr→Prop)×Hp)} {ts:List Addr} {O A:Addr→Prop} {H H1:Hp} {σ:L2.St} {ρ:Rho} {T T1:Tp}
theorem RS.keep (r:RS K O₀ H₀ F ts O H σ ρ T) (hA:∀ b,A b→O b):HC K (fun b=>O₀ b∨A b) ts H T∧Le O H (fun b=>O₀ b∨A b) H:=by
 have le:Le O H (fun b=>O₀ b∨A b) H:=fun a o n e=>⟨fun z=>n (z.elim (r.sub a) (hA a)),e⟩
 exact ⟨⟨fun b hb=>.inl (r.ots b hb),fun b hb=>r.hc.trk b (hb.elim (r.sub b) (hA b)),r.hc.nd,r.hc.len,fun i a xs e1 e2=>(r.hc.tape i a xs e1 e2).mono (fun _ h=>h) le⟩,le⟩
end
section
variable {X:Cx} {pos:Pos}
end
noncomputable def fnEndO (o:Option ((Fl×Rho)×Tp)):Option (PyData×Tp):=bnd o fun p T=>match p with
 | (.ro x,_)=>some (x,T)
 | _=>none
noncomputable def mkFnO (N:Nat) (f:FS):FnM:=fun ws T=>if noLoc ws=true then fnEndO (f (ws.map some++List.replicate (N - ws.length) none) T) else none
inductive SpOP (K:PySem.W.Frag) (n:Nat) (m:FnM) (vs:List V) (H:Hp) (Q:VK):Prop where
 | mk (O:Addr→Prop) (ts:List Addr) (T:Tp) (ws:List W) (x:PyData) (T':Tp) (hc:HC K O ts H T) (r:RepWs K O ts H vs ws) (hl:ws.length=n) (e:m ws T=some (x,T'))
  (q:∀ (A:Addr→Prop) v H',SameX ts H H'→(∀ b,A b→H b=none∧¬ O b)→HC K (fun b=>O b∨A b) ts H' T'→OwnV K (fun b=>O b∨A b) A H' v x→Q v H'):SpOP K n m vs H Q
noncomputable def spO (K:PySem.W.Frag) (n:Nat) (m:FnM):Sp:=fun vs H Q _=>SpOP K n m vs H Q
theorem dfnO {P:Program} {w:World} {K:PySem.W.Frag} {mg:Str→Option Value} {base:Heap} {x qual:Str} {st:Stmt} {f:Addr} {fd:FuncData} {N ps:List Str} {k:Nat} {m:FS} (F:Fun K x qual st f fd) (S:FnScope N ps (defScope st))
  (hbody:∀ (cdv:Value) (A:Around) (outer:List Env) (s:Shared) (H:Hp) (E:XK),Room k (A.deeper (envOfC qual (defScope st) s.heap.objs.size f cdv))→DSs (cxOf CX0 P w K mg base N qual (defScope st) f cdv A outer s H E).nox (defBody st) m) :
  FnOk P w K mg base CX0 (k + 1) f fd ps (spO K ps.length (mkFnO N.length m)):=by
 refine F.ok S (fun vs H Q E h=>?_) (fun cdv A outer s H vs Q E hr h=>⟨_,(hbody cdv A outer s H E hr).pe,?_⟩)
 ·obtain ⟨O,ts,T,ws,x,T',hc,rw',hl,_⟩:=h
  rw [← hl]
  exact Paired.length rw'
 obtain ⟨O,ts,T,ws,x,T',hc,rw',hl,e,q⟩:=h
 unfold mkFnO at e
 split at e
 ·rename_i hn
  obtain ⟨⟨fl,ρ'⟩,T1,e1,e⟩:=bnd_of e
  have hlen:vs.length=ws.length:=Paired.length rw'
  have noL:∀ {i:Nat} {xs:PyData},(ws.map some++List.replicate (N.length - ws.length) none)[i]? = some (some (W.loc xs))→False:=fun {i xs} e=>noLoc_mem hn (List.mem_of_getElem? (start_get e))
  refine ⟨O,H,[],ts,O,_,T,fl,ρ',T1,⟨hc,fun i u e=>?_,fun _ h=>h,hc.own,.refl _ _,fun i xs a e1 _=>(noL e1).elim,fun i j xs ys v e1 _ _ _=>(noL e1).elim,fun f hf=>absurd hf (by simp),by simp [L2.start,hlen]⟩,e1,?_⟩
  ·obtain ⟨v,h1,h2⟩:=repws_get rw' (start_get e)
   refine ⟨v,?_,h2⟩
   unfold L2.start
   have hi:i < vs.length:=(List.getElem?_eq_some_iff.mp h1).1
   rw [List.getElem?_append_left (by simpa using hi),List.getElem?_map,h1]
   rfl
  ·cases fl with
   | ro y=>cases e; exact q
   | _=>cases e
 ·cases e
section
variable {X:Cx} {pos:Pos}
end
end D
namespace D
open PySem PySem.Spec PyProof.Rows L2
section
variable {X:Cx}
noncomputable abbrev FP:=Rho→Tp→Option (List (Str×PyData)×Tp)
noncomputable def dctOf (l:List (Str×PyData)):List (PyData×PyData):=l.map fun p=>(.str p.1,p.2)
noncomputable def keyS (p:Str×V):Key×V:=(Sum.inr p.1,p.2)
structure DP (X:Cx) (pos:Pos) (keys:List (Option Expr)) (values:List Expr) (g:FP):Prop where
 ex:∃ trs,PPs X pos keys values trs∧∀ (σ:L2.St) (H:Hp) (Q:List (V×V)→Hp→Prop) (O:Addr→Prop) (ts:List Addr) (ρ:Rho) (T:Tp) (l:List (Str×PyData)) (T':Tp),HC X.K O ts H T→RelE X.K O ts H σ ρ→g ρ T=some (l,T') →
  (∀ (kvs:List (Str×V)) (H':Hp),SameX ts H H'→HC X.K O ts H' T'→kvs.map (·.1)=l.map (·.1)→RepK X.K O H' (kvs.map keyS) (dctOf l)→Q (kvs.map fun p=>(V.str p.1,p.2)) H')→tPairs trs σ H Q
end
end D
namespace D
open PySem PySem.Spec PyProof.Rows L2
section
variable {X:Cx} {pos:Pos}
end
end D
namespace D
open PySem PySem.Spec PyProof.Rows L2
section
variable {X:Cx} {pos:Pos} {rest:List Stmt} {fr:FS}
end
end D
namespace D
open PySem PySem.Spec PyProof.Rows L2
noncomputable def retOLK (ρ:Rho) (o:Option (List PyData)) (T:Tp):Option ((Fl×Rho)×Tp):=match o with
 | some xs=>if xs.length≤1000 then some ((.ro (.list xs),ρ),T) else none
 | none=>none
noncomputable def fRetOL (g:FA):FS:=fun ρ T=>bnd (g ρ T) fun ws T1=>retOLK ρ (datas ws) T1
section
variable {X:Cx} {pos:Pos}
theorem ds_retOL {es:List Expr} {g:FA} {lpos:Pos} (ha:DA X es g):DS X (.Return (some (.List es lpos)) pos) (fRetOL g):=by
 refine ⟨?_⟩
 refine ps_imp (ps_ret (pe_lst ha.pe)) fun D σ H=>?_
 rintro ⟨O₀,H₀,F,ts,O,ρ,T,fl,ρ',T',rs,e,q⟩
 obtain ⟨ws,T1,e1,e⟩:=bnd_of e
 refine ⟨O,ts,ρ,T,ws,T1,rs.hc,rs.re,e1,fun vs H1 s1 hc1 r1=>?_⟩
 have rs1:=rs.step s1 hc1
 unfold retOLK at e
 split at e
 ·rename_i xs h1
  split at e
  ·rename_i h2
   cases e
   have rv:=datas_of r1 h1
   refine ⟨le_line (by rw [rv.length]; exact h2),fun p hp=>?_⟩
   have nO:=rs1.hc.fresh hp
   have nt:p∉ts:=fun z=>nO (rs1.hc.own p z)
   have h0:H₀ p=none:=by
    cases z:H₀ p with
    | none=>rfl
    | some o=>rw [rs1.same p o nt z] at hp; cases hp
   have le:Le O H1 (fun b=>O₀ b∨b=p) (upd H1 p (.lst vs)):=fun b o n z=>by
    have nb:b≠p:=ne_of_none z hp
    exact ⟨fun y=>y.elim (fun y=>n (rs1.sub b y)) nb,by rw [upd_ne nb]; exact z⟩
   refine q (fun b=>b=p) (.ref p) _ (rs1.same.trans (.new hp _)) (fun b hb=>by rw [hb]; exact ⟨h0,fun z=>nO (rs1.sub p z)⟩) ⟨fun b hb=>.inl (rs1.ots b hb),fun b hb=>?_,rs1.hc.nd,rs1.hc.len,fun j b ys q1 q2=>?_⟩ ⟨p,rfl,fun c=>Iff.rfl,vs,upd_same,rv.mono le⟩
   ·by_cases z:b=p
    ·subst z; rw [upd_same]; exact .inl ⟨_,rfl⟩
    ·rw [upd_ne z]; exact rs1.hc.trk b (rs1.sub b (hb.resolve_right z))
   ·exact (rs1.hc.tape j b ys q1 q2).mono (fun o h=>by rw [upd_ne (ne_of_none h hp)]; exact h) le
  ·cases e
 ·cases e
end
end D
namespace D
open PySem PySem.Spec PyProof.Rows L2
end D
namespace D
open PySem PySem.Spec PyProof.Rows L2
section
variable {prog:Program} {w:World} {K:Type} [DecidableEq K] {knd:KeyKind prog w K} {A:Around} {E:Value→Shared→Prop} {s:Shared}
end
end D
namespace D
open PySem PySem.Spec PyProof.Rows L2
section
variable {X:Cx}
end
end D
namespace D
open PySem PySem.Spec PyProof.Rows L2
section
variable {prog:Program} {w:World} {A:Around} {E:Value→Shared→Prop} {s:Shared}
end
section
variable {X:Cx}
end
end D
namespace D
open PySem PySem.Spec PyProof.Rows L2
section
variable {X:Cx}
end
end D
namespace D
open PySem PySem.Spec PyProof.Rows L2
section
variable {X:Cx}
end
end D
namespace XE
open PySem PySem.Spec PyProof.Rows L2
noncomputable abbrev vE:List Value:=[.type "ValueError",.type "Exception",.type "BaseException",.type "object"]
noncomputable def XCl (K:PySem.W.Frag) (C:Addr) (tl:List Value):Prop:=
 ∃ nm q N bs sn sub ab col dd k0 k1 k2 k3 k5,K.lookup C=some (excClassObj nm q C N bs tl true sn sub ab col dd k0 k1 k2 k3 k5 "ValueError.__new__")∧PySem.W.nsOkIn K N=true
section
variable {prog:Program} {w:World} {A:Around} {E:Value→Shared→Prop} {h:Heap} {g:Array GenState} {d:Drawn} {t:Nat} {os:OsState} {K:PySem.W.Frag} {C R fI:Addr}
end
end XE
namespace XE
open PySem PySem.Spec PyProof.Rows L2
noncomputable def XAt (e C:Addr) (od:Option Addr):Heap→Prop:=fun h=>∃ t,h.get? e=some { cls:=.ref C,dict:=od,data:=.fields #[.ref t,.none,.none,.none,.bool false,.none] }
theorem XAt.stay {e C:Addr} {od:Option Addr} {h1 h2:Heap} (x:XAt e C od h1) (k:∀ o,h1.get? e=some o→h2.get? e=some o):XAt e C od h2:=let ⟨t,y⟩:=x; ⟨t,k _ y⟩
theorem XAt.ok {P:Program} {w:World} {H:Hp} {e C:Addr} {od:Option Addr} {h:Heap} (x:XAt e C od h):ObjOk P w H h e (.ext (XAt e C od)):=⟨x,let ⟨_,y⟩:=x; ⟨_,y⟩,fun _ _ a k=>a.stay k⟩
theorem XAt.of {P:Program} {w:World} {H:Hp} {e C:Addr} {od:Option Addr} {h:Heap} (ok:HOk P w H h) (x:H e=some (.ext (XAt e C od))):XAt e C od h:=(ok _ _ x).1
section
variable {X:Cx} {C R:Addr}
end
section
open Builtin Builtin.ObjectAttr
variable {prog:Program} {w:World} {A:Around} {E:Value→Shared→Prop} {h:Heap} {g:Array GenState} {d:Drawn} {t:Nat} {os:OsState} {K:PySem.W.Frag} {C R e:Addr} {name:Str} {v:Value} {vs:Array Value}
end
end XE
namespace XE
open PySem PySem.Spec PyProof.Rows L2
section
variable {X:Cx} {C R:Addr}
end
end XE
namespace XE
open PySem PySem.Spec PyProof.Rows L2
noncomputable def spI (C:Addr) (f:Str):Sp:=fun vs H Q _=>∃ a x,vs=[.ref a,.str x]∧H a=some (.ext (XAt a C none))∧(reprText x).length + 1000≤sizeLine ∧
 ∀ dx,H dx=none→dx≠a→Q .non (upd (upd H dx (.xd [(f,.str x)])) a (.ext (XAt a C (some dx))))
structure XIni (P:Program) (w:World) (K:PySem.W.Frag) (mg:Str→Option Value) (base:Heap) (C R:Addr) (f:Str) (k:Nat):Prop where
 ex:∃ fI fd ps,FnOk P w K mg base CX0 k fI fd ps (spI C f)∧Binds K fd ps []∧PySem.W.findIn K (.ref C) "__init__" = some (some (.ref fI))∧PySem.W.isFn K (.ref fI)=true
 c:XCl K C (.ref R::vE)
 r:XCl K R vE
 ri:PySem.W.ownIn K "__init__" (.ref R)=some none
 kp:PySem.W.keepIn K (.ref C)=true
section
variable {X:Cx} {C R:Addr} {f:Str} {k:Nat}
end
end XE
namespace XE
open PySem PySem.Spec PyProof.Rows L2
structure Kp (xs fs:List Addr) (h h':Heap):Prop where
 keep:∀ b o,h.get? b=some o→b∉xs→b∉fs→h'.get? b=some o
 slot:∀ b o,h.get? b=some o→b∉xs→b∈fs→∃ sl,h'.get? b=some { o with slots:=sl }
 there:∀ b o,h.get? b=some o→∃ o',h'.get? b=some o'
theorem Kp.trans {xs fs:List Addr} {h h1 h2:Heap} (a:Kp xs fs h h1) (b:Kp xs fs h1 h2):Kp xs fs h h2 where
 keep:=fun c o q n m=>b.keep c o (a.keep c o q n m) n m
 slot:=fun c o q n m=>let ⟨_,e⟩:=a.slot c o q n m; let ⟨sl,e2⟩:=b.slot c _ e n m; ⟨sl,e2⟩
 there:=fun c o q=>let ⟨_,e⟩:=a.there c o q; b.there c _ e
theorem Kp.more {xs ys fs:List Addr} {h h':Heap} (a:Kp xs fs h h') (k:∀ x∈xs,x∈ys):Kp ys fs h h':=
 ⟨fun b o q n m=>a.keep b o q (fun z=>n (k b z)) m,fun b o q n m=>a.slot b o q (fun z=>n (k b z)) m,a.there⟩
theorem Kp.less {xs ys fs:List Addr} {h h1 h2:Heap} (k:∀ b o,h.get? b=some o→h1.get? b=some o) (a:Kp xs fs h1 h2) (n:∀ x∈xs,x∈ys∨h.get? x=none):Kp ys fs h h2:=by
 have ne:∀ b o,h.get? b=some o→b∉ys→b∉xs:=fun b o q m z=>by
  rcases n b z with z | z
  ·exact m z
  ·rw [q] at z; cases z
 exact ⟨fun b o q m1 m2=>a.keep b o (k b o q) (ne b o q m1) m2,fun b o q m1 m2=>a.slot b o (k b o q) (ne b o q m1) m2,fun b o q=>a.there b o (k b o q)⟩
section
variable {M:Model} {A:Around} {E:Value→Shared→Prop} {s:Shared} {base:Heap} {env:Env} {outer:List Env} {L e C dx T:Addr}
end
end XE
namespace XE
open PySem PySem.Spec PyProof.Rows L2
section
variable {P:Program} {w:World} {K:PySem.W.Frag} {mg:Str→Option Value} {base:Heap} {N:List Str} {qual:Str} {scope:Scope} {f C R:Addr} {cdv:Value} {A:Around} {outer:List Env} {s0:Shared} {H0:Hp} {E:XK}
end
end XE
namespace XE
open PySem PySem.Spec PyProof.Rows L2
section
variable {X:Cx} {pins:List (Addr×Obj)} {σ:L2.St} {H:Hp} {s:Shared}
end
end XE
namespace XE
open PySem PySem.Spec PyProof.Rows L2
section
variable {X:Cx} {C R fa:Addr} {k:Nat} {fd:FuncData} {ps:List Str} {sp:Sp}
end
end XE
namespace XE
open PySem PySem.Spec PyProof.Rows L2
section
variable {prog:Program} {w:World} {A:Around} {E:Value→Shared→Prop} {h:Heap} {g:Array GenState} {d:Drawn} {t:Nat} {os:OsState} {K:PySem.W.Frag} {C R x:Addr} {ox:Obj} {od:Option Obj} {name:Str}
structure XIs (K:PySem.W.Frag) (C:Addr):Prop where
 bm:PySem.W.mroIn K C (.type "BaseException")=some true
 gt:PySem.W.findIn K (.ref C) "__getattr__" = some none
 ga:PySem.W.findIn K (.ref C) "__getattribute__" = some (some (.builtin "BaseException.__getattribute__"))
 hc:(PySem.W.clsIn K C).isSome=true
 ca:PySem.W.findIn K (.ref C) "__class__" = some (some (.builtin "object.__class__"))
 hn:PySem.W.specialIn K (.builtin "object.__class__") "__get__" = some (some (.builtin "getset_descriptor.__get__"))
 tk:PySem.W.takesIn K (.builtin "object.__class__")=some true
 hm:PySem.W.mroIn K C (.type "object")=some true
end
end XE
namespace XE
open PySem PySem.Spec PyProof.Rows L2
section
variable {X:Cx} {C e dx:Addr} {oe:Obj}
structure Cau (X:Cx) (C e dx:Addr) (oe:Obj):Prop where
 pin:(e,oe)∈X.pn
 cls:oe.cls=.ref C
 dict:oe.dict=some dx
 data:∃ vs,oe.data=.fields vs
 is:XIs X.K C
 hd:PySem.W.hasDictIn X.K C=true
end
end XE
namespace XE
open PySem PySem.Spec PyProof.Rows L2 D
structure XB (K:PySem.W.Frag) (C R:Addr) (f:Str) (Ds:List Addr):Prop where
 c:XCl K C (.ref R::vE)
 r:XCl K R vE
 ri:PySem.W.ownIn K "__init__" (.ref R)=some none
 kp:PySem.W.keepIn K (.ref C)=true
 is:XIs K C
 hd:PySem.W.hasDictIn K C=true
 nn:PySem.W.findIn K (.ref C) f=some none
 sa:PySem.W.findIn K (.ref C) "__setattr__" = some (some (.builtin "object.__setattr__"))
 rd:PySem.W.readsIn K R (.type "type")=true
 fc:PySem.W.findCls K (.ref R) (.type "type") "__init__" = some (.val (.builtin "ValueError.__init__"))
 kC:PySem.W.kitOne K (.ref C) (.ref C)=some true
 kV:PySem.W.kitOne K (.ref C) (.type "ValueError")=some true
 kD:PySem.W.kitAny K (.ref C) (Ds.map Value.ref)=some false
end XE
namespace XE
open PySem PySem.Spec PyProof.Rows L2
section
variable {X:Cx} {C R:Addr}
end
end XE
namespace XE
open PySem PySem.Spec PyProof.Rows L2 D
noncomputable def spG (P:V→Prop) (C:Addr) (f:Str):Sp:=fun vs H Q _=>∃ a v,vs=[.ref a,v]∧H a=some (.ext (XAt a C none))∧P v ∧
 ∀ dx,H dx=none→dx≠a→Q .non (upd (upd H dx (.xd [(f,v)])) a (.ext (XAt a C (some dx))))
structure XIniG (A:V→Prop) (P:Program) (w:World) (K:PySem.W.Frag) (mg:Str→Option Value) (base:Heap) (C R:Addr) (f:Str) (k:Nat):Prop where
 ex:∃ fI fd ps,FnOk P w K mg base CX0 k fI fd ps (spG A C f)∧Binds K fd ps []∧PySem.W.findIn K (.ref C) "__init__" = some (some (.ref fI))∧PySem.W.isFn K (.ref fI)=true
 c:XCl K C (.ref R::vE)
 r:XCl K R vE
 ri:PySem.W.ownIn K "__init__" (.ref R)=some none
 kp:PySem.W.keepIn K (.ref C)=true
section
variable {X:Cx} {C R:Addr} {f:Str} {k:Nat}
end
end XE
namespace XE
open PySem PySem.Spec PyProof.Rows L2 D
end XE
namespace D
open PySem PySem.Spec PyProof.Rows L2
section
variable {X:Cx}
end
end D
namespace D
open PySem PySem.Spec PyProof.Rows L2
section
variable {X:Cx}
variable {pos:Pos} {e:Expr} {fe:FE}
end
end D
namespace D
open PySem PySem.Spec PyProof.Rows L2
section
variable {prog:Program} {w:World} {A:Around} {E:Value→Shared→Prop}
end
section
variable {X:Cx} {pos:Pos}
end
end D
namespace D
open PySem PySem.Spec PyProof.Rows L2
section
variable {X:Cx} {pos:Pos} {e:Expr} {fe:FE}
end
end D
namespace D
open PySem PySem.Spec PyProof.Rows L2
section
variable {X:Cx}
end
end D
namespace D
open PySem PySem.Spec PyProof.Rows L2
section
variable {X:Cx} {pos:Pos} {e:Expr} {fe:FE}
end
end D
namespace D
open PySem PySem.Spec PyProof.Rows L2
section
variable {X:Cx} {pos:Pos} {e:Expr} {fe:FE}
end
section
variable {X:Cx} {pos:Pos}
end
end D
namespace D
open PySem PySem.Spec PyProof.Rows L2
section
variable {X:Cx} {pos:Pos}
end
end D
namespace D
open PySem PySem.Spec PyProof.Rows L2
section
variable {X:Cx}
end
end D
namespace L2
open PySem PySem.Spec PyProof.Rows
section
variable {prog:Program} {w:World} {A:Around} {E:Value→Shared→Prop} {s:Shared}
end
section
variable {X:Cx} {e:Expr} {te:TE} {x y:Str} {p p' pos pos':Pos}
end
end L2
namespace D
open PySem PySem.Spec PyProof.Rows L2
noncomputable def lrevD:PyData→Option PyData
 | .list xs=>some (.list xs.reverse)
 | _=>none
@[simp] theorem ev_lrev {xs:List PyData}:lrevD (.list xs)=some (.list xs.reverse):=rfl
section
variable {X:Cx} {pos pos' p p':Pos} {e:Expr} {f:FE}
end
end D
namespace D
open PySem PySem.Spec PyProof.Rows L2
section
variable {X:Cx} {pos:Pos}
end
end D
namespace D
open PySem PySem.Spec PyProof.Rows L2
noncomputable def dd:List Str→List Str
 | []=>[]
 | a::r=>if a∈r then dd r else a::dd r
end D
namespace D
open PySem PySem.Spec PyProof.Rows L2
section
variable {X:Cx} {pos:Pos}
end
end D
namespace L2
open PySem PySem.Spec PyProof.Rows
theorem orStandIn_led (t:SetTable) (n:Nat):(t.orStandIn n).led=t.led:=by
 unfold SetTable.orStandIn
 split <;> rfl
theorem layNew_led (t:SetTable) (es:Array (Int×Value)) (h:Int) (x:Value):(layNew t es h x).2.1.led=t.led:=by
 unfold layNew
 split
 ·exact orStandIn_led _ _
 ·rfl
theorem laid_led {mask finger moves:Nat} {led plain:Bool} {hashes:Array Int} {t':SetTable} {order:Array Nat} (e:SetTable.laid mask finger moves led plain hashes=some (t',order)):t'.led=led:=by
 unfold SetTable.laid at e
 cases h:SetTable.layClean mask hashes with
 | none=>rw [h] at e; cases e
 | some o=>rw [h] at e; cases e; rfl
theorem relayAll_led (t:SetTable) (es:Array (Int×Value)) (wanted:Nat):(relayAll t es wanted).2.1.led=t.led:=by
 unfold relayAll
 split
 ·rename_i t' order e
  dsimp only
  split
  ·exact laid_led e
  ·rfl
 ·rfl
theorem laid_plain {mask finger moves:Nat} {led plain:Bool} {hashes:Array Int} {t':SetTable} {order:Array Nat} (e:SetTable.laid mask finger moves led plain hashes=some (t',order)):t'.plain=plain:=by
 unfold SetTable.laid at e
 cases h:SetTable.layClean mask hashes with
 | none=>rw [h] at e; cases e
 | some o=>rw [h] at e; cases e; rfl
theorem relayAll_plain (t:SetTable) (es:Array (Int×Value)) (wanted:Nat) (h:t.plain=false):(relayAll t es wanted).2.1.plain=false:=by
 unfold relayAll
 split
 ·rename_i t' order e
  dsimp only
  split
  ·exact (laid_plain e).trans h
  ·rfl
 ·rfl
noncomputable def SetIs (P:Program) (w:World) (h:Heap) (a:Addr) (es:Array (Int×Value)) (led:Bool):Prop:=
 ∃ o ep t,h.get? a=some o∧o.ExactSet∧o.data=.set es ep t∧ElemsOf (strKind P w) es.toList∧es.size < scanBound∧t.fits es.size=true∧t.led=led∧(es.size=0∨t.plain=false)
section
variable {P:Program} {w:World} {A:Around} {E:Value→Shared→Prop} {s:Shared}
theorem setIs_store {a:Addr} {o:Obj} {es es1:Array (Int×Value)} {ep:Nat} {t t2:SetTable} {h:Heap} (ho:h.get? a=some o) (hex:o.ExactSet) (hd:o.data=.set es ep t) (hel:ElemsOf (strKind P w) es1.toList) (hb:es1.size < scanBound) (hf:t2.fits es1.size=true) (hpn:t2.plain=false) :
  (h.update a (Obj.putSet es1 t2)).get? a=some { o with data:=.set es1 (ep + 1) t2 }∧SetIs P w (h.update a (Obj.putSet es1 t2)) a es1 t2.led:=by
 obtain ⟨g1,_⟩:=SetOf_store (knd:=strKind P w) (S':=fun k'=>es1.toList.any fun e=>(strKind P w).is k' e.2) ho hex hd hel (fun k'=>List.any_eq_true) hb hf
 exact ⟨g1,_,_,_,g1,hex,rfl,hel,hb,hf,rfl,.inr hpn⟩
theorem add_tail {g:Bool→Sem Unit} (hg:∀ (b:Bool) (s₁:Shared) (Q':Unit→Shared→Prop),Q' () s₁→wpAny (model P w) A (g b) Q' E s₁) {a:Addr} {o:Obj} {es es1:Array (Int×Value)} {ep:Nat} {t t2:SetTable} (ho:s.heap.get? a=some o) (hex:o.ExactSet) (hd:o.data=.set es ep t)
  (hel:ElemsOf (strKind P w) es1.toList) (hb:es1.size < scanBound) (hf:t2.fits es1.size=true) (hpn:t2.plain=false) {wasDummy:Bool} {R:Option Bool→Shared→Prop}
  (h:∀ h' es',Heap.SameBut a s.heap h'→SetIs P w h' a es' t2.led→es'.toList.Perm es1.toList→R (some true) { s with heap:=h' }) :
  wpAny (model P w) A (do
    storeSet a es1 t2
    if (!wasDummy && t2.tooFull)=true then do
      g (relayAll t2 es1 (SetTable.grown es1.size)).2.2
      storeSet a (relayAll t2 es1 (SetTable.grown es1.size)).1 (relayAll t2 es1 (SetTable.grown es1.size)).2.1
      pure (some true)
     else pure (some true)) R E s:=by
 obtain ⟨k1,k2⟩:=setIs_store (P:=P) (w:=w) ho hex hd hel hb hf hpn
 have b1:=Heap.SameBut.update s.heap a (Obj.putSet es1 t2)
 refine wpAny_bind (wpAny_storeSet_of ho hd ?_ (fits_of_scanBound hb))
 by_cases hc:(!wasDummy && t2.tooFull)=true
 ·rw [if_pos hc]
  have hp:=relayAll_perm t2 es1 (SetTable.grown es1.size)
  have hz:(relayAll t2 es1 (SetTable.grown es1.size)).1.size < scanBound:=by rw [← Array.length_toList,hp.length_eq,Array.length_toList]; exact hb
  refine wpAny_bind (hg _ _ _ (wpAny_bind (wpAny_storeSet_of k1 rfl ?_ (fits_of_scanBound hz))))
  obtain ⟨_,k3⟩:=setIs_store (P:=P) (w:=w) k1 hex rfl (hel.perm hp) hz (relayAll_fits t2 es1 (SetTable.grown es1.size)) (relayAll_plain t2 es1 _ hpn)
  rw [relayAll_led] at k3
  exact wpAny_pure (h _ _ (b1.trans (Heap.SameBut.update _ a _)) k3 hp)
 ·rw [if_neg hc]
  exact wpAny_pure (h _ _ b1 k2 (List.Perm.refl _))
theorem add_str {a:Addr} {es:Array (Int×Value)} {led:Bool} {x:Str} {tk:Tok} {Q:Bool→Shared→Prop} (hS:SetIs P w s.heap a es led) (hroom:es.size + 1 < scanBound)
  (h0:(∃ e∈es.toList,(strKind P w).is x e.2=true)→Q false s)
  (h1:(∀ e∈es.toList,(strKind P w).is x e.2=false)→∀ h' es',Heap.SameBut a s.heap h'→SetIs P w h' a es' led→es'.toList.Perm (es.toList++[((strKind P w).hash x,.str x tk)])→Q true { s with heap:=h' }) :
  wpAny (model P w) A (setAddHashed a (.str x tk) ((strKind P w).hash x)) Q E s:=by
 obtain ⟨o,ep,t,ho,hex,hd,hel,hb,hf,hl,_⟩:=hS
 have hk:(strKind P w).is x (.str x tk)=true:=strKind_is P w x tk
 have hsc:(Value.str x tk).scannable=true:=rfl
 unfold setAddHashed setAddHashedIn
 refine wpAny_holding (wpAny_bind (wpAny_setState_of ho hd hf ?_))
 dsimp only
 rw [byScan_of hsc hb hel,if_pos rfl]
 unfold setAddByScan
 refine wpAny_bind (wpAny_bind (wpAny_rule (wpAny_bind (wpAny_setScan_of hk ho hd hf hel ?_))))
 cases hr:List.findIdx? (fun e=>(strKind P w).is x e.2) es.toList with
 | some j=>
  obtain ⟨hj,hpj,_⟩:=List.findIdx?_eq_some_iff_getElem.mp hr
  exact wpAny_pure (wpAny_pure (h0 ⟨_,List.getElem_mem hj,hpj⟩))
 | none=>
  have hno:∀ e∈es.toList,(strKind P w).is x e.2=false:=fun e he=>by
   have:=List.findIdx?_eq_none_iff.mp hr e he
   simpa using this
  have hgw:∀ (b:Bool) (s₁:Shared) (Q':Unit→Shared→Prop),Q' () s₁→wpAny (model P w) A (match b with | true=>rule "set.scan.the-table-gave-way" | false=>pure ()) Q' E s₁:=fun b s₁ Q' hq=>by
   cases b <;> first | exact wpAny_pure hq | exact wpAny_rule hq
  have hperm:=layNew_perm t es ((strKind P w).hash x) (.str x tk)
  have hfits:=layNew_fits t es ((strKind P w).hash x) (.str x tk)
  have hled:=layNew_led t es ((strKind P w).hash x) (.str x tk)
  dsimp only
  generalize layNew t es ((strKind P w).hash x) (.str x tk)=L at hperm hfits hled ⊢
  obtain ⟨es1,t1,wasDummy,gave⟩:=L
  dsimp only at hperm hfits hled ⊢
  rw [Array.toList_push] at hperm
  have hel1:ElemsOf (strKind P w) es1.toList:=(hel.push hk hsc).perm hperm
  have hb1:es1.size < scanBound:=by rw [← Array.length_toList,hperm.length_eq,List.length_append,Array.length_toList]; simpa using hroom
  refine wpAny_bind (hgw _ _ _ ?_)
  have fin:∀ h' es',Heap.SameBut a s.heap h'→SetIs P w h' a es' led→es'.toList.Perm es1.toList→Q true { s with heap:=h' }:=fun h' es' q1 q2 q3=>h1 hno h' es' q1 q2 (q3.trans hperm)
  split
  ·refine wpAny_bind ?_
   rw [hashByValue_scannable 8 hsc]
   refine wpAny_pure ?_
   refine add_tail (fun b s₁ Q' hq=>by cases b <;> first | exact wpAny_pure hq | exact wpAny_rule hq) ho hex hd hel1 hb1 ?_ rfl fun h' es' q1 q2 q3=>?_
   ·split
    ·exact hfits
    ·exact SetTable.fits_plain_off hfits
   ·have e:∀ c:Bool,(if c=true then t1 else { t1 with plain:=false }).led=led:=fun c=>by cases c <;> exact hled.trans hl
    rw [e] at q2
    exact wpAny_pure (fin h' es' q1 q2 q3)
  ·rename_i hnp
   refine wpAny_bind (wpAny_pure ?_)
   simp only [↓reduceIte]
   refine add_tail (fun b s₁ Q' hq=>by cases b <;> first | exact wpAny_pure hq | exact wpAny_rule hq) ho hex hd hel1 hb1 hfits (by simpa using hnp) fun h' es' q1 q2 q3=>?_
   rw [hled,hl] at q2
   exact wpAny_pure (fin h' es' q1 q2 q3)
end
end L2
namespace L2
open PySem PySem.Spec PyProof.Rows
noncomputable def keyV:Value→Str
 | .str k _=>k
 | _=>""
section
variable {P:Program} {w:World} {A:Around} {s:Shared}
end
end L2
namespace L2
open PySem PySem.Spec PyProof.Rows
section
variable {P:Program} {w:World} {A:Around} {E:Value→Shared→Prop} {s:Shared}
end
end L2
namespace L2
open PySem PySem.Spec PyProof.Rows
section
set_option maxHeartbeats 3200000
variable {P:Program} {w:World} {A:Around} {E:Value→Shared→Prop} {s:Shared}
end
end L2
namespace L2
open PySem PySem.Spec PyProof.Rows
section
set_option maxHeartbeats 3200000
variable {P:Program} {w:World} {A:Around} {E:Value→Shared→Prop} {s:Shared}
end
end L2
namespace L2
open PySem PySem.Spec PyProof.Rows
section
noncomputable def SetAt (h:Heap) (a:Addr) (es:Array (Int×Value)) (ep:Nat) (t:SetTable):Prop:=∃ o,h.get? a=some o∧o.ExactSet∧o.data=.set es ep t
noncomputable def SIt (h:Heap) (I a:Addr) (first:Value) (i n ep:Nat):Prop:=∃ o,h.get? I=some o∧o.cls=.type "set_iterator"∧o.data=.fields #[first,.int (i:Int) 0,.ref a,.int (n:Int) 0,.int (ep:Int) 0]
variable {P:Program} {w:World} {A:Around} {E:Value→Shared→Prop} {s:Shared}
theorem SIt.typeIs {I a:Addr} {first:Value} {i n ep:Nat} (x:SIt s.heap I a first i n ep):s.TypeIs (.ref I) "set_iterator":=let ⟨o,ho,hc,_⟩:=x; ⟨o,ho,hc⟩
theorem SIt.at {h h':Heap} {I a:Addr} {first:Value} {i n ep:Nat} (x:SIt h I a first i n ep) (k:∀ o,h.get? I=some o→h'.get? I=some o):SIt h' I a first i n ep:=let ⟨o,ho,hc⟩:=x; ⟨o,k o ho,hc⟩
theorem SetAt.at {h h':Heap} {a:Addr} {es:Array (Int×Value)} {ep:Nat} {t:SetTable} (x:SetAt h a es ep t) (k:∀ o,h.get? a=some o→h'.get? a=some o):SetAt h' a es ep t:=let ⟨o,ho,hc⟩:=x; ⟨o,k o ho,hc⟩
end
end L2
namespace L2
open PySem PySem.Spec PyProof.Rows
section
variable {P:Program} {w:World} {A:Around} {E:Value→Shared→Prop} {s:Shared}
noncomputable def TupAt (h:Heap) (q:Addr) (pl:Array Value):Prop:=∃ o n,h.get? q=some o∧o.data=.seq pl n
end
end L2
namespace L2
open PySem PySem.Spec PyProof.Rows
section
variable {P:Program} {w:World} {A:Around} {E:Value→Shared→Prop} {s:Shared}
end
end L2
namespace L2
open PySem PySem.Spec PyProof.Rows
section
variable {P:Program} {w:World} {A:Around} {E:Value→Shared→Prop} {s:Shared}
end
end L2
namespace D
open PySem PySem.Spec PyProof.Rows L2
section
variable {X:Cx}
end
end D
namespace D
open PySem PySem.Spec PyProof.Rows L2
section
variable {P:Program} {w:World} {A:Around} {E:Value→Shared→Prop} {s:Shared}
open PySem.SeqAt in
open PySem.SeqAt in
end
section
variable {X:Cx} {pins:List (Addr×Obj)} {σ:L2.St} {H:Hp} {s:Shared} {O:Addr→Prop} {A:Around}
theorem all_range {bs:List Bool}:(List.range bs.length).all (fun j=>bs.getD j false)=bs.all id:=by
 induction bs with
 | nil=>rfl
 | cons b r ih=>
  rw [List.length_cons,List.range_succ_eq_map,List.all_cons,List.all_map,List.all_cons]
  have:(fun j=>(b::r).getD j false) ∘ Nat.succ=fun j=>r.getD j false:=rfl
  rw [this,ih]
  rfl
end
end D
namespace D
open PySem PySem.Spec PyProof.Rows L2
section
variable {P:Program} {w:World} {A:Around} {E:Value→Shared→Prop} {s:Shared}
end
section
variable {X:Cx} {pos:Pos}
end
end D
namespace D
open PySem PySem.Spec PyProof.Rows L2
section
variable {X:Cx} {pos:Pos}
end
end D
namespace D
open PySem PySem.Spec PyProof.Rows L2
section
variable {X:Cx} {pos:Pos} {e:Expr} {fe:FE}
end
section
variable {K:PySem.W.Frag} {O₀:Addr→Prop} {H₀:Hp} {F:List ((Addr→Prop)×Hp)} {ts:List Addr} {O:Addr→Prop} {H H1:Hp} {σ:L2.St} {ρ:Rho} {T T1:Tp}
end
section
variable {X:Cx} {pos:Pos}
end
end D
namespace D
open PySem PySem.Spec PyProof.Rows L2
section
variable {X:Cx} {pos pos2 pos3:Pos}
end
end D
namespace D
open PySem PySem.Spec PyProof.Rows L2
inductive LnT (P:Hp→(Bool→Hp→Prop)→Prop):Hp→(Bool→Hp→Prop)→Prop where
 | done {H:Hp} {Q:Bool→Hp→Prop}:P H Q→LnT P H Q
 | frz {H:Hp} {Q:Bool→Hp→Prop} {a:Addr} {kvs:List (Key×V)}:H a=some (.dK kvs)→(∀ o,LnT P (upd H a (.frz o (.dK kvs))) (fun b H2=>H2 a=some (.frz o (.dK kvs))∧Q b (upd H2 a (.dK kvs))))→LnT P H Q
section
variable {X:Cx} {pos pos2 pos3 pos4:Pos}
end
end D
namespace D
open PySem PySem.Spec PyProof.Rows L2
section
variable {X:Cx} {pos:Pos}
end
end D
namespace D
open PySem PySem.Spec PyProof.Rows L2
section
variable {X:Cx}
end
end D
namespace D
open PySem PySem.Spec PyProof.Rows L2
section
variable {X:Cx} {pos:Pos}
end
end D
namespace D
open PySem PySem.Spec PyProof.Rows L2
end D
namespace L2
open PySem PySem.Spec PyProof.Rows
section
variable {X:Cx}
noncomputable def PE1 (X:Cx) (e:Expr) (t:TE):Prop:=∀ (pins:List (Addr×Obj)) (s:Shared) (σ:St) (H:Hp) (Q:VK),Inv X pins σ H s→1≤s.toks→t σ H Q→wpAny (model X.prog X.w) X.A (eval e X.env) (EP X pins σ Q) X.xe s
noncomputable def PI1 (X:Cx) (tg iter:Expr) (wi:TI):Prop:=
 ∀ (pins:List (Addr×Obj)) (s:Shared) (σ:St) (H:Hp) (R:It→Hp→Prop),Inv X pins σ H s→1≤s.toks→wi σ H R →
  wpAny (model X.prog X.w) X.A (eval iter X.env) (fun v s1=>wpAny (model X.prog X.w) X.A (pyIter v) (PIE X pins σ tg R) X.xe s1) X.xe s
end
end L2
namespace L2
open PySem PySem.Spec PyProof.Rows
section
variable {X:Cx}
noncomputable def PS1 (X:Cx) (st:Stmt) (t:TS):Prop:=∀ (pins:List (Addr×Obj)) (s:Shared) (σ:St) (H:Hp) (D:Ends),Inv X pins σ H s→1≤s.toks→t D σ H→wpAny (model X.prog X.w) X.A (exec st X.env) (SP X pins D) X.xe s
noncomputable def PSs1 (X:Cx) (st:List Stmt) (t:TS):Prop:=∀ (pins:List (Addr×Obj)) (s:Shared) (σ:St) (H:Hp) (D:Ends),Inv X pins σ H s→1≤s.toks→t D σ H→wpAny (model X.prog X.w) X.A (execs st X.env) (SP X pins D) X.xe s
noncomputable def PT1 (X:Cx) (e:Expr) (t:TT):Prop:=∀ (pins:List (Addr×Obj)) (s:Shared) (σ:St) (H:Hp) (Q:Bool→Hp→Prop),Inv X pins σ H s→t σ H Q→wpAny (model X.prog X.w) X.A (isTrue e X.env (eval e X.env)) (fun b s'=>TP X pins σ Q b s'∧(b=false→1≤s'.toks)) X.xe s
end
end L2
namespace D
open PySem PySem.Spec PyProof.Rows L2
noncomputable abbrev Stk:=List (List PyData)
noncomputable abbrev FK:=Rho→Stk→Tp→Option ((Fl×Rho×Stk)×Tp)
noncomputable def stkL (s:Stk):PyData:=.list (s.reverse.map .list)
noncomputable def onK (i:Nat) (ρ:Rho) (s:Stk):Rho:=ρ.set i (some (.loc (stkL s)))
inductive StkAt (K:PySem.W.Frag) (O:Addr→Prop) (H:Hp):List Addr→Stk→Prop where
 | nil:StkAt K O H [] []
 | cons {b:Addr} {bs:List Addr} {vs:List V} {ys:List PyData} {s:Stk}:H b=some (.lst vs)→Reps K O H vs ys→StkAt K O H bs s→StkAt K O H (b::bs) (ys::s)
theorem StkAt.mono {K:PySem.W.Frag} {O O':Addr→Prop} {H H':Hp} (l:Le O H O' H'):∀ {bs:List Addr} {s:Stk},StkAt K O H bs s→(∀ b∈bs,∀ o,H b=some o→H' b=some o)→StkAt K O' H' bs s
 | _,_,.nil,_=>.nil
 | _,_,.cons h r t,k=>.cons (k _ List.mem_cons_self _ h) (r.mono l) (StkAt.mono l t fun b hb=>k b (List.mem_cons_of_mem _ hb))
theorem StkAt.length {K:PySem.W.Frag} {O:Addr→Prop} {H:Hp}:∀ {bs:List Addr} {s:Stk},StkAt K O H bs s→bs.length=s.length
 | _,_,.nil=>rfl
 | _,_,.cons _ _ t=>congrArg (· + 1) t.length
structure KS (K:PySem.W.Frag) (O₀:Addr→Prop) (H₀:Hp) (ts:List Addr) (O:Addr→Prop) (H:Hp) (σ:L2.St) (i:Nat) (a:Addr) (bs:List Addr) (s:Stk):Prop where
 sa:σ[i]? = some (some (.ref a))
 ha:H a=some (.lst (bs.reverse.map V.ref))
 nd:(a::bs).Nodup
 ow:∀ b∈a::bs,O b∧b∉ts∧H₀ b=none∧¬ O₀ b
 st:StkAt K O H bs s
structure RK (K:PySem.W.Frag) (O₀:Addr→Prop) (H₀:Hp) (F:List ((Addr→Prop)×Hp)) (ts:List Addr) (O:Addr→Prop) (H:Hp) (σ:L2.St) (ρ:Rho) (T:Tp) (i:Nat) (s:Stk):Prop where
 rs:RS K O₀ H₀ F ts O H σ ρ T
 pd:∀ (j:Nat) (w:W),ρ[j]? = some (some w)→∃ x,w=.d x
 ui:ρ[i]? = some none
 ks:∃ a bs,KS K O₀ H₀ ts O H σ i a bs s
noncomputable def EndsK (K:PySem.W.Frag) (O₀:Addr→Prop) (H₀:Hp) (F:List ((Addr→Prop)×Hp)) (ts:List Addr) (i:Nat) (D:Ends) (ρ':Rho) (s':Stk) (T':Tp):Fl→Prop
 | .nx=>∀ O' σ' H',RK K O₀ H₀ F ts O' H' σ' ρ' T' i s'→D.nx σ' H'
 | .bk=>∀ O' σ' H',RK K O₀ H₀ F ts O' H' σ' ρ' T' i s'→D.bk σ' H'
 | .ct=>∀ O' σ' H',RK K O₀ H₀ F ts O' H' σ' ρ' T' i s'→D.ct σ' H'
 | .rt x=>∀ v H',SameX ts H₀ H'→HC K O₀ ts H' T'→Rep K O₀ H' v x→D.rt v H'
 | .ro _=>False
inductive LiftKP (K:PySem.W.Frag) (i:Nat) (f:FK) (D:Ends) (σ:L2.St) (H:Hp):Prop where
 | mk (O₀:Addr→Prop) (H₀:Hp) (F:List ((Addr→Prop)×Hp)) (ts:List Addr) (O:Addr→Prop) (ρ:Rho) (s:Stk) (T:Tp) (fl:Fl) (ρ':Rho) (s':Stk) (T':Tp) (rk:RK K O₀ H₀ F ts O H σ ρ T i s) (e:f ρ s T=some ((fl,ρ',s'),T')) (q:EndsK K O₀ H₀ F ts i D ρ' s' T' fl):LiftKP K i f D σ H
structure DK (X:Cx) (i:Nat) (s:Stmt) (f:FK):Prop where
 pe:PS X s (LiftKP X.K i f)
structure DKs (X:Cx) (i:Nat) (s:List Stmt) (f:FK):Prop where
 pe:PSs X s (LiftKP X.K i f)
section
variable {K:PySem.W.Frag} {O₀:Addr→Prop} {H₀:Hp} {F:List ((Addr→Prop)×Hp)} {ts:List Addr} {O:Addr→Prop} {H H1:Hp} {σ:L2.St} {ρ:Rho} {T T1:Tp} {i:Nat} {s:Stk}
theorem RK.step (r:RK K O₀ H₀ F ts O H σ ρ T i s) (x:SameX ts H H1) (c:HC K O ts H1 T1):RK K O₀ H₀ F ts O H1 σ ρ T1 i s:=by
 obtain ⟨rs,pd,ui,a,bs,k⟩:=r
 exact ⟨rs.step x c,pd,ui,a,bs,k.sa,x _ _ (k.ow a List.mem_cons_self).2.1 k.ha,k.nd,k.ow,k.st.mono (rs.hc.le x) fun b hb o e=>x _ _ (k.ow b (List.mem_cons_of_mem _ hb)).2.1 e⟩
theorem RK.set {j:Nat} {v:V} {x:PyData} (r:RK K O₀ H₀ F ts O H σ ρ T i s) (n:j≠i) (rv:Rep K O H v x):RK K O₀ H₀ F ts O H (σ.set j (some v)) (ρ.set j (some (.d x))) T i s:=by
 obtain ⟨rs,pd,ui,a,bs,k⟩:=r
 refine ⟨rs.set (w:=.d x) rv (fun _ z=>nomatch z),fun m w e=>?_,by rw [List.getElem?_set_ne n]; exact ui,a,bs,by rw [List.getElem?_set_ne n]; exact k.sa,k.ha,k.nd,k.ow,k.st⟩
 by_cases z:j=m
 ·subst z
  have hl:j < ρ.length:=by
   have:=(List.getElem?_eq_some_iff.mp e).1
   simpa using this
  rw [List.getElem?_set_self hl] at e
  cases e
  exact ⟨x,rfl⟩
 ·rw [List.getElem?_set_ne z] at e
  exact pd m w e
theorem RK.less {f:(Addr→Prop)×Hp} (r:RK K O₀ H₀ (f::F) ts O H σ ρ T i s):RK K O₀ H₀ F ts O H σ ρ T i s:=⟨r.rs.less,r.pd,r.ui,r.ks⟩
theorem RK.more (r:RK K O₀ H₀ F ts O H σ ρ T i s):RK K O₀ H₀ ((O,H)::F) ts O H σ ρ T i s:=⟨r.rs.more,r.pd,r.ui,r.ks⟩
end
noncomputable def kNext:FK:=fun ρ s T=>some ((.nx,ρ,s),T)
noncomputable def kSeqK (g:FK) (p:Fl×Rho×Stk) (T:Tp):Option ((Fl×Rho×Stk)×Tp):=match p with
 | (.nx,ρ1,s1)=>g ρ1 s1 T
 | (fl,ρ1,s1)=>some ((fl,ρ1,s1),T)
noncomputable def kSeq (f g:FK):FK:=fun ρ s T=>bnd (f ρ s T) (kSeqK g)
noncomputable def kSetK (j:Nat) (ρ:Rho) (s:Stk) (w:W) (T:Tp):Option ((Fl×Rho×Stk)×Tp):=match w with
 | .d x=>some ((.nx,ρ.set j (some (.d x)),s),T)
 | _=>none
noncomputable def kSet (j:Nat) (f:FE):FK:=fun ρ s T=>bnd (f ρ T) (kSetK j ρ s)
noncomputable def kIfK (f g:FK) (ρ:Rho) (s:Stk) (T:Tp) (b:Bool) (_:Tp):Option ((Fl×Rho×Stk)×Tp):=if b=true then f ρ s T else g ρ s T
noncomputable def kIf (i:Nat) (c:FT) (f g:FK):FK:=fun ρ s T=>bnd (c (onK i ρ s) []) (kIfK f g ρ s T)
noncomputable def kRetK (ρ:Rho) (s:Stk) (w:W) (T:Tp):Option ((Fl×Rho×Stk)×Tp):=match w with
 | .d x=>some ((.rt x,ρ,s),T)
 | _=>none
noncomputable def kRet (f:FE):FK:=fun ρ s T=>bnd (f (frzR ρ) T) (kRetK ρ s)
noncomputable def kPush:FK:=fun ρ s T=>if s.length < 100000 then some ((.nx,ρ,[]::s),T) else none
noncomputable def kAppK (ρ:Rho) (s:Stk) (k w:W) (T:Tp):Option ((Fl×Rho×Stk)×Tp):=match k,w,s with
 | .d (.int n),.d x,ys::r=>if n = -1∧ys.length < 100000 then some ((.nx,ρ,(ys++[x])::r),T) else none
 | _,_,_=>none
noncomputable def kApp (fk fe:FE):FK:=fun ρ s T=>bnd (fk ρ T) fun k T1=>bnd (fe ρ T1) (kAppK ρ s k)
noncomputable def kPop (j:Nat):FK:=fun ρ s T=>match s with
 | ys::r=>some ((.nx,ρ.set j (some (.d (.tuple ys))),r),T)
 | []=>none
section
variable {X:Cx} {pos:Pos} {st:Stmt} {rest:List Stmt} {f g:FK} {e:Expr} {fe:FE} {c:FT} {i:Nat}
end
section
variable {ρ:Rho} {s:Stk} {T:Tp} {f g:FK} {fe fk:FE} {c:FT} {i j:Nat}
@[simp] theorem ev_kNext:kNext ρ s T=some ((.nx,ρ,s),T):=rfl
@[simp] theorem ev_kSeq:kSeq f g ρ s T=bnd (f ρ s T) (kSeqK g):=rfl
@[simp] theorem ev_kSeqN:kSeqK g (.nx,ρ,s) T=g ρ s T:=rfl
@[simp] theorem ev_kSeqR {x:PyData}:kSeqK g (.rt x,ρ,s) T=some ((.rt x,ρ,s),T):=rfl
@[simp] theorem ev_kSet:kSet j fe ρ s T=bnd (fe ρ T) (kSetK j ρ s):=rfl
@[simp] theorem ev_kSetK {x:PyData}:kSetK j ρ s (.d x) T=some ((.nx,ρ.set j (some (.d x)),s),T):=rfl
@[simp] theorem ev_kIf:kIf i c f g ρ s T=bnd (c (onK i ρ s) []) (kIfK f g ρ s T):=rfl
@[simp] theorem ev_kIfK {b:Bool} {T':Tp}:kIfK f g ρ s T b T'=if b=true then f ρ s T else g ρ s T:=rfl
@[simp] theorem ev_kRet:kRet fe ρ s T=bnd (fe (frzR ρ) T) (kRetK ρ s):=rfl
@[simp] theorem ev_kRetK {x:PyData}:kRetK ρ s (.d x) T=some ((.rt x,ρ,s),T):=rfl
@[simp] theorem ev_kPush:kPush ρ s T=if s.length < 100000 then some ((.nx,ρ,[]::s),T) else none:=rfl
@[simp] theorem ev_kApp:kApp fk fe ρ s T=bnd (fk ρ T) fun k T1=>bnd (fe ρ T1) (kAppK ρ s k):=rfl
@[simp] theorem ev_kAppK {n:Int} {x:PyData} {ys:List PyData}:kAppK ρ (ys::s) (.d (.int n)) (.d x) T=if n = -1∧ys.length < 100000 then some ((.nx,ρ,(ys++[x])::s),T) else none:=rfl
@[simp] theorem ev_kPop {ys:List PyData}:kPop j ρ (ys::s) T=some ((.nx,ρ.set j (some (.d (.tuple ys))),s),T):=rfl
end
end D
namespace D
open PySem PySem.Spec PyProof.Rows L2
structure DE1 (X:Cx) (e:Expr) (f:FE):Prop where
 pe:PE1 X e (lift X.K f)
structure DI1 (X:Cx) (tg e:Expr) (f:FI):Prop where
 pe:PI1 X tg e (liftI X.K f)
structure DT1 (X:Cx) (e:Expr) (f:FT):Prop where
 pe:PT1 X e (liftT X.K f)
structure DK1 (X:Cx) (i:Nat) (s:Stmt) (f:FK):Prop where
 pe:PS1 X s (LiftKP X.K i f)
structure DKs1 (X:Cx) (i:Nat) (s:List Stmt) (f:FK):Prop where
 pe:PSs1 X s (LiftKP X.K i f)
section
variable {X:Cx}
variable {i:Nat} {f g:FK}
end
end D
namespace D
open PySem PySem.Spec PyProof.Rows L2
end D
namespace XE
open PySem PySem.Spec PyProof.Rows L2 D
end XE
namespace D
open PySem PySem.Spec PyProof.Rows L2
section
variable {X:Cx} {pos:Pos}
end
end D
namespace D
open PySem PySem.Spec PyProof.Rows L2
section
variable {X:Cx} {e:Expr} {fe:FE}
end
end D
namespace D
open PySem PySem.Spec PyProof.Rows L2
section
variable {X:Cx} {pos:Pos}
end
end D
namespace D
open PySem PySem.Spec PyProof.Rows L2
end D
namespace D
open PySem PySem.Spec PyProof.Rows L2
section
variable {X:Cx}
end
end D
namespace D
open PySem PySem.Spec PyProof.Rows L2
section
variable {X:Cx}
end
end D
namespace D
open PySem PySem.Spec PyProof.Rows L2
section
variable {X:Cx}
end
end D
namespace D
open PySem PySem.Spec PyProof.Rows L2
open PySem.W (KasT kas_sort kas_asc kas_desc kas_rev kas_tail3 kas_descPart kas_count kas_place kas_bin)
noncomputable def KasAll {α:Type} (n:Nat) (P:α→Prop):KasT α→Prop
 | .ret a=>P a
 | .ask i j k=>(i < n∧j < n∧i≠j)∧∀ b,KasAll n P (k b)
theorem KasAll.bind {α β:Type} {n:Nat} {P:α→Prop} {R:β→Prop} {f:α→KasT β}:∀ {t:KasT α},KasAll n P t→(∀ a,P a→KasAll n R (f a))→KasAll n R (t.bind f)
 | .ret a,h,hf=>hf a h
 | .ask i j k,h,hf=>⟨h.1,fun b=>KasAll.bind (h.2 b) hf⟩
noncomputable def LoA (n:Nat) (p:Array Nat):Prop:=p.Perm (List.range n).toArray
theorem LoA.size {n:Nat} {p:Array Nat} (h:LoA n p):p.size=n:=by
 have:=h.size_eq
 simpa using this
theorem LoA.lt {n:Nat} {p:Array Nat} (h:LoA n p) {i:Nat} (hi:i < n):p.getD i 0 < n:=by
 have hs:i < p.size:=by rw [h.size]; exact hi
 have:p.getD i 0=p[i]:=by simp [Array.getD,hs]
 rw [this]
 have:=h.mem_iff.mp (Array.getElem_mem hs)
 simpa using this
theorem LoA.ne {n:Nat} {p:Array Nat} (h:LoA n p) {i j:Nat} (hi:i < n) (hj:j < n) (hne:i≠j):p.getD i 0≠p.getD j 0:=by
 have hs:i < p.size:=by rw [h.size]; exact hi
 have ht:j < p.size:=by rw [h.size]; exact hj
 have e1:p.getD i 0=p[i]:=by simp [Array.getD,hs]
 have e2:p.getD j 0=p[j]:=by simp [Array.getD,ht]
 rw [e1,e2]
 have nd:p.toList.Nodup:=(Array.perm_iff_toList_perm.mp h).nodup_iff.mpr (by simpa using List.nodup_range)
 have pw:=List.pairwise_iff_getElem.mp nd
 rcases Nat.lt_or_gt_of_ne hne with q | q
 ·have:=pw i j (by simpa using hs) (by simpa using ht) q
  simpa using this
 ·have:=pw j i (by simpa using ht) (by simpa using hs) q
  exact fun z=>this (by simpa using z.symm)
theorem LoA.ask {n:Nat} {p:Array Nat} (h:LoA n p) {i j:Nat} (hi:i < n) (hj:j < n) (hne:i≠j):p.getD i 0 < n∧p.getD j 0 < n∧p.getD i 0≠p.getD j 0:=⟨h.lt hi,h.lt hj,h.ne hi hj hne⟩
theorem LoA.perm {n:Nat} {p q:Array Nat} (h:LoA n p) (e:q.Perm p):LoA n q:=e.trans h
end D
namespace D
open PySem PySem.Spec PyProof.Rows L2
open PySem.W (KasT kas_sort KatTups kat_kind kat_lt kat_cons kat_no kat_run kat_snds Looks)
structure KyAt (h:Heap) (v:Value) (k:Str):Prop where
 ex:∃ x o t u m,v=.ref x∧h.get? x=some o∧o.cls=.type "tuple"∧o.data=.seq #[.str k t,u] m
inductive KysAt (h:Heap):List Value→List Str→Prop where
 | nil:KysAt h [] []
 | cons {v:Value} {k:Str} {vs:List Value} {ks:List Str}:KyAt h v k→KysAt h vs ks→KysAt h (v::vs) (k::ks)
theorem KysAt.len {h:Heap} {vs:List Value} {ks:List Str} (t:KysAt h vs ks):vs.length=ks.length:=by
 induction t with
 | nil=>rfl
 | cons _ _ ih=>simp [ih]
theorem KysAt.get {h:Heap} {vs:List Value} {ks:List Str} (t:KysAt h vs ks):∀ {i:Nat},i < vs.length→∃ k,ks[i]? = some k∧KyAt h (vs.getD i Value.none) k:=by
 induction t with
 | nil=>intro i hi; simp at hi
 | @cons v k vs ks hv _ ih=>
  intro i hi
  cases i with
  | zero=>exact ⟨k,rfl,hv⟩
  | succ i=>
   obtain ⟨k',e,q⟩:=ih (i:=i) (by simpa using hi)
   exact ⟨k',by simpa using e,by simpa using q⟩
theorem KysAt.keep {h h':Heap} {vs:List Value} {ks:List Str} (t:KysAt h vs ks) (kp:∀ b o,h.get? b=some o→o.cls=.type "tuple"→h'.get? b=some o):KysAt h' vs ks:=by
 induction t with
 | nil=>exact .nil
 | cons hv _ ih=>
  obtain ⟨x,o,t,u,m,e,e1,e2,e3⟩:=hv.ex
  exact .cons ⟨x,o,t,u,m,e,kp x o e1 e2,e2,e3⟩ ih
section
variable {prog:Program} {w:World} {A:Around} {E:Value→Shared→Prop} {s:Shared}
end
end D
namespace D
open PySem PySem.Spec PyProof.Rows L2
open PySem.W (KdxG kdx_collect)
section
variable {prog:Program} {w:World} {K:Type} [DecidableEq K] {knd:PySem.KeyKind prog w K} {A:Around} {E:Value→Shared→Prop} {s:Shared} {kvs:List (K×Value)} {ep:Nat} {r d:Addr}
end
end D
namespace D
open PySem PySem.Spec PyProof.Rows L2
section
variable {X:Cx} {pos:Pos}
end
end D
namespace D
open PySem PySem.Spec PyProof.Rows L2
section
variable {X:Cx} {pins:List (Addr×Obj)} {σ:List (Option V)} {H H':Hp} {s:Shared} {h':Heap}
end
section
variable {X:Cx}
end
end D
namespace D
open PySem PySem.Spec PyProof.Rows L2
noncomputable def DfL (K:PySem.W.Frag) (tp:Nat→Stmt):List (Str×Nat)→Prop
 | []=>True
 | (x,i)::r=>Df K x (tp i)∧DfL K tp r
theorem dfl_cons {K:PySem.W.Frag} {tp:Nat→Stmt} {x:Str} {i:Nat} {L:List (Str×Nat)} (a:Df K x (tp i)) (r:DfL K tp L):DfL K tp ((x,i)::L):=⟨a,r⟩
theorem DfL.at {K:PySem.W.Frag} {tp:Nat→Stmt} {x:Str} {i:Nat}:∀ {L:List (Str×Nat)},DfL K tp L→L.lookup x=some i→Df K x (tp i)
 | [],_,e=>nomatch e
 | (y,j)::r,h,e=>by
  rw [List.lookup_cons] at e
  split at e
  ·rename_i hx
   cases e
   rw [eq_of_beq hx]
   exact h.1
  ·exact h.2.at e
noncomputable def ZL (K:PySem.W.Frag):List Str→Prop
 | []=>True
 | x::r=>PySem.W.nsIn K mainGlobals x=some none∧ZL K r
theorem zl_cons {K:PySem.W.Frag} {x:Str} {L:List Str} (a:PySem.W.nsIn K mainGlobals x=some none) (r:ZL K L):ZL K (x::L):=⟨a,r⟩
theorem ZL.at {K:PySem.W.Frag} {x:Str}:∀ {L:List Str},ZL K L→L.contains x=true→PySem.W.nsIn K mainGlobals x=some none
 | [],_,e=>nomatch e
 | y::r,h,e=>by
  rw [List.contains_cons,Bool.or_eq_true] at e
  rcases e with e | e
  ·rw [eq_of_beq e]; exact h.1
  ·exact h.2.at e
noncomputable def IL (K:PySem.W.Frag):List (Str×Int)→Prop
 | []=>True
 | (x,i)::r=>(∃ t,PySem.W.nsIn K mainGlobals x=some (some (.int i t)))∧IL K r
theorem il_cons {K:PySem.W.Frag} {x:Str} {i:Int} {t:Tok} {L:List (Str×Int)} (a:PySem.W.nsIn K mainGlobals x=some (some (.int i t))) (r:IL K L):IL K ((x,i)::L):=⟨⟨t,a⟩,r⟩
theorem IL.at {K:PySem.W.Frag} {x:Str} {i:Int}:∀ {L:List (Str×Int)},IL K L→L.lookup x=some i→∃ t,PySem.W.nsIn K mainGlobals x=some (some (.int i t))
 | [],_,e=>nomatch e
 | (y,j)::r,h,e=>by
  rw [List.lookup_cons] at e
  split at e
  ·rename_i hx
   cases e
   rw [eq_of_beq hx]
   exact h.1
  ·exact h.2.at e
noncomputable def SL (K:PySem.W.Frag):List (Str×Str)→Prop
 | []=>True
 | (x,i)::r=>(∃ t,PySem.W.nsIn K mainGlobals x=some (some (.str i t)))∧SL K r
theorem sl_cons {K:PySem.W.Frag} {x i:Str} {t:Tok} {L:List (Str×Str)} (a:PySem.W.nsIn K mainGlobals x=some (some (.str i t))) (r:SL K L):SL K ((x,i)::L):=⟨⟨t,a⟩,r⟩
theorem SL.at {K:PySem.W.Frag} {x i:Str}:∀ {L:List (Str×Str)},SL K L→L.lookup x=some i→∃ t,PySem.W.nsIn K mainGlobals x=some (some (.str i t))
 | [],_,e=>nomatch e
 | (y,j)::r,h,e=>by
  rw [List.lookup_cons] at e
  split at e
  ·rename_i hx
   cases e
   rw [eq_of_beq hx]
   exact h.1
  ·exact h.2.at e
structure Bz (K:PySem.W.Frag) (mg:Str→Option Value) (z:List Str) (i:List (Str×Int)) (s:List (Str×Str)):Prop where
 z:∀ {x:Str} (_:z.contains x=true:=by decide +kernel),mg x=none
 i:∀ {x:Str} {j:Int} (_:i.lookup x=some j:=by decide +kernel),∃ t,mg x=some (.int j t)
 s:∀ {x y:Str} (_:s.lookup x=some y:=by decide +kernel),∃ t,mg x=some (.str y t)
theorem bz_of {K:PySem.W.Frag} {h:Heap} {mg:Str→Option Value} {z:List Str} {i:List (Str×Int)} {s:List (Str×Str)} (X:K.In h) (G:h.Ns mainGlobals mg) (a:ZL K z) (b:IL K i) (c:SL K s):Bz K mg z i s:=
 ⟨fun e=>PySem.W.mg_none_of X G (a.at e),fun e=>let ⟨t,q⟩:=b.at e; ⟨t,PySem.W.mg_of X G q⟩,fun e=>let ⟨t,q⟩:=c.at e; ⟨t,PySem.W.mg_of X G q⟩⟩
structure Ev (P:Program) (w:World) (K:PySem.W.Frag) (mg:Str→Option Value) (base:Heap) (B:Prop) (tp:Nat→Stmt) (L:List (Str×Nat)):Prop where
 x:∃ h:Heap,K.In h∧h.Ns mainGlobals mg
 b:B
 d:DfL K tp L
noncomputable def scB (N P:List Str) (sc:Scope):Bool:=decide (sc.kind=.function) && !sc.isCoroutine && !sc.isGenerator && decide N.Nodup && decide (N.take P.length=P) && P.all (fun x=>decide (sc.names.lookup x=some .local) || decide (sc.names.lookup x=some .cell)) && sc.names.all fun y=>decide (y.2≠.free)
theorem sc_of {N P:List Str} {sc:Scope} (h:scB N P sc=true):FnScope N P sc:=by
 simp only [scB,Bool.and_eq_true,decide_eq_true_eq,Bool.not_eq_true',List.all_eq_true,Bool.or_eq_true] at h
 exact ⟨h.1.1.1.1.1.1,h.1.1.1.1.1.2,h.1.1.1.1.2,h.1.1.1.2,h.1.1.2,h.1.2,h.2⟩
theorem bl0 {α:Type} {p:List α→Prop} (h:p []):∀ us,us.length=0→p us
 | [],_=>h
theorem bl1 {α:Type} {p:List α→Prop} (h:∀ a,p [a]):∀ us,us.length=1→p us
 | [a],_=>h a
theorem bl2 {α:Type} {p:List α→Prop} (h:∀ a b,p [a,b]):∀ us,us.length=2→p us
 | [a,b],_=>h a b
theorem bl3 {α:Type} {p:List α→Prop} (h:∀ a b c,p [a,b,c]):∀ us,us.length=3→p us
 | [a,b,c],_=>h a b c
theorem bl4 {α:Type} {p:List α→Prop} (h:∀ a b c d,p [a,b,c,d]):∀ us,us.length=4→p us
 | [a,b,c,d],_=>h a b c d
theorem bl5 {α:Type} {p:List α→Prop} (h:∀ a b c d e,p [a,b,c,d,e]):∀ us,us.length=5→p us
 | [a,b,c,d,e],_=>h a b c d e
theorem bl6 {α:Type} {p:List α→Prop} (h:∀ a b c d e f,p [a,b,c,d,e,f]):∀ us,us.length=6→p us
 | [a,b,c,d,e,f],_=>h a b c d e f
section
variable {P:Program} {w:World} {K:PySem.W.Frag} {mg:Str→Option Value} {base:Heap} {B:Prop} {tp:Nat→Stmt} {L:List (Str×Nat)} {x:Str} {ps:List Str} {k:Nat} {m:FS}
theorem d_gof {sp:Sp} (E:Ev P w K mg base B tp L) (i:Nat) (ok:∀ f fd,Fun K x x (tp i) f fd→FnOk P w K mg base CX0 k f fd ps sp) (e:L.lookup x=some i:=by decide +kernel)
  (hb:∀ (kV doc pm:Value) (an:Option Addr) (cdv ct:Value) (us:List Value),us.length=ps.length→bindArgs (PySem.W.fnOf x x (defArgs (tp i)) (defBody (tp i)) (defScope (tp i)) .none kV doc pm an cdv ct) ⟨us,[]⟩=pure (ps.zip us):=by
   intro _ _ _ _ _ _; first | (show ∀ us:List Value,us.length=0→_; exact D.bl0 rfl) | (show ∀ us:List Value,us.length=1→_; exact D.bl1 fun _=>rfl) | (show ∀ us:List Value,us.length=2→_; exact D.bl2 fun _ _=>rfl) | (show ∀ us:List Value,us.length=3→_; exact D.bl3 fun _ _ _=>rfl) | (show ∀ us:List Value,us.length=4→_; exact D.bl4 fun _ _ _ _=>rfl) | (show ∀ us:List Value,us.length=5→_; exact D.bl5 fun _ _ _ _ _=>rfl) | (show ∀ us:List Value,us.length=6→_; exact D.bl6 fun _ _ _ _ _ _=>rfl)):Fn P w K mg base x ps k sp:=
 let ⟨_,X,G⟩:=E.x
 (E.d.at e).fn X G hb ok
theorem d_mk (E:Ev P w K mg base B tp L) (i:Nat) (N:List Str) (hbody:∀ {f:Addr} {cdv:Value} {A:Around} {outer:List Env} {s:Shared} {H:Hp} {E:XK},B→FnScope N ps (defScope (tp i))→Room k (A.deeper (envOfC x (defScope (tp i)) s.heap.objs.size f cdv))→DSs (cxOf CX0 P w K mg base N x (defScope (tp i)) f cdv A outer s H E).nox (defBody (tp i)) m)
  (S:scB N ps (defScope (tp i))=true:=by decide +kernel) (e:L.lookup x=some i:=by decide +kernel)
  (hb:∀ (kV doc pm:Value) (an:Option Addr) (cdv ct:Value) (us:List Value),us.length=ps.length→bindArgs (PySem.W.fnOf x x (defArgs (tp i)) (defBody (tp i)) (defScope (tp i)) .none kV doc pm an cdv ct) ⟨us,[]⟩=pure (ps.zip us):=by
   intro _ _ _ _ _ _; first | (show ∀ us:List Value,us.length=0→_; exact D.bl0 rfl) | (show ∀ us:List Value,us.length=1→_; exact D.bl1 fun _=>rfl) | (show ∀ us:List Value,us.length=2→_; exact D.bl2 fun _ _=>rfl) | (show ∀ us:List Value,us.length=3→_; exact D.bl3 fun _ _ _=>rfl) | (show ∀ us:List Value,us.length=4→_; exact D.bl4 fun _ _ _ _=>rfl) | (show ∀ us:List Value,us.length=5→_; exact D.bl5 fun _ _ _ _ _=>rfl) | (show ∀ us:List Value,us.length=6→_; exact D.bl6 fun _ _ _ _ _ _=>rfl)):Fn P w K mg base x ps (k + 1) (spM K ps.length (mkFn N.length m)):=
 d_gof E i (fun _ _ F=>dfn F (sc_of S) fun _ _ _ _ _ _ hr=>hbody E.b (sc_of S) hr) e hb
theorem d_mkO (E:Ev P w K mg base B tp L) (i:Nat) (N:List Str) (hbody:∀ {f:Addr} {cdv:Value} {A:Around} {outer:List Env} {s:Shared} {H:Hp} {E:XK},B→FnScope N ps (defScope (tp i))→Room k (A.deeper (envOfC x (defScope (tp i)) s.heap.objs.size f cdv))→DSs (cxOf CX0 P w K mg base N x (defScope (tp i)) f cdv A outer s H E).nox (defBody (tp i)) m)
  (S:scB N ps (defScope (tp i))=true:=by decide +kernel) (e:L.lookup x=some i:=by decide +kernel)
  (hb:∀ (kV doc pm:Value) (an:Option Addr) (cdv ct:Value) (us:List Value),us.length=ps.length→bindArgs (PySem.W.fnOf x x (defArgs (tp i)) (defBody (tp i)) (defScope (tp i)) .none kV doc pm an cdv ct) ⟨us,[]⟩=pure (ps.zip us):=by
   intro _ _ _ _ _ _; first | (show ∀ us:List Value,us.length=0→_; exact D.bl0 rfl) | (show ∀ us:List Value,us.length=1→_; exact D.bl1 fun _=>rfl) | (show ∀ us:List Value,us.length=2→_; exact D.bl2 fun _ _=>rfl) | (show ∀ us:List Value,us.length=3→_; exact D.bl3 fun _ _ _=>rfl) | (show ∀ us:List Value,us.length=4→_; exact D.bl4 fun _ _ _ _=>rfl) | (show ∀ us:List Value,us.length=5→_; exact D.bl5 fun _ _ _ _ _=>rfl) | (show ∀ us:List Value,us.length=6→_; exact D.bl6 fun _ _ _ _ _ _=>rfl)):Fn P w K mg base x ps (k + 1) (spO K ps.length (mkFnO N.length m)):=
 d_gof E i (fun _ _ F=>dfnO F (sc_of S) fun _ _ _ _ _ _ hr=>hbody E.b (sc_of S) hr) e hb
theorem d_mkZ (E:Ev P w K mg base B tp L) (i:Nat) {n:Nat} (e:L.lookup x=some i:=by decide +kernel)
  (hb:∀ (kV doc pm:Value) (an:Option Addr) (cdv ct:Value) (us:List Value),us.length=ps.length→bindArgs (PySem.W.fnOf x x (defArgs (tp i)) (defBody (tp i)) (defScope (tp i)) .none kV doc pm an cdv ct) ⟨us,[]⟩=pure (ps.zip us):=by
   intro _ _ _ _ _ _; first | (show ∀ us:List Value,us.length=0→_; exact D.bl0 rfl) | (show ∀ us:List Value,us.length=1→_; exact D.bl1 fun _=>rfl) | (show ∀ us:List Value,us.length=2→_; exact D.bl2 fun _ _=>rfl) | (show ∀ us:List Value,us.length=3→_; exact D.bl3 fun _ _ _=>rfl) | (show ∀ us:List Value,us.length=4→_; exact D.bl4 fun _ _ _ _=>rfl) | (show ∀ us:List Value,us.length=5→_; exact D.bl5 fun _ _ _ _ _=>rfl) | (show ∀ us:List Value,us.length=6→_; exact D.bl6 fun _ _ _ _ _ _=>rfl)):Fn P w K mg base x ps k (spM K n fun _ _=>none):=
 d_gof E i (fun _ _ _=>fn_none) e hb
theorem d_nrec {p:Nat→Prop} (z:p 0) (s:∀ n,p n→p (n + 1)):∀ n,p n
 | 0=>z
 | n + 1=>s n (d_nrec z s n)
end
section
variable {X:Cx} {name p1 p2 p3 p4 p5 p6:Str} {k k':Nat} {m:FnM} {e1 e2 e3 e4 e5 e6:Expr} {g1 g2 g3 g4 g5 g6:FE} {p pos:Pos}
theorem d_c1 (F:Fn X.prog X.w X.K X.mg X.base name [p1] k (spM X.K 1 m)) (hr:Room k' X.A) (a1:DE X e1 g1) (h:k≤k':=by omega) (hg:Gl X name:=by exact rfl) (hdb:(name == ("__debug__" : Str))=false:=by decide) (n1:noStar e1=true:=by exact rfl):DE X (.Call (.Name name p) [e1] [] pos) (fCall m (fCons g1 fNil)):=
 de_call F (hr.mono h) hg (da_cons a1 da_nil (star_cons n1)) (len_cons len_nil) hdb (star_cons n1) (star_any rfl)
theorem d_c2 (F:Fn X.prog X.w X.K X.mg X.base name [p1,p2] k (spM X.K 2 m)) (hr:Room k' X.A) (a1:DE X e1 g1) (a2:DE X e2 g2) (h:k≤k':=by omega) (hg:Gl X name:=by exact rfl) (hdb:(name == ("__debug__" : Str))=false:=by decide) (n1:noStar e1=true:=by exact rfl) (n2:noStar e2=true:=by exact rfl):DE X (.Call (.Name name p) [e1,e2] [] pos) (fCall m (fCons g1 (fCons g2 fNil))):=
 de_call F (hr.mono h) hg (da_cons a1 (da_cons a2 da_nil (star_cons n2)) (star_cons n1)) (len_cons (len_cons len_nil)) hdb (star_cons n1) (star_any (by simp only [List.all_cons,List.all_nil,n2,Bool.and_self]))
theorem d_c3 (F:Fn X.prog X.w X.K X.mg X.base name [p1,p2,p3] k (spM X.K 3 m)) (hr:Room k' X.A) (a1:DE X e1 g1) (a2:DE X e2 g2) (a3:DE X e3 g3) (h:k≤k':=by omega) (hg:Gl X name:=by exact rfl) (hdb:(name == ("__debug__" : Str))=false:=by decide) (n1:noStar e1=true:=by exact rfl) (n2:noStar e2=true:=by exact rfl) (n3:noStar e3=true:=by exact rfl):DE X (.Call (.Name name p) [e1,e2,e3] [] pos) (fCall m (fCons g1 (fCons g2 (fCons g3 fNil)))):=
 de_call F (hr.mono h) hg (da_cons a1 (da_cons a2 (da_cons a3 da_nil (star_cons n3)) (star_cons n2)) (star_cons n1)) (len_cons (len_cons (len_cons len_nil))) hdb (star_cons n1) (star_any (by simp only [List.all_cons,List.all_nil,n2,n3,Bool.and_self]))
theorem d_c4 (F:Fn X.prog X.w X.K X.mg X.base name [p1,p2,p3,p4] k (spM X.K 4 m)) (hr:Room k' X.A) (a1:DE X e1 g1) (a2:DE X e2 g2) (a3:DE X e3 g3) (a4:DE X e4 g4) (h:k≤k':=by omega) (hg:Gl X name:=by exact rfl) (hdb:(name == ("__debug__" : Str))=false:=by decide) (n1:noStar e1=true:=by exact rfl) (n2:noStar e2=true:=by exact rfl) (n3:noStar e3=true:=by exact rfl) (n4:noStar e4=true:=by exact rfl):DE X (.Call (.Name name p) [e1,e2,e3,e4] [] pos) (fCall m (fCons g1 (fCons g2 (fCons g3 (fCons g4 fNil))))):=
 de_call F (hr.mono h) hg (da_cons a1 (da_cons a2 (da_cons a3 (da_cons a4 da_nil (star_cons n4)) (star_cons n3)) (star_cons n2)) (star_cons n1)) (len_cons (len_cons (len_cons (len_cons len_nil)))) hdb (star_cons n1) (star_any (by simp only [List.all_cons,List.all_nil,n2,n3,n4,Bool.and_self]))
end
noncomputable def csB (osc:Scope) (N:List Str) (x:Str) (sc:Scope) (N':List Str):Bool:=decide (sc.kind=.function) && (sc.names.all fun y=>decide (y.2≠.cell)) && (sc.names.all fun y=>decide (y.2=.local→sc.names.lookup y.1=some .local)) && decide (sc.names.lookup x=some .local) && (sc.names.all fun y=>decide (y.2=.local→y.1=x∨y.1 = ".0"))
 && (sc.names.all fun y=>decide (y.2=.free→osc.names.lookup y.1=some .cell∨osc.names.lookup y.1=some .free)) && decide (x::N').Nodup && decide ((".0" : Str)∉N') && decide (N'.length=N.length) && (N'.zip N).all fun p=>decide (p.1=p.2) || sc.names.all fun q=>decide (q.1≠p.1)
theorem cs_of {osc:Scope} {N:List Str} {x:Str} {sc:Scope} {N':List Str} (h:csB osc N x sc N'=true):CS osc N x sc N':=by
 simp only [csB,Bool.and_eq_true,decide_eq_true_eq,List.all_eq_true,Bool.or_eq_true] at h
 exact ⟨h.1.1.1.1.1.1.1.1.1,h.1.1.1.1.1.1.1.1.2,h.1.1.1.1.1.1.1.2,h.1.1.1.1.1.1.2,h.1.1.1.1.1.2,h.1.1.1.1.2,h.1.1.1.2,h.1.1.2,h.1.2,h.2⟩
section
variable {X:Cx} {x:Str} {scope:Scope} {elt iter:Expr} {ifs:List Expr} {px pos:Pos} {it:FI} {c:FT} {f:FE}
theorem d_cpH (st:Stmt) (N N':List Str) (hi:DI X (.Name x px) iter it) (he:∀ {C s0 H0 ex},DE (compCx X x scope C s0 H0 ex N') elt f) (ht:∀ {C s0 H0 ex},DTs (compCx X x scope C s0 H0 ex N') ifs c)
  (S:csB (defScope st) N x scope N'=true:=by decide +kernel) (hc:X.calm=true:=by rfl) (hs:X.env.scope=defScope st:=by rfl) (hN:X.N=N:=by rfl) (hf:∀ v,foldedSetIterable iter X.env v=pure v:=by intro _; rfl):DE X (.ListComp elt [⟨.Name x px,iter,ifs,0⟩] scope pos) (fComp it c f):=
 de_comp (cs_of S) hi (fun _ _ _ _=>he) (fun _ _ _ _=>ht) hc hs hN hf
theorem d_cp (st:Stmt) (N:List Str) (hi:DI X (.Name x px) iter it) (he:∀ {C s0 H0 ex},DE (compCx X x scope C s0 H0 ex N) elt f)
  (S:csB (defScope st) N x scope N=true:=by decide +kernel) (hc:X.calm=true:=by rfl) (hs:X.env.scope=defScope st:=by rfl) (hN:X.N=N:=by rfl) (hf:∀ v,foldedSetIterable iter X.env v=pure v:=by intro _; rfl):DE X (.ListComp elt [⟨.Name x px,iter,[],0⟩] scope pos) (fComp it fTrue f):=
 d_cpH st N N hi he dts_nil S hc hs hN hf
theorem d_scH {i:Nat} {y:Str} {py spos:Pos} (st:Stmt) (N N':List Str) (nd:X.N.Nodup) (hi:DI X (.Name x px) iter it) (he:∀ {C s0 H0 ex},DE (compCx X x scope C s0 H0 ex N') elt f) (ht:∀ {C s0 H0 ex},DTs (compCx X x scope C s0 H0 ex N') ifs c)
  (S:csB (defScope st) N x scope N'=true:=by decide +kernel) (hi':X.N[i]? = some y:=by rfl) (hy:Loc X.env.scope y:=by first | exact Or.inl rfl | exact Or.inr rfl)
  (hf':X.fn y=true∨X.env.scope.names.lookup y=some .local:=by first | exact .inl rfl | exact .inr rfl | assumption) (hc:X.calm=true:=by rfl) (hs:X.env.scope=defScope st:=by rfl) (hN:X.N=N:=by rfl)
  (hsw:swapsWith (.ListComp elt [⟨.Name x px,iter,ifs,0⟩] scope pos) (some (.Name y py)) spos.line X.env=pure true:=by rfl) (hf:∀ v,foldedSetIterable iter X.env v=pure v:=by intro _; rfl) :
  DS X (.Assign [.Name y py] (.ListComp elt [⟨.Name x px,iter,ifs,0⟩] scope pos) spos) (fSet i (fComp it c f)):=
 ds_setC (cs_of S) nd hi (fun _ _ _ _=>he) (fun _ _ _ _=>ht) hi' hy hf' hc hs hN hsw hf
end
end D
namespace TK
open PySem PySem.Spec PyProof.Rows
noncomputable def tk:Nat→PyData→Bool
 | _,.str x=>PyData.strOk x
 | n + 1,.tuple xs=>xs.all (tk n)
 | _,_=>false
noncomputable def hk (w:World):Nat→PyData→Int
 | _,.str x=>hashStr w x
 | n + 1,.tuple xs=>reduceHash (Builtin.Tuple.tupleHashOf (xs.map (hk w n)))
 | _,_=>0
noncomputable def dk:Nat→PyData→Nat
 | _,.str _=>1
 | n + 1,.tuple xs=>(xs.map (dk n)).sum + 1
 | _,_=>0
theorem tk_shape:∀ {n:Nat} {d:PyData},tk n d=true→(∃ x,d=.str x∧PyData.strOk x=true)∨∃ m xs,n=m + 1∧d=.tuple xs∧xs.all (tk m)=true
 | 0,.str x,h=>.inl ⟨x,rfl,h⟩
 | n + 1,.str x,h=>.inl ⟨x,rfl,h⟩
 | n + 1,.tuple xs,h=>.inr ⟨n,xs,rfl,rfl,h⟩
 | 0,.tuple _,h=>by cases h
 | 0,.none,h | 0,.bool _,h | 0,.int _,h | 0,.list _,h | 0,.dict _,h=>by cases h
 | n + 1,.none,h | n + 1,.bool _,h | n + 1,.int _,h | n + 1,.list _,h | n + 1,.dict _,h=>by cases h
theorem canAll {p:PyData→Bool}:∀ {xs:List PyData},(∀ x∈xs,p x=true→x.canLay0=true)→xs.all p=true→PyData.canLayAll0 xs=true
 | [],_,_=>rfl
 | x::r,h,e=>by
  rw [List.all_cons,Bool.and_eq_true] at e
  show (x.canLay0 && PyData.canLayAll0 r)=true
  rw [h x List.mem_cons_self e.1,canAll (fun y hy=>h y (List.mem_cons_of_mem _ hy)) e.2]; rfl
theorem tk_lay:∀ {n:Nat} {d:PyData},tk n d=true→d.canLay0=true
 | n,d,h=>by
  rcases tk_shape h with ⟨x,rfl,hx⟩ | ⟨m,xs,rfl,rfl,hx⟩
  ·simpa [PyData.canLay0] using hx
  ·have:PyData.canLayAll0 xs=true:=canAll (fun x _ hx=>tk_lay (n:=m) hx) hx
   simpa [PyData.canLay0] using this
theorem depthAll {m:Nat}:∀ {xs:List PyData},(∀ x∈xs,x.depth≤m)→PyData.depthAll xs≤m
 | [],_=>Nat.zero_le _
 | x::r,h=>by
  have h1:=h x List.mem_cons_self
  have h2:=depthAll (m:=m) (xs:=r) fun y hy=>h y (List.mem_cons_of_mem _ hy)
  simp only [PyData.depthAll]
  omega
theorem tk_depth:∀ {n:Nat} {d:PyData},tk n d=true→d.depth≤n
 | n,d,h=>by
  rcases tk_shape h with ⟨x,rfl,hx⟩ | ⟨m,xs,rfl,rfl,hx⟩
  ·simp [PyData.depth]
  ·have:PyData.depthAll xs≤m:=depthAll fun x hm=>tk_depth (n:=m) (List.all_eq_true.mp hx x hm)
   simp only [PyData.depth]
   omega
theorem eqvAll_tk {n:Nat} (ih:∀ {x y:PyData},tk n x=true→tk n y=true→(PyData.eqv x y=true↔x=y)):∀ {xs ys:List PyData},xs.all (tk n)=true→ys.all (tk n)=true→(PyData.eqvAll xs ys=true↔xs=ys)
 | [],[],_,_=>by simp [PyData.eqvAll]
 | [],_::_,_,_=>by simp [PyData.eqvAll]
 | _::_,[],_,_=>by simp [PyData.eqvAll]
 | x::xs,y::ys,h,g=>by
  rw [List.all_cons,Bool.and_eq_true] at h g
  simp only [PyData.eqvAll,Bool.and_eq_true,List.cons.injEq]
  rw [ih h.1 g.1,eqvAll_tk ih h.2 g.2]
theorem eqv_tk:∀ {n:Nat} {x y:PyData},tk n x=true→tk n y=true→(PyData.eqv x y=true↔x=y)
 | n,x,y,h,g=>by
  rcases tk_shape h with ⟨a,rfl,ha⟩ | ⟨m,xs,rfl,rfl,hx⟩
  ·rcases tk_shape g with ⟨b,rfl,hb⟩ | ⟨m',ys,rfl,rfl,hy⟩
   ·simp [PyData.eqv]
   ·simp [PyData.eqv]
  ·rcases tk_shape g with ⟨b,rfl,hb⟩ | ⟨m',ys,e,rfl,hy⟩
   ·simp [PyData.eqv]
   ·cases e
    simp only [PyData.eqv,PyData.tuple.injEq]
    exact eqvAll_tk (fun a b=>eqv_tk (n:=m) a b) hx hy
noncomputable instance:DecidableEq PyData:=fun a b=>Classical.propDecidable (a=b)
section
variable {prog:Program} {w:World}
theorem pyHash_tk:∀ (n:Nat) (d:PyData) {u:Value} {as:List Addr} {A:Around} {E:Value→Shared→Prop} {s:Shared} {Q:Int→Shared→Prop},tk n d=true→Reads s.heap u d as→A.units + n < cLine→Q (hk w n d) { s with toks:=s.toks + dk n d } →
  wpAny (model prog w) A (pyHash u) Q E s
 | n,d,u,as,A,E,s,Q,h,r,hu,q=>by
  rcases tk_shape h with ⟨x,rfl,hx⟩ | ⟨m,xs,rfl,rfl,hx⟩
  ·cases r
   have e1:hk w n (.str x)=hashStr w x:=by cases n <;> rfl
   have e2:dk n (.str x)=1:=by cases n <;> rfl
   rw [e1,e2] at q
   exact wpAny_pyHash_str q
  ·cases r with
   | @tuple a o vs k _ _ ho hc hd rs=>
   have hT:s.TypeIs (.ref a) "tuple":=⟨o,ho,hc⟩
   unfold pyHash
   first | unfold pyHashByItsType | skip
   first | refine wpAny_bind (wpAny_cRoomFor_or (.inr (by omega)) ?_) | skip
   refine wpAny_bind (wpAny_specialOf hT F.slot_tuple_hash.lookup ?_)
   show wpAny _ _ (if (some (Value.builtin "tuple.__hash__") == some Value.none)=true then _ else _) Q E s
   rw [if_neg (by rw [beq_builtin_none]; exact Bool.false_ne_true)]
   refine wpAny_bind (wpAny_specialOf hT F.slot_tuple_hash.lookup ?_)
   show wpAny _ _ (callSpecialIfBoundUnlessNone? (.ref a) "__hash__" _ >>= _) Q E s
   refine wpAny_bind (wpAny_callSpecialIfBoundUnlessNone?_slot hT F.slot_tuple_hash (wpAny_call_entry F.slot_tuple_hash hT F.entry_tuple_hash ?_ (F.args_tuple_hash_1 _)))
   show wpAny _ _ (Builtin.Tuple.tupleItemsOf (.ref a) >>= _) _ _ s
   refine wpAny_bind (wpAny_tupleItemsOf ho hd ?_)
   refine wpAny_bind ?_
   rw [← Array.forIn_toList]
   refine wpAny_forIn_list _ (fun rest (b:Array Int) s'=>∃ done left as',xs=done++left∧ReadsAll s.heap rest left as'∧b.toList=done.map (hk w m)∧s' = { s with toks:=s.toks + (done.map (dk m)).sum }) _ ?_ ?_ _ _ ⟨[],xs,_,rfl,rs,rfl,rfl⟩
   ·rintro x rest b s' ⟨done,left,as',rfl,hl,hb,rfl⟩
    cases hl with
    | @cons _ _ y ys _ _ h1 hl'=>
     rw [List.all_append,Bool.and_eq_true,List.all_cons,Bool.and_eq_true] at hx
     refine wpAny_bind (pyHash_tk m y hx.2.1 h1 (by show A.units + 1 + m < _; omega) ?_)
     first
      | exact wpAny_pure ⟨done++[y],ys,_,by simp,hl',by simp [hb],by simp [Nat.add_assoc]⟩
      | exact wpAny_bind (wpAny_pure (wpAny_pure ⟨done++[y],ys,_,by simp,hl',by simp [hb],by simp [Nat.add_assoc]⟩))
   ·rintro b s' ⟨done,left,as',rfl,hl,hb,rfl⟩
    cases hl
    rw [List.append_nil] at q
    show wpAny _ _ (retInt (Builtin.Tuple.tupleHashOf b.toList)) _ _ _
    rw [hb]
    refine wpAny_ret_mkInt ?_
    show wpAny _ _ (if (decide (-(2:Int) ^ 63≤Builtin.Tuple.tupleHashOf (done.map (hk w m))) && decide (Builtin.Tuple.tupleHashOf (done.map (hk w m)) < 2 ^ 63))=true then _ else _) Q E _
    have q':Q (reduceHash (Builtin.Tuple.tupleHashOf (done.map (hk w m)))) { s with toks:=s.toks + ((done.map (dk m)).sum + 1) }:=q
    unfold reduceHash at q'
    by_cases hr:(decide (-(2:Int) ^ 63≤Builtin.Tuple.tupleHashOf (done.map (hk w m))) && decide (Builtin.Tuple.tupleHashOf (done.map (hk w m)) < 2 ^ 63))=true
    ·rw [if_pos hr]
     rw [if_pos hr] at q'
     exact wpAny_pure (by simpa [Nat.add_assoc] using q')
    ·rw [if_neg hr]
     rw [if_neg hr] at q'
     exact wpAny_bind (wpAny_rule (wpAny_pure (by simpa [Nat.add_assoc] using q')))
theorem quiet_tk:∀ (n k:Nat) (d:PyData) {u:Value} {as:List Addr} {A:Around} {E:Value→Shared→Prop} {s:Shared} {Q:Bool→Shared→Prop},n≤k→tk n d=true→Reads s.heap u d as→Q true s→wpAny (model prog w) A (eqIsQuiet k u) Q E s
 | n,k,d,u,as,A,E,s,Q,hk,h,r,q=>by
  rcases tk_shape h with ⟨x,rfl,hx⟩ | ⟨m,xs,rfl,rfl,hx⟩
  ·cases r
   rw [eqIsQuiet_byValue _ rfl]
   exact wpAny_pure q
  ·cases r with
   | @tuple a o vs c _ _ ho hc hd rs=>
   obtain ⟨k,rfl⟩:∃ j,k=j + 1:=⟨k - 1,by omega⟩
   have hT:s.TypeIs (.ref a) "tuple":=⟨o,ho,hc⟩
   unfold eqIsQuiet
   refine wpAny_bind (wpAny_specialOf hT F.slot_tuple_eq.lookup ?_)
   show wpAny _ _ (isInstance (.ref a) (.type "tuple") >>= _) _ _ s
   refine wpAny_bind (wpAny_isInstance hT isSubtype_tuple_tuple ?_)
   simp only [Bool.not_true,Bool.false_eq_true,if_false]
   refine wpAny_bind (wpAny_seqItems ho hd ?_)
   refine wpAny_bind ?_
   show wpAny _ _ (forIn vs _ _) _ _ s
   rw [← Array.forIn_toList]
   refine wpAny_forIn_list _ (fun rest r s'=>r.1=none∧s'=s∧∃ left as',left.all (tk m)=true∧ReadsAll s.heap rest left as') _ ?_ ?_ _ _ ⟨rfl,rfl,xs,_,hx,rs⟩
   ·rintro v rest r s' ⟨hr,rfl,left,as',hall,rl⟩
    cases rl with
    | @cons _ _ y ys _ _ h1 hl'=>
     rw [List.all_cons,Bool.and_eq_true] at hall
     refine wpAny_bind (quiet_tk m k y (by omega) hall.1 h1 ?_)
     simp only [Bool.not_true,Bool.false_eq_true,if_false]
     exact wpAny_pure ⟨rfl,rfl,ys,_,hall.2,hl'⟩
   ·rintro ⟨r1,r2⟩ s' ⟨hr,rfl,_⟩
    simp only at hr
    subst hr
    exact wpAny_pure q
end
mutual
theorem reads_tk {h h':Heap} (k:∀ b o,(∀ es ep,o.data≠.dict es ep)→h.get? b=some o→h'.get? b=some o):∀ {n:Nat} {d:PyData} {v:Value} {as:List Addr},tk n d=true→Reads h v d as→Reads h' v d as
 | n,_,_,_,t,.none=>by cases n <;> cases t
 | n,_,_,_,t,.bool _=>by cases n <;> cases t
 | n,_,_,_,t,.int _ _=>by cases n <;> cases t
 | n,_,_,_,t,.str _ _=>.str _ _
 | n,_,_,_,t,.list _ _ _ _=>by cases n <;> cases t
 | n,_,_,_,t,.dict _ _ _ _ _=>by cases n <;> cases t
 | n,_,_,_,t,.tuple ho hc hd rs=>by
  rcases tk_shape t with ⟨x,e,_⟩ | ⟨m,xs,rfl,e,hx⟩
  ·cases e
  ·cases e
   exact .tuple (k _ _ (fun es ep z=>by rw [hd] at z; cases z) ho) hc hd (readsAll_tk k hx rs)
theorem readsAll_tk {h h':Heap} (k:∀ b o,(∀ es ep,o.data≠.dict es ep)→h.get? b=some o→h'.get? b=some o):∀ {n:Nat} {ds:List PyData} {vs:List Value} {as:List Addr},ds.all (tk n)=true→ReadsAll h vs ds as→ReadsAll h' vs ds as
 | _,_,_,_,_,.nil=>.nil
 | n,_,_,_,t,.cons r rs=>by
  rw [List.all_cons,Bool.and_eq_true] at t
  exact .cons (reads_tk k t.1 r) (readsAll_tk k t.2 rs)
end
noncomputable def kind (prog:Program) (w:World):HeapKind prog w PyData where
 is:=fun h d a=>tk 3 d=true∧∃ as,Reads h (.ref a) d as
 hash:=hk w 3
 draws:=dk 3
 room:=fun A=>A.units + 8 < cLine
 inj:=fun hx hy=>SeqAt.Reads.unique _ _ _ _ _ (tk_lay hx.1) hx.2.choose_spec hy.2.choose_spec
 keeps:=fun {_ _ _ _ d _ _ _} x ho hd hs=>⟨x.1,x.2.choose,reads_tk (fun b o nd e=>by
  by_cases hb:b=d
  ·subst hb; rw [ho] at e; cases e; exact absurd hd (nd _ _)
  ·exact (hs.2 b hb).trans e) x.1 x.2.choose_spec⟩
 pyHash:=fun hu hk h=>pyHash_tk 3 _ hk.1 hk.2.choose_spec (by omega) h
 eqBool:=fun {A _ _ x y _ _ _} hu hx hy h=>by
  refine SeqAt.eqAt_reads _ _ _ _ _ _ _ _ hx.2.choose_spec hy.2.choose_spec (tk_lay hx.1) (tk_lay hy.1) ?_ _ _ _ _ ?_
  ·have h1:=tk_depth hx.1
   have:min x.depth y.depth≤3:=Nat.le_trans (Nat.min_le_left _ _) h1
   omega
  ·have e:=eqv_tk hx.1 hy.1
   have:PyData.eqv x y=decide (x=y):=by
    by_cases z:x=y
    ·rw [decide_eq_true z,e.mpr z]
    ·rw [decide_eq_false z]
     exact Bool.eq_false_iff.mpr fun q=>z (e.mp q)
   rw [this]; exact h
 quiet:=fun hk h=>quiet_tk 3 8 _ (by decide) hk.1 hk.2.choose_spec h
end TK
namespace TK
open PySem PySem.Spec PyProof.Rows L2
noncomputable def EntAt (h:Heap) (a:Addr) (es:Array DictEntry) (ep:Nat):Prop:=∃ o,h.get? a=some o∧o.ExactDict∧o.data=.dict es ep
section
variable {prog:Program} {w:World} {A:Around} {E:Value→Shared→Prop} {s:Shared} {d it:Addr} {es:Array DictEntry} {ep i:Nat}
theorem EntAt.typeIs (x:EntAt s.heap d es ep):s.TypeIs (.ref d) "dict":=let ⟨o,h,c,_⟩:=x; ⟨o,h,c.1⟩
theorem EntAt.at' {h h':Heap} (x:EntAt h d es ep) (e:∀ o,h.get? d=some o→h'.get? d=some o):EntAt h' d es ep:=let ⟨o,ho,r⟩:=x; ⟨o,e _ ho,r⟩
theorem iter_ent {Q:Value→Shared→Prop} (hd:(d == sysModules)=false) (hm:EntAt s.heap d es ep)
  (hQ:Q (.ref s.heap.objs.size) { s with heap:=s.heap.push { cls:=.type "dict_keyiterator",data:=.fields #[.ref d,.int 0 0,.int es.size 0,.int ep 0] } }):wpAny (model prog w) A (pyIter (.ref d)) Q E s:=by
 have hT:=hm.typeIs
 obtain ⟨o,ho,hc,hdat⟩:=hm
 refine wpAny_pyIter_slot hT F.slot_dict_iter (wpAny_call_entry F.slot_dict_iter hT F.entry_dict_iter ?_ (F.args_dict_iter_1 _))
 unfold Builtin.«dict.__iter__»
 refine wpAny_bind ?_
 unfold Builtin.Dict.dictSlotNone
 refine wpAny_bind (wpAny_notOrdered_dict hT ?_)
 show wpAny _ _ (pure (Value.ref d)) _ _ s
 refine wpAny_pure ?_
 show wpAny _ _ (Builtin.Dict.showsAll d >>= _) _ _ s
 unfold Builtin.Dict.showsAll
 rw [if_neg (by rw [hd]; exact Bool.false_ne_true)]
 refine wpAny_bind (wpAny_pure ?_)
 refine wpAny_bind (wpAny_dictEntries ho hdat ?_)
 refine wpAny_bind (wpAny_dictEpoch ho hdat ?_)
 refine wpAny_bind (wpAny_newObj_type (wpAny_pure ⟨_,rfl,"dict_keyiterator",_,⟨_,Heap.get?_push_size _ rfl,rfl⟩,F.slot_dict_keyiterator_next.lookup,?_⟩))
 simpa [rawInt] using hQ
theorem next_ent {Q:Option Value→Shared→Prop} (hit:s.heap.IsKeyIter it d i es.size ep) (hm:EntAt s.heap d es ep) (hlt':i < es.size)
  (hQ:∀ h',h'.IsKeyIter it d (i + 1) es.size ep→Heap.SameBut it s.heap h'→Q (some es[i].key) { s with heap:=h' }):wpAny (model prog w) A (pyNext (.ref it)) Q E s:=by
 obtain ⟨o,ho,hc,hd⟩:=id hit
 obtain ⟨od,hod,hcd,hdd⟩:=hm
 unfold pyNext
 refine wpAny_bind (wpAny_attempt (wpAny_callSpecial?_slot (name:=Str.ofString "__next__") hit.typeIs F.slot_dict_keyiterator_next (wpAny_call_entry F.slot_dict_keyiterator_next hit.typeIs F.entry_dict_keyiterator_next ?_ (F.args_dict_keyiterator_next_1 _))))
 refine wpAny_bind (wpAny_pure ?_)
 refine wpAny_bind ?_
 refine wpAny_bind ?_
 first | refine wpAny_bind (wpAny_typeNameOfWhole_keyiter hit.typeIs (wpAny_pure ?_)) | refine wpAny_bind (wpAny_typeNameOf_keyiter hit.typeIs (wpAny_pure ?_))
 refine wpAny_bind (wpAny_fieldsOf ho hd ?_)
 have hown:Builtin.Dict_items.ownsTuple "dict_keyiterator" = false:=by decide
 simp only [hown,Bool.false_eq_true,if_false]
 show wpAny _ _ (if (Value.ref d == Value.none)=true then _ else _) _ _ s
 rw [if_neg (show ¬ ((Value.ref d == Value.none)=true) from Bool.false_ne_true)]
 refine wpAny_bind (wpAny_pure ?_)
 refine wpAny_bind (wpAny_dictEntries hod hdd ?_)
 rw [if_neg (by simp)]
 refine wpAny_bind (wpAny_pure ?_)
 refine wpAny_bind (wpAny_dictEpoch hod hdd ?_)
 rw [if_neg (by simp)]
 refine wpAny_pure ?_
 simp only [show ¬ ((i:Int) < 0) from by omega,if_false,Int.toNat_natCast,Array.getElem?_eq_getElem hlt']
 refine wpAny_bind ?_
 first | refine wpAny_bind (wpAny_typeNameOfWhole_keyiter hit.typeIs (wpAny_pure ?_)) | refine wpAny_bind (wpAny_typeNameOf_keyiter hit.typeIs (wpAny_pure ?_))
 refine wpAny_bind (wpAny_isOneOf_keyiter hit.typeIs ?_)
 show wpAny _ _ (setField (.ref it) 1 (rawInt ((i:Int) + 1)) >>= _) _ _ s
 refine wpAny_bind (wpAny_setField ho hd (by simp) ?_)
 have hit':(s.heap.update it (Obj.mapFields (·.setIfInBounds 1 (rawInt ((i:Int) + 1))))).IsKeyIter it d (i + 1) es.size ep:=
  ⟨_,Heap.get?_update_self _ ho (Obj.isFreed_of_fields (Obj.data_mapFields hd _)),(Obj.cls_mapFields ..).trans hc,by rw [Obj.data_mapFields hd]; simp [rawInt]⟩
 refine wpAny_bind (wpAny_holding ?_)
 refine wpAny_bind (wpAny_isOneOf_keyiter (s:={ s with heap:=s.heap.update it (Obj.mapFields (·.setIfInBounds 1 (rawInt ((i:Int) + 1)))) }) hit'.typeIs ?_)
 show wpAny _ _ (pure es[i].key) _ _ _
 exact wpAny_pure (wpAny_pure ⟨_,rfl,wpAny_pure (hQ _ hit' (Heap.SameBut.update ..))⟩)
theorem end_ent {Q:Option Value→Shared→Prop} (hh:A.handled=none) (hit:s.heap.IsKeyIter it d i es.size ep) (hm:EntAt s.heap d es ep) (hge:es.size≤i)
  (hQ:∀ h',Heap.ExtBut it s.heap h'→Q none { s with heap:=h' }):wpAny (model prog w) A (pyNext (.ref it)) Q E s:=by
 obtain ⟨o,ho,hc,hd⟩:=id hit
 obtain ⟨od,hod,hcd,hdd⟩:=hm
 unfold pyNext
 refine wpAny_bind (wpAny_attempt (wpAny_callSpecial?_slot (name:=Str.ofString "__next__") hit.typeIs F.slot_dict_keyiterator_next (wpAny_call_entry F.slot_dict_keyiterator_next hit.typeIs F.entry_dict_keyiterator_next ?_ (F.args_dict_keyiterator_next_1 _))))
 refine wpAny_bind (wpAny_pure ?_)
 refine wpAny_bind ?_
 refine wpAny_bind ?_
 first | refine wpAny_bind (wpAny_typeNameOfWhole_keyiter hit.typeIs (wpAny_pure ?_)) | refine wpAny_bind (wpAny_typeNameOf_keyiter hit.typeIs (wpAny_pure ?_))
 refine wpAny_bind (wpAny_fieldsOf ho hd ?_)
 have hown:Builtin.Dict_items.ownsTuple "dict_keyiterator" = false:=by decide
 simp only [hown,Bool.false_eq_true,if_false]
 show wpAny _ _ (if (Value.ref d == Value.none)=true then _ else _) _ _ s
 rw [if_neg (show ¬ ((Value.ref d == Value.none)=true) from Bool.false_ne_true)]
 refine wpAny_bind (wpAny_pure ?_)
 refine wpAny_bind (wpAny_dictEntries hod hdd ?_)
 rw [if_neg (by simp)]
 refine wpAny_bind (wpAny_pure ?_)
 refine wpAny_bind (wpAny_dictEpoch hod hdd ?_)
 rw [if_neg (by simp)]
 refine wpAny_pure ?_
 simp only [show ¬ ((i:Int) < 0) from by omega,if_false,Int.toNat_natCast,Array.getElem?_eq_none hge]
 refine wpAny_bind ?_
 first | refine wpAny_bind (wpAny_typeNameOfWhole_keyiter hit.typeIs (wpAny_pure ?_)) | refine wpAny_bind (wpAny_typeNameOf_keyiter hit.typeIs (wpAny_pure ?_))
 show wpAny _ _ (setField (.ref it) 0 .none >>= _) _ _ s
 refine wpAny_bind (wpAny_setField ho hd (by simp) ?_)
 show wpAny _ _ (newExc (.type "StopIteration") [] >>= _) _ _ _
 refine wpAny_bind ?_
 simp only [newExc,newTuple]
 refine wpAny_bind (wpAny_newObj_type ?_ (by size_fits))
 refine wpAny_bind (m:=firstArgMember _ _) (wpAny_of_eq (a:=Value.none) (by first | rfl | (simp only [firstArgMember]; rfl)) ?_)
 refine wpAny_newObj_type ?_ (by size_fits)
 simp only [raiseNew]
 refine wpAny_bind (wpAny_handled ?_)
 rw [show A.in1.handled=none from hh]
 refine wpAny_bind (wpAny_pure (wpAny_throw ?_))
 refine wpAny_bind (wpAny_isInstance (T:="StopIteration") (b:=true) ⟨_,Heap.get?_push_size _ rfl,rfl⟩ isSubtype_stop ?_)
 exact wpAny_pure (hQ _ (((Heap.SameBut.update ..).extBut.push _).push _))
theorem walks_ent (hh:A.handled=none) (I:Addr) (hne:d≠I) :
  Walks prog w A I [I,d] [I] es.size (fun i v=>∃ h:i < es.size,v=es[i].key) (fun i h=>h.IsKeyIter I d i es.size ep∧EntAt h d es ep) where
 sub:=fun b hb=>by simp at hb; simp [hb]
 frame:=fun _ _ _ st hk=>⟨st.1.at fun o e=>hk I (by simp) o e,st.2.at' fun o e=>hk d (by simp) o e⟩
 item:=fun i s Q E hi st hQ=>next_ent st.1 st.2 hi fun h' hit' hs'=>hQ _ h' s.toks ⟨hi,rfl⟩ ⟨hit',st.2.at' fun o e=>hs'.extBut d o hne e⟩ fun b o hb e=>hs'.extBut b o (fun h=>hb (by simp [h])) e
 done:=fun s Q E st hQ=>end_ent hh st.1 st.2 (Nat.le_refl _) fun h' he'=>hQ h' s.toks fun b o hb e=>he' b o (fun h=>hb (by simp [h])) e
 self:=fun _ _ _ _ st hQ=>wpAny_pyIter_keyiter st.1 hQ
theorem src_ent (lo:(d == sysModules)=false):PySem.W.KdlSrc prog w "dict" d d es.size (fun i v=>∃ h:i < es.size,v=es[i].key) (fun h=>EntAt h d es ep) where
 type:=fun _ hm=>hm.typeIs
 there:=fun _ hm=>let ⟨_,h,_⟩:=hm; ⟨Heap.lt_size h,Heap.lt_size h⟩
 keep:=fun _ _ hm hk=>hm.at' fun o e=>hk d (.inl rfl) o e
 notList:=by decide
 notTuple:=by decide
 hint:=fun _ _ _ _ hm hq=>PySem.W.kdl_hint_dict hm.typeIs hq
 iter:=fun _ _ hh hm=>⟨_,_,(fun _ _ hq=>iter_ent lo hm hq),walks_ent hh _ (Nat.ne_of_lt (let ⟨_,h,_⟩:=hm; Heap.lt_size h)),⟨⟨_,Heap.get?_push_size _ rfl,rfl,rfl⟩,hm.at' fun o e=>Heap.get?_push_of_some _ e⟩⟩
end
end TK
namespace TK
open PySem PySem.Spec PyProof.Rows L2 D
noncomputable abbrev Ents:=List (PyData×Addr×V)
noncomputable def EntR (p:PyData×Addr×V) (q:PyData×Addr×Value):Prop:=p.1=q.1∧p.2.1=q.2.1∧RelV p.2.2 q.2.2
noncomputable def TDφ (P:Program) (w:World) (e:Addr) (kvs:Ents) (h:Heap):Prop:=(e == sysModules)=false∧kvs.length≤sizeLine∧∃ xs,Paired EntR kvs xs∧(xs.map (·.1)).Nodup ∧
 ∃ o es ep,h.get? e=some o∧o.ExactDict∧o.data=.dict es ep∧es.toList=xs.map (entryOfKey (kind P w))
noncomputable def TD (P:Program) (w:World) (e:Addr) (kvs:Ents):HO:=.ext (TDφ P w e kvs)
theorem td_ok {P:Program} {w:World} {H:Hp} {h:Heap} {e:Addr} {kvs:Ents} (x:TDφ P w e kvs h):ObjOk P w H h e (TD P w e kvs):=
 ⟨x,let ⟨_,_,_,_,_,o,_,_,a,_⟩:=x; ⟨o,a⟩,fun h1 h2 y k=>let ⟨a,b,xs,c,d,o,es,ep,e1,r⟩:=y; ⟨a,b,xs,c,d,o,es,ep,k _ e1,r⟩⟩
theorem td_of {P:Program} {w:World} {H:Hp} {h:Heap} {e:Addr} {kvs:Ents} (ok:HOk P w H h) (x:H e=some (TD P w e kvs)):TDφ P w e kvs h:=(ok e _ x).1
noncomputable def putT (kvs:Ents) (k:PyData) (a:Addr) (v:V):Ents:=if kvs.any (fun q=>decide (q.1=k))=true then kvs.map (fun q=>if q.1=k then (q.1,q.2.1,v) else q) else kvs++[(k,a,v)]
theorem paired_any:∀ {kvs:Ents} {xs:List (PyData×Addr×Value)} {k:PyData},Paired EntR kvs xs→kvs.any (fun q=>decide (q.1=k))=(atKey xs k).isSome
 | _,_,_,.nil=>rfl
 | p::ps,q::qs,k,.cons r t=>by
  have ih:=paired_any (k:=k) t
  rw [List.any_cons,ih]
  unfold atKey
  rw [List.find?_cons,r.1]
  by_cases z:q.1=k
  ·rw [decide_eq_true z]; rfl
  ·rw [decide_eq_false z]; rfl
theorem paired_put {k:PyData} {a:Addr} {v:V} {u:Value} (rv:RelV v u) {kvs:Ents} {xs:List (PyData×Addr×Value)} (r:Paired EntR kvs xs):Paired EntR (putT kvs k a v) (storedH xs k a u):=by
 unfold putT storedH
 rw [paired_any r]
 split
 ·rename_i h
  clear h
  induction r with
  | nil=>exact .nil
  | cons r t ih=>
   refine .cons ?_ ih
   show EntR (if _ then _ else _) (if _ then _ else _)
   rw [r.1]
   split
   ·exact ⟨rfl,r.2.1,rv⟩
   ·exact r
 ·rename_i h
  clear h
  induction r with
  | nil=>exact .cons ⟨rfl,rfl,rv⟩ .nil
  | cons r t ih=>exact .cons r ih
theorem putT_len (kvs:Ents) (k:PyData) (a:Addr) (v:V):(putT kvs k a v).length≤kvs.length + 1:=by
 unfold putT
 split <;> simp
section
variable {X:Cx} {pos pos':Pos}
theorem pe_tdnew:PE X (.Dict [] [] pos) (fun _ H Q=>∀ p,H p=none→Q (.ref p) (upd H p (TD X.prog X.w p []))):=fun pins s σ H Q I h=>
 wpAny_Dict_empty ⟨.ref s.heap.objs.size,_,I.laid (a:=s.heap.objs.size) (o:=TD X.prog X.w s.heap.objs.size []) (t':=s.toks) (fun _ _ q=>Heap.get?_push_of_some _ q) (Nat.le_refl _)
  (td_ok ⟨beq_eq_false_iff_ne.mpr (Ne.symm (Nat.ne_of_lt I.big)),Nat.zero_le _,[],.nil,List.nodup_nil,_,#[],0,Heap.get?_push_size _ rfl,⟨rfl,rfl,rfl⟩,rfl,rfl⟩),rfl,h _ (I.hok.fresh (Nat.le_refl _))⟩
noncomputable def KeyOk (K:PySem.W.Frag) (O:Addr→Prop) (H:Hp) (q:PyData×Addr):Prop:=tk 3 q.1=true∧Rep K O H (.ref q.2) q.1
theorem key_is {pins:List (Addr×Obj)} {σ:L2.St} {H:Hp} {s:Shared} {O:Addr→Prop} {q:PyData×Addr} (I:Inv X pins σ H s) (k:KeyOk X.K O H q):(kind X.prog X.w).is s.heap q.1 q.2:=
 ⟨k.1,let ⟨as,r,_⟩:=k.2.reads I rfl; ⟨as,r⟩⟩
theorem td_dict {pins:List (Addr×Obj)} {σ:L2.St} {H:Hp} {s:Shared} {O:Addr→Prop} {e:Addr} {kvs:Ents} (I:Inv X pins σ H s) (x:H e=some (TD X.prog X.w e kvs)) (k:∀ q∈kvs,KeyOk X.K O H (q.1,q.2.1)) :
  (e == sysModules)=false∧kvs.length≤sizeLine∧∃ xs,Paired EntR kvs xs∧s.heap.DictOfH (kind X.prog X.w) e xs:=by
 obtain ⟨a,b,xs,c,d,o,es,ep,e1,e2,e3,e4⟩:=td_of I.hok x
 refine ⟨a,b,xs,c,o,es,ep,e1,e2,e3,e4,?_,d⟩
 clear e4 d b x e1
 induction c with
 | nil=>intro y hy; cases hy
 | cons r t ih=>
  intro y hy
  rcases List.mem_cons.mp hy with rfl | hy
  ·have:=key_is I (k _ List.mem_cons_self)
   rw [r.1,r.2.1] at this
   exact this
  ·exact ih (fun q hq=>k q (List.mem_cons_of_mem _ hq)) y hy
theorem ps_tput {o i value:Expr} {td ty tv:TE} (hu:X.A.units + 9 < cLine) (ho:PE X o td) (hi:PE X i ty) (hv:PE X value tv) (hs:swapsWith value (some (.Subscript o i pos')) pos.line X.env=pure false:=by rfl) :
  PS X (.Assign [.Subscript o i pos'] value pos) (fun D σ H=>tv σ H fun v H1=>td σ H1 fun x H2=>ty σ H2 fun y H3=>∃ O a kvs b k,x=.ref a∧y=.ref b∧H3 a=some (TD X.prog X.w a kvs)∧(∀ q∈kvs,KeyOk X.K O H3 (q.1,q.2.1))∧KeyOk X.K O H3 (k,b)∧kvs.length < sizeLine ∧
   D.nx σ (upd H3 a (TD X.prog X.w a (putT kvs k b v)))):=by
 intro pins s σ H D I h
 refine wpAny_Assign_Subscript (thn (hv pins s σ H _ I h) fun r s1 ⟨v,H1,I1,rv,q1⟩=>thn (ho pins s1 σ H1 _ I1 q1) fun u s2 ⟨x,H2,I2,rx,q2⟩=>thn (hi pins s2 σ H2 _ I2 q2) fun iv s3 ⟨y,H3,I3,ry,O,a,kvs,b,k,ex,ey,e,ks,kb,hl,q3⟩=>?_) hs
 subst ex ey
 obtain rfl:u=Value.ref a:=rx
 obtain rfl:iv=Value.ref b:=ry
 obtain ⟨lo,_,xs,pr,dd⟩:=td_dict I3 e ks
 have hl':xs.length≤sizeLine:=by rw [← Paired.length pr]; omega
 refine wpAny_setItem_heap (hsz:=hl') (show (kind X.prog X.w).room _ from by show X.A.units + 1 + 8 < cLine; omega) (key_is I3 kb) dd fun h' dd' hs=>?_
 obtain ⟨q,es,ep,hq,h2,h3,h4,_,h5⟩:=dd'
 refine ⟨σ,_,d_write I3 (by rw [e]; exact True.intro) hs ⟨q,hq⟩ (td_ok ⟨lo,?_,_,paired_put rv pr,h5,q,es,ep,hq,h2,h3,h4⟩),q3⟩
 exact Nat.le_trans (putT_len kvs k b v) hl
theorem ents_vals {P:Program} {w:World}:∀ {kvs:Ents} {xs:List (PyData×Addr×Value)} {us:List Value},Paired EntR kvs xs→us=xs.map (fun x=>Value.ref x.2.1)→Vals (kvs.map fun q=>V.ref q.2.1) us
 | _,_,_,.nil,e=>by subst e; exact .nil
 | _,_,_,.cons r t,e=>by
  subst e
  refine .cons ?_ (ents_vals (P:=P) (w:=w) t rfl)
  show RelV (V.ref _) (Value.ref _)
  rw [r.2.1]
  exact rfl
theorem call_list_td (hcm:X.calm=true):CallR X (.type "list") (fun xs H Q=>∃ a kvs,xs=[V.ref a]∧H a=some (TD X.prog X.w a kvs)∧∀ l,H l=none→Q (.ref l) (upd H l (.lst (kvs.map fun q=>.ref q.2.1)))):=by
 intro pins s σ H xs us Q I r h
 obtain ⟨a,kvs,rfl,ha,q⟩:=h
 obtain ⟨u,rfl,ru⟩:=vals1 r
 cases ru
 obtain ⟨lo,hl,xs,pr,nd,o,es,ep,e1,e2,e3,e4⟩:=td_of I.hok ha
 have hsz:es.size=xs.length:=size_of_entries e4
 have hpl:kvs.length=xs.length:=Paired.length pr
 refine PySem.W.kdl_call (src_ent (prog:=X.prog) (w:=X.w) (es:=es) (ep:=ep) lo) (I.ok.hd hcm) ⟨o,e1,e2,e3⟩ (by omega) fun h' tk acc c k1 k2 k3=>?_
 have hv:Vals (kvs.map fun q=>V.ref q.2.1) acc.toList:=ents_vals (P:=X.prog) (w:=X.w) pr (by
  refine List.ext_getElem? fun j=>?_
  have k4:=k3.2 j
  by_cases hj:j < es.size
  ·have hj':j < acc.size:=by rw [k3.1]; exact hj
   obtain ⟨_,k5⟩:=k4 acc[j] (by simp [hj'])
   rw [Array.getElem?_toList,Array.getElem?_eq_getElem hj',k5]
   have:=entry_at e4 j
   rw [Array.getElem?_eq_getElem hj] at this
   rw [List.getElem?_map]
   cases hx:xs[j]? with
   | none=>rw [hx] at this; cases this
   | some x=>
    rw [hx] at this
    have e5:es[j]=entryOfKey (kind X.prog X.w) x:=Option.some.inj this
    rw [e5]
    rfl
  ·rw [Array.getElem?_toList,Array.getElem?_eq_none (by rw [k3.1]; omega),List.getElem?_map,List.getElem?_eq_none (by omega)]
   rfl)
 have hn:H s.heap.objs.size=none:=I.hok.fresh (Nat.le_refl _)
 exact ⟨.ref s.heap.objs.size,_,I.laid (t':=tk) (o:=.lst (kvs.map fun q=>.ref q.2.1)) k1 (Nat.le_refl _) ⟨by simp; omega,acc.toList,c,hv,by simpa using k2⟩,rfl,q _ hn⟩
theorem mt_setdef:MtR X "dict.setdefault" (fun x vs H Q=>∃ a kvs k v,x=.ref a∧vs=[.str k,v]∧H a=some (.dK kvs)∧kvs.length < sizeLine ∧
  ((∃ u,valV kvs (Sum.inr k)=some u∧Q u H)∨(valV kvs (Sum.inr k)=none∧Q v (upd H a (.dK (putK kvs (Sum.inr k) v)))))):=by
 intro pins s σ H x vs v us Q I rx rv h
 obtain ⟨a,kvs,k,d,rfl,rfl,ha,hl,q⟩:=h
 cases rx
 obtain ⟨z,hd,ws,rel,dd⟩:=dk_of I.hok ha
 cases rv with
 | cons r1 r2=>
 cases r2 with
 | cons r2 r3=>
 cases r3
 rename_i ku du
 have hz:ws.length≤sizeLine:=by rw [← rel.length]; exact z
 have rk:RelV (kV (Sum.inr k)) ku:=r1
 have vv:=rel.val (Sum.inr k:Key)
 refine call_meetsIn PySem.F.slot_dict_setdefault dd.typeIs PySem.F.entry_dict_setdefault (PySem.F.args_dict_setdefault_3 _ _ _) (PySem.kt_meets_setdefault (mixKind X.prog X.w) a (kV_is rk) hd du) ⟨ws,dd,hz,fun v' hv'=>?_,fun hn h' dd' hs=>?_⟩
 ·rcases q with ⟨u,hu,q⟩ | ⟨hu,q⟩
  ·rw [hu,hv'] at vv
   exact ⟨u,H,I.tok _,vv,q⟩
  ·rw [hu,hv'] at vv
   exact False.elim vv
 ·rcases q with ⟨u,hu,q⟩ | ⟨hu,q⟩
  ·rw [hu,hn] at vv
   exact False.elim vv
  ·have he:∃ q,h'.get? a=some q:=let ⟨q,_,_,hq,_⟩:=dd'; ⟨q,hq⟩
   have hl2:(putK kvs (Sum.inr k) d).length≤sizeLine:=by have:=length_putK kvs (Sum.inr k:Key) d; omega
   exact ⟨d,_,d_write I (by rw [ha]; exact True.intro) hs he (dk_new hl2 hd (rel.put _ r2) dd'),r2,q⟩
end
end TK
namespace G
open PySem PySem.Spec PyProof.Rows L2 D
noncomputable def m_many_alike:FnM:=mkFn 3 (fSeq (fSet 2 (fC (.int 0))) (fSeq (whileF (fAndT (fTst (fBin ltD (fVar 2) (fCB minD2 (fCons (fCB lenD (fCons (fVar 0) fNil)) (fCons (fCB lenD (fCons (fVar 1) fNil)) fNil))))) (fTst (fBin eqG (fBin ixD (fVar 0) (fVar 2)) (fBin ixD (fVar 1) (fVar 2))))) (fSet 2 (fBin addD (fVar 2) (fC (.int 1)))) 100000) (fRet (fVar 2))))
noncomputable def m_next_at:FnM:=mkFn 2 (fRet (fIfE (fTst (fBin ltD (fVar 1) (fCB lenD (fCons (fBin ixD (fVar 0) (fC (.int 1))) fNil)))) (fSeqD .tuple (fCons (fC (.str (Str.ofString "wants"))) (fCons (fBin ixD (fBin ixD (fBin ixD (fVar 0) (fC (.int 1))) (fVar 1)) (fC (.int 0))) fNil))) (fBin ixD (fVar 0) (fC (.int 2)))))
noncomputable def m_at_odds:FnM:=mkFn 3 (fSeq (fSet 2 (fCall m_many_alike (fCons (fBin ixD (fVar 0) (fC (.int 1))) (fCons (fBin ixD (fVar 1) (fC (.int 1))) fNil)))) (fRet (fBin neG (fCall m_next_at (fCons (fVar 0) (fCons (fVar 2) fNil))) (fCall m_next_at (fCons (fVar 1) (fCons (fVar 2) fNil))))))
noncomputable def m_first_at_odds:FnM:=mkFn 3 (fSeq (fFor 2 (fIter (fVar 0)) (fIf (fTru (fCall m_at_odds (fCons (fVar 2) (fCons (fVar 1) fNil)))) (fRet (fVar 2)) fNext)) (fRet (fC .none)))
noncomputable def m__law_draw:FnM:=mkFn 6 (fSeq (fSet 3 (fC (.int 0))) (fSeq (fIf (fTst (fBin gtD (fCB lenD (fCons (fVar 0) fNil)) (fC (.int 0)))) (fSeq (fSet 3 (fBin ixD (fVar 0) (fBin modD (fVar 1) (fCB lenD (fCons (fVar 0) fNil))))) (fSeq (fSet 4 (fBin shrD (fVar 3) (fBin mulD (fC (.int 7)) (fCB minD2 (fCons (fC (.int 90)) (fCons (fBin fdivD (fVar 1) (fCB lenD (fCons (fVar 0) fNil))) fNil)))))) (fIf (fAndT (fTst (fBin geD (fVar 3) (fBin powD (fC (.int 10)) (fC (.int 18))))) (fTst (fBin gtD (fVar 4) (fC (.int 127))))) (fRet (fBin modD (fVar 4) (fVar 2))) fNext))) fNext) (fSeq (fSet 5 (fBin modD (fBin mulD (fBin addD (fBin addD (fBin addD (fBin modD (fVar 3) (fC (.int 999999937))) (fBin mulD (fBin mulD (fC (.int 31)) (fVar 1)) (fVar 1))) (fBin mulD (fC (.int 7)) (fVar 1))) (fC (.int 1))) (fC (.int 48271))) (fC (.int 2147483647)))) (fRet (fBin modD (fBin fdivD (fBin modD (fBin mulD (fBin fdivD (fVar 5) (fC (.int 7))) (fC (.int 69621))) (fC (.int 2147483629))) (fC (.int 5))) (fVar 2))))))
noncomputable def m__law_same:FnM:=mkFn 2 (fSeq (fIf (fTru (fUn (isiD .dct) (fVar 1))) fNone fNext) (fRet (fBin eqD (fRepr (fVar 0)) (fRepr (fVar 1)))))
noncomputable def m__law_stamp:Nat→FnM
 | 0=>fun _ _=>none
 | n + 1=>mkFn 1 (fSeq (fIf (fTru (fUn (isiD .int) (fVar 0))) (fRet (fCB strD (fCons (fVar 0) fNil))) fNext) (fSeq (fIf (fTru (fUn (isiD .str) (fVar 0))) (fRet (fBin addD (fC (.str (Str.ofString "'"))) (fVar 0))) fNext) (fRet (fBin addD (fBin addD (fC (.str (Str.ofString "("))) (fBin joinD (fC (.str (Str.ofString ","))) (fComp (fIter (fVar 0)) fTrue (fCall (m__law_stamp n) (fCons (fVar 0) fNil))))) (fC (.str (Str.ofString ")")))))))
noncomputable def m__law_names:FnM:=mkFn 5 (fSeq (fSet 2 (fSeqD .list (fCons (fC (.str (Str.ofString "a"))) (fCons (fC (.str (Str.ofString "ab"))) (fCons (fC (.str (Str.ofString "abc"))) (fCons (fC (.str (Str.ofString "b"))) (fCons (fC (.str (Str.ofString "told"))) (fCons (fC (.str (Str.ofString "made"))) (fCons (fC (.str (Str.ofString "say"))) (fCons (fC (.str (Str.ofString "want"))) (fCons (fC (.str (Str.ofString "wants"))) (fCons (fC (.str (Str.ofString "ba"))) (fCons (fC (.str (Str.ofString "zz"))) (fCons (fC (.str (Str.ofString "x"))) fNil)))))))))))))) (fSeq (fSet 3 (fCall m__law_draw (fCons (fVar 0) (fCons (fVar 1) (fCons (fC (.int 12)) fNil))))) (fSeq (fSet 4 (fBin ixD (fSeqD .list (fCons (fC (.int 1)) (fCons (fC (.int 5)) (fCons (fC (.int 7)) (fCons (fC (.int 11)) fNil))))) (fCall m__law_draw (fCons (fVar 0) (fCons (fBin addD (fVar 1) (fC (.int 1))) (fCons (fC (.int 4)) fNil)))))) (fRet (fComp (fRng1 (fBin addD (fC (.int 4)) (fCall m__law_draw (fCons (fVar 0) (fCons (fBin addD (fVar 1) (fC (.int 2))) (fCons (fC (.int 4)) fNil)))))) fTrue (fBin ixD (fVar 3) (fBin modD (fBin addD (fVar 4) (fBin mulD (fVar 5) (fVar 0))) (fC (.int 12)))))))))
noncomputable def m__law_value:FnM:=mkFn 4 (fSeq (fSet 3 (fBin addD (fSeqD .list (fCons (fC (.int 0)) (fCons (fC (.int 1)) (fCons (fC (.int 2)) (fCons (fUn negD (fC (.int 3))) (fCons (fC (.str (Str.ofString ""))) (fCons (fC (.str (Str.ofString "a"))) (fCons (fC (.str (Str.ofString "-0"))) (fCons (fSeqD .tuple fNil) (fCons (fSeqD .tuple (fCons (fC (.int 1)) (fCons (fC (.str (Str.ofString "b"))) fNil))) (fCons (fSeqD .tuple (fCons (fC (.str (Str.ofString "a"))) (fCons (fSeqD .tuple (fCons (fC (.int 0)) fNil)) fNil))) (fCons (fBin powD (fC (.int 10)) (fC (.int 18))) (fCons (fC (.int 1)) (fCons (fC (.int 0)) fNil)))))))))))))) (fVar 2))) (fRet (fBin ixD (fVar 3) (fCall m__law_draw (fCons (fVar 0) (fCons (fVar 1) (fCons (fCB lenD (fCons (fVar 3) fNil)) fNil)))))))
noncomputable def m__law_expr:FnM:=mkFn 6 (fSeq (fSet 3 (fSeqD .tuple (fCons (fC (.str (Str.ofString "got"))) (fCons (fC (.int 0)) fNil)))) (fSeq (fSet 4 (fSeqD .tuple (fCons (fC (.str (Str.ofString "put"))) (fCons (fCall m__law_value (fCons (fVar 0) (fCons (fBin addD (fVar 1) (fC (.int 1))) (fCons (fVar 2) fNil)))) fNil)))) (fSeq (fSet 5 (fSeqD .list (fCons (fVar 3) (fCons (fSeqD .tuple (fCons (fC (.str (Str.ofString "sum"))) (fCons (fVar 3) (fCons (fSeqD .tuple (fCons (fC (.str (Str.ofString "put"))) (fCons (fC (.int 1)) fNil))) fNil)))) (fCons (fSeqD .tuple (fCons (fC (.str (Str.ofString "join"))) (fCons (fVar 3) (fCons (fSeqD .tuple (fCons (fC (.str (Str.ofString "put"))) (fCons (fC (.str (Str.ofString "a"))) fNil))) fNil)))) (fCons (fSeqD .tuple (fCons (fC (.str (Str.ofString "many"))) (fCons (fVar 3) fNil))) (fCons (fSeqD .tuple (fCons (fC (.str (Str.ofString "same"))) (fCons (fVar 3) (fCons (fVar 4) fNil)))) fNil))))))) (fSeq (fSet 5 (fBin addD (fVar 5) (fSeqD .list (fCons (fSeqD .tuple (fCons (fC (.str (Str.ofString "row"))) (fCons (fSeqD .tuple (fCons (fVar 3) (fCons (fVar 4) fNil))) fNil))) (fCons (fSeqD .tuple (fCons (fC (.str (Str.ofString "part"))) (fCons (fVar 3) (fCons (fSeqD .tuple (fCons (fC (.str (Str.ofString "put"))) (fCons (fC (.int 0)) fNil))) fNil)))) (fCons (fSeqD .tuple (fCons (fC (.str (Str.ofString "less"))) (fCons (fVar 3) (fCons (fSeqD .tuple (fCons (fC (.str (Str.ofString "put"))) (fCons (fC (.int 1)) fNil))) fNil)))) (fCons (fSeqD .tuple (fCons (fC (.str (Str.ofString "many"))) (fCons (fVar 3) fNil))) (fCons (fVar 3) fNil)))))))) (fRet (fBin ixD (fVar 5) (fCall m__law_draw (fCons (fVar 0) (fCons (fVar 1) (fCons (fC (.int 10)) fNil))))))))))
noncomputable def m__law_recipe:FnM:=mkFn 12 (fSeq (fSet 4 (fSeqD .tuple (fCons (fC (.str (Str.ofString "put"))) (fCons (fBin ixD (fVar 2) (fCall m__law_draw (fCons (fVar 0) (fCons (fVar 1) (fCons (fCB lenD (fCons (fVar 2) fNil)) fNil))))) fNil)))) (fSeq (fSet 5 (fSeqD .tuple (fCons (fC (.str (Str.ofString "put"))) (fCons (fBin ixD (fVar 2) (fCall m__law_draw (fCons (fVar 0) (fCons (fBin addD (fVar 1) (fC (.int 1))) (fCons (fCB lenD (fCons (fVar 2) fNil)) fNil))))) fNil)))) (fSeq (fSet 6 (fSeqD .tuple (fCons (fC (.str (Str.ofString "say"))) (fCons (fSeqD .tuple (fCons (fC (.str (Str.ofString "put"))) (fCons (fCall m__law_value (fCons (fVar 0) (fCons (fBin addD (fVar 1) (fC (.int 2))) (fCons (fVar 2) fNil)))) fNil))) fNil)))) (fSeq (fSet 7 (fCall m__law_expr (fCons (fVar 0) (fCons (fBin addD (fVar 1) (fC (.int 3))) (fCons (fVar 2) fNil))))) (fSeq (fSet 8 (fSeqD .list (fCons (fSeqD .tuple (fCons (fC (.str (Str.ofString "row"))) (fCons (fSeqD .tuple (fCons (fSeqD .tuple (fCons (fC (.str (Str.ofString "got"))) (fCons (fC (.int 0)) fNil))) (fCons (fSeqD .tuple (fCons (fC (.str (Str.ofString "got"))) (fCons (fC (.int 1)) fNil))) fNil))) fNil))) (fCons (fSeqD .tuple (fCons (fC (.str (Str.ofString "same"))) (fCons (fSeqD .tuple (fCons (fC (.str (Str.ofString "got"))) (fCons (fC (.int 0)) fNil))) (fCons (fSeqD .tuple (fCons (fC (.str (Str.ofString "got"))) (fCons (fC (.int 1)) fNil))) fNil)))) (fCons (fSeqD .tuple (fCons (fC (.str (Str.ofString "sum"))) (fCons (fSeqD .tuple (fCons (fC (.str (Str.ofString "got"))) (fCons (fC (.int 1)) fNil))) (fCons (fSeqD .tuple (fCons (fC (.str (Str.ofString "got"))) (fCons (fC (.int 0)) fNil))) fNil)))) fNil))))) (fSeq (fSet 9 (fSeqD .tuple (fCons (fC (.str (Str.ofString "say"))) (fCons (fBin ixD (fVar 8) (fCall m__law_draw (fCons (fVar 0) (fCons (fBin addD (fVar 1) (fC (.int 5))) (fCons (fC (.int 3)) fNil))))) fNil)))) (fSeq (fSet 10 (fSeqD .tuple (fCons (fC (.str (Str.ofString "want"))) (fCons (fVar 5) (fCons (fSeqD .tuple (fCons (fC (.str (Str.ofString "say"))) (fCons (fSeqD .tuple (fCons (fC (.str (Str.ofString "got"))) (fCons (fC (.int 1)) fNil))) fNil))) fNil))))) (fSeq (fSet 11 (fSeqD .list (fCons (fVar 6) (fCons (fSeqD .tuple (fCons (fC (.str (Str.ofString "want"))) (fCons (fVar 4) (fCons (fSeqD .tuple (fCons (fC (.str (Str.ofString "say"))) (fCons (fVar 7) fNil))) fNil)))) (fCons (fSeqD .tuple (fCons (fC (.str (Str.ofString "want"))) (fCons (fVar 4) (fCons (fSeqD .tuple (fCons (fC (.str (Str.ofString "want"))) (fCons (fVar 5) (fCons (fVar 9) fNil)))) fNil)))) (fCons (fSeqD .tuple (fCons (fC (.str (Str.ofString "want"))) (fCons (fVar 4) (fCons (fSeqD .tuple (fCons (fC (.str (Str.ofString "say"))) (fCons (fVar 7) fNil))) fNil)))) fNil)))))) (fSeq (fSet 11 (fBin addD (fVar 11) (fSeqD .list (fCons (fSeqD .tuple (fCons (fC (.str (Str.ofString "want"))) (fCons (fVar 4) (fCons (fSeqD .tuple (fCons (fC (.str (Str.ofString "when"))) (fCons (fVar 7) (fCons (fVar 10) (fCons (fVar 6) fNil))))) fNil)))) (fCons (fSeqD .tuple (fCons (fC (.str (Str.ofString "want"))) (fCons (fVar 4) (fCons (fSeqD .tuple (fCons (fC (.str (Str.ofString "want"))) (fCons (fSeqD .tuple (fCons (fC (.str (Str.ofString "got"))) (fCons (fC (.int 0)) fNil))) (fCons (fSeqD .tuple (fCons (fC (.str (Str.ofString "say"))) (fCons (fSeqD .tuple (fCons (fC (.str (Str.ofString "got"))) (fCons (fC (.int 1)) fNil))) fNil))) fNil)))) fNil)))) fNil))))) (fSeq (fSet 11 (fBin addD (fVar 11) (fSeqD .list (fCons (fSeqD .tuple (fCons (fC (.str (Str.ofString "fail"))) (fCons (fBin ixD (fVar 2) (fCall m__law_draw (fCons (fVar 0) (fCons (fBin addD (fVar 1) (fC (.int 6))) (fCons (fCB lenD (fCons (fVar 2) fNil)) fNil))))) fNil))) (fCons (fSeqD .tuple (fCons (fC (.str (Str.ofString "want"))) (fCons (fVar 4) (fCons (fSeqD .tuple (fCons (fC (.str (Str.ofString "want"))) (fCons (fVar 4) (fCons (fVar 9) fNil)))) fNil)))) fNil))))) (fSeq (fSet 11 (fBin addD (fVar 11) (fSeqD .list (fCons (fSeqD .tuple (fCons (fC (.str (Str.ofString "peek"))) (fCons (fVar 4) (fCons (fSeqD .tuple (fCons (fC (.str (Str.ofString "say"))) (fCons (fVar 7) fNil))) fNil)))) (fCons (fSeqD .tuple (fCons (fC (.str (Str.ofString "peek"))) (fCons (fVar 4) (fCons (fSeqD .tuple (fCons (fC (.str (Str.ofString "when"))) (fCons (fVar 7) (fCons (fVar 10) (fCons (fVar 6) fNil))))) fNil)))) fNil))))) (fSeq (fSet 11 (fBin addD (fVar 11) (fSeqD .list (fCons (fSeqD .tuple (fCons (fC (.str (Str.ofString "want"))) (fCons (fVar 4) (fCons (fSeqD .tuple (fCons (fC (.str (Str.ofString "peek"))) (fCons (fVar 5) (fCons (fVar 9) fNil)))) fNil)))) (fCons (fSeqD .tuple (fCons (fC (.str (Str.ofString "peek"))) (fCons (fVar 4) (fCons (fSeqD .tuple (fCons (fC (.str (Str.ofString "want"))) (fCons (fVar 5) (fCons (fVar 9) fNil)))) fNil)))) fNil))))) (fRet (fBin ixD (fVar 11) (fCall m__law_draw (fCons (fVar 0) (fCons (fBin addD (fVar 1) (fC (.int 7))) (fCons (fVar 3) fNil))))))))))))))))))
noncomputable def m__law_fits:Nat→FnM
 | 0=>fun _ _=>none
 | n + 1=>mkFn 2 (fSeq (fIf (fTru (fUn (isiD .tup) (fVar 0))) (fRet (fAndV (fBin ltD (fVar 1) (fC (.int 4))) (fAndV (fBin leD (fCB lenD (fCons (fVar 0) fNil)) (fC (.int 8))) (fCB allD (fCons (fComp (fIter (fVar 0)) fTrue (fCall (m__law_fits n) (fCons (fVar 0) (fCons (fBin addD (fVar 2) (fC (.int 1))) fNil)))) fNil))))) fNext) (fSeq (fIf (fTru (fUn (isiD .str) (fVar 0))) (fRet (fBin leD (fCB lenD (fCons (fVar 0) fNil)) (fC (.int 20)))) fNext) (fRet (fChain leD leD (fUn negD (fBin powD (fC (.int 10)) (fC (.int 18)))) (fVar 0) (fBin powD (fC (.int 10)) (fC (.int 18)))))))
noncomputable def m__law_of_two:FnM:=mkFn 4 (fSeq (fSet 3 (fSeqD .list (fCons (fUn (isiD .int) (fVar 1)) (fCons (fUn (isiD .int) (fVar 2)) fNil)))) (fSeq (fIf (fTst (fBin eqD (fVar 0) (fC (.str (Str.ofString "same"))))) (fRet (fCB intD (fCons (fBin eqD (fCall (m__law_stamp 25) (fCons (fVar 1) fNil)) (fCall (m__law_stamp 25) (fCons (fVar 2) fNil))) fNil))) fNext) (fSeq (fIf (fTst (fBin eqD (fVar 0) (fC (.str (Str.ofString "part"))))) (fSeq (fIf (fOrT (fNotT (fTru (fUn (isiD .tup) (fVar 1)))) (fNotT (fTru (fBin ixD (fVar 3) (fC (.int 1)))))) (fRet (fC .none)) fNext) (fRet (fIfE (fTst (fChain leD ltD (fC (.int 0)) (fVar 2) (fCB lenD (fCons (fVar 1) fNil)))) (fBin ixD (fVar 1) (fVar 2)) (fSeqD .tuple fNil)))) fNext) (fSeq (fIf (fTst (fBin eqD (fVar 0) (fC (.str (Str.ofString "join"))))) (fSeq (fIf (fOrT (fTru (fBin ixD (fVar 3) (fC (.int 0)))) (fOrT (fTru (fBin ixD (fVar 3) (fC (.int 1)))) (fTst (fBin neD (fUn (isiD .str) (fVar 1)) (fUn (isiD .str) (fVar 2)))))) (fRet (fC .none)) fNext) (fRet (fBin addD (fVar 1) (fVar 2)))) fNext) (fSeq (fIf (fTst (fBin neG (fVar 3) (fSeqD .list (fCons (fC (.bool true)) (fCons (fC (.bool true)) fNil))))) (fRet (fC .none)) fNext) (fRet (fIfE (fTst (fBin eqD (fVar 0) (fC (.str (Str.ofString "sum"))))) (fBin addD (fVar 1) (fVar 2)) (fCB intD (fCons (fBin ltD (fVar 1) (fVar 2)) fNil)))))))))
noncomputable def m__law_told:Nat→FnM
 | 0=>fun _ _=>none
 | n + 1=>mkFn 6 (fSeq (fIf (fTst (fBin eqD (fBin ixD (fVar 0) (fC (.int 0))) (fC (.str (Str.ofString "put"))))) (fRet (fSeqD .tuple (fCons (fC (.str (Str.ofString "value"))) (fCons (fBin ixD (fVar 0) (fC (.int 1))) fNil)))) fNext) (fSeq (fIf (fTst (fBin eqD (fBin ixD (fVar 0) (fC (.int 0))) (fC (.str (Str.ofString "got"))))) (fRet (fSeqD .tuple (fCons (fC (.str (Str.ofString "value"))) (fCons (fBin ixD (fVar 1) (fBin ixD (fVar 0) (fC (.int 1)))) fNil)))) fNext) (fSeq (fSet 2 (fComp (fIter (fIfE (fTst (fBin eqD (fBin ixD (fVar 0) (fC (.int 0))) (fC (.str (Str.ofString "row"))))) (fBin ixD (fVar 0) (fC (.int 1))) (fSl (fVar 0) (fP (fC (.int 1))) fNoP))) fTrue (fCall (m__law_told n) (fCons (fVar 0) (fCons (fVar 2) fNil))))) (fSeq (fFor 3 (fIter (fVar 2)) (fIf (fTst (fBin eqD (fBin ixD (fVar 3) (fC (.int 0))) (fC (.str (Str.ofString "fails"))))) (fRet (fVar 3)) fNext)) (fSeq (fSet 4 (fComp (fIter (fVar 2)) fTrue (fBin ixD (fVar 0) (fC (.int 1))))) (fSeq (fIf (fTst (fBin eqD (fBin ixD (fVar 0) (fC (.int 0))) (fC (.str (Str.ofString "row"))))) (fRet (fIfE (fTru (fCall (m__law_fits 25) (fCons (fCB tupleD (fCons (fVar 4) fNil)) (fCons (fC (.int 0)) fNil)))) (fSeqD .tuple (fCons (fC (.str (Str.ofString "value"))) (fCons (fCB tupleD (fCons (fVar 4) fNil)) fNil))) (fSeqD .tuple (fCons (fC (.str (Str.ofString "fails"))) (fCons (fC (.str (Str.ofString "great"))) fNil))))) fNext) (fSeq (fIf (fTst (fBin eqD (fBin ixD (fVar 0) (fC (.int 0))) (fC (.str (Str.ofString "many"))))) (fRet (fIfE (fTru (fUn (isiD .int) (fBin ixD (fVar 4) (fC (.int 0))))) (fSeqD .tuple (fCons (fC (.str (Str.ofString "fails"))) (fCons (fC (.str (Str.ofString "kind"))) fNil))) (fSeqD .tuple (fCons (fC (.str (Str.ofString "value"))) (fCons (fCB lenD (fCons (fBin ixD (fVar 4) (fC (.int 0))) fNil)) fNil))))) fNext) (fSeq (fSet 5 (fCall m__law_of_two (fCons (fBin ixD (fVar 0) (fC (.int 0))) (fCons (fBin ixD (fVar 4) (fC (.int 0))) (fCons (fBin ixD (fVar 4) (fC (.int 1))) fNil))))) (fSeq (fIf (fTst (fBin isD (fVar 5) (fC .none))) (fRet (fSeqD .tuple (fCons (fC (.str (Str.ofString "fails"))) (fCons (fC (.str (Str.ofString "kind"))) fNil)))) fNext) (fSeq (fIf (fAndT (fTst (fBin eqD (fBin ixD (fVar 0) (fC (.int 0))) (fC (.str (Str.ofString "part"))))) (fNotT (fTst (fChain leD ltD (fC (.int 0)) (fBin ixD (fVar 4) (fC (.int 1))) (fCB lenD (fCons (fBin ixD (fVar 4) (fC (.int 0))) fNil)))))) (fRet (fSeqD .tuple (fCons (fC (.str (Str.ofString "fails"))) (fCons (fC (.str (Str.ofString "part"))) fNil)))) fNext) (fRet (fIfE (fTru (fCall (m__law_fits 25) (fCons (fVar 5) (fCons (fC (.int 0)) fNil)))) (fSeqD .tuple (fCons (fC (.str (Str.ofString "value"))) (fCons (fVar 5) fNil))) (fSeqD .tuple (fCons (fC (.str (Str.ofString "fails"))) (fCons (fC (.str (Str.ofString "great"))) fNil)))))))))))))))
noncomputable def m__law_is_name:FnM:=mkFn 1 (fSeq (fIf (fOrT (fNotT (fTru (fUn (isiD .str) (fVar 0)))) (fNotT (fTst (fChain leD leD (fC (.int 1)) (fCB lenD (fCons (fVar 0) fNil)) (fC (.int 8)))))) (fRet (fC (.bool false))) fNext) (fRet (fCB allD (fCons (fComp (fIter (fVar 0)) fTrue (fBin inD (fVar 0) (fC (.str (Str.ofString "abcdefghijklmnopqrstuvwxyz"))))) fNil))))
noncomputable def m__law_run:FnM:=mkFn 5 (fSeq (fSetL 2 fNil) (fSeq (fSetL 3 fNil) (fSeq (whileF (fTst (fBin notInD (fBin ixD (fVar 0) (fC (.int 0))) (fSeqD .tuple (fCons (fC (.str (Str.ofString "say"))) (fCons (fC (.str (Str.ofString "fail"))) fNil))))) (fSeq (fSet 4 (fCallF (m__law_told 25) (fCons (fBin ixD (fVar 0) (fC (.int 1))) (fCons (fVar 2) fNil)))) (fSeq (fIf (fTst (fBin eqD (fBin ixD (fVar 4) (fC (.int 0))) (fC (.str (Str.ofString "fails"))))) (fRet (fSeqD .tuple (fCons (fCB tupleD (fCons (fVar 3) fNil)) (fCons (fVar 4) (fCons (fC .none) fNil))))) fNext) (fIf (fTst (fBin eqD (fBin ixD (fVar 0) (fC (.int 0))) (fC (.str (Str.ofString "when"))))) (fSet 0 (fIfE (fTst (fBin inG (fBin ixD (fVar 4) (fC (.int 1))) (fSeqD .tuple (fCons (fC (.int 0)) (fCons (fC (.str (Str.ofString ""))) (fCons (fSeqD .tuple fNil) fNil)))))) (fBin ixD (fVar 0) (fC (.int 3))) (fBin ixD (fVar 0) (fC (.int 2))))) (fIf (fNotT (fTru (fCall m__law_is_name (fCons (fBin ixD (fVar 4) (fC (.int 1))) fNil)))) (fRet (fSeqD .tuple (fCons (fCB tupleD (fCons (fVar 3) fNil)) (fCons (fSeqD .tuple (fCons (fC (.str (Str.ofString "fails"))) (fCons (fC (.str (Str.ofString "name"))) fNil))) (fCons (fC .none) fNil))))) (fIf (fTst (fBin notInB (fBin ixD (fVar 4) (fC (.int 1))) (fVar 1))) (fRet (fSeqD .tuple (fCons (fCB tupleD (fCons (fVar 3) fNil)) (fCons (fSeqD .tuple (fCons (fC (.str (Str.ofString "wants"))) (fCons (fBin ixD (fVar 4) (fC (.int 1))) fNil))) (fCons (fC .none) fNil))))) (fSeq (fApp 2 (fBin ixA (fVar 1) (fBin ixD (fVar 4) (fC (.int 1))))) (fSeq (fIf (fTst (fBin eqD (fBin ixD (fVar 0) (fC (.int 0))) (fC (.str (Str.ofString "want"))))) (fApp 3 (fSeqD .tuple (fCons (fBin ixD (fVar 4) (fC (.int 1))) (fCons (fCall (m__law_stamp 25) (fCons (fBin ixD (fVar 2) (fUn negD (fC (.int 1)))) fNil)) fNil)))) fNext) (fSet 0 (fBin ixD (fVar 0) (fC (.int 2))))))))))) 100000) (fSeq (fSet 4 (fSeqD .tuple (fCons (fC (.str (Str.ofString "fails"))) (fCons (fBin ixD (fVar 0) (fC (.int 1))) fNil)))) (fSeq (fIf (fTst (fBin eqD (fBin ixD (fVar 0) (fC (.int 0))) (fC (.str (Str.ofString "say"))))) (fSet 4 (fCallF (m__law_told 25) (fCons (fBin ixD (fVar 0) (fC (.int 1))) (fCons (fVar 2) fNil)))) fNext) (fSeq (fIf (fTst (fBin eqD (fBin ixD (fVar 4) (fC (.int 0))) (fC (.str (Str.ofString "fails"))))) (fRet (fSeqD .tuple (fCons (fCB tupleD (fCons (fVar 3) fNil)) (fCons (fVar 4) (fCons (fC .none) fNil))))) fNext) (fRet (fSeqD .tuple (fCons (fCB tupleD (fCons (fVar 3) fNil)) (fCons (fSeqD .tuple (fCons (fC (.str (Str.ofString "made"))) (fCons (fCall (m__law_stamp 25) (fCons (fBin ixD (fVar 4) (fC (.int 1))) fNil)) fNil))) (fCons (fBin ixD (fVar 4) (fC (.int 1))) fNil)))))))))))
noncomputable def m__law_one_line:FnM:=mkFn 6 (fSeq (fSetL 2 fNil) (fSeq (fFor 3 (fRng1 (fCall m__law_draw (fCons (fVar 0) (fCons (fVar 1) (fCons (fC (.int 4)) fNil))))) (fSeq (fSet 4 (fBin ixD (fSeqD .list (fCons (fC (.str (Str.ofString "a"))) (fCons (fC (.str (Str.ofString "a"))) (fCons (fC (.str (Str.ofString "ab"))) (fCons (fC (.str (Str.ofString "b"))) fNil))))) (fCall m__law_draw (fCons (fVar 0) (fCons (fBin addD (fBin addD (fVar 1) (fC (.int 1))) (fBin mulD (fC (.int 2)) (fVar 3))) (fCons (fC (.int 4)) fNil)))))) (fApp 2 (fSeqD .tuple (fCons (fVar 4) (fCons (fBin ixD (fSeqD .list (fCons (fC (.str (Str.ofString "1"))) (fCons (fC (.str (Str.ofString "'a"))) (fCons (fC (.str (Str.ofString "()"))) fNil)))) (fCall m__law_draw (fCons (fVar 0) (fCons (fBin addD (fBin addD (fVar 1) (fC (.int 2))) (fBin mulD (fC (.int 2)) (fVar 3))) (fCons (fC (.int 3)) fNil))))) fNil)))))) (fSeq (fSetL 5 (fCons (fSeqD .tuple (fCons (fC (.str (Str.ofString "made"))) (fCons (fC (.str (Str.ofString "1"))) fNil))) (fCons (fSeqD .tuple (fCons (fC (.str (Str.ofString "made"))) (fCons (fC (.str (Str.ofString "'"))) fNil))) (fCons (fSeqD .tuple (fCons (fC (.str (Str.ofString "fails"))) (fCons (fC (.str (Str.ofString "a"))) fNil))) (fCons (fSeqD .tuple (fCons (fC (.str (Str.ofString "fails"))) (fCons (fC (.str (Str.ofString "ab"))) fNil))) (fCons (fSeqD .tuple (fCons (fC (.str (Str.ofString "wants"))) (fCons (fC (.str (Str.ofString "a"))) fNil))) (fCons (fSeqD .tuple (fCons (fC (.str (Str.ofString "wants"))) (fCons (fC (.str (Str.ofString "b"))) fNil))) fNil))))))) (fSeq (fApp 5 (fSeqD .tuple (fCons (fC (.str (Str.ofString "wants"))) (fCons (fC (.str (Str.ofString "ab"))) fNil)))) (fRet (fSeqD .tuple (fCons (fBin ixD (fSeqD .list (fCons (fC (.str (Str.ofString "x"))) (fCons (fC (.str (Str.ofString "y"))) (fCons (fC (.str (Str.ofString "x"))) fNil)))) (fCall m__law_draw (fCons (fVar 0) (fCons (fBin addD (fVar 1) (fC (.int 8))) (fCons (fC (.int 3)) fNil))))) (fCons (fCB tupleD (fCons (fVar 2) fNil)) (fCons (fBin ixD (fVar 5) (fCall m__law_draw (fCons (fVar 0) (fCons (fBin addD (fVar 1) (fC (.int 9))) (fCons (fC (.int 7)) fNil))))) fNil)))))))))
noncomputable def m__law_steps:FnM:=mkFn 2 (fSeq (fSet 1 (fComp2 (fIter (fBin ixD (fVar 0) (fC (.int 1)))) fTrue (fSeqD .tuple (fCons (fSeqD .tuple (fCons (fC (.str (Str.ofString "wants"))) (fCons (fVar 0) fNil))) (fCons (fVar 1) fNil))))) (fRet (fBin addD (fVar 1) (fSeqD .list (fCons (fSeqD .tuple (fCons (fBin ixD (fVar 0) (fC (.int 2))) (fCons (fC .none) fNil))) fNil)))))
noncomputable def m__law_odds:FnM:=mkFn 4 (fSeq (fForZ 2 3 (fCall m__law_steps (fCons (fVar 0) fNil)) (fCall m__law_steps (fCons (fVar 1) fNil)) (fSeq (fIf (fTst (fBin neG (fBin ixD (fVar 2) (fC (.int 0))) (fBin ixD (fVar 3) (fC (.int 0))))) (fRet (fC (.bool true))) fNext) (fIf (fTst (fBin neG (fBin ixD (fVar 2) (fC (.int 1))) (fBin ixD (fVar 3) (fC (.int 1))))) (fRet (fC (.bool false))) fNext))) (fRet (fC (.bool false))))
noncomputable def m__law_elder:FnM:=mkFnO 5 (fSeq (fForT 3 4 (fIter (fVar 0)) (fIf (fAndT (fTst (fBin eqD (fVar 3) (fVar 1))) (fTru (fCall m__law_odds (fCons (fVar 4) (fCons (fVar 2) fNil))))) (fRetOL (fCons (fVar 4) fNil)) fNext)) (fRetOL fNil))
noncomputable def m__law_doing:FnM:=mkFn 7 (fSeq (fSetE 4) (fSeq (fFor 5 (fRng1 (fCB lenD (fCons (fVar 2) fNil))) (fIf (fTst (fBin gtD (fCall m__law_draw (fCons (fVar 0) (fCons (fBin addD (fVar 1) (fBin mulD (fC (.int 2)) (fVar 5))) (fCons (fC (.int 4)) fNil)))) (fC (.int 0)))) (fPutN 4 (fBin ixD (fVar 2) (fVar 5)) (fCall m__law_value (fCons (fVar 0) (fCons (fBin addD (fBin addD (fVar 1) (fC (.int 1))) (fBin mulD (fC (.int 2)) (fVar 5))) (fCons (fVar 2) fNil))))) fNext)) (fSeq (fSet 6 (fLend (fCall m__law_run (fCons (fVar 3) (fCons (fVar 4) fNil))))) (fRet (fSeqD .tuple (fCons (fC (.str (Str.ofString "x"))) (fCons (fBin ixD (fVar 6) (fC (.int 0))) (fCons (fBin ixD (fVar 6) (fC (.int 1))) fNil))))))))
end G
namespace G
open PySem PySem.Spec PyProof.Rows L2 D
noncomputable def top (i:Nat):Stmt:=PySem.Challenge.pw_redo_k76_a_watch.main.body.getD i (.Pass ⟨0,0,0,0⟩)
noncomputable abbrev zS:List (Str×Nat):=((Str.ofString "many_alike"),2)::((Str.ofString "next_at"),3)::((Str.ofString "at_odds"),1)::((Str.ofString "first_at_odds"),5)::((Str.ofString "_law_draw"),7)::((Str.ofString "_law_same"),8)::((Str.ofString "_law_stamp"),9)::((Str.ofString "_law_names"),10)::((Str.ofString "_law_value"),11)::((Str.ofString "_law_expr"),12)::((Str.ofString "_law_recipe"),13)::((Str.ofString "_law_fits"),14)::((Str.ofString "_law_of_two"),15)::((Str.ofString "_law_told"),16)::((Str.ofString "_law_is_name"),17)::((Str.ofString "_law_run"),18)::((Str.ofString "_law_one_line"),19)::((Str.ofString "_law_steps"),20)::((Str.ofString "_law_odds"),21)::((Str.ofString "_law_elder"),22)::((Str.ofString "_law_saw"),23)::((Str.ofString "_law_doing"),24)::((Str.ofString "law"),25)::[]
noncomputable abbrev zZ:List Str:=[(Str.ofString "all"),(Str.ofString "dict"),(Str.ofString "int"),(Str.ofString "list"),(Str.ofString "isinstance"),(Str.ofString "len"),(Str.ofString "min"),(Str.ofString "range"),(Str.ofString "repr"),(Str.ofString "str"),(Str.ofString "tuple"),(Str.ofString "zip")]
noncomputable abbrev zI:List (Str×Int):=[]
noncomputable abbrev zT:List (Str×Str):=[]
noncomputable def mtop (i j:Nat):Stmt:=match top i with
 | .ClassDef _ _ _ b _ _ _ _ _ _ _=>b.getD j (.Pass ⟨0,0,0,0⟩)
 | st=>st
structure Wc (K:PySem.W.Frag) (mg:Str→Option Value) (C:Addr):Prop where
 q:mg (Str.ofString "Watch")=some (.ref C)
 cl:Cls K C
 ns:NoAttr K C (Str.ofString "seen")
 no:NoAttr K C (Str.ofString "odd")
 mb:mkB K C=true
 d0:DfM K C (Str.ofString "__init__") (Str.ofString "Watch.__init__") (mtop 4 0)
 d1:DfM K C (Str.ofString "saw") (Str.ofString "Watch.saw") (mtop 4 1)
 d2:DfM K C (Str.ofString "faults") (Str.ofString "Watch.faults") (mtop 4 2)
structure Bi (K:PySem.W.Frag) (mg:Str→Option Value):Prop extends Bz K mg zZ zI zT where
 wc:∃ C,Wc K mg C
section
variable {P:Program} {w:World} {K:PySem.W.Frag} {mg:Str→Option Value} {base:Heap} (E:Ev P w K mg base (Bi K mg) top zS)
include E
theorem g_many_alike:Fn P w K mg base (Str.ofString "many_alike") [Str.ofString "reads",Str.ofString "others"] 1 (spM K 2 m_many_alike):=d_mk E 2 [Str.ofString "reads",Str.ofString "others",Str.ofString "many"] fun B S hr=>(dss_cons (ds_set (i:=2) S.nd de_int) (dss_cons (ds_while 100000 (dw_pt (dw_and (dt_cmp o_lt (de_var 2) (de_callB c_min rfl B.z boot_min (da_cons (de_callB c_len rfl B.z boot_len (da_cons (de_var 0) da_nil)) (da_cons (de_callB c_len rfl B.z boot_len (da_cons (de_var 1) da_nil)) da_nil)))) (dw_and1 (dt_cmp (o_eqG hr) (de_ix x_seq (de_var 0) (de_var 2)) (de_ix x_seq (de_var 1) (de_var 2)))))) (dss_one (ds_set (i:=2) S.nd (de_bin o_add (de_var 2) de_int)))) (dss_one (ds_ret (de_var 2)))))
theorem g_next_at:Fn P w K mg base (Str.ofString "next_at") [Str.ofString "line",Str.ofString "many"] 1 (spM K 2 m_next_at):=d_mk E 3 [Str.ofString "line",Str.ofString "many"] fun B S hr=>(dss_one (ds_ret (de_if (dt_cmp o_lt (de_var 1) (de_callB c_len rfl B.z boot_len (da_cons (de_ix x_seq (de_var 0) de_int) da_nil))) (de_tup (da_cons de_str (da_cons (de_ix x_seq (de_ix x_seq (de_ix x_seq (de_var 0) de_int) (de_var 1)) de_int) da_nil))) (de_ix x_seq (de_var 0) de_int))))
theorem g_at_odds:Fn P w K mg base (Str.ofString "at_odds") [Str.ofString "one",Str.ofString "other"] 2 (spM K 2 m_at_odds):=d_mk E 1 [Str.ofString "one",Str.ofString "other",Str.ofString "many"] fun B S hr=>(dss_cons (ds_set (i:=2) S.nd (d_c2 (g_many_alike E) hr (de_ix x_seq (de_var 0) de_int) (de_ix x_seq (de_var 1) de_int))) (dss_one (ds_ret (de_cmp (o_neG hr) (d_c2 (g_next_at E) hr (de_var 0) (de_var 2)) (d_c2 (g_next_at E) hr (de_var 1) (de_var 2))))))
theorem g_first_at_odds:Fn P w K mg base (Str.ofString "first_at_odds") [Str.ofString "lines",Str.ofString "line"] 3 (spM K 2 m_first_at_odds):=d_mk E 5 [Str.ofString "lines",Str.ofString "line",Str.ofString "other"] fun B S hr=>(dss_cons (ds_for (i:=2) S.nd (di_iter (de_var 0)) (dss_one (ds_if (dt_tru (d_c2 (g_at_odds E) hr (de_var 2) (de_var 1))) (dss_one (ds_ret (de_var 2))) dss_nil))) (dss_one (ds_ret de_non)))
theorem g__law_draw:Fn P w K mg base (Str.ofString "_law_draw") [Str.ofString "_law_script",Str.ofString "_law_k",Str.ofString "_law_many"] 1 (spM K 3 m__law_draw):=d_mk E 7 [Str.ofString "_law_script",Str.ofString "_law_k",Str.ofString "_law_many",Str.ofString "_law_cell",Str.ofString "_law_left",Str.ofString "_law_mixed"] fun B S hr=>(dss_cons (ds_set (i:=3) S.nd de_int) (dss_cons (ds_if (dt_cmp o_gt (de_callB c_len rfl B.z boot_len (da_cons (de_var 0) da_nil)) de_int) (dss_cons (ds_set (i:=3) S.nd (de_ix x_seq (de_var 0) (de_bin o_mod (de_var 1) (de_callB c_len rfl B.z boot_len (da_cons (de_var 0) da_nil))))) (dss_cons (ds_set (i:=4) S.nd (de_bin o_shr (de_var 3) (de_bin o_mul de_int (de_callB c_min rfl B.z boot_min (da_cons de_int (da_cons (de_bin o_fdiv (de_var 1) (de_callB c_len rfl B.z boot_len (da_cons (de_var 0) da_nil))) da_nil)))))) (dss_one (ds_if (dw_pt (dw_and (dt_cmp o_ge (de_var 3) (de_bin o_pow de_int de_int)) (dw_and1 (dt_cmp o_gt (de_var 4) de_int)))) (dss_one (ds_ret (de_bin o_mod (de_var 4) (de_var 2)))) dss_nil)))) dss_nil) (dss_cons (ds_set (i:=5) S.nd (de_bin o_mod (de_bin o_mul (de_bin o_add (de_bin o_add (de_bin o_add (de_bin o_mod (de_var 3) de_int) (de_bin o_mul (de_bin o_mul de_int (de_var 1)) (de_var 1))) (de_bin o_mul de_int (de_var 1))) de_int) de_int) de_int)) (dss_one (ds_ret (de_bin o_mod (de_bin o_fdiv (de_bin o_mod (de_bin o_mul (de_bin o_fdiv (de_var 5) de_int) de_int) de_int) de_int) (de_var 2)))))))
theorem g__law_same:Fn P w K mg base (Str.ofString "_law_same") [Str.ofString "_law_found",Str.ofString "_law_due"] 1 (spM K 2 m__law_same):=d_mk E 8 [Str.ofString "_law_found",Str.ofString "_law_due"] fun B S hr=>(dss_cons (ds_if (dt_tru (de_isi .dct B.z (de_var 1) B.z boot_dict)) (dss_one ds_none) dss_nil) (dss_one (ds_ret (de_cmp o_eq (de_repr hr B.z (de_var 0)) (de_repr hr B.z (de_var 1))))))
theorem g__law_stamp:∀ n,Fn P w K mg base (Str.ofString "_law_stamp") [Str.ofString "_law_value_here"] (0 + n) (spM K 1 (m__law_stamp n)):=d_nrec (d_mkZ E 9) fun n ih=>d_mk (k:=0 + n) E 9 [Str.ofString "_law_value_here"] fun B S hr=>(dss_cons (ds_if (dt_tru (de_isi .int B.z (de_var 0) B.z boot_int)) (dss_one (ds_ret (de_callTy c_str rfl B.z boot_str (da_cons (de_var 0) da_nil)))) dss_nil) (dss_cons (ds_if (dt_tru (de_isi .str B.z (de_var 0) B.z boot_str)) (dss_one (ds_ret (de_bin o_add de_str (de_var 0)))) dss_nil) (dss_one (ds_ret (de_bin o_add (de_bin o_add de_str (de_join de_str (d_cp (top 9) [Str.ofString "_law_value_here"] (di_iter (de_var 0)) (d_c1 ih hr (de_var 0))))) de_str)))))
theorem g__law_names:Fn P w K mg base (Str.ofString "_law_names") [Str.ofString "_law_script",Str.ofString "_law_k"] 2 (spM K 2 m__law_names):=d_mk E 10 [Str.ofString "_law_script",Str.ofString "_law_k",Str.ofString "_law_menu",Str.ofString "_law_first",Str.ofString "_law_step"] fun B S hr=>(dss_cons (ds_set (i:=2) S.nd (de_lst (da_cons de_str (da_cons de_str (da_cons de_str (da_cons de_str (da_cons de_str (da_cons de_str (da_cons de_str (da_cons de_str (da_cons de_str (da_cons de_str (da_cons de_str (da_cons de_str da_nil)))))))))))))) (dss_cons (ds_set (i:=3) S.nd (d_c3 (g__law_draw E) hr (de_var 0) (de_var 1) de_int)) (dss_cons (ds_set (i:=4) S.nd (de_ix x_seq (de_lst (da_cons de_int (da_cons de_int (da_cons de_int (da_cons de_int da_nil))))) (d_c3 (g__law_draw E) hr (de_var 0) (de_bin o_add (de_var 1) de_int) de_int))) (dss_one (ds_ret (d_cp (top 10) [Str.ofString "_law_script",Str.ofString "_law_k",Str.ofString "_law_menu",Str.ofString "_law_first",Str.ofString "_law_step"] (di_rng1 rfl B.z (de_bin o_add de_int (d_c3 (g__law_draw E) hr (de_var 0) (de_bin o_add (de_var 1) de_int) de_int))) (de_ix x_seq (de_var 3) (de_bin o_mod (de_bin o_add (de_var 4) (de_bin o_mul (de_var 5) (de_var 0))) de_int))))))))
theorem g__law_value:Fn P w K mg base (Str.ofString "_law_value") [Str.ofString "_law_script",Str.ofString "_law_k",Str.ofString "_law_names_here"] 2 (spM K 3 m__law_value):=d_mk E 11 [Str.ofString "_law_script",Str.ofString "_law_k",Str.ofString "_law_names_here",Str.ofString "_law_some"] fun B S hr=>(dss_cons (ds_set (i:=3) S.nd (de_bin o_add (de_lst (da_cons de_int (da_cons de_int (da_cons de_int (da_cons (de_neg de_int) (da_cons de_str (da_cons de_str (da_cons de_str (da_cons (de_tup da_nil) (da_cons (de_tup (da_cons de_int (da_cons de_str da_nil))) (da_cons (de_tup (da_cons de_str (da_cons (de_tup (da_cons de_int da_nil)) da_nil))) (da_cons (de_bin o_pow de_int de_int) (da_cons de_int (da_cons de_int da_nil)))))))))))))) (de_var 2))) (dss_one (ds_ret (de_ix x_seq (de_var 3) (d_c3 (g__law_draw E) hr (de_var 0) (de_var 1) (de_callB c_len rfl B.z boot_len (da_cons (de_var 3) da_nil)))))))
theorem g__law_expr:Fn P w K mg base (Str.ofString "_law_expr") [Str.ofString "_law_script",Str.ofString "_law_k",Str.ofString "_law_names_here"] 3 (spM K 3 m__law_expr):=d_mk E 12 [Str.ofString "_law_script",Str.ofString "_law_k",Str.ofString "_law_names_here",Str.ofString "_law_got",Str.ofString "_law_value_here",Str.ofString "_law_some"] fun B S hr=>(dss_cons (ds_set (i:=3) S.nd (de_tup (da_cons de_str (da_cons de_int da_nil)))) (dss_cons (ds_set (i:=4) S.nd (de_tup (da_cons de_str (da_cons (d_c3 (g__law_value E) hr (de_var 0) (de_bin o_add (de_var 1) de_int) (de_var 2)) da_nil)))) (dss_cons (ds_set (i:=5) S.nd (de_lst (da_cons (de_var 3) (da_cons (de_tup (da_cons de_str (da_cons (de_var 3) (da_cons (de_tup (da_cons de_str (da_cons de_int da_nil))) da_nil)))) (da_cons (de_tup (da_cons de_str (da_cons (de_var 3) (da_cons (de_tup (da_cons de_str (da_cons de_str da_nil))) da_nil)))) (da_cons (de_tup (da_cons de_str (da_cons (de_var 3) da_nil))) (da_cons (de_tup (da_cons de_str (da_cons (de_var 3) (da_cons (de_var 4) da_nil)))) da_nil))))))) (dss_cons (ds_set (i:=5) S.nd (de_bin o_add (de_var 5) (de_lst (da_cons (de_tup (da_cons de_str (da_cons (de_tup (da_cons (de_var 3) (da_cons (de_var 4) da_nil))) da_nil))) (da_cons (de_tup (da_cons de_str (da_cons (de_var 3) (da_cons (de_tup (da_cons de_str (da_cons de_int da_nil))) da_nil)))) (da_cons (de_tup (da_cons de_str (da_cons (de_var 3) (da_cons (de_tup (da_cons de_str (da_cons de_int da_nil))) da_nil)))) (da_cons (de_tup (da_cons de_str (da_cons (de_var 3) da_nil))) (da_cons (de_var 3) da_nil)))))))) (dss_one (ds_ret (de_ix x_seq (de_var 5) (d_c3 (g__law_draw E) hr (de_var 0) (de_var 1) de_int))))))))
theorem g__law_recipe:Fn P w K mg base (Str.ofString "_law_recipe") [Str.ofString "_law_script",Str.ofString "_law_k",Str.ofString "_law_names_here",Str.ofString "_law_ways"] 4 (spM K 4 m__law_recipe):=d_mk E 13 [Str.ofString "_law_script",Str.ofString "_law_k",Str.ofString "_law_names_here",Str.ofString "_law_ways",Str.ofString "_law_one",Str.ofString "_law_other",Str.ofString "_law_say",Str.ofString "_law_expr_here",Str.ofString "_law_two",Str.ofString "_law_both",Str.ofString "_law_later",Str.ofString "_law_some"] fun B S hr=>(dss_cons (ds_set (i:=4) S.nd (de_tup (da_cons de_str (da_cons (de_ix x_seq (de_var 2) (d_c3 (g__law_draw E) hr (de_var 0) (de_var 1) (de_callB c_len rfl B.z boot_len (da_cons (de_var 2) da_nil)))) da_nil)))) (dss_cons (ds_set (i:=5) S.nd (de_tup (da_cons de_str (da_cons (de_ix x_seq (de_var 2) (d_c3 (g__law_draw E) hr (de_var 0) (de_bin o_add (de_var 1) de_int) (de_callB c_len rfl B.z boot_len (da_cons (de_var 2) da_nil)))) da_nil)))) (dss_cons (ds_set (i:=6) S.nd (de_tup (da_cons de_str (da_cons (de_tup (da_cons de_str (da_cons (d_c3 (g__law_value E) hr (de_var 0) (de_bin o_add (de_var 1) de_int) (de_var 2)) da_nil))) da_nil)))) (dss_cons (ds_set (i:=7) S.nd (d_c3 (g__law_expr E) hr (de_var 0) (de_bin o_add (de_var 1) de_int) (de_var 2))) (dss_cons (ds_set (i:=8) S.nd (de_lst (da_cons (de_tup (da_cons de_str (da_cons (de_tup (da_cons (de_tup (da_cons de_str (da_cons de_int da_nil))) (da_cons (de_tup (da_cons de_str (da_cons de_int da_nil))) da_nil))) da_nil))) (da_cons (de_tup (da_cons de_str (da_cons (de_tup (da_cons de_str (da_cons de_int da_nil))) (da_cons (de_tup (da_cons de_str (da_cons de_int da_nil))) da_nil)))) (da_cons (de_tup (da_cons de_str (da_cons (de_tup (da_cons de_str (da_cons de_int da_nil))) (da_cons (de_tup (da_cons de_str (da_cons de_int da_nil))) da_nil)))) da_nil))))) (dss_cons (ds_set (i:=9) S.nd (de_tup (da_cons de_str (da_cons (de_ix x_seq (de_var 8) (d_c3 (g__law_draw E) hr (de_var 0) (de_bin o_add (de_var 1) de_int) de_int)) da_nil)))) (dss_cons (ds_set (i:=10) S.nd (de_tup (da_cons de_str (da_cons (de_var 5) (da_cons (de_tup (da_cons de_str (da_cons (de_tup (da_cons de_str (da_cons de_int da_nil))) da_nil))) da_nil))))) (dss_cons (ds_set (i:=11) S.nd (de_lst (da_cons (de_var 6) (da_cons (de_tup (da_cons de_str (da_cons (de_var 4) (da_cons (de_tup (da_cons de_str (da_cons (de_var 7) da_nil))) da_nil)))) (da_cons (de_tup (da_cons de_str (da_cons (de_var 4) (da_cons (de_tup (da_cons de_str (da_cons (de_var 5) (da_cons (de_var 9) da_nil)))) da_nil)))) (da_cons (de_tup (da_cons de_str (da_cons (de_var 4) (da_cons (de_tup (da_cons de_str (da_cons (de_var 7) da_nil))) da_nil)))) da_nil)))))) (dss_cons (ds_set (i:=11) S.nd (de_bin o_add (de_var 11) (de_lst (da_cons (de_tup (da_cons de_str (da_cons (de_var 4) (da_cons (de_tup (da_cons de_str (da_cons (de_var 7) (da_cons (de_var 10) (da_cons (de_var 6) da_nil))))) da_nil)))) (da_cons (de_tup (da_cons de_str (da_cons (de_var 4) (da_cons (de_tup (da_cons de_str (da_cons (de_tup (da_cons de_str (da_cons de_int da_nil))) (da_cons (de_tup (da_cons de_str (da_cons (de_tup (da_cons de_str (da_cons de_int da_nil))) da_nil))) da_nil)))) da_nil)))) da_nil))))) (dss_cons (ds_set (i:=11) S.nd (de_bin o_add (de_var 11) (de_lst (da_cons (de_tup (da_cons de_str (da_cons (de_ix x_seq (de_var 2) (d_c3 (g__law_draw E) hr (de_var 0) (de_bin o_add (de_var 1) de_int) (de_callB c_len rfl B.z boot_len (da_cons (de_var 2) da_nil)))) da_nil))) (da_cons (de_tup (da_cons de_str (da_cons (de_var 4) (da_cons (de_tup (da_cons de_str (da_cons (de_var 4) (da_cons (de_var 9) da_nil)))) da_nil)))) da_nil))))) (dss_cons (ds_set (i:=11) S.nd (de_bin o_add (de_var 11) (de_lst (da_cons (de_tup (da_cons de_str (da_cons (de_var 4) (da_cons (de_tup (da_cons de_str (da_cons (de_var 7) da_nil))) da_nil)))) (da_cons (de_tup (da_cons de_str (da_cons (de_var 4) (da_cons (de_tup (da_cons de_str (da_cons (de_var 7) (da_cons (de_var 10) (da_cons (de_var 6) da_nil))))) da_nil)))) da_nil))))) (dss_cons (ds_set (i:=11) S.nd (de_bin o_add (de_var 11) (de_lst (da_cons (de_tup (da_cons de_str (da_cons (de_var 4) (da_cons (de_tup (da_cons de_str (da_cons (de_var 5) (da_cons (de_var 9) da_nil)))) da_nil)))) (da_cons (de_tup (da_cons de_str (da_cons (de_var 4) (da_cons (de_tup (da_cons de_str (da_cons (de_var 5) (da_cons (de_var 9) da_nil)))) da_nil)))) da_nil))))) (dss_one (ds_ret (de_ix x_seq (de_var 11) (d_c3 (g__law_draw E) hr (de_var 0) (de_bin o_add (de_var 1) de_int) (de_var 3)))))))))))))))))
theorem g__law_fits:∀ n,Fn P w K mg base (Str.ofString "_law_fits") [Str.ofString "_law_value_here",Str.ofString "_law_deep"] (0 + n) (spM K 2 (m__law_fits n)):=d_nrec (d_mkZ E 14) fun n ih=>d_mk (k:=0 + n) E 14 [Str.ofString "_law_value_here",Str.ofString "_law_deep"] fun B S hr=>(dss_cons (ds_if (dt_tru (de_isi .tup B.z (de_var 0) B.z boot_tuple)) (dss_one (ds_ret (de_and (de_cmp o_lt (de_var 1) de_int) (de_and (de_cmp o_le (de_callB c_len rfl B.z boot_len (da_cons (de_var 0) da_nil)) de_int) (de_one (de_callB c_all rfl B.z boot_all (da_cons (d_cp (top 14) [Str.ofString "_law_value_here",Str.ofString "_law_deep"] (di_iter (de_var 0)) (d_c2 ih hr (de_var 0) (de_bin o_add (de_var 2) de_int))) da_nil))))))) dss_nil) (dss_cons (ds_if (dt_tru (de_isi .str B.z (de_var 0) B.z boot_str)) (dss_one (ds_ret (de_cmp o_le (de_callB c_len rfl B.z boot_len (da_cons (de_var 0) da_nil)) de_int))) dss_nil) (dss_one (ds_ret (de_chain o_le o_le (de_neg (de_bin o_pow de_int de_int)) (de_var 0) (de_bin o_pow de_int de_int))))))
theorem g__law_of_two:Fn P w K mg base (Str.ofString "_law_of_two") [Str.ofString "_law_word",Str.ofString "_law_one",Str.ofString "_law_other"] 26 (spM K 3 m__law_of_two):=d_mk E 15 [Str.ofString "_law_word",Str.ofString "_law_one",Str.ofString "_law_other",Str.ofString "_law_kinds"] fun B S hr=>(dss_cons (ds_set (i:=3) S.nd (de_lst (da_cons (de_isi .int B.z (de_var 1) B.z boot_int) (da_cons (de_isi .int B.z (de_var 2) B.z boot_int) da_nil)))) (dss_cons (ds_if (dt_cmp o_eq (de_var 0) de_str) (dss_one (ds_ret (de_callTy c_int rfl B.z boot_int (da_cons (de_cmp o_eq (d_c1 (g__law_stamp E 25) hr (de_var 1)) (d_c1 (g__law_stamp E 25) hr (de_var 2))) da_nil)))) dss_nil) (dss_cons (ds_if (dt_cmp o_eq (de_var 0) de_str) (dss_cons (ds_if (dw_pt (dw_or (dt_not (dt_tru (de_isi .tup B.z (de_var 1) B.z boot_tuple))) (dw_or1 (dt_not (dt_tru (de_ix x_seq (de_var 3) de_int)))))) (dss_one (ds_ret de_non)) dss_nil) (dss_one (ds_ret (de_if (dt_chain o_le o_lt de_int (de_var 2) (de_callB c_len rfl B.z boot_len (da_cons (de_var 1) da_nil))) (de_ix x_seq (de_var 1) (de_var 2)) (de_tup da_nil))))) dss_nil) (dss_cons (ds_if (dt_cmp o_eq (de_var 0) de_str) (dss_cons (ds_if (dw_pt (dw_or (dt_tru (de_ix x_seq (de_var 3) de_int)) (dw_or (dt_tru (de_ix x_seq (de_var 3) de_int)) (dw_or1 (dt_cmp o_ne (de_isi .str B.z (de_var 1) B.z boot_str) (de_isi .str B.z (de_var 2) B.z boot_str)))))) (dss_one (ds_ret de_non)) dss_nil) (dss_one (ds_ret (de_bin o_add (de_var 1) (de_var 2))))) dss_nil) (dss_cons (ds_if (dt_cmp (o_neG hr) (de_var 3) (de_lst (da_cons de_bl (da_cons de_bl da_nil)))) (dss_one (ds_ret de_non)) dss_nil) (dss_one (ds_ret (de_if (dt_cmp o_eq (de_var 0) de_str) (de_bin o_add (de_var 1) (de_var 2)) (de_callTy c_int rfl B.z boot_int (da_cons (de_cmp o_lt (de_var 1) (de_var 2)) da_nil))))))))))
theorem g__law_told:∀ n,Fn P w K mg base (Str.ofString "_law_told") [Str.ofString "_law_expr_here",Str.ofString "_law_got"] (26 + n) (spM K 2 (m__law_told n)):=d_nrec (d_mkZ E 16) fun n ih=>d_mk (k:=26 + n) E 16 [Str.ofString "_law_expr_here",Str.ofString "_law_got",Str.ofString "_law_parts",Str.ofString "_law_part",Str.ofString "_law_values",Str.ofString "_law_found"] fun B S hr=>(dss_cons (ds_if (dt_cmp o_eq (de_ix x_seq (de_var 0) de_int) de_str) (dss_one (ds_ret (de_tup (da_cons de_str (da_cons (de_ix x_seq (de_var 0) de_int) da_nil))))) dss_nil) (dss_cons (ds_if (dt_cmp o_eq (de_ix x_seq (de_var 0) de_int) de_str) (dss_one (ds_ret (de_tup (da_cons de_str (da_cons (de_ix x_seq (de_var 1) (de_ix x_seq (de_var 0) de_int)) da_nil))))) dss_nil) (dss_cons (d_scH (i:=2) (top 16) [Str.ofString "_law_expr_here",Str.ofString "_law_got",Str.ofString "_law_parts",Str.ofString "_law_part",Str.ofString "_law_values",Str.ofString "_law_found"] [Str.ofString "_law_expr_here",Str.ofString "_law_got",Str.ofString "_law_parts",Str.ofString ".3.",Str.ofString "_law_values",Str.ofString "_law_found"] S.nd (di_iter (de_if (dt_cmp o_eq (de_ix x_seq (de_var 0) de_int) de_str) (de_ix x_seq (de_var 0) de_int) (de_sl (de_var 0) (dp_some de_int) dp_none))) (d_c2 ih hr (de_var 0) (de_var 2)) dts_nil) (dss_cons (ds_for (i:=3) S.nd (di_iter (de_var 2)) (dss_one (ds_if (dt_cmp o_eq (de_ix x_seq (de_var 3) de_int) de_str) (dss_one (ds_ret (de_var 3))) dss_nil))) (dss_cons (d_scH (i:=4) (top 16) [Str.ofString "_law_expr_here",Str.ofString "_law_got",Str.ofString "_law_parts",Str.ofString "_law_part",Str.ofString "_law_values",Str.ofString "_law_found"] [Str.ofString "_law_expr_here",Str.ofString "_law_got",Str.ofString "_law_parts",Str.ofString ".3.",Str.ofString "_law_values",Str.ofString "_law_found"] S.nd (di_iter (de_var 2)) (de_ix x_seq (de_var 0) de_int) dts_nil) (dss_cons (ds_if (dt_cmp o_eq (de_ix x_seq (de_var 0) de_int) de_str) (dss_one (ds_ret (de_if (dt_tru (d_c2 (g__law_fits E 25) hr (de_callTy c_tuple rfl B.z boot_tuple (da_cons (de_var 4) da_nil)) de_int)) (de_tup (da_cons de_str (da_cons (de_callTy c_tuple rfl B.z boot_tuple (da_cons (de_var 4) da_nil)) da_nil))) (de_tup (da_cons de_str (da_cons de_str da_nil)))))) dss_nil) (dss_cons (ds_if (dt_cmp o_eq (de_ix x_seq (de_var 0) de_int) de_str) (dss_one (ds_ret (de_if (dt_tru (de_isi .int B.z (de_ix x_seq (de_var 4) de_int) B.z boot_int)) (de_tup (da_cons de_str (da_cons de_str da_nil))) (de_tup (da_cons de_str (da_cons (de_callB c_len rfl B.z boot_len (da_cons (de_ix x_seq (de_var 4) de_int) da_nil)) da_nil)))))) dss_nil) (dss_cons (ds_set (i:=5) S.nd (d_c3 (g__law_of_two E) hr (de_ix x_seq (de_var 0) de_int) (de_ix x_seq (de_var 4) de_int) (de_ix x_seq (de_var 4) de_int))) (dss_cons (ds_if (dt_cmp o_is (de_var 5) de_non) (dss_one (ds_ret (de_tup (da_cons de_str (da_cons de_str da_nil))))) dss_nil) (dss_cons (ds_if (dw_pt (dw_and (dt_cmp o_eq (de_ix x_seq (de_var 0) de_int) de_str) (dw_and1 (dt_not (dt_chain o_le o_lt de_int (de_ix x_seq (de_var 4) de_int) (de_callB c_len rfl B.z boot_len (da_cons (de_ix x_seq (de_var 4) de_int) da_nil))))))) (dss_one (ds_ret (de_tup (da_cons de_str (da_cons de_str da_nil))))) dss_nil) (dss_one (ds_ret (de_if (dt_tru (d_c2 (g__law_fits E 25) hr (de_var 5) de_int)) (de_tup (da_cons de_str (da_cons (de_var 5) da_nil))) (de_tup (da_cons de_str (da_cons de_str da_nil))))))))))))))))
theorem g__law_is_name:Fn P w K mg base (Str.ofString "_law_is_name") [Str.ofString "_law_thing"] 1 (spM K 1 m__law_is_name):=d_mk E 17 [Str.ofString "_law_thing"] fun B S hr=>(dss_cons (ds_if (dw_pt (dw_or (dt_not (dt_tru (de_isi .str B.z (de_var 0) B.z boot_str))) (dw_or1 (dt_not (dt_chain o_le o_le de_int (de_callB c_len rfl B.z boot_len (da_cons (de_var 0) da_nil)) de_int))))) (dss_one (ds_ret de_bl)) dss_nil) (dss_one (ds_ret (de_callB c_all rfl B.z boot_all (da_cons (d_cp (top 17) [Str.ofString "_law_thing"] (di_iter (de_var 0)) (de_cmp o_in (de_var 0) de_str)) da_nil)))))
theorem g__law_run:Fn P w K mg base (Str.ofString "_law_run") [Str.ofString "_law_recipe_here",Str.ofString "_law_good"] 52 (spM K 2 m__law_run):=d_mk E 18 [Str.ofString "_law_recipe_here",Str.ofString "_law_good",Str.ofString "_law_got",Str.ofString "_law_reads",Str.ofString "_law_value_here"] fun B S hr=>(dss_cons (ds_setL (i:=2) S.nd da_nil) (dss_cons (ds_setL (i:=3) S.nd da_nil) (dss_cons (ds_while 100000 (dt_cmp o_notin (de_ix x_seq (de_var 0) de_int) (de_tup (da_cons de_str (da_cons de_str da_nil)))) (dss_cons (ds_set (i:=4) S.nd (de_callF (g__law_told E 25) (hr.mono (by omega)) rfl (da_cons (de_ix x_seq (de_var 0) de_int) (da_cons (de_var 2) da_nil)) (len_cons (len_cons len_nil)))) (dss_cons (ds_if (dt_cmp o_eq (de_ix x_seq (de_var 4) de_int) de_str) (dss_one (ds_ret (de_tup (da_cons (de_callTy c_tuple rfl B.z boot_tuple (da_cons (de_var 3) da_nil)) (da_cons (de_var 4) (da_cons de_non da_nil)))))) dss_nil) (dss_one (ds_if (dt_cmp o_eq (de_ix x_seq (de_var 0) de_int) de_str) (dss_one (ds_set (i:=0) S.nd (de_if (dt_cmp (o_inG hr) (de_ix x_seq (de_var 4) de_int) (de_tup (da_cons de_int (da_cons de_str (da_cons (de_tup da_nil) da_nil))))) (de_ix x_seq (de_var 0) de_int) (de_ix x_seq (de_var 0) de_int)))) (dss_one (ds_if (dt_not (dt_tru (d_c1 (g__law_is_name E) hr (de_ix x_seq (de_var 4) de_int)))) (dss_one (ds_ret (de_tup (da_cons (de_callTy c_tuple rfl B.z boot_tuple (da_cons (de_var 3) da_nil)) (da_cons (de_tup (da_cons de_str (da_cons de_str da_nil))) (da_cons de_non da_nil)))))) (dss_one (ds_if (dt_cmp (o_notinA hr) (de_ix x_seq (de_var 4) de_int) (de_var 1)) (dss_one (ds_ret (de_tup (da_cons (de_callTy c_tuple rfl B.z boot_tuple (da_cons (de_var 3) da_nil)) (da_cons (de_tup (da_cons de_str (da_cons (de_ix x_seq (de_var 4) de_int) da_nil))) (da_cons de_non da_nil)))))) (dss_cons (ds_app (i:=2) (by exact (de_ix (x_any hr) (de_var 1) (de_ix x_seq (de_var 4) de_int)))) (dss_cons (ds_if (dt_cmp o_eq (de_ix x_seq (de_var 0) de_int) de_str) (dss_one (ds_app (i:=3) (by exact (de_tup (da_cons (de_ix x_seq (de_var 4) de_int) (da_cons (d_c1 (g__law_stamp E 25) hr (de_ix x_seq (de_var 2) (de_neg de_int))) da_nil)))))) dss_nil) (dss_one (ds_set (i:=0) S.nd (de_ix x_seq (de_var 0) de_int)))))))))))))) (dss_cons (ds_set (i:=4) S.nd (de_tup (da_cons de_str (da_cons (de_ix x_seq (de_var 0) de_int) da_nil)))) (dss_cons (ds_if (dt_cmp o_eq (de_ix x_seq (de_var 0) de_int) de_str) (dss_one (ds_set (i:=4) S.nd (de_callF (g__law_told E 25) (hr.mono (by omega)) rfl (da_cons (de_ix x_seq (de_var 0) de_int) (da_cons (de_var 2) da_nil)) (len_cons (len_cons len_nil))))) dss_nil) (dss_cons (ds_if (dt_cmp o_eq (de_ix x_seq (de_var 4) de_int) de_str) (dss_one (ds_ret (de_tup (da_cons (de_callTy c_tuple rfl B.z boot_tuple (da_cons (de_var 3) da_nil)) (da_cons (de_var 4) (da_cons de_non da_nil)))))) dss_nil) (dss_one (ds_ret (de_tup (da_cons (de_callTy c_tuple rfl B.z boot_tuple (da_cons (de_var 3) da_nil)) (da_cons (de_tup (da_cons de_str (da_cons (d_c1 (g__law_stamp E 25) hr (de_ix x_seq (de_var 4) de_int)) da_nil))) (da_cons (de_ix x_seq (de_var 4) de_int) da_nil))))))))))))
theorem g__law_one_line:Fn P w K mg base (Str.ofString "_law_one_line") [Str.ofString "_law_script",Str.ofString "_law_k"] 2 (spM K 2 m__law_one_line):=d_mk E 19 [Str.ofString "_law_script",Str.ofString "_law_k",Str.ofString "_law_reads",Str.ofString "_law_j",Str.ofString "_law_name",Str.ofString "_law_ends"] fun B S hr=>(dss_cons (ds_setL (i:=2) S.nd da_nil) (dss_cons (ds_for (i:=3) S.nd (di_rng1 rfl B.z (d_c3 (g__law_draw E) hr (de_var 0) (de_var 1) de_int)) (dss_cons (ds_set (i:=4) S.nd (de_ix x_seq (de_lst (da_cons de_str (da_cons de_str (da_cons de_str (da_cons de_str da_nil))))) (d_c3 (g__law_draw E) hr (de_var 0) (de_bin o_add (de_bin o_add (de_var 1) de_int) (de_bin o_mul de_int (de_var 3))) de_int))) (dss_one (ds_app (i:=2) (by exact (de_tup (da_cons (de_var 4) (da_cons (de_ix x_seq (de_lst (da_cons de_str (da_cons de_str (da_cons de_str da_nil)))) (d_c3 (g__law_draw E) hr (de_var 0) (de_bin o_add (de_bin o_add (de_var 1) de_int) (de_bin o_mul de_int (de_var 3))) de_int)) da_nil)))))))) (dss_cons (ds_setL (i:=5) S.nd (da_cons (de_tup (da_cons de_str (da_cons de_str da_nil))) (da_cons (de_tup (da_cons de_str (da_cons de_str da_nil))) (da_cons (de_tup (da_cons de_str (da_cons de_str da_nil))) (da_cons (de_tup (da_cons de_str (da_cons de_str da_nil))) (da_cons (de_tup (da_cons de_str (da_cons de_str da_nil))) (da_cons (de_tup (da_cons de_str (da_cons de_str da_nil))) da_nil))))))) (dss_cons (ds_app (i:=5) (by exact (de_tup (da_cons de_str (da_cons de_str da_nil))))) (dss_one (ds_ret (de_tup (da_cons (de_ix x_seq (de_lst (da_cons de_str (da_cons de_str (da_cons de_str da_nil)))) (d_c3 (g__law_draw E) hr (de_var 0) (de_bin o_add (de_var 1) de_int) de_int)) (da_cons (de_callTy c_tuple rfl B.z boot_tuple (da_cons (de_var 2) da_nil)) (da_cons (de_ix x_seq (de_var 5) (d_c3 (g__law_draw E) hr (de_var 0) (de_bin o_add (de_var 1) de_int) de_int)) da_nil))))))))))
theorem g__law_steps:Fn P w K mg base (Str.ofString "_law_steps") [Str.ofString "_law_line"] 1 (spM K 1 m__law_steps):=d_mk E 20 [Str.ofString "_law_line",Str.ofString "_law_steps_here"] fun B S hr=>(dss_cons (ds_setC2 (i:=1) S.nd (osc:=defScope (top 20)) (N:=[Str.ofString "_law_line",Str.ofString "_law_steps_here"]) (N':=[Str.ofString "_law_line",Str.ofString "_law_steps_here"]) (x:=(Str.ofString "_law_name")) (y:=(Str.ofString "_law_stamp_here")) ⟨rfl,by decide +kernel,by decide +kernel,by decide +kernel,by decide +kernel,by decide +kernel,by decide +kernel,by decide +kernel,rfl,by decide +kernel⟩ (di_iter (de_ix x_seq (de_var 0) de_int)) (fun C s0 H0 ex=>(de_tup (da_cons (de_tup (da_cons de_str (da_cons (de_var 0) da_nil))) (da_cons (de_var 1) da_nil)))) (fun C s0 H0 ex=>dts_nil)) (dss_one (ds_ret (de_bin o_add (de_var 1) (de_lst (da_cons (de_tup (da_cons (de_ix x_seq (de_var 0) de_int) (da_cons de_non da_nil))) da_nil))))))
theorem g__law_odds:Fn P w K mg base (Str.ofString "_law_odds") [Str.ofString "_law_one",Str.ofString "_law_other"] 2 (spM K 2 m__law_odds):=d_mk E 21 [Str.ofString "_law_one",Str.ofString "_law_other",Str.ofString "_law_mine",Str.ofString "_law_its"] fun B S hr=>(dss_cons (ds_forZ (i:=2) (j:=3) B.z S.nd (d_c1 (g__law_steps E) hr (de_var 0)) (d_c1 (g__law_steps E) hr (de_var 1)) (dss_cons (ds_if (dt_cmp (o_neG hr) (de_ix x_seq (de_var 2) de_int) (de_ix x_seq (de_var 3) de_int)) (dss_one (ds_ret de_bl)) dss_nil) (dss_one (ds_if (dt_cmp (o_neG hr) (de_ix x_seq (de_var 2) de_int) (de_ix x_seq (de_var 3) de_int)) (dss_one (ds_ret de_bl)) dss_nil)))) (dss_one (ds_ret de_bl)))
theorem g__law_elder:Fn P w K mg base (Str.ofString "_law_elder") [Str.ofString "_law_seen",Str.ofString "_law_text",Str.ofString "_law_line"] 3 (spO K 3 m__law_elder):=d_mkO E 22 [Str.ofString "_law_seen",Str.ofString "_law_text",Str.ofString "_law_line",Str.ofString "_law_mine",Str.ofString "_law_elder_here"] fun B S hr=>(dss_cons (ds_forT (i:=3) (j:=4) S.nd (di_iter (de_var 0)) (dss_one (ds_if (dw_pt (dw_and (dt_cmp o_eq (de_var 3) (de_var 1)) (dw_and1 (dt_tru (d_c2 (g__law_odds E) hr (de_var 4) (de_var 2)))))) (dss_one (ds_retOL (da_cons (de_var 4) da_nil))) dss_nil))) (dss_one (ds_retOL da_nil)))
theorem g__law_doing:Fn P w K mg base (Str.ofString "_law_doing") [Str.ofString "_law_script",Str.ofString "_law_k",Str.ofString "_law_names_here",Str.ofString "_law_recipe_here"] 53 (spM K 4 m__law_doing):=d_mk E 24 [Str.ofString "_law_script",Str.ofString "_law_k",Str.ofString "_law_names_here",Str.ofString "_law_recipe_here",Str.ofString "_law_good",Str.ofString "_law_j",Str.ofString "_law_told_here"] fun B S hr=>(dss_cons (ds_setE (i:=4) S.nd) (dss_cons (ds_for (i:=5) S.nd (di_rng1 rfl B.z (de_callB c_len rfl B.z boot_len (da_cons (de_var 2) da_nil))) (dss_one (ds_if (dt_cmp o_gt (d_c3 (g__law_draw E) hr (de_var 0) (de_bin o_add (de_var 1) (de_bin o_mul de_int (de_var 5))) de_int) de_int) (dss_one (ds_putN (i:=4) hr (de_ix x_seq (de_var 2) (de_var 5)) (d_c3 (g__law_value E) hr (de_var 0) (de_bin o_add (de_bin o_add (de_var 1) de_int) (de_bin o_mul de_int (de_var 5))) (de_var 2)))) dss_nil))) (dss_cons (ds_set (i:=6) S.nd (de_lend (d_c2 (g__law_run E) hr (de_var 3) (de_var 4)))) (dss_one (ds_ret (de_tup (da_cons de_str (da_cons (de_ix x_seq (de_var 6) de_int) (da_cons (de_ix x_seq (de_var 6) de_int) da_nil)))))))))
end
end G
namespace TK
open PySem PySem.Spec PyProof.Rows L2 D
noncomputable def plainO:HO→Bool
 | .tup _=>true
 | .lst _=>true
 | .frz _ _=>true
 | _=>false
noncomputable def LeP (O:Addr→Prop) (H:Hp) (O':Addr→Prop) (H':Hp):Prop:=∀ a o,¬ O a→plainO o=true→H a=some o→¬ O' a∧H' a=some o
theorem LeP.trans {O O1 O2:Addr→Prop} {H H1 H2:Hp} (h:LeP O H O1 H1) (g:LeP O1 H1 O2 H2):LeP O H O2 H2:=fun a o n p e=>let ⟨n1,e1⟩:=h a o n p e; g a o n1 p e1
theorem LeP.refl {O:Addr→Prop} {H:Hp}:LeP O H O H:=fun _ _ n _ e=>⟨n,e⟩
theorem LeP.same {O:Addr→Prop} {H H':Hp} (s:SameX [] H H'):LeP O H O H':=fun a o n _ e=>⟨n,s a o (by simp) e⟩
theorem LeP.new {O:Addr→Prop} {H:Hp} {p:Addr} (h:H p=none) (o:HO):LeP O H O (upd H p o):=.same (.new h o)
theorem LeP.put {O:Addr→Prop} {H:Hp} {p:Addr} {u:HO} (h:O p∨∃ q,H p=some q∧plainO q=false):LeP O H O (upd H p u):=fun a o n pl e=>by
 refine ⟨n,?_⟩
 rw [upd_ne]
 ·exact e
 ·intro z
  subst z
  rcases h with h | ⟨q,h1,h2⟩
  ·exact n h
  ·rw [e] at h1
   cases h1
   rw [pl] at h2
   cases h2
section
variable {K:PySem.W.Frag} {O O':Addr→Prop} {H H':Hp}
theorem tup_monoP (h:LeP O H O' H') {a:Addr} {vs:List V} (t:TupAt K O H a vs):TupAt K O' H' a vs:=by
 rcases t with ⟨n,t | ⟨o,t⟩⟩ | t
 ·exact .inl ⟨(h _ _ n rfl t).1,.inl (h _ _ n rfl t).2⟩
 ·exact .inl ⟨(h _ _ n rfl t).1,.inr ⟨o,(h _ _ n rfl t).2⟩⟩
 ·exact .inr t
theorem lst_monoP (h:LeP O H O' H') {a:Addr} {vs:List V} (t:LstAt K O H a vs):LstAt K O' H' a vs:=by
 rcases t with ⟨n,t | ⟨o,t⟩⟩ | t
 ·exact .inl ⟨(h _ _ n rfl t).1,.inl (h _ _ n rfl t).2⟩
 ·exact .inl ⟨(h _ _ n rfl t).1,.inr ⟨o,(h _ _ n rfl t).2⟩⟩
 ·exact .inr t
mutual
theorem rep_monoP (e:LeP O H O' H'):∀ {v:V} {d:PyData},Rep K O H v d→Rep K O' H' v d
 | _,_,.non=>.non
 | _,_,.bl b=>.bl b
 | _,_,.int i=>.int i
 | _,_,.str x=>.str x
 | _,_,.tup t r=>.tup (tup_monoP e t) (reps_monoP e r)
 | _,_,.lst t r=>.lst (lst_monoP e t) (reps_monoP e r)
 | _,_,.dct n h r=>.dct (e _ _ n rfl h).1 (e _ _ n rfl h).2 (repk_monoP e r)
theorem reps_monoP (e:LeP O H O' H'):∀ {vs:List V} {ds:List PyData},Reps K O H vs ds→Reps K O' H' vs ds
 | _,_,.nil=>.nil
 | _,_,.cons r t=>.cons (rep_monoP e r) (reps_monoP e t)
theorem repk_monoP (e:LeP O H O' H'):∀ {vs:List (Key×V)} {ds:List (PyData×PyData)},RepK K O H vs ds→RepK K O' H' vs ds
 | _,_,.nil=>.nil
 | _,_,.cons r t=>.cons (rep_monoP e r) (repk_monoP e t)
end
end
noncomputable def LdAt (K:PySem.W.Frag) (P:Program) (w:World) (O:Addr→Prop) (H:Hp) (e:Addr) (lines:List PyData):Prop:=
 ∃ kvs:Ents,H e=some (TD P w e kvs)∧kvs.map (·.1)=lines∧∀ q∈kvs,KeyOk K O H (q.1,q.2.1)
noncomputable abbrev Seen:=List (Str×List PyData)
structure WA (K:PySem.W.Frag) (P:Program) (w:World) (C:Addr) (O U:Addr→Prop) (H:Hp) (p:Addr) (S:Seen) (odd:List PyData):Prop where
 ex:∃ dx d l vs,∃ es:List (Str×Addr),H p=some (.ins C dx [(Str.ofString "seen",.ref d),(Str.ofString "odd",.ref l)])∧H d=some (.dK (es.map fun q=>(Sum.inr q.1,V.ref q.2)))∧H l=some (.lst vs)∧O l∧Reps K O H vs odd ∧
  (U p∧U d∧U l)∧(es.map (·.2)).Nodup∧Paired (fun (q:Str×Addr) (s:Str×List PyData)=>q.1=s.1∧U q.2∧LdAt K P w O H q.2 s.2) es S
section
variable {K:PySem.W.Frag} {P:Program} {w:World} {C:Addr} {O U U':Addr→Prop} {H H':Hp} {p:Addr} {S:Seen} {odd:List PyData}
theorem LdAt.mono {e:Addr} {ls:List PyData} (x:LdAt K P w O H e ls) (h:∀ o,H e=some o→H' e=some o) (l:LeP O H O H'):LdAt K P w O H' e ls:=by
 obtain ⟨kvs,h1,h2,h3⟩:=x
 exact ⟨kvs,h _ h1,h2,fun q hq=>⟨(h3 q hq).1,rep_monoP l (h3 q hq).2⟩⟩
theorem WA.mono (x:WA K P w C O U H p S odd) (h:∀ b o,U b→H b=some o→H' b=some o) (l:LeP O H O H') (hu:∀ b,U b→U' b):WA K P w C O U' H' p S odd:=by
 obtain ⟨dx,d,l',vs,es,h1,h2,h3,h4,h5,⟨h6,h7,h8⟩,h9,h10⟩:=x.ex
 exact ⟨dx,d,l',vs,es,h _ _ h6 h1,h _ _ h7 h2,h _ _ h8 h3,h4,reps_monoP l h5,⟨hu _ h6,hu _ h7,hu _ h8⟩,h9,Paired.mapP h10 fun q s z=>⟨z.1,hu _ z.2.1,z.2.2.mono (fun o e=>h _ _ z.2.1 e) l⟩⟩
theorem WA.same (x:WA K P w C O U H p S odd) (s:SameX [] H H'):WA K P w C O U H' p S odd:=x.mono (fun b o _ e=>s b o (by simp) e) (.same s) fun _ h=>h
end
noncomputable def Tr (O:Addr→Prop) (H:Hp):Prop:=∀ b,O b→D.Mut (H b)
theorem Tr.hc {K:PySem.W.Frag} {O:Addr→Prop} {H:Hp} (t:Tr O H):HC K O [] H []:=⟨fun b hb=>(by cases hb),t,List.nodup_nil,rfl,fun i a xs e _=>by simp at e⟩
theorem Tr.same {O:Addr→Prop} {H H':Hp} (t:Tr O H) (s:SameX [] H H'):Tr O H':=fun b hb=>(t b hb).to fun u e=>s b u (by simp) e
theorem Tr.fresh {O:Addr→Prop} {H:Hp} (t:Tr O H) {p:Addr} (h:H p=none):¬ O p:=fun z=>by
 obtain ⟨u,e⟩:=(t p z).ex
 rw [h] at e
 cases e
noncomputable def linesOf (S:Seen) (x:Str):List PyData:=(S.lookup x).getD []
noncomputable def putL (ls:List PyData) (l:PyData):List PyData:=if l∈ls then ls else ls++[l]
noncomputable def putS (x:Str) (l:PyData):Seen→Seen
 | []=>[(x,[l])]
 | (y,ls)::r=>if y=x then (y,putL ls l)::r else (y,ls)::putS x l r
noncomputable def oddBy (x:Str) (r line:PyData) (odd:List PyData):List PyData:=match r with
 | .none=>odd
 | _=>odd++[.tuple [.str x,r,line]]
theorem putT_keys (kvs:Ents) (k:PyData) (a:Addr) (v:V):(putT kvs k a v).map (·.1)=putL (kvs.map (·.1)) k:=by
 unfold putT putL
 have e:kvs.any (fun q=>decide (q.1=k))=true↔k∈kvs.map (·.1):=by
  rw [List.any_eq_true,List.mem_map]
  constructor
  ·rintro ⟨q,h1,h2⟩; exact ⟨q,h1,of_decide_eq_true h2⟩
  ·rintro ⟨q,h1,h2⟩; exact ⟨q,h1,decide_eq_true h2⟩
 by_cases h:k∈kvs.map (·.1)
 ·rw [if_pos h,if_pos (e.mpr h),List.map_map]
  refine List.map_congr_left fun q _=>?_
  show (if q.1=k then _ else q).1=q.1
  split <;> rfl
 ·rw [if_neg h,if_neg (fun z=>h (e.mp z)),List.map_append]
  rfl
theorem putT_mem {kvs:Ents} {k:PyData} {a:Addr} {v:V} {q:PyData×Addr×V} (h:q∈putT kvs k a v):(q.1,q.2.1)=(k,a)∨∃ q'∈kvs,(q.1,q.2.1)=(q'.1,q'.2.1):=by
 unfold putT at h
 split at h
 ·obtain ⟨q',h1,rfl⟩:=List.mem_map.mp h
  refine .inr ⟨q',h1,?_⟩
  split <;> rfl
 ·rcases List.mem_append.mp h with h | h
  ·exact .inr ⟨q,h,rfl⟩
  ·rw [List.mem_singleton] at h
   subst h
   exact .inl rfl
theorem LdAt.put {K:PySem.W.Frag} {P:Program} {w:World} {O:Addr→Prop} {H:Hp} {e b:Addr} {ls:List PyData} {kvs:Ents} {k:PyData} {v:V} (h2:kvs.map (·.1)=ls) (h3:∀ q∈kvs,KeyOk K O H (q.1,q.2.1)) (kb:KeyOk K O H (k,b)) (l:LeP O H O (upd H e (TD P w e (putT kvs k b v)))) :
  LdAt K P w O (upd H e (TD P w e (putT kvs k b v))) e (putL ls k):=by
 refine ⟨_,upd_same,by rw [putT_keys,h2],fun q hq=>?_⟩
 rcases putT_mem hq with z | ⟨q',h,z⟩
 ·rw [z]; exact ⟨kb.1,rep_monoP l kb.2⟩
 ·rw [z]; exact ⟨(h3 q' h).1,rep_monoP l (h3 q' h).2⟩
noncomputable def enS (es:List (Str×Addr)):List (Key×V):=es.map fun q=>(Sum.inr q.1,V.ref q.2)
noncomputable def Rq (K:PySem.W.Frag) (P:Program) (w:World) (O U:Addr→Prop) (H:Hp) (q:Str×Addr) (s:Str×List PyData):Prop:=q.1=s.1∧U q.2∧LdAt K P w O H q.2 s.2
section
variable {K:PySem.W.Frag} {P:Program} {w:World} {O U:Addr→Prop} {H:Hp}
theorem val_cons {y x:Str} {e:Addr} {es:List (Str×Addr)}:valV (enS ((y,e)::es)) (Sum.inr x)=if y=x then some (.ref e) else valV (enS es) (Sum.inr x):=by
 show Option.map _ (List.find? _ ((Sum.inr y,V.ref e)::enS es))=_
 rw [List.find?_cons]
 by_cases h:y=x
 ·rw [if_pos h,h,decide_eq_true rfl]; rfl
 ·rw [if_neg h,decide_eq_false (fun z=>h (Sum.inr.inj z))]; rfl
theorem look_cons {y x:Str} {ls:List PyData} {S:Seen}:linesOf ((y,ls)::S) x=if y=x then ls else linesOf S x:=by
 unfold linesOf
 rw [List.lookup_cons]
 by_cases h:y=x
 ·rw [if_pos h,h,beq_self_eq_true]; rfl
 ·rw [if_neg h,beq_false_of_ne (Ne.symm h)]
theorem seen_cases (x:Str):∀ {es:List (Str×Addr)} {S:Seen},Paired (Rq K P w O U H) es S→(es.map (·.2)).Nodup →
  (∃ e,valV (enS es) (Sum.inr x)=some (.ref e)∧e∈es.map (·.2)∧U e∧LdAt K P w O H e (linesOf S x)∧∀ (U':Addr→Prop) (H':Hp) (l:PyData),LdAt K P w O H' e (putL (linesOf S x) l)→(∀ b,U b→U' b)→(∀ b ls,b≠e→LdAt K P w O H b ls→LdAt K P w O H' b ls)→Paired (Rq K P w O U' H') es (putS x l S)) ∨
  (valV (enS es) (Sum.inr x)=none∧linesOf S x=[]∧∀ (U':Addr→Prop) (H':Hp) (l:PyData) (e:Addr),U' e→LdAt K P w O H' e [l]→(∀ b,U b→U' b)→(∀ b ls,LdAt K P w O H b ls→LdAt K P w O H' b ls)→Paired (Rq K P w O U' H') (es++[(x,e)]) (putS x l S))
 | [],[],_,_=>.inr ⟨rfl,rfl,fun U' H' l e hu h _ _=>.cons ⟨rfl,hu,h⟩ .nil⟩
 | [],_::_,h,_=>by cases h
 | _::_,[],h,_=>by cases h
 | (y,a)::es,(z,ls)::S,h,nd=>by
  cases h with
  | cons r t=>
  obtain ⟨e1,e2,e3⟩:=r
  cases (show y=z from e1)
  have nd':=List.nodup_cons.mp nd
  have stay:∀ {U':Addr→Prop} {H':Hp} {e:Addr},e=a→(∀ b,U b→U' b)→(∀ b ls,b≠e→LdAt K P w O H b ls→LdAt K P w O H' b ls)→Paired (Rq K P w O U' H') es S:=fun {U' H' e} he hu hk=>by
   subst he
   have nm:∀ q∈es,q.2≠e:=fun q hq z=>nd'.1 (by rw [← z]; exact List.mem_map_of_mem (f:=(·.2)) hq)
   clear nd nd' e1 e2 e3
   induction t with
   | nil=>exact .nil
   | cons r _ ih=>exact .cons ⟨r.1,hu _ r.2.1,hk _ _ (nm _ List.mem_cons_self) r.2.2⟩ (ih fun q hq=>nm q (List.mem_cons_of_mem _ hq))
  rw [val_cons,look_cons]
  by_cases hx:y=x
  ·rw [if_pos hx,if_pos hx]
   refine .inl ⟨a,rfl,List.mem_cons_self,e2,e3,fun U' H' l h1 h2 h3=>?_⟩
   show Paired _ _ (if y=x then _ else _)
   rw [if_pos hx]
   exact .cons ⟨rfl,h2 _ e2,h1⟩ (stay rfl h2 h3)
  ·rw [if_neg hx,if_neg hx]
   have ps:∀ l,putS x l ((y,ls)::S)=(y,ls)::putS x l S:=fun l=>if_neg hx
   rcases seen_cases x t nd'.2 with ⟨e,k1,k2,k3,k4,k5⟩ | ⟨k1,k2,k3⟩
   ·refine .inl ⟨e,k1,List.mem_cons_of_mem _ k2,k3,k4,fun U' H' l h1 h2 h3=>?_⟩
    rw [ps]
    exact .cons ⟨rfl,h2 _ e2,h3 _ _ (fun q=>nd'.1 (by rw [show a=e from q]; exact k2)) e3⟩ (k5 U' H' l h1 h2 h3)
   ·refine .inr ⟨k1,k2,fun U' H' l e h0 h1 h2 h3=>?_⟩
    rw [ps]
    exact .cons ⟨rfl,h2 _ e2,h3 _ _ e3⟩ (k3 U' H' l e h0 h1 h2 h3)
theorem putK_new {es:List (Str×Addr)} {x:Str} {e:Addr} (h:valV (enS es) (Sum.inr x)=none):putK (enS es) (Sum.inr x) (.ref e)=enS (es++[(x,e)]):=by
 have n:(enS es).any (fun kv=>decide (kv.1=Sum.inr x))=false:=by
  cases z:(enS es).any (fun kv=>decide (kv.1=Sum.inr x)) with
  | false=>rfl
  | true=>
   obtain ⟨q,h1,h2⟩:=List.any_eq_true.mp z
   have:((enS es).find? fun kv=>decide (kv.1=Sum.inr x)).isSome=true:=List.find?_isSome.mpr ⟨q,h1,h2⟩
   unfold valV at h
   rw [Option.map_eq_none_iff] at h
   rw [h] at this
   cases this
 unfold putK
 rw [n]
 unfold enS
 rw [List.map_append]
 rfl
end
end TK
namespace TK
open PySem PySem.Spec PyProof.Rows L2 D G
noncomputable def Kn (H H':Hp):Prop:=∀ b,H b≠none→H' b≠none
theorem Kn.trans {H H1 H2:Hp} (a:Kn H H1) (b:Kn H1 H2):Kn H H2:=fun c h=>b c (a c h)
theorem Kn.same {H H':Hp} (s:SameX [] H H'):Kn H H':=fun b h=>by
 cases e:H b with
 | none=>exact absurd e h
 | some o=>rw [s b o (by simp) e]; exact fun z=>nomatch z
theorem Kn.put {H:Hp} {p:Addr} {o:HO}:Kn H (upd H p o):=fun b h=>by
 by_cases z:b=p
 ·subst z; rw [upd_same]; exact fun z=>nomatch z
 ·rw [upd_ne z]; exact h
inductive SawP (K:PySem.W.Frag) (P:Program) (w:World) (C:Addr) (vs:List V) (H:Hp) (Q:VK):Prop where
 | mk (O U:Addr→Prop) (p:Addr) (x:Str) (b:Addr) (line:PyData) (S:Seen) (odd:List PyData) (r:PyData) (e:vs=[.ref p,.str x,.ref b]) (wa:WA K P w C O U H p S odd) (tr:Tr O H) (rl:Rep K O H (.ref b) line) (hk:tk 3 line=true)
   (hS:S.length < 1000) (hl:(linesOf S x).length < 1000) (ho:odd.length < 1000) (m:m_first_at_odds [.d (.list (linesOf S x)),.d line] []=some (r,[]))
   (q:∀ (U':Addr→Prop) v' H',Tr O H'→LeP O H O H'→(∀ b o,¬ U b→H b=some o→H' b=some o)→(∀ b,U b→U' b)→(∀ b,U' b→U b∨H b=none)→Kn H H'→(∀ b,U' b→U b∨H' b≠none)→WA K P w C O U' H' p (putS x line S) (oddBy x r line odd)→Rep K O H' v' r→Q v' H'):SawP K P w C vs H Q
noncomputable def spSaw (K:PySem.W.Frag) (P:Program) (w:World) (C:Addr):Sp:=fun vs H Q _=>SawP K P w C vs H Q
theorem reps_map {K:PySem.W.Frag} {O:Addr→Prop} {H:Hp}:∀ {kvs:Ents},(∀ q∈kvs,KeyOk K O H (q.1,q.2.1))→Reps K O H (kvs.map fun q=>.ref q.2.1) (kvs.map (·.1))
 | [],_=>.nil
 | q::r,h=>.cons (h q List.mem_cons_self).2 (reps_map fun z hz=>h z (List.mem_cons_of_mem _ hz))
theorem rq_some {K:PySem.W.Frag} {P:Program} {w:World} {O U:Addr→Prop} {H:Hp}:∀ {es:List (Str×Addr)} {S:Seen},Paired (Rq K P w O U H) es S→∀ q∈es,∃ o,H q.2=some o
 | _,_,.nil,_,h=>by cases h
 | _,_,.cons r t,q,h=>by
  rcases List.mem_cons.mp h with rfl | h
  ·obtain ⟨_,_,kv,y,_⟩:=r; exact ⟨_,y⟩
  ·exact rq_some t q h
theorem hu9 {k:Nat} {A:Around} (hr:Room k A):A.units + 9 < cLine:=by have:=hr.un; omega
section
variable {P:Program} {w:World} {K:PySem.W.Frag} {mg:Str→Option Value} {base:Heap} (E:Ev P w K mg base (Bi K mg) top zS) {C:Addr} (W:Wc K mg C)
include E W
theorem m_saw:Mth P w K mg base C (Str.ofString "saw") [Str.ofString "self",Str.ofString "text",Str.ofString "line"] 5 (spSaw K P w C):=by
 have S:FnScope [Str.ofString "self",Str.ofString "text",Str.ofString "line",Str.ofString "lines",Str.ofString "elder"] [Str.ofString "self",Str.ofString "text",Str.ofString "line"] (defScope (mtop 4 1)):=sc_of (by decide +kernel)
 refine W.d1.mth (fun _ _ _ _ _ _=>by exact D.bl3 fun _ _ _=>rfl) fun f fd F=>F.ok S (fun vs H Q E h=>by obtain ⟨_,_,_,_,_,_,_,_,_,rfl,_⟩:=h; rfl) fun cdv A outer s H vs Q E' hr h=>?_
 obtain ⟨O,U,p,x,b,line,S',odd,r,rfl,wa,tr,rl,hk,hS,hl,ho,m,q⟩:=h
 obtain ⟨dx,d,l,us,es,h1,h2,h3,h4,h5,⟨h6,h7,h8⟩,h9,h10⟩:=wa.ex
 have hlen:es.length=S'.length:=Paired.length h10
 have hul:us.length=odd.length:=h5.length
 have big:(1000:Nat) < sizeLine:=by decide
 have tail:∃ t,PSs (cxOf CX0 P w K mg base [Str.ofString "self",Str.ofString "text",Str.ofString "line",Str.ofString "lines",Str.ofString "elder"] (Str.ofString "Watch.saw") (defScope (mtop 4 1)) f cdv A outer s H E').nox (defBody (mtop 4 1)).tail t ∧
   ∀ (Hs:Hp) (e:Addr) (kvs:Ents) (es':List (Str×Addr)) (U1:Addr→Prop),Hs p=some (.ins C dx [(Str.ofString "seen",.ref d),(Str.ofString "odd",.ref l)])→Hs d=some (.dK (enS es'))→Hs l=some (.lst us)→Hs e=some (TD P w e kvs)→kvs.map (·.1)=linesOf S' x→(∀ q∈kvs,KeyOk K O Hs (q.1,q.2.1)) →
   LeP O H O Hs→Tr O Hs→(∀ b o,¬ U b→H b=some o→Hs b=some o)→(∀ b,U b→U1 b)→(∀ b,U1 b→U b∨H b=none)→(U e∨H e=none)→(es'.map (·.2)).Nodup→(∀ H',LdAt K P w O H' e (putL (linesOf S' x) line)→(∀ b ls,b≠e→LdAt K P w O Hs b ls→LdAt K P w O H' b ls)→Paired (Rq K P w O U1 H') es' (putS x line S'))→Kn H Hs→(∀ b,U1 b→U b∨Hs b≠none) →
   t { nx:=fun _ H'=>Q .non H',rt:=Q } [some (.ref p),some (.str x),some (.ref b),some (.ref e),none] Hs:=by
  refine ⟨_,(pss_cons (ps_set (i:=4) S.nd rfl (Or.inl rfl) (pe_fn (g_first_at_odds E) (hr.mono (by omega)) rfl (pa_cons (pe_callTy (call_list_td rfl) rfl E.b.z boot_list (pa_cons (pv 3) pa_nil)) (pa_cons (pv 2) pa_nil))))
    (pss_cons (ps_tput (hu9 hr) (pv 3) (pv 2) pe_bl)
    (pss_cons (ps_if (pt_cmp (pc_notN (pv 4))) (pss_one (ps_expr (pe_bm PySem.F.plainAttrs_list PySem.F.slot_list_append PySem.F.type_list_append mt_append (pe_fld (pv 0) rfl) (pa_cons (pe_tup (pa_cons (pv 1) (pa_cons (pv 4) (pa_cons (pv 2) pa_nil)))) pa_nil)))) pss_nil)
    (pss_one (ps_ret (pv 4)))))),fun Hs e kvs es' U1 k1 k2 k3 k4 k5 k6 k7 k8 k9 k10 k11 k12 k13 k14 k15 k16=>?_⟩
  have kl:kvs.length < 1000:=by rw [← List.length_map (f:=(·.1)),k5]; exact hl
  refine ⟨_,rfl,e,kvs,rfl,k4,fun l0 hl0=>⟨_,rfl,?_⟩⟩
  have lp0:LeP O Hs O (upd Hs l0 (.lst (kvs.map fun q=>.ref q.2.1))):=.new hl0 _
  have tr0:Tr O (upd Hs l0 (.lst (kvs.map fun q=>.ref q.2.1))):=k8.same (.new hl0 _)
  refine ⟨O,[],[],[.d (.list (linesOf S' x)),.d line],r,[],tr0.hc,.cons ?_ (.cons ?_ .nil),rfl,m,fun v' H4 s4 hc4 r4=>?_⟩
  ·exact .lst (.inl ⟨k8.fresh hl0,.inl upd_same⟩) (by rw [← k5]; exact reps_map fun q hq=>⟨(k6 q hq).1,rep_monoP lp0 (k6 q hq).2⟩)
  ·exact rep_monoP (k7.trans lp0) rl
  have s4':SameX [] Hs H4:=(SameX.new hl0 _).trans s4
  have lp4:LeP O Hs O H4:=.same s4'
  have at4:∀ {a o},Hs a=some o→H4 a=some o:=fun {a o} h=>s4' a o (by simp) h
  have key4:∀ q∈kvs,KeyOk K O H4 (q.1,q.2.1):=fun q hq=>⟨(k6 q hq).1,rep_monoP lp4 (k6 q hq).2⟩
  have kb:KeyOk K O H4 (line,b):=⟨hk,rep_monoP (k7.trans lp4) rl⟩
  refine ⟨_,rfl,_,rfl,O,e,kvs,b,line,rfl,rfl,at4 k4,key4,kb,by omega,?_⟩
  have lp5:LeP O H4 O (upd H4 e (TD P w e (putT kvs line b (.bl true)))):=.put (.inr ⟨_,at4 k4,rfl⟩)
  have ne:∀ {a o},Hs a=some o→o≠TD P w e kvs→upd H4 e (TD P w e (putT kvs line b (.bl true))) a=some o:=fun {a o} h n=>by
   rw [upd_ne (fun z=>by subst z; rw [k4] at h; cases h; exact n rfl)]
   exact at4 h
  have rv5:Rep K O (upd H4 e (TD P w e (putT kvs line b (.bl true)))) v' r:=rep_monoP lp5 r4
  have tr5:Tr O (upd H4 e (TD P w e (putT kvs line b (.bl true)))):=fun c hc=>by
   have:=(Tr.same k8 s4') c hc
   rw [upd_ne (fun z=>by subst z; rw [at4 k4] at this; rcases this with ⟨_,z⟩ | ⟨_,z⟩ | ⟨_,_,_,z⟩ <;> cases z)]
   exact this
  have fin5:∀ H':Hp,(∀ c o,H4 c=some o→c≠e→(∀ q,o≠.lst q)→H' c=some o)→H' e=some (TD P w e (putT kvs line b (.bl true)))→LeP O H4 O H'→Paired (Rq K P w O U1 H') es' (putS x line S'):=fun H' g1 g2 g3=>by
   refine k14 H' ⟨_,g2,by rw [putT_keys,k5],fun q hq=>?_⟩ fun c ls hc hL=>?_
   ·rcases putT_mem hq with z | ⟨q',h,z⟩
    ·rw [z]; exact ⟨hk,rep_monoP g3 kb.2⟩
    ·rw [z]; exact ⟨(key4 q' h).1,rep_monoP g3 (key4 q' h).2⟩
   ·exact hL.mono (fun o ho=>by
     obtain ⟨kv,z,_⟩:=hL
     rw [ho] at z
     cases z
     exact g1 _ _ (at4 ho) hc (fun q z=>nomatch z)) (lp4.trans g3)
  refine ⟨_,rfl,_,rfl,?_⟩
  have hnon:(v'=.non↔r=.none):=by
   constructor
   ·intro z; subst z; cases r4; rfl
   ·intro z; subst z; cases r4; rfl
  show (if (!decide (v'=V.non))=true then _ else _)
  by_cases hr0:r=.none
  ·rw [if_neg (by rw [hnon.mpr hr0]; decide)]
   refine ⟨_,rfl,?_⟩
   refine q U1 v' _ tr5 (k7.trans (lp4.trans lp5)) (fun c o hc ho=>?_) k10 k11 (k15.trans ((Kn.same s4').trans .put)) (fun c hc=>(k16 c hc).imp_right fun z=>Kn.put c (Kn.same s4' c z)) ⟨dx,d,l,us,es',ne k1 (fun z=>nomatch z),ne k2 (fun z=>nomatch z),ne k3 (fun z=>nomatch z),h4,?_,⟨k10 _ h6,k10 _ h7,k10 _ h8⟩,k13,?_⟩ rv5
   ·rw [upd_ne (fun z=>by subst z; exact k12.elim hc fun z=>by rw [ho] at z; cases z)]
    exact at4 (k9 c o hc ho)
   ·rw [hr0]; exact reps_monoP (k7.trans (lp4.trans lp5)) h5
   ·exact fin5 _ (fun c o h hc _=>by rw [upd_ne hc]; exact h) upd_same lp5
  ·rw [if_pos (by rw [decide_eq_false (fun z=>hr0 (hnon.mp z))]; rfl)]
   refine ⟨_,rfl,p,C,dx,_,_,rfl,ne k1 (fun z=>nomatch z),W.cl,W.no,rfl,.inl ⟨rfl,us,SqL.of (ne k3 (fun z=>nomatch z))⟩,_,rfl,_,rfl,_,rfl,by show (3:Nat)≤sizeLine; decide,fun t ht=>?_⟩
   change upd H4 e (TD P w e (putT kvs line b (.bl true))) t=none at ht
   have lt:l≠t:=ne_of_none (ne k3 (fun z=>nomatch z)) ht
   refine ⟨l,us,.ref t,rfl,rfl,by rw [upd_ne lt]; exact ne k3 (fun z=>nomatch z),by omega,?_⟩
   refine ⟨_,rfl,?_⟩
   change Q v' (upd (upd (upd H4 e (TD P w e (putT kvs line b (.bl true)))) t (.tup [.str x,v',.ref b])) l (.lst (us++[.ref t])))
   have kn5:Kn H4 (upd H4 e (TD P w e (putT kvs line b (.bl true)))):=.put
   generalize hH5:upd H4 e (TD P w e (putT kvs line b (.bl true)))=H5 at *
   have lp6:LeP O H5 O (upd H5 t (.tup [.str x,v',.ref b])):=.new ht _
   have lp7:LeP O (upd H5 t (.tup [.str x,v',.ref b])) O (upd (upd H5 t (.tup [.str x,v',.ref b])) l (.lst (us++[.ref t]))):=.put (.inl h4)
   have a7:∀ {a o},H5 a=some o→a≠l→upd (upd H5 t (.tup [.str x,v',.ref b])) l (.lst (us++[.ref t])) a=some o:=fun {a o} h n=>by
    rw [upd_ne n,upd_ne (ne_of_none h ht)]; exact h
   have nl:∀ {a o},Hs a=some o→(∀ q,o≠.lst q)→a≠l:=fun {a o} h n z=>by subst z; rw [k3] at h; cases h; exact n _ rfl
   have He:H5 e=some (TD P w e (putT kvs line b (.bl true))):=by rw [← hH5]; exact upd_same
   have lp57:=lp6.trans lp7
   refine q U1 v' _ (fun c hc=>?_) (k7.trans (lp4.trans (lp5.trans lp57))) (fun c o hc ho=>?_) k10 k11 (k15.trans ((Kn.same s4').trans (kn5.trans (Kn.put.trans .put)))) (fun c hc=>(k16 c hc).imp_right fun z=>Kn.put c (Kn.put c (kn5 c (Kn.same s4' c z)))) ⟨dx,d,l,us++[.ref t],es',a7 (ne k1 (fun z=>nomatch z)) (nl k1 (fun _ z=>nomatch z)),a7 (ne k2 (fun z=>nomatch z)) (nl k2 (fun _ z=>nomatch z)),upd_same,h4,?_,⟨k10 _ h6,k10 _ h7,k10 _ h8⟩,k13,?_⟩ (rep_monoP lp57 rv5)
   ·by_cases z:c=l
    ·subst z; rw [upd_same]; exact .inl ⟨_,rfl⟩
    ·obtain ⟨u,hu⟩:=(tr5 c hc).ex
     rw [a7 hu z,← hu]; exact tr5 c hc
   ·have hc':c≠l:=fun z=>hc (z ▸ h8)
    refine a7 ?_ hc'
    rw [← hH5,upd_ne (fun z=>by subst z; exact k12.elim hc fun z=>by rw [ho] at z; cases z)]
    exact at4 (k9 c o hc ho)
   ·have:oddBy x r line odd=odd++[.tuple [.str x,r,line]]:=by
     unfold oddBy
     split
     ·exact absurd rfl hr0
     ·rfl
    rw [this]
    refine Reps.append (reps_monoP (k7.trans (lp4.trans (lp5.trans lp57))) h5) (.cons ?_ .nil)
    refine rep_monoP lp7 (.tup (.inl ⟨tr5.fresh ht,.inl upd_same⟩) (.cons (.str _) (.cons (rep_monoP lp6 rv5) (.cons (rep_monoP (lp5.trans lp6) kb.2) .nil))))
   ·refine fin5 _ (fun c o h hc hn=>?_) (a7 He (fun z=>by rw [z] at He; rw [show H5 l=_ from ne k3 (fun z=>nomatch z)] at He; cases He)) (lp5.trans lp57)
    refine a7 (by rw [← hH5,upd_ne hc]; exact h) fun z=>?_
    subst z
    rw [at4 k3] at h
    cases h
    exact hn _ rfl
 obtain ⟨t,ht,main⟩:=tail
 refine ⟨_,pss_cons (ps_set (i:=3) S.nd rfl (Or.inl rfl) (pe_bm PySem.F.plainAttrs_dict PySem.F.slot_dict_setdefault PySem.F.type_dict_setdefault mt_setdef (pe_fld (pv 0) rfl) (pa_cons (pv 1) (pa_cons pe_tdnew pa_nil)))) ht,?_⟩
 refine ⟨_,rfl,p,C,dx,_,_,rfl,h1,W.cl,W.ns,rfl,.inr (.inr (.inl ⟨rfl,.inl ⟨_,h2⟩⟩)),_,rfl,fun e0 he0=>?_⟩
 have n0:∀ {a o},H a=some o→upd H e0 (TD P w e0 []) a=some o:=fun {a o} h=>by rw [upd_ne (ne_of_none h he0)]; exact h
 have lp0:LeP O H O (upd H e0 (TD P w e0 [])):=.new he0 _
 have tr0:Tr O (upd H e0 (TD P w e0 [])):=tr.same (.new he0 _)
 refine ⟨d,enS es,x,.ref e0,rfl,rfl,n0 h2,by unfold enS; rw [List.length_map]; omega,?_⟩
 rcases seen_cases (K:=K) (P:=P) (w:=w) (O:=O) (U:=U) (H:=H) x h10 h9 with ⟨e,z1,z2,z3,z4,z5⟩ | ⟨z1,z2,z3⟩
 ·obtain ⟨kvs,y1,y2,y3⟩:=z4
  refine .inl ⟨_,z1,?_⟩
  exact main _ e kvs es U (n0 h1) (n0 h2) (n0 h3) (n0 y1) y2 (fun q hq=>⟨(y3 q hq).1,rep_monoP lp0 (y3 q hq).2⟩) lp0 tr0 (fun _ _ _ h=>n0 h) (fun _ h=>h) (fun _ h=>.inl h) (.inl z3) h9 (fun H' g1 g2=>z5 U H' line g1 (fun _ h=>h) fun c ls hc hL=>g2 c ls hc (hL.mono (fun o h=>n0 h) lp0)) .put fun _ h=>.inl h
 ·refine .inr ⟨z1,?_⟩
  rw [putK_new z1]
  have hde:d≠e0:=ne_of_none h2 he0
  have lp1:LeP O (upd H e0 (TD P w e0 [])) O (upd (upd H e0 (TD P w e0 [])) d (.dK (enS (es++[(x,e0)])))):=.put (.inr ⟨_,n0 h2,rfl⟩)
  have n1:∀ {a o},H a=some o→a≠d→upd (upd H e0 (TD P w e0 [])) d (.dK (enS (es++[(x,e0)]))) a=some o:=fun {a o} h n=>by rw [upd_ne n]; exact n0 h
  refine main _ e0 [] (es++[(x,e0)]) (fun c=>U c∨c=e0) (n1 h1 (ne_of h1 h2 (fun z=>nomatch z))) upd_same (n1 h3 (ne_of h3 h2 (fun z=>nomatch z))) (by rw [upd_ne (Ne.symm hde)]; exact upd_same) z2.symm (fun q hq=>by cases hq) (lp0.trans lp1) ?_ (fun c o hc h=>n1 h (fun z=>hc (z ▸ h7))) (fun _ h=>.inl h) (fun c h=>?_) (.inr he0) ?_ (fun H' g1 g2=>?_) (Kn.put.trans .put) fun c h=>?_
  ·intro c hc
   have:=tr0 c hc
   by_cases z:c=d
   ·subst z; rw [upd_same]; exact .inr (.inl ⟨_,rfl⟩)
   ·rw [upd_ne z]; exact this
  ·rcases h with h | h
   ·exact .inl h
   ·exact .inr (h ▸ he0)
  ·rw [List.map_append]
   refine List.nodup_append.mpr ⟨h9,by simp,fun a ha c hc z=>?_⟩
   rw [List.map_cons,List.map_nil,List.mem_singleton] at hc
   have hae:a=e0:=z.trans hc
   obtain ⟨q,hq,rfl⟩:=List.mem_map.mp ha
   have:∃ o,H q.2=some o:=rq_some (K:=K) (P:=P) (w:=w) (O:=O) (U:=U) h10 q hq
   obtain ⟨o,ho⟩:=this
   rw [hae,he0] at ho
   cases ho
  ·refine z3 (fun c=>U c∨c=e0) H' line e0 (.inr rfl) ?_ (fun _ h=>.inl h) fun c ls hL=>g2 c ls (fun z=>?_) (hL.mono (fun o h=>n1 h fun z=>?_) (lp0.trans lp1))
   ·rw [z2] at g1; simpa [putL] using g1
   ·subst z; obtain ⟨_,y,_⟩:=hL; rw [he0] at y; cases y
   ·subst z; obtain ⟨_,y,_⟩:=hL; rw [h2] at y; cases y
  ·rcases h with h | h
   ·exact .inl h
   ·subst h; exact .inr (Kn.put _ (by rw [upd_same]; exact fun z=>nomatch z))
end
end TK
namespace TK
open PySem PySem.Spec PyProof.Rows L2 D G
inductive FltP (K:PySem.W.Frag) (P:Program) (w:World) (C:Addr) (vs:List V) (H:Hp) (Q:VK):Prop where
 | mk (O U:Addr→Prop) (p:Addr) (S:Seen) (odd:List PyData) (e:vs=[.ref p]) (wa:WA K P w C O U H p S odd) (q:∀ a us,H a=none→Reps K O H us odd→Q (.ref a) (upd H a (.lst us))):FltP K P w C vs H Q
noncomputable def spFlt (K:PySem.W.Frag) (P:Program) (w:World) (C:Addr):Sp:=fun vs H Q _=>FltP K P w C vs H Q
inductive IniP (C:Addr) (vs:List V) (H:Hp) (Q:VK):Prop where
 | mk (p dx:Addr) (e:vs=[.ref p]) (h:H p=some (.ins C dx [])) (q:∀ (d l:Addr) (H':Hp),H d=none→H l=none→d≠l→(∀ b,b≠p→b≠d→b≠l→H' b=H b)→H' p=some (.ins C dx [(Str.ofString "seen",.ref d),(Str.ofString "odd",.ref l)])→H' d=some (.dK [])→H' l=some (.lst [])→Q .non H'):IniP C vs H Q
noncomputable def spIni (C:Addr):Sp:=fun vs H Q _=>IniP C vs H Q
section
variable {P:Program} {w:World} {K:PySem.W.Frag} {mg:Str→Option Value} {base:Heap} (E:Ev P w K mg base (Bi K mg) top zS) {C:Addr} (W:Wc K mg C)
include E W
theorem m_faults:Mth P w K mg base C (Str.ofString "faults") [Str.ofString "self"] 1 (spFlt K P w C):=by
 have S:FnScope [Str.ofString "self"] [Str.ofString "self"] (defScope (mtop 4 2)):=sc_of (by decide +kernel)
 refine W.d2.mth (fun _ _ _ _ _ _=>by exact D.bl1 fun _=>rfl) fun f fd F=>F.ok S (fun vs H Q E h=>by obtain ⟨_,_,_,_,_,rfl,_⟩:=h; rfl) fun cdv A outer s H vs Q E' hr h=>⟨_,pss_one (ps_ret (pe_callTy call_list_of rfl E.b.z boot_list (pa_cons (pe_fld (pv 0) rfl) pa_nil))),?_⟩
 obtain ⟨O,U,p,S',odd,rfl,wa,q⟩:=h
 obtain ⟨dx,d,l,us,es,h1,h2,h3,h4,h5,_⟩:=wa.ex
 exact ⟨_,rfl,p,C,dx,_,_,rfl,h1,W.cl,W.no,rfl,l,us,rfl,.inl (SqL.of h3),fun a ha=>q a us ha h5⟩
omit E in
theorem m_init:Ini P w K mg base C [Str.ofString "self"] 1 (spIni C):=by
 have S:FnScope [Str.ofString "self"] [Str.ofString "self"] (defScope (mtop 4 0)):=sc_of (by decide +kernel)
 refine W.d0.ini W.mb (fun _ _ _ _ _ _=>by exact D.bl1 fun _=>rfl) fun f fd F=>F.ok S (fun vs H Q E h=>by obtain ⟨_,_,rfl,_⟩:=h; rfl) fun cdv A outer s H vs Q E' hr h=>⟨_,pss_cons (ps_fld (pv 0) pe_dnewK rfl) (pss_one (ps_fld (pv 0) (pe_lst pa_nil) rfl)),?_⟩
 obtain ⟨p,dx,rfl,h,q⟩:=h
 refine fun d hd=>⟨_,rfl,p,C,dx,[],rfl,by rw [upd_ne (ne_of_none h hd)]; exact h,W.cl,W.ns,by decide,?_⟩
 have hpd:p≠d:=ne_of_none h hd
 refine ⟨by show (0:Nat)≤sizeLine; decide,fun l hl=>⟨_,rfl,p,C,dx,[(Str.ofString "seen",.ref d)],rfl,?_,W.cl,W.no,by show (1:Nat) < 1000; decide,?_⟩⟩
 ·have:upd (upd H d (.dK [])) p (.ins C dx [(Str.ofString "seen",.ref d)]) p=some (.ins C dx [(Str.ofString "seen",.ref d)]):=upd_same
  rw [upd_ne (ne_of_none this hl)]
  exact this
 ·have hpl:p≠l:=fun z=>by subst z; rw [show _=some _ from upd_same] at hl; cases hl
  have hdl:d≠l:=fun z=>by subst z; rw [upd_ne (Ne.symm hpd),upd_same] at hl; cases hl
  refine q d l _ hd ?_ hdl (fun b n1 n2 n3=>?_) ?_ ?_ ?_
  ·rw [upd_ne (Ne.symm hpl),upd_ne (Ne.symm hdl)] at hl
   exact hl
  ·rw [upd_ne n1,upd_ne n3,upd_ne n1,upd_ne n2]
  ·rw [upd_same]; rfl
  ·rw [upd_ne (Ne.symm hpd),upd_ne hdl,upd_ne (Ne.symm hpd),upd_same]
  ·rw [upd_ne (Ne.symm hpl),upd_same]
end
end TK
namespace TK
open PySem PySem.Spec PyProof.Rows L2 D G
section
variable {K:PySem.W.Frag} {O O1:Addr→Prop} {ts:List Addr} {H:Hp} {σ:L2.St} {ρ:Rho}
theorem relZ:RelE K O ts H σ []:=fun i w e=>by simp at e
theorem relN {v:Option V} (h:RelE K O ts H σ ρ):RelE K O ts H (v::σ) (none::ρ):=fun i w e=>by
 cases i with
 | zero=>simp at e
 | succ i=>exact h i w (by simpa using e)
theorem relS {v:V} {w:W} (r:RepW K O ts H v w) (h:RelE K O ts H σ ρ):RelE K O ts H (some v::σ) (some w::ρ):=fun i u e=>by
 cases i with
 | zero=>
  have:w=u:=by simpa using e
  subst this
  exact ⟨v,rfl,r⟩
 | succ i=>exact h i u (by simpa using e)
theorem mut_tup {a:Addr} {vs:List V} (t:Tr O H) (r:Rd H a (.tup vs)):¬ O a:=fun z=>by
 have:=t a z
 rcases r with r | ⟨o,r⟩ <;> rw [r] at this <;> rcases this with ⟨_,y⟩ | ⟨_,y⟩ | ⟨_,_,_,y⟩ <;> cases y
mutual
theorem rep_tk (t:Tr O H):∀ {n:Nat} {v:V} {d:PyData},tk n d=true→Rep K O1 H v d→Rep K O H v d
 | _,_,_,_,.non=>.non
 | _,_,_,_,.bl b=>.bl b
 | _,_,_,_,.int i=>.int i
 | _,_,_,_,.str x=>.str x
 | n,_,_,h,.lst _ _=>by cases n <;> cases h
 | n,_,_,h,.dct _ _ _=>by cases n <;> cases h
 | n,_,_,h,.tup a r=>by
  rcases tk_shape h with ⟨x,e,_⟩ | ⟨m,xs,rfl,e,hx⟩
  ·cases e
  ·cases e
   refine .tup ?_ (reps_tk t hx r)
   rcases a with ⟨_,a⟩ | a
   ·exact .inl ⟨mut_tup t a,a⟩
   ·exact .inr a
theorem reps_tk (t:Tr O H):∀ {n:Nat} {vs:List V} {ds:List PyData},ds.all (tk n)=true→Reps K O1 H vs ds→Reps K O H vs ds
 | _,_,_,_,.nil=>.nil
 | n,_,_,h,.cons r rs=>by
  rw [List.all_cons,Bool.and_eq_true] at h
  exact .cons (rep_tk t h.1 r) (reps_tk t h.2 rs)
end
noncomputable def but (O:Addr→Prop) (a:Addr):Addr→Prop:=fun c=>O c∧c≠a
theorem but_le (a:Addr):LeP O H (but O a) H:=fun _ _ n _ e=>⟨fun z=>n z.1,e⟩
theorem but_tr (t:Tr O H) (a:Addr):Tr (but O a) H:=fun c h=>t c h.1
theorem but_lst {a:Addr} {us:List V} {ds:List PyData} (h:H a=some (.lst us)) (r:Reps K O H us ds):Rep K (but O a) H (.ref a) (.list ds):=.lst (.inl ⟨fun z=>z.2 rfl,.inl h⟩) (reps_monoP (but_le a) r)
end
inductive LSawP (K:PySem.W.Frag) (P:Program) (w:World) (C:Addr) (vs:List V) (H:Hp) (Q:VK):Prop where
 | mk (O U:Addr→Prop) (p a f:Addr) (x:Str) (b:Addr) (line:PyData) (S:Seen) (odd sn due:List PyData) (r:PyData) (us fs:List V) (e:vs=[.ref p,.ref a,.ref f,.str x,.ref b]) (wa:WA K P w C O U H p S odd) (tr:Tr O H) (rl:Rep K O H (.ref b) line) (hk:tk 3 line=true)
   (hS:S.length < 1000) (hl:(linesOf S x).length < 1000) (ho:odd.length < 1000) (hsn:sn.length < 1000) (m:m_first_at_odds [.d (.list (linesOf S x)),.d line] []=some (r,[]))
   (oa:O a) (of:O f) (naf:a≠f) (ua:¬ U a) (uf:¬ U f) (ha:H a=some (.lst us)) (hf:H f=some (.lst fs)) (rs:Reps K O H us sn) (rf:Reps K O H fs odd)
   (me:m__law_elder [.d (.list sn),.d (.str x),.d line] []=some (.list due,[])) (md:due=[]∧r=.none∨due=[r]∧r≠.none) (tr3:due.all (tk 3)=true)
   (m1:m__law_same [.d r,.d r] []=some (.bool true,[])) (m2:m__law_same [.d (.list (oddBy x r line odd)),.d (.list (oddBy x r line odd))] []=some (.bool true,[]))
   (q:∀ (U':Addr→Prop) H' us' fs',Tr O H'→LeP O H O H'→(∀ b o,¬ U b→b≠a→b≠f→H b=some o→H' b=some o)→(∀ b,U b→U' b)→(∀ b,U' b→U b∨H b=none)→Kn H H'→(∀ b,U' b→U b∨H' b≠none)→WA K P w C O U' H' p (putS x line S) (oddBy x r line odd) →
    H' a=some (.lst us')→Reps K O H' us' (sn++[.tuple [.str x,line]])→H' f=some (.lst fs')→Reps K O H' fs' (oddBy x r line odd)→Q (.bl true) H'):LSawP K P w C vs H Q
noncomputable def spLSaw (K:PySem.W.Frag) (P:Program) (w:World) (C:Addr):Sp:=fun vs H Q _=>LSawP K P w C vs H Q
noncomputable abbrev nSaw:List Str:=[Str.ofString "_law_watch",Str.ofString "_law_seen",Str.ofString "_law_faults",Str.ofString "_law_text",Str.ofString "_law_line",Str.ofString "_law_due",Str.ofString "_law_found",Str.ofString "_law_told_here"]
noncomputable abbrev pSaw:List Str:=[Str.ofString "_law_watch",Str.ofString "_law_seen",Str.ofString "_law_faults",Str.ofString "_law_text",Str.ofString "_law_line"]
section
variable {P:Program} {w:World} {K:PySem.W.Frag} {mg:Str→Option Value} {base:Heap} (E:Ev P w K mg base (Bi K mg) top zS) {C:Addr} (W:Wc K mg C)
include E W
theorem g__law_saw:Fn P w K mg base (Str.ofString "_law_saw") pSaw 8 (spLSaw K P w C):=by
 have S:FnScope nSaw pSaw (defScope (top 23)):=sc_of (by decide +kernel)
 obtain ⟨f1,fd1,A1,A2,A3⟩:=(m_saw E W).ex
 obtain ⟨f2,fd2,B1,B2,B3⟩:=(m_faults E W).ex
 refine d_gof E 23 fun f0 fd F=>F.ok S (fun vs H Q E h=>by obtain ⟨_,_,_,_,_,_,_,_,_,_,_,_,_,_,_,rfl,_⟩:=h; rfl) fun cdv A outer s H vs Q E' hr h=>?_
 obtain ⟨O,U,p,a,f,x,b,line,S',odd,sn,due,r,us,fs,rfl,wa,tr,rl,hk,hS,hl,ho,hsn,m,oa,of,naf,ua,uf,ha,hf,rs,rf,me,md,tr3,m1,m2,q⟩:=h
 have big:(2000:Nat) < sizeLine:=by decide
 have tail:∃ t,PSs (cxOf CX0 P w K mg base nSaw (Str.ofString "_law_saw") (defScope (top 23)) f0 cdv A outer s H E').nox ((defBody (top 23)).drop 5) t ∧
   ∀ (H5:Hp) (U5:Addr→Prop) (a5:Addr) (v6:V) (us5 fs5:List V),Tr O H5→LeP O H O H5→(∀ b o,¬ U b→b≠a→b≠f→H b=some o→H5 b=some o)→(∀ b,U b→U5 b)→(∀ b,U5 b→U b∨H b=none)→Kn H H5→(∀ b,U5 b→U b∨H5 b≠none)→WA K P w C O U5 H5 p (putS x line S') (oddBy x r line odd) →
    H5 a=some (.lst us5)→Reps K O H5 us5 (sn++[.tuple [.str x,line]])→H5 f=some (.lst fs5)→Reps K O H5 fs5 (oddBy x r line odd) →
    t { nx:=fun _ H'=>Q .non H',rt:=Q } [some (.ref p),some (.ref a),some (.ref f),some (.str x),some (.ref b),some (.ref a5),some v6,none] H5:=by
  refine ⟨_,pss_cons (ps_set (i:=7) S.nd rfl (Or.inl rfl) (pe_meth0 (pv 0) W.cl B3 B1 (hr.mono (by omega)) B2 .nil pass0 rfl))
   (pss_cons (ps_if (DT.pe (dt_not (dt_tru (d_c2 (g__law_same E) hr (de_var 7) (de_var 2))))) (pss_one (ps_ret pe_bl)) pss_nil)
   (pss_cons (ps_expr (pe_bm PySem.F.plainAttrs_list PySem.F.slot_list_append PySem.F.type_list_append mt_append (pv 7) (pa_cons pe_str pa_nil)))
   (pss_one (ps_ret (pe_fn (g__law_same E) (hr.mono (by omega)) rfl (pa_cons (pe_meth0 (pv 0) W.cl B3 B1 (hr.mono (by omega)) B2 .nil pass0 rfl) (pa_cons (pv 2) pa_nil))))))),fun H5 U5 a5 v6 us5 fs5 t5 l5 fr5 su5 fe5 kn5 al5 wa5 ha5 ra5 hf5 rf5=>?_⟩
  obtain ⟨dx,_,_,_,_,w1,_⟩:=wa5.ex
  have lo:(oddBy x r line odd).length < 1001:=by
   unfold oddBy
   split
   ·omega
   ·rw [List.length_append]; show _ + 1 < _; omega
  refine ⟨_,rfl,p,dx,_,rfl,w1,rfl,O,U5,p,_,_,rfl,wa5,fun a7 us7 h7 r7=>?_⟩
  have s7:SameX [] H5 (upd H5 a7 (.lst us7)):=.new h7 _
  have n7:¬ O a7:=t5.fresh h7
  have t7:=t5.same s7
  have l7:us7.length=(oddBy x r line odd).length:=r7.length
  refine ⟨but O f,[],[none,none,some (.d (.list (oddBy x r line odd))),none,none,none,none,some (.d (.list (oddBy x r line odd)))],[],false,[],(but_tr t7 f).hc,?_,?_,fun H8 s8 _=>?_⟩
  ·exact relN (relN (relS (but_lst (s7 _ _ (by simp) hf5) (reps_monoP (.same s7) rf5)) (relN (relN (relN (relN (relS (.lst (.inl ⟨fun z=>n7 z.1,.inl upd_same⟩) (reps_monoP ((LeP.same s7).trans (but_le f)) r7)) relZ)))))))
  ·simp [m2]
  rw [if_neg (by decide)]
  have h87:H8 a7=some (.lst us7):=s8 _ _ (by simp) upd_same
  refine ⟨_,rfl,.inl ⟨rfl,us7,SqL.of h87⟩,a7,us7,.str _,rfl,rfl,h87,by omega,?_⟩
  have sx9:SameX [] H5 (upd H8 a7 (.lst (us7++[.str (Str.ofString "x")]))):=fun c o _ h=>by
   rw [upd_ne (ne_of_none h h7)]
   exact s8 _ _ (by simp) (s7 _ _ (by simp) h)
  have wa9:=wa5.same sx9
  refine ⟨_,rfl,p,dx,_,rfl,sx9 _ _ (by simp) w1,rfl,O,U5,p,_,_,rfl,wa9,fun a10 us10 h10 r10=>⟨_,rfl,?_⟩⟩
  have sx10:SameX [] H5 (upd (upd H8 a7 (.lst (us7++[.str (Str.ofString "x")]))) a10 (.lst us10)):=sx9.trans (.new h10 _)
  have t10:=t5.same sx10
  have n10:¬ O a10:=(t5.same sx9).fresh h10
  refine ⟨but O f,[],[],[.d (.list (oddBy x r line odd)),.d (.list (oddBy x r line odd))],.bool true,[],(but_tr t10 f).hc,.cons ?_ (.cons ?_ .nil),rfl,m2,fun v H11 s11 _ rv=>?_⟩
  ·exact .lst (.inl ⟨fun z=>n10 z.1,.inl upd_same⟩) (reps_monoP ((LeP.new h10 _).trans (but_le f)) r10)
  ·exact but_lst (sx10 _ _ (by simp) hf5) (reps_monoP (.same sx10) rf5)
  have sx:SameX [] H5 H11:=sx10.trans s11
  cases rv
  exact q U5 H11 us5 fs5 (t5.same sx) (l5.trans (.same sx)) (fun c o h1 h2 h3 h4=>sx _ _ (by simp) (fr5 c o h1 h2 h3 h4)) su5 fe5 (kn5.trans (.same sx)) (fun c hc=>(al5 c hc).imp_right fun z=>Kn.same sx c z) (wa5.same sx) (sx _ _ (by simp) ha5) (reps_monoP (.same sx) ra5) (sx _ _ (by simp) hf5) (reps_monoP (.same sx) rf5)
 obtain ⟨t,ht,main⟩:=tail
 refine ⟨_,
  pss_cons (ps_set (i:=5) S.nd rfl (Or.inl rfl) (pe_fn (g__law_elder E) (hr.mono (by omega)) rfl (pa_cons (pv 1) (pa_cons (pv 3) (pa_cons (pv 4) pa_nil)))))
  (pss_cons (ps_set (i:=6) S.nd rfl (Or.inl rfl) (pe_meth (pv 0) W.cl A3 A1 (hr.mono (by omega)) A2 .nil pass0 (pa_cons (pv 3) (pa_cons (pv 4) pa_nil)) rfl rfl rfl))
  (pss_cons (ps_if (DT.pe (dt_not (dt_tru (d_c2 (g__law_same E) hr (de_var 6) (de_if (dt_cmp o_gt (de_callB c_len rfl E.b.z boot_len (da_cons (de_var 5) da_nil)) de_int) (de_ix x_seq (de_var 5) de_int) de_non))))) (pss_one (ps_ret pe_bl)) pss_nil)
  (pss_cons (ps_expr (pe_bm PySem.F.plainAttrs_list PySem.F.slot_list_append PySem.F.type_list_append mt_append (pv 1) (pa_cons (pe_tup (pa_cons (pv 3) (pa_cons (pv 4) pa_nil))) pa_nil)))
  (pss_cons (ps_if (DT.pe (dt_cmp o_gt (de_callB c_len rfl E.b.z boot_len (da_cons (de_var 5) da_nil)) de_int)) (pss_one (ps_expr (pe_bm PySem.F.plainAttrs_list PySem.F.slot_list_append PySem.F.type_list_append mt_append (pv 2) (pa_cons (pe_tup (pa_cons (pv 3) (pa_cons (DE.pe (de_ix x_seq (de_var 5) de_int)) (pa_cons (pv 4) pa_nil)))) pa_nil)))) pss_nil)
  ht)))),?_⟩
 refine ⟨_,rfl,_,rfl,_,rfl,but O a,[],[],[.d (.list sn),.d (.str x),.d line],.list due,[],(but_tr tr a).hc,.cons (but_lst ha rs) (.cons (.str x) (.cons (rep_monoP (but_le a) rl) .nil)),rfl,me,fun A5 v5 H1 s1 hA hc1 own=>?_⟩
 obtain ⟨a5,rfl,hA5,us5,e5,r5⟩:∃ a5,v5=.ref a5∧(∀ c,A5 c↔c=a5)∧OwnAt K (fun c=>but O a c∨A5 c) H1 a5 (.list due):=own
 have fr0:H a5=none:=(hA a5 ((hA5 a5).mpr rfl)).1
 have no5:¬ O a5:=tr.fresh fr0
 have tr1:=tr.same s1
 have lp1:LeP O H O H1:=.same s1
 have rd1:Rep K O H1 (.ref a5) (.list due):=.lst (.inl ⟨no5,.inl e5⟩) (reps_tk tr1 tr3 r5)
 obtain ⟨dx,_,_,_,_,w1,_⟩:=wa.ex
 refine ⟨_,rfl,p,dx,_,rfl,s1 _ _ (by simp) w1,rfl,_,rfl,_,rfl,O,U,p,x,b,line,S',odd,r,rfl,wa.same s1,tr1,rep_monoP lp1 rl,hk,hS,hl,ho,m,fun U2 v2 H2 tr2 lp2 fr2 su2 fe2 kn2 al2 wa2 rv2=>?_⟩
 have rd2:=rep_monoP lp2 rd1
 refine ⟨O,[],[none,none,none,none,none,some (.d (.list due)),some (.d r),none],[],false,[],tr2.hc,relN (relN (relN (relN (relN (relS rd2 (relS rv2 (relN relZ))))))),?_,fun H3 s3 _=>?_⟩
 ·rcases md with ⟨rfl,rfl⟩ | ⟨rfl,hrn⟩
  ·simp [m1]
  ·simp [m1,show atI [r] (0:Int)=some r from rfl]
 rw [if_neg (by decide)]
 have tr3':=tr2.same s3
 have nn:∀ {c o},H c=some o→H1 c≠none:=fun {c o} h=>by rw [s1 _ _ (by simp) h]; exact fun z=>nomatch z
 have nu:∀ {c o},H c=some o→¬ U c→¬ U2 c:=fun {c o} h n z=>(fe2 c z).elim n (nn h)
 have ha3:H3 a=some (.lst us):=s3 _ _ (by simp) (fr2 _ _ ua (s1 _ _ (by simp) ha))
 have hf3:H3 f=some (.lst fs):=s3 _ _ (by simp) (fr2 _ _ uf (s1 _ _ (by simp) hf))
 have lp3:LeP O H O H3:=lp1.trans (lp2.trans (.same s3))
 have lus:us.length=sn.length:=rs.length
 refine ⟨_,rfl,.inl ⟨rfl,us,SqL.of ha3⟩,_,rfl,_,rfl,by show (2:Nat)≤sizeLine; decide,fun t4 ht4=>⟨a,us,.ref t4,rfl,rfl,by rw [upd_ne (ne_of_none ha3 ht4)]; exact ha3,by omega,?_⟩⟩
 have lpt:LeP O H3 O (upd H3 t4 (.tup [.str x,.ref b])):=.new ht4 _
 have lpa:LeP O (upd H3 t4 (.tup [.str x,.ref b])) O (upd (upd H3 t4 (.tup [.str x,.ref b])) a (.lst (us++[.ref t4]))):=.put (.inl oa)
 have lp4:=lp3.trans (lpt.trans lpa)
 have at4:∀ {c o},H3 c=some o→c≠a→upd (upd H3 t4 (.tup [.str x,.ref b])) a (.lst (us++[.ref t4])) c=some o:=fun {c o} h n=>by rw [upd_ne n,upd_ne (ne_of_none h ht4)]; exact h
 have tr4:Tr O (upd (upd H3 t4 (.tup [.str x,.ref b])) a (.lst (us++[.ref t4]))):=fun c hc=>by
  by_cases z:c=a
  ·subst z; rw [upd_same]; exact .inl ⟨_,rfl⟩
  ·obtain ⟨u,hu⟩:=(tr3' c hc).ex
   rw [at4 hu z,← hu]; exact tr3' c hc
 have wa4:WA K P w C O U2 (upd (upd H3 t4 (.tup [.str x,.ref b])) a (.lst (us++[.ref t4]))) p (putS x line S') (oddBy x r line odd):=(wa2.same s3).mono (fun c o hc h=>at4 h fun z=>by subst z; exact nu ha ua hc) (lpt.trans lpa) fun _ h=>h
 have ra4:Reps K O (upd (upd H3 t4 (.tup [.str x,.ref b])) a (.lst (us++[.ref t4]))) (us++[.ref t4]) (sn++[.tuple [.str x,line]]):=
  Reps.append (reps_monoP lp4 rs) (.cons (rep_monoP lpa (.tup (.inl ⟨tr3'.fresh ht4,.inl upd_same⟩) (.cons (.str _) (.cons (rep_monoP (lp3.trans lpt) rl) .nil)))) .nil)
 have kn4:Kn H (upd (upd H3 t4 (.tup [.str x,.ref b])) a (.lst (us++[.ref t4]))):=(Kn.same s1).trans (kn2.trans ((Kn.same s3).trans (Kn.put.trans .put)))
 have fe4:∀ c,U2 c→U c∨H c=none:=fun c hc=>(fe2 c hc).imp_right fun z=>by
  cases e:H c with
  | none=>rfl
  | some o=>exact absurd z (nn e)
 have al4:∀ c,U2 c→U c∨upd (upd H3 t4 (.tup [.str x,.ref b])) a (.lst (us++[.ref t4])) c≠none:=fun c hc=>(al2 c hc).imp_right fun z=>Kn.put c (Kn.put c (Kn.same s3 c z))
 have fr4:∀ c o,¬ U c→c≠a→H c=some o→upd (upd H3 t4 (.tup [.str x,.ref b])) a (.lst (us++[.ref t4])) c=some o:=fun c o h1 h2 h3=>at4 (s3 _ _ (by simp) (fr2 _ _ h1 (s1 _ _ (by simp) h3))) h2
 have rd4:=rep_monoP (lpt.trans lpa) (rep_monoP (.same s3) rd2)
 have hf4:=at4 hf3 (Ne.symm naf)
 have ha4:upd (upd H3 t4 (.tup [.str x,.ref b])) a (.lst (us++[.ref t4])) a=some (.lst (us++[.ref t4])):=upd_same
 have rf4:=reps_monoP lp4 rf
 generalize upd (upd H3 t4 (.tup [.str x,.ref b])) a (.lst (us++[.ref t4]))=H4 at *
 have lfs:fs.length=odd.length:=rf.length
 rcases md with ⟨rfl,rfl⟩ | ⟨rfl,hrn⟩
 ·refine ⟨O,[],[none,none,none,none,none,some (.d (.list [])),none,none],[],false,[],tr4.hc,relN (relN (relN (relN (relN (relS rd4 (relN (relN relZ))))))),by simp,fun H5 s5 _=>?_⟩
  rw [if_neg (by decide)]
  have rfo:oddBy x .none line odd=odd:=rfl
  rw [rfo] at main wa4
  exact main H5 U2 a5 v2 _ fs (tr4.same s5) (lp4.trans (.same s5)) (fun c o h1 h2 h3 h4=>s5 _ _ (by simp) (fr4 c o h1 h2 h4)) su2 fe4 (kn4.trans (.same s5)) (fun c hc=>(al4 c hc).imp_right fun z=>Kn.same s5 c z) (wa4.same s5) (s5 _ _ (by simp) ha4) (reps_monoP (.same s5) ra4) (s5 _ _ (by simp) hf4) (reps_monoP (.same s5) rf4)
 ·refine ⟨O,[],[none,none,none,none,none,some (.d (.list [r])),none,none],[],true,[],tr4.hc,relN (relN (relN (relN (relN (relS rd4 (relN (relN relZ))))))),by simp,fun H5 s5 _=>?_⟩
  rw [if_pos rfl]
  have t5:=tr4.same s5
  have hf5:=s5 _ _ (by simp) hf4
  refine ⟨_,rfl,.inl ⟨rfl,fs,SqL.of hf5⟩,_,rfl,O,[],[none,none,none,none,none,some (.d (.list [r])),none,none],[],.d r,[],t5.hc,relN (relN (relN (relN (relN (relS (rep_monoP (.same s5) rd4) (relN (relN relZ))))))),by simp [show atI [r] (0:Int)=some r from rfl],fun v6 H6 s6 _ rv6=>⟨_,rfl,by show (3:Nat)≤sizeLine; decide,fun t7 ht7=>?_⟩⟩
  have s56:SameX [] H4 H6:=s5.trans s6
  have hf6:=s56 _ _ (by simp) hf4
  refine ⟨f,fs,.ref t7,rfl,rfl,by rw [upd_ne (ne_of_none hf6 ht7)]; exact hf6,by omega,?_⟩
  have t6:=tr4.same s56
  have lpt7:LeP O H6 O (upd H6 t7 (.tup [.str x,v6,.ref b])):=.new ht7 _
  have lpf7:LeP O (upd H6 t7 (.tup [.str x,v6,.ref b])) O (upd (upd H6 t7 (.tup [.str x,v6,.ref b])) f (.lst (fs++[.ref t7]))):=.put (.inl of)
  have lp47:LeP O H4 O (upd (upd H6 t7 (.tup [.str x,v6,.ref b])) f (.lst (fs++[.ref t7]))):=(LeP.same s56).trans (lpt7.trans lpf7)
  have at7:∀ {c o},H4 c=some o→c≠f→upd (upd H6 t7 (.tup [.str x,v6,.ref b])) f (.lst (fs++[.ref t7])) c=some o:=fun {c o} h n=>by rw [upd_ne n,upd_ne (ne_of_none (s56 _ _ (by simp) h) ht7)]; exact s56 _ _ (by simp) h
  have rfo:oddBy x r line odd=odd++[.tuple [.str x,r,line]]:=by
   unfold oddBy
   split
   ·exact absurd rfl hrn
   ·rfl
  refine main _ U2 a5 v2 _ (fs++[.ref t7]) (fun c hc=>?_) (lp4.trans lp47) (fun c o h1 h2 h3 h4=>at7 (fr4 c o h1 h2 h4) h3) su2 fe4 (kn4.trans ((Kn.same s56).trans (Kn.put.trans .put))) (fun c hc=>(al4 c hc).imp_right fun z=>Kn.put c (Kn.put c (Kn.same s56 c z))) (wa4.mono (fun c o hc h=>at7 h fun z=>by subst z; exact nu hf uf hc) lp47 fun _ h=>h) (at7 ha4 naf) (reps_monoP lp47 ra4) upd_same ?_
  ·by_cases z:c=f
   ·subst z; rw [upd_same]; exact .inl ⟨_,rfl⟩
   ·obtain ⟨u,hu⟩:=(tr4 c hc).ex
    rw [at7 hu z,← hu]; exact tr4 c hc
  ·rw [rfo]
   exact Reps.append (reps_monoP lp47 rf4) (.cons (rep_monoP lpf7 (.tup (.inl ⟨t6.fresh ht7,.inl upd_same⟩) (.cons (.str _) (.cons (rep_monoP lpt7 rv6) (.cons (rep_monoP (lp4.trans ((LeP.same s56).trans lpt7)) rl) .nil))))) .nil)
end
end TK
namespace G
open PySem PySem.Spec PyProof.Rows L2 D
theorem atI_in {α:Type} {xs:List α} {i:Int} (h0:0≤i) (h1:i < xs.length):∃ x,atI xs i=some x∧x∈xs:=by
 obtain ⟨n,rfl⟩:=Int.eq_ofNat_of_zero_le h0
 have hn:n < xs.length:=by omega
 exact ⟨xs[n],atI_nat (List.getElem?_eq_getElem hn),List.getElem_mem hn⟩
noncomputable def drwR:FS:=fSeq (fSet 5 (fBin modD (fBin mulD (fBin addD (fBin addD (fBin addD (fBin modD (fVar 3) (fC (.int 999999937))) (fBin mulD (fBin mulD (fC (.int 31)) (fVar 1)) (fVar 1))) (fBin mulD (fC (.int 7)) (fVar 1))) (fC (.int 1))) (fC (.int 48271))) (fC (.int 2147483647)))) (fRet (fBin modD (fBin fdivD (fBin modD (fBin mulD (fBin fdivD (fVar 5) (fC (.int 7))) (fC (.int 69621))) (fC (.int 2147483629))) (fC (.int 5))) (fVar 2)))
theorem mod_in {many:Int} (hm:0 < many) (z:Int):0≤z % many∧z % many < many:=⟨Int.emod_nonneg _ (by omega),Int.emod_lt_of_pos _ hm⟩
theorem drw_rest {ns:List Int} {k many c:Int} {a:Option W} {T:Tp} (hk:0≤k) (hk':k≤100000) (hm:0 < many) (ha:a=none∨∃ i,a=some (.d (.int i))) :
  ∃ r,fnEnd (drwR [some (.d (script ns)),some (.d (.int k)),some (.d (.int many)),some (.d (.int c)),a,none] T)=some (.int r,T)∧0≤r∧r < many:=by
 refine ⟨_,?_,mod_in hm ((c % 999999937 + 31 * k * k + 7 * k + 1) * 48271 % 2147483647 / 7 * 69621 % 2147483629 / 5)⟩
 rcases ha with rfl | ⟨i,rfl⟩
 ·simp [drwR,hm]
  omega
 ·simp [drwR,hm]
  omega
theorem L_draw (ns:List Int) (k many:Int) (T:Tp) (hk:0≤k:=by omega) (hk':k≤100000:=by omega) (hm:0 < many:=by omega) (hl:ns.length≤63:=by omega):∃ r,m__law_draw [.d (script ns),.d (.int k),.d (.int many)] T=some (.int r,T)∧0≤r∧r < many:=by
 by_cases h0:ns.length=0
 ·obtain ⟨r,h,h'⟩:=drw_rest (ns:=ns) (c:=0) (a:=none) (T:=T) hk hk' hm (.inl rfl)
  refine ⟨r,?_,h'⟩
  rw [← h]
  unfold drwR
  simp [m__law_draw,script,h0]
 ·obtain ⟨x,hx,_⟩:=atI_in (xs:=ns) (i:=k % (ns.length:Int)) (mod_in (by omega) k).1 (mod_in (by omega) k).2
  have hx':atI (ns.map PyData.int) (k % (ns.length:Int))=some (.int x):=by
   unfold atI at hx ⊢
   rw [List.length_map]
   cases e:ixN ns.length (k % (ns.length:Int)) with
   | none=>rw [e] at hx; cases hx
   | some j=>
    rw [e] at hx
    show (ns.map PyData.int)[j]? = _
    rw [List.getElem?_map,show ns[j]? = some x from hx]
    rfl
  have hp:(0:Int) < ns.length:=by omega
  have hpn:0 < ns.length:=by omega
  have hd:=Int.ediv_nonneg hk (Int.le_of_lt hp)
  have hp2:(ns.length:Int) < 1073741824:=by omega
  have pw:(10:Int) ^ 18=1000000000000000000:=by decide
  have hs:(0:Int)≤7 * (if k / (ns.length:Int) < 90 then k / (ns.length:Int) else 90):=by split <;> omega
  by_cases hc:1000000000000000000≤x∧127 < x / 2 ^ (7 * (if k / (ns.length:Int) < 90 then k / (ns.length:Int) else 90)).toNat
  ·refine ⟨_,?_,mod_in hm (x / 2 ^ (7 * (if k / (ns.length:Int) < 90 then k / (ns.length:Int) else 90)).toNat)⟩
   simp [m__law_draw,script,hp,hpn,hx',hp2,hs,hc.1,hc.2,hm,pw]
  ·obtain ⟨r,h,h'⟩:=drw_rest (ns:=ns) (c:=x) (a:=some (.d (.int (x / 2 ^ (7 * (if k / (ns.length:Int) < 90 then k / (ns.length:Int) else 90)).toNat)))) (T:=T) hk hk' hm (.inr ⟨_,rfl⟩)
   refine ⟨r,?_,h'⟩
   rw [← h]
   by_cases h1:1000000000000000000≤x
   ·have h2:¬ 127 < x / 2 ^ (7 * (if k / (ns.length:Int) < 90 then k / (ns.length:Int) else 90)).toNat:=fun z=>hc ⟨h1,z⟩
    unfold drwR
    simp [m__law_draw,script,hp,hpn,hx',hp2,hs,h1,h2,pw]
   ·unfold drwR
    simp [m__law_draw,script,hp,hpn,hx',hp2,hs,h1,pw]
end G
namespace G
open PySem PySem.Spec PyProof.Rows L2 D
noncomputable def menu:List Str:=[Str.ofString "a",Str.ofString "ab",Str.ofString "abc",Str.ofString "b",Str.ofString "told",Str.ofString "made",Str.ofString "say",Str.ofString "want",Str.ofString "wants",Str.ofString "ba",Str.ofString "zz",Str.ofString "x"]
theorem menu_len {x:Str} (h:x∈menu):x.length≤5:=by
 simp only [menu,List.mem_cons,List.not_mem_nil,or_false] at h
 rcases h with h | h | h | h | h | h | h | h | h | h | h | h <;> subst h <;> decide
noncomputable def Lo (x:Str):Prop:=∀ c∈x.cps.toList,c < 128
theorem lo_of {x:Str} (h:(x.cps.toList.all fun c=>decide (c < 128))=true):Lo x:=fun c hc=>of_decide_eq_true (List.all_eq_true.mp h c hc)
theorem Lo.app {x y:Str} (h:Lo x) (g:Lo y):Lo (x++y):=fun c hc=>by
 rw [cps_toList_append] at hc
 rcases List.mem_append.mp hc with k | k
 ·exact h c k
 ·exact g c k
theorem Lo.join {z:Str} (hz:Lo z):∀ {xs:List Str},(∀ x∈xs,Lo x)→Lo (Str.join z xs)
 | [],_=>fun c hc=>by cases hc
 | [a],h=>h a List.mem_cons_self
 | a::b::r,h=>by
  have e:Str.join z (a::b::r)=a++z++Str.join z (b::r):=rfl
  rw [e]
  exact ((h a List.mem_cons_self).app hz).app (Lo.join hz fun x hx=>h x (List.mem_cons_of_mem _ hx))
theorem menu_lo {x:Str} (h:x∈menu):Lo x:=by
 simp only [menu,List.mem_cons,List.not_mem_nil,or_false] at h
 rcases h with h | h | h | h | h | h | h | h | h | h | h | h <;> subst h <;> exact lo_of (by decide +kernel)
structure Nms (xs:List Str):Prop where
 few:4≤xs.length
 most:xs.length≤7
 inm:∀ x∈xs,x∈menu
theorem compL_ex {e:FE} {ρ:Rho} {T:Tp} {Q:PyData→Prop}:∀ {ds:List PyData},(∀ d∈ds,∃ y,e (some (.d d)::ρ) T=some (.d y,T)∧Q y)→∃ ys,compL fTrue e ρ ds T=some (ys,T)∧ys.length=ds.length∧∀ y∈ys,Q y
 | [],_=>⟨[],rfl,rfl,fun y hy=>by cases hy⟩
 | d::r,h=>by
  obtain ⟨y,e1,q1⟩:=h d List.mem_cons_self
  obtain ⟨ys,e2,l2,q2⟩:=compL_ex (ds:=r) fun x hx=>h x (List.mem_cons_of_mem _ hx)
  refine ⟨y::ys,?_,by simp [l2],fun z hz=>?_⟩
  ·unfold compL
   simp [e1,e2]
  ·rcases List.mem_cons.mp hz with k | k
   ·subst k; exact q1
   ·exact q2 z k
theorem nums_mem {lo:Int} {n:Nat} {d:PyData} (h:d∈numsD lo n):∃ i:Int,d=.int i∧lo≤i∧i < lo + n:=by
 obtain ⟨i,hi,rfl⟩:=List.mem_map.mp h
 have:=List.mem_range.mp hi
 exact ⟨_,rfl,by omega,by omega⟩
theorem nums_len {lo:Int} {n:Nat}:(numsD lo n).length=n:=by simp [numsD]
theorem strs_ex {P:Str→Prop}:∀ {ys:List PyData},(∀ y∈ys,∃ x,y=.str x∧P x)→∃ xs:List Str,ys=xs.map .str∧∀ x∈xs,P x
 | [],_=>⟨[],rfl,fun _ h=>by cases h⟩
 | y::r,h=>by
  obtain ⟨x,rfl,p⟩:=h y List.mem_cons_self
  obtain ⟨xs,rfl,q⟩:=strs_ex (ys:=r) fun z hz=>h z (List.mem_cons_of_mem _ hz)
  exact ⟨x::xs,rfl,fun z hz=>by
   rcases List.mem_cons.mp hz with k | k
   ·subst k; exact p
   ·exact q z k⟩
theorem rng_small {j:Int} (h0:0≤j) (h1:j≤1000):rngOk j=true:=by unfold rngOk; simp; omega
theorem in4 {r:Int} (h0:0≤r) (h1:r < 4):r=0∨r=1∨r=2∨r=3:=by omega
theorem L_names (ns:List Int) (k:Int) (T:Tp) (hk:0≤k) (hk':k≤90000) (hl:ns.length≤63):∃ xs,m__law_names [.d (script ns),.d (.int k)] T=some (.list (xs.map .str),T)∧Nms xs:=by
 obtain ⟨r0,e0,a0,b0⟩:=L_draw ns k 12 T
 obtain ⟨r1,e1,a1,b1⟩:=L_draw ns (k + 1) 4 T
 obtain ⟨r2,e2,a2,b2⟩:=L_draw ns (k + 2) 4 T
 have st:∃ s:Int,atI [PyData.int 1,.int 5,.int 7,.int 11] r1=some (.int s)∧0 < s∧s≤11:=by
  rcases in4 a1 b1 with rfl | rfl | rfl | rfl
  ·exact ⟨1,rfl,by decide,by decide⟩
  ·exact ⟨5,rfl,by decide,by decide⟩
  ·exact ⟨7,rfl,by decide,by decide⟩
  ·exact ⟨11,rfl,by decide,by decide⟩
 obtain ⟨s,e3,a3,b3⟩:=st
 have hc:=compL_ex (e:=fBin ixD (fVar 3) (fBin modD (fBin addD (fVar 4) (fBin mulD (fVar 5) (fVar 0))) (fC (.int 12)))) (T:=T) (ρ:=[some (.d (script ns)),some (.d (.int k)),some (.d (.list (menu.map .str))),some (.d (.int r0)),some (.d (.int s))]) (ds:=numsD 0 (4 + r2).toNat) (Q:=fun y=>∃ x,y=.str x∧x∈menu) fun d hd=>by
  obtain ⟨i,rfl,c1,c2⟩:=nums_mem hd
  have hm:=mod_in (show (0:Int) < 12 by decide) (r0 + s * i)
  obtain ⟨x,f1,f2⟩:=atI_in (xs:=menu.map PyData.str) (i:=(r0 + s * i) % 12) hm.1 (by simpa [menu] using hm.2)
  obtain ⟨z,g1,rfl⟩:=List.mem_map.mp f2
  refine ⟨.str z,?_,z,rfl,g1⟩
  have hb:(-18446744073709551616 < s∧s < 18446744073709551616):=by omega
  simp [hb,f1]
 obtain ⟨ys,c1,c2,c3⟩:=hc
 obtain ⟨xs,rfl,c4⟩:=strs_ex c3
 rw [nums_len,List.length_map] at c2
 refine ⟨xs,?_,by omega,by omega,c4⟩
 unfold menu at c1
 have h4:rngOk (4 + r2)=true:=rng_small (by omega) (by omega)
 simp only [List.map_cons,List.map_nil] at c1
 simp [m__law_names,e0,e1,e2,e3,h4,c1]
end G
namespace G
open PySem PySem.Spec PyProof.Rows L2 D
noncomputable abbrev SS:=Str×Str
noncomputable def enD (e:SS):PyData:=.tuple [.str e.1,.str e.2]
noncomputable def rdD (rs:List SS):List PyData:=rs.map enD
noncomputable def lnD (n:Str) (rs:List SS) (e:SS):PyData:=.tuple [.str n,.tuple (rdD rs),enD e]
noncomputable def nxt:List SS→SS→SS
 | [],e=>e
 | p::_,_=>(Str.ofString "wants",p.1)
noncomputable def cpl:List SS→List SS→Nat
 | p::r,q::s=>if p=q then cpl r s + 1 else 0
 | _,_=>0
noncomputable def odds (r:List SS) (e:SS) (s:List SS) (f:SS):Bool:=decide (nxt (r.drop (cpl r s)) e≠nxt (s.drop (cpl r s)) f)
theorem odds_cons (p:SS) (r:List SS) (e:SS) (s:List SS) (f:SS):odds (p::r) e (p::s) f=odds r e s f:=by
 unfold odds
 simp [cpl]
theorem odds_self:∀ (r:List SS) (e:SS),odds r e r e=false
 | [],e=>by simp [odds,nxt]
 | p::r,e=>by rw [odds_cons]; exact odds_self r e
theorem ok_str {x:Str} (h:Lo x):PyData.strOk x=true:=by
 unfold PyData.strOk
 rw [← Array.all_toList,List.all_eq_true]
 intro c hc
 exact decide_eq_true (Nat.lt_trans (h c hc) (by decide))
noncomputable def OkE (e:SS):Prop:=Lo e.1∧Lo e.2
noncomputable def OkR (r:List SS):Prop:=∀ p∈r,OkE p
theorem lo_wants:Lo (Str.ofString "wants"):=lo_of (by decide +kernel)
theorem sh_str {x:Str} (h:Lo x):SeqAt.shaped (.str x)=true:=by simp [SeqAt.shaped,PyData.canLay0,PyData.depth,ok_str h]
theorem sh_en {e:SS} (h:OkE e):SeqAt.shaped (enD e)=true:=by simp [SeqAt.shaped,enD,PyData.canLay0,PyData.canLayAll0,PyData.depth,PyData.depthAll,ok_str h.1,ok_str h.2]
theorem eqv_en (a b:SS):PyData.eqv (enD a) (enD b)=decide (a=b):=by
 obtain ⟨a1,a2⟩:=a
 obtain ⟨b1,b2⟩:=b
 rw [Bool.eq_iff_iff]
 simp [enD,PyData.eqv,PyData.eqvAll]
theorem eqG_en {a b:SS} (h:OkE a) (g:OkE b):eqG (enD a) (enD b)=some (.bool (decide (a=b))):=by
 unfold eqG
 rw [if_pos ⟨sh_en h,sh_en g⟩,eqv_en]
theorem neG_en {a b:SS} (h:OkE a) (g:OkE b):neG (enD a) (enD b)=some (.bool (!decide (a=b))):=by
 unfold neG
 rw [if_pos ⟨sh_en h,sh_en g⟩,eqv_en]
theorem neG_str {a b:Str} (h:Lo a) (g:Lo b):neG (.str a) (.str b)=some (.bool (!decide (a=b))):=by
 unfold neG
 rw [if_pos ⟨sh_str h,sh_str g⟩]
 have:PyData.eqv (.str a) (.str b)=decide (a=b):=by
  rw [Bool.eq_iff_iff]
  simp [PyData.eqv]
 rw [this]
theorem neG_sn {a:Str} (h:Lo a):neG (.str a) .none=some (.bool true):=by
 unfold neG
 rw [if_pos ⟨sh_str h,by rfl⟩]
 rfl
theorem neG_ns {a:Str} (h:Lo a):neG .none (.str a)=some (.bool true):=by
 unfold neG
 rw [if_pos ⟨by rfl,sh_str h⟩]
 rfl
theorem neG_nn:neG .none .none=some (.bool false):=rfl
theorem okN {r:List SS} {e:SS} (hr:OkR r) (he:OkE e):OkE (nxt r e):=by
 cases r with
 | nil=>exact he
 | cons p r=>exact ⟨lo_wants,(hr p List.mem_cons_self).1⟩
theorem okD {r:List SS} (hr:OkR r) (k:Nat):OkR (r.drop k):=fun p hp=>hr p (List.mem_of_mem_drop hp)
theorem rd_at {r:List SS} {i:Nat} {p:SS} (h:r[i]? = some p):atI (rdD r) (i:Int)=some (enD p):=atI_nat (by unfold rdD; rw [List.getElem?_map,h]; rfl)
noncomputable def alC:FT:=(fAndT (fTst (fBin ltD (fVar 2) (fCB minD2 (fCons (fCB lenD (fCons (fVar 0) fNil)) (fCons (fCB lenD (fCons (fVar 1) fNil)) fNil))))) (fTst (fBin eqG (fBin ixD (fVar 0) (fVar 2)) (fBin ixD (fVar 1) (fVar 2)))))
noncomputable def alB:FS:=(fSet 2 (fBin addD (fVar 2) (fC (.int 1))))
theorem al_loop (r s:List SS) (hr0:OkR r) (hs0:OkR s) (T:Tp):∀ (m i:Nat),i≤r.length→i≤s.length→r.length - i < m →
  whileF alC alB m [some (.d (.tuple (rdD r))),some (.d (.tuple (rdD s))),some (.d (.int i))] T=some ((.nx,[some (.d (.tuple (rdD r))),some (.d (.tuple (rdD s))),some (.d (.int ((i + cpl (r.drop i) (s.drop i):Nat):Int)))]),T)
 | 0,_,_,_,h=>by omega
 | m + 1,i,h1,h2,h3=>by
  have l1:(rdD r).length=r.length:=by simp [rdD]
  have l2:(rdD s).length=s.length:=by simp [rdD]
  by_cases hr:i < r.length∧i < s.length
  ·have e1:r[i]? = some r[i]:=List.getElem?_eq_getElem hr.1
   have e2:s[i]? = some s[i]:=List.getElem?_eq_getElem hr.2
   have d1:r.drop i=r[i]::r.drop (i + 1):=List.drop_eq_getElem_cons hr.1
   have d2:s.drop i=s[i]::s.drop (i + 1):=List.drop_eq_getElem_cons hr.2
   have mp:((i:Int) < if s.length < r.length then (s.length:Int) else (r.length:Int)):=by split <;> omega
   have k1:=hr0 _ (List.mem_of_getElem? e1)
   have k2:=hs0 _ (List.mem_of_getElem? e2)
   have eg:=eqG_en k1 k2
   by_cases hq:r[i]=s[i]
   ·have ih:=al_loop r s hr0 hs0 T m (i + 1) hr.1 hr.2 (by omega)
    have ec:alC [some (.d (.tuple (rdD r))),some (.d (.tuple (rdD s))),some (.d (.int i))] T=some (true,T):=by
     have eg':=eqG_en k2 k2
     simp [alC,l1,l2,mp,rd_at e1,rd_at e2,hq,eg']
    have eb:alB [some (.d (.tuple (rdD r))),some (.d (.tuple (rdD s))),some (.d (.int i))] T=some ((.nx,[some (.d (.tuple (rdD r))),some (.d (.tuple (rdD s))),some (.d (.int ((i + 1:Nat):Int)))]),T):=by
     simp [alB]
    have ed:i + 1 + cpl (r.drop (i + 1)) (s.drop (i + 1))=i + cpl (r.drop i) (s.drop i):=by
     rw [d1,d2]
     conv=>rhs; unfold cpl
     rw [if_pos hq]
     omega
    rw [ed] at ih
    unfold whileF
    rw [ec,ev_bnd,if_pos rfl,eb,ev_bnd]
    exact ih
   ·have ec:alC [some (.d (.tuple (rdD r))),some (.d (.tuple (rdD s))),some (.d (.int i))] T=some (false,T):=by
     simp [alC,l1,l2,mp,rd_at e1,rd_at e2,eg,hq]
    have ed:cpl (r.drop i) (s.drop i)=0:=by
     rw [d1,d2]
     unfold cpl
     rw [if_neg hq]
    unfold whileF
    rw [ec,ev_bnd,if_neg Bool.false_ne_true,ed]
    rfl
  ·have mp:¬ ((i:Int) < if s.length < r.length then (s.length:Int) else (r.length:Int)):=by split <;> omega
   have ec:alC [some (.d (.tuple (rdD r))),some (.d (.tuple (rdD s))),some (.d (.int i))] T=some (false,T):=by
    simp [alC,l1,l2,mp]
   have ed:cpl (r.drop i) (s.drop i)=0:=by
    by_cases h:i < r.length
    ·rw [List.drop_eq_nil_of_le (show s.length≤i by omega)]
     cases r.drop i <;> rfl
    ·rw [List.drop_eq_nil_of_le (show r.length≤i by omega)]
     rfl
   unfold whileF
   rw [ec,ev_bnd,if_neg Bool.false_ne_true,ed]
   rfl
theorem L_alike (r s:List SS) (T:Tp) (hr0:OkR r) (hs0:OkR s) (h:r.length≤1000):m_many_alike [.d (.tuple (rdD r)),.d (.tuple (rdD s))] T=some (.int (cpl r s),T):=by
 have e:=al_loop r s hr0 hs0 T 100000 0 (Nat.zero_le _) (Nat.zero_le _) (by omega)
 have e0:m_many_alike=mkFn 3 (fSeq (fSet 2 (fC (.int 0))) (fSeq (whileF alC alB 100000) (fRet (fVar 2)))):=rfl
 simp only [List.drop_zero,Nat.zero_add,Int.natCast_zero] at e
 simp [e0,e]
theorem at3 {α:Type} {a b c:α}:atI [a,b,c] 0=some a∧atI [a,b,c] 1=some b∧atI [a,b,c] 2=some c:=⟨rfl,rfl,rfl⟩
theorem at2' {α:Type} {a b:α}:atI [a,b] 0=some a∧atI [a,b] 1=some b:=⟨rfl,rfl⟩
theorem L_next (n:Str) (r:List SS) (e:SS) (k:Nat) (T:Tp):m_next_at [.d (lnD n r e),.d (.int k)] T=some (enD (nxt (r.drop k) e),T):=by
 have l1:(rdD r).length=r.length:=by simp [rdD]
 by_cases h:k < r.length
 ·have e1:r[k]? = some r[k]:=List.getElem?_eq_getElem h
  have d1:r.drop k=r[k]::r.drop (k + 1):=List.drop_eq_getElem_cons h
  rw [d1]
  have ix:=rd_at e1
  generalize r[k]=p at ix
  have h':(k:Int) < (r.length:Int):=by omega
  simp [m_next_at,lnD,at3,l1,h,ix,nxt,enD,at2']
 ·rw [List.drop_eq_nil_of_le (by omega)]
  simp [m_next_at,lnD,at3,l1,h,nxt,enD]
theorem L_odds (n m:Str) (r s:List SS) (e f:SS) (T:Tp) (h:r.length≤1000) (hr0:OkR r) (hs0:OkR s) (he:OkE e) (hf:OkE f):m_at_odds [.d (lnD n r e),.d (lnD m s f)] T=some (.bool (odds r e s f),T):=by
 have a:=L_alike r s T hr0 hs0 h
 have ng:=neG_en (okN (okD hr0 (cpl r s)) he) (okN (okD hs0 (cpl r s)) hf)
 have i1:∀ (n:Str) (r:List SS) (e:SS),ixD (lnD n r e) (.int 1)=some (.tuple (rdD r)):=fun _ _ _=>rfl
 have d:(!decide (nxt (r.drop (cpl r s)) e=nxt (s.drop (cpl r s)) f))=odds r e s f:=by
  unfold odds
  exact (decide_not).symm
 simp [m_at_odds,i1,a,L_next,ng,d]
noncomputable def stD (p:SS):PyData:=.tuple [enD (Str.ofString "wants",p.1),.str p.2]
noncomputable def lsD (e:SS):PyData:=.tuple [enD e,.none]
theorem L_steps (n:Str) (r:List SS) (e:SS) (T:Tp) (h:r.length≤1000):m__law_steps [.d (lnD n r e)] T=some (.list (r.map stD++[lsD e]),T):=by
 have i1:ixD (lnD n r e) (.int 1)=some (.tuple (rdD r)):=rfl
 have i2:ixD (lnD n r e) (.int 2)=some (enD e):=rfl
 have c:∀ (ρ:Rho) (r:List SS),compL2 fTrue (fSeqD .tuple (fCons (fSeqD .tuple (fCons (fC (.str (Str.ofString "wants"))) (fCons (fVar 0) fNil))) (fCons (fVar 1) fNil))) ρ (rdD r) T=some (r.map stD,T):=fun ρ r=>by
  induction r with
  | nil=>rfl
  | cons p r ih=>
   have e0:rdD (p::r)=.tuple [.str p.1,.str p.2]::rdD r:=rfl
   rw [e0]
   unfold compL2
   simp [ih]
   rfl
 have z:r.length + 1≤sizeLine:=by
  have:sizeLine=16777216:=by decide
  omega
 have fc:∀ {it:FI} {c:FT} {f:FE} {ρ:Rho} {T:Tp},fComp2 it c f ρ T=bnd (it ρ T) fun ds T1=>bnd (compL2 c f ρ ds T1) fun ys T2=>some (.d (.list ys),T2):=rfl
 have ls:PyData.tuple [enD e,.none]=lsD e:=rfl
 simp [m__law_steps,fc,i1,i2,c,z,ls]
noncomputable def odB:FS:=(fSeq (fIf (fTst (fBin neG (fBin ixD (fVar 2) (fC (.int 0))) (fBin ixD (fVar 3) (fC (.int 0))))) (fRet (fC (.bool true))) fNext) (fIf (fTst (fBin neG (fBin ixD (fVar 2) (fC (.int 1))) (fBin ixD (fVar 3) (fC (.int 1))))) (fRet (fC (.bool false))) fNext))
theorem od_turn {a b:SS} (ha:OkE a) (hb:OkE b) (x y:PyData) (c:Bool) (h:neG x y=some (.bool c)) (A B:W) (u v:Option W) (T:Tp):odB [some A,some B,some (.d (.tuple [enD a,x])),some (.d (.tuple [enD b,y]))] T =
  if a≠b then some ((.rt (.bool true),[some A,some B,some (.d (.tuple [enD a,x])),some (.d (.tuple [enD b,y]))]),T) else if c=true then some ((.rt (.bool false),[some A,some B,some (.d (.tuple [enD a,x])),some (.d (.tuple [enD b,y]))]),T) else some ((.nx,[some A,some B,some (.d (.tuple [enD a,x])),some (.d (.tuple [enD b,y]))]),T):=by
 by_cases hab:a=b
 ·subst hab
  cases c <;> simp [odB,at2',neG_en ha hb,h]
 ·cases c <;> simp [odB,at2',neG_en ha hb,h,hab]
theorem od_loop (A B:W) (T:Tp):∀ (r s:List SS) (e f:SS) (u v:Option W),OkR r→OkR s→OkE e→OkE f→∃ ρ',bnd (forZ 2 3 odB (r.map stD++[lsD e]) (s.map stD++[lsD f]) [some A,some B,u,v] T) (seqK (fRet (fC (.bool false))))=some ((.rt (.bool (odds r e s f)),ρ'),T)
 | [],[],e,f,u,v,hr,hs,he,hf=>by
  have t:=od_turn he hf .none .none false neG_nn A B u v T
  refine ⟨[some A,some B,some (.d (lsD e)),some (.d (lsD f))],?_⟩
  simp only [List.map_nil,List.nil_append,lsD]
  unfold forZ
  by_cases h:e=f
  ·have o:odds [] e [] f=false:=by rw [h]; exact odds_self _ _
   rw [o]
   simp only [h,ne_eq,not_true_eq_false,if_false,Bool.false_eq_true] at t
   simp [h,t,forZ]
  ·have o:odds [] e [] f=true:=by simp [odds,nxt,h]
   rw [o]
   simp only [h,ne_eq,not_false_eq_true,if_true] at t
   simp [t]
 | [],q::s,e,f,u,v,hr,hs,he,hf=>by
  have kq:=hs q List.mem_cons_self
  have t:=od_turn he (b:=(Str.ofString "wants",q.1)) ⟨lo_wants,kq.1⟩ .none (.str q.2) true (neG_ns kq.2) A B u v T
  have o:odds [] e (q::s) f=decide (e≠(Str.ofString "wants",q.1)):=by simp [odds,nxt,cpl]
  refine ⟨[some A,some B,some (.d (lsD e)),some (.d (stD q))],?_⟩
  rw [o]
  simp only [List.map_nil,List.nil_append,List.map_cons,List.cons_append,lsD,stD]
  unfold forZ
  by_cases h:e=(Str.ofString "wants",q.1)
  ·simp only [h,ne_eq,not_true_eq_false,if_false,if_true] at t
   simp [h,t]
  ·simp only [h,ne_eq,not_false_eq_true,if_true] at t
   simp [h,t]
 | p::r,[],e,f,u,v,hr,hs,he,hf=>by
  have kp:=hr p List.mem_cons_self
  have t:=od_turn (a:=(Str.ofString "wants",p.1)) ⟨lo_wants,kp.1⟩ hf (.str p.2) .none true (neG_sn kp.2) A B u v T
  have o:odds (p::r) e [] f=decide ((Str.ofString "wants",p.1)≠f):=by simp [odds,nxt,cpl]
  refine ⟨[some A,some B,some (.d (stD p)),some (.d (lsD f))],?_⟩
  rw [o]
  simp only [List.map_nil,List.nil_append,List.map_cons,List.cons_append,lsD,stD]
  unfold forZ
  by_cases h:(Str.ofString "wants",p.1)=f
  ·simp only [h,ne_eq,not_true_eq_false,if_false,if_true] at t
   simp [h,t]
  ·simp only [h,ne_eq,not_false_eq_true,if_true] at t
   simp [h,t]
 | p::r,q::s,e,f,u,v,hr,hs,he,hf=>by
  have kp:=hr p List.mem_cons_self
  have kq:=hs q List.mem_cons_self
  have t:=od_turn (a:=(Str.ofString "wants",p.1)) (b:=(Str.ofString "wants",q.1)) ⟨lo_wants,kp.1⟩ ⟨lo_wants,kq.1⟩ (.str p.2) (.str q.2) _ (neG_str kp.2 kq.2) A B u v T
  simp only [List.map_cons,List.cons_append]
  by_cases h1:p.1=q.1
  ·by_cases h2:p.2=q.2
   ·have hp:p=q:=Prod.ext h1 h2
    subst hp
    obtain ⟨ρ',ih⟩:=od_loop A B T r s e f (some (.d (stD p))) (some (.d (stD p))) (fun x hx=>hr x (List.mem_cons_of_mem _ hx)) (fun x hx=>hs x (List.mem_cons_of_mem _ hx)) he hf
    refine ⟨ρ',?_⟩
    rw [odds_cons,← ih]
    have t':odB [some A,some B,some (.d (stD p)),some (.d (stD p))] T=some ((.nx,[some A,some B,some (.d (stD p)),some (.d (stD p))]),T):=by
     unfold stD
     rw [t]
     simp
    conv=>lhs; unfold forZ
    simp [t']
   ·have o:odds (p::r) e (q::s) f=false:=by
     have hp:p≠q:=fun z=>h2 (by rw [z])
     simp [odds,cpl,hp,nxt,h1]
    refine ⟨[some A,some B,some (.d (stD p)),some (.d (stD q))],?_⟩
    rw [o]
    unfold forZ
    simp only [stD]
    simp only [h1,h2,ne_eq,not_true_eq_false,if_false,decide_false,Bool.not_false,if_true] at t
    simp [h1,t]
  ·have o:odds (p::r) e (q::s) f=true:=by
    have hp:p≠q:=fun z=>h1 (by rw [z])
    simp [odds,cpl,hp,nxt,h1]
   refine ⟨[some A,some B,some (.d (stD p)),some (.d (stD q))],?_⟩
   rw [o]
   unfold forZ
   simp only [stD]
   simp [t,h1]
theorem L_lodds (n m:Str) (r s:List SS) (e f:SS) (T:Tp) (h:r.length≤1000) (h':s.length≤1000) (hr0:OkR r) (hs0:OkR s) (he:OkE e) (hf:OkE f):m__law_odds [.d (lnD n r e),.d (lnD m s f)] T=some (.bool (odds r e s f),T):=by
 obtain ⟨ρ',l⟩:=od_loop (.d (lnD n r e)) (.d (lnD m s f)) T r s e f none none hr0 hs0 he hf
 have e0:m__law_odds=mkFn 4 (fSeq (fForZ 2 3 (fCall m__law_steps (fCons (fVar 0) fNil)) (fCall m__law_steps (fCons (fVar 1) fNil)) odB) (fRet (fC (.bool false)))):=rfl
 have fz:∀ {i j:Nat} {f g:FE} {body:FS} {ρ:Rho} {T:Tp},fForZ i j f g body ρ T=bnd (f ρ T) fun w T1=>bnd (g ρ T1) fun u T2=>forZK i j body ρ w u T2:=rfl
 have fk:∀ {i j:Nat} {body:FS} {ρ:Rho} {xs ys:List PyData} {T:Tp},forZK i j body ρ (.d (.list xs)) (.d (.list ys)) T=forZ i j body xs ys ρ T:=rfl
 simp only [e0,ev_mk,ev_noLocD,ev_noLoc0,if_true,ev_seq,fz,ev_call,ev_cons,ev_consK,List.map_cons,List.map_nil,List.cons_append,List.nil_append,ev_nil,ev_bnd,ev_var0,ev_var1,L_steps n r e T h,L_steps m s f T h',fk]
 show fnEnd (bnd (forZ 2 3 odB _ _ [some (.d (lnD n r e)),some (.d (lnD m s f)),none,none] T) _)=_
 rw [l]
 rfl
end G
namespace G
open PySem PySem.Spec PyProof.Rows L2 D
theorem sz:sizeLine=16777216:=by decide
theorem in3 {r:Int} (h0:0≤r) (h1:r < 3):r=0∨r=1∨r=2:=by omega
theorem in7 {r:Int} (h0:0≤r) (h1:r < 7):r=0∨r=1∨r=2∨r=3∨r=4∨r=5∨r=6:=by omega
theorem in8 {r:Int} (h0:0≤r) (h1:r < 8):r=0∨r=1∨r=2∨r=3∨r=4∨r=5∨r=6∨r=7:=by omega
noncomputable def fzO (o:Option W):Option W:=(frzR [o]).headD none
theorem ev_frzC {o:Option W} {r:Rho}:frzR (o::r)=fzO o::frzR r:=rfl
@[simp] theorem ev_fzN:fzO none=none:=rfl
@[simp] theorem ev_fzD {x:PyData}:fzO (some (.d x))=some (.d x):=rfl
@[simp] theorem ev_fzL {x:PyData}:fzO (some (.loc x))=some (.d x):=rfl
noncomputable def OkT (e:SS):Prop:=e.1.cps.size≤5∧e.2.cps.size≤5
noncomputable def olB:FS:=(fSeq (fSet 4 (fBin ixD (fSeqD .list (fCons (fC (.str (Str.ofString "a"))) (fCons (fC (.str (Str.ofString "a"))) (fCons (fC (.str (Str.ofString "ab"))) (fCons (fC (.str (Str.ofString "b"))) fNil))))) (fCall m__law_draw (fCons (fVar 0) (fCons (fBin addD (fBin addD (fVar 1) (fC (.int 1))) (fBin mulD (fC (.int 2)) (fVar 3))) (fCons (fC (.int 4)) fNil)))))) (fApp 2 (fSeqD .tuple (fCons (fVar 4) (fCons (fBin ixD (fSeqD .list (fCons (fC (.str (Str.ofString "1"))) (fCons (fC (.str (Str.ofString "'a"))) (fCons (fC (.str (Str.ofString "()"))) fNil)))) (fCall m__law_draw (fCons (fVar 0) (fCons (fBin addD (fBin addD (fVar 1) (fC (.int 2))) (fBin mulD (fC (.int 2)) (fVar 3))) (fCons (fC (.int 3)) fNil))))) fNil)))))
theorem ol_loop (ns:List Int) (k:Int) (T:Tp) (hk:0≤k) (hk':k≤90000) (hl:ns.length≤63):∀ (ds:List PyData),(∀ d∈ds,∃ i:Int,d=.int i∧0≤i∧i < 4)→∀ (rs:List SS) (a b:Option W),rs.length + ds.length≤1000 →
  ∃ more a' b',forL 3 olB ds [some (.d (script ns)),some (.d (.int k)),some (.loc (.list (rdD rs))),a,b,none] T=some ((.nx,[some (.d (script ns)),some (.d (.int k)),some (.loc (.list (rdD (rs++more)))),a',b',none]),T)∧more.length=ds.length∧OkR more∧∀ p∈more,OkT p
 | [],_,rs,a,b,_=>⟨[],a,b,by simp [forL],rfl,fun p hp=>(by cases hp),fun p hp=>by cases hp⟩
 | d::ds,h,rs,a,b,hz=>by
  obtain ⟨i,rfl,h0,h1⟩:=h d List.mem_cons_self
  obtain ⟨r1,e1,a1,b1⟩:=L_draw ns (k + 1 + 2 * i) 4 T
  obtain ⟨r2,e2,a2,b2⟩:=L_draw ns (k + 2 + 2 * i) 3 T
  have hn:∃ n:Str,atI [PyData.str (Str.ofString "a"),.str (Str.ofString "a"),.str (Str.ofString "ab"),.str (Str.ofString "b")] r1=some (.str n)∧Lo n∧n.cps.size≤5:=by
   rcases in4 a1 b1 with rfl | rfl | rfl | rfl <;> exact ⟨_,rfl,lo_of (by decide +kernel),by decide +kernel⟩
  have hs:∃ n:Str,atI [PyData.str (Str.ofString "1"),.str (Str.ofString "'a"),.str (Str.ofString "()")] r2=some (.str n)∧Lo n∧n.cps.size≤5:=by
   rcases in3 a2 b2 with rfl | rfl | rfl <;> exact ⟨_,rfl,lo_of (by decide +kernel),by decide +kernel⟩
  obtain ⟨n,en,on,tn⟩:=hn
  obtain ⟨s,es,os,tss⟩:=hs
  obtain ⟨more,a',b',e,l,o,ot⟩:=ol_loop ns k T hk hk' hl ds (fun x hx=>h x (List.mem_cons_of_mem _ hx)) (rs++[(n,s)]) (some (.d (.int i))) (some (.d (.str n))) (by simp at hz ⊢; omega)
  refine ⟨(n,s)::more,a',b',?_,by simp [l],fun p hp=>?_,fun p hp=>?_⟩
  ·have z:(rdD rs).length < sizeLine:=by rw [sz]; simp [rdD] at hz ⊢; omega
   have hm:(-18446744073709551616 < i∧i < 18446744073709551616):=by omega
   have rr:rdD rs++[.tuple [.str n,.str s]]=rdD (rs++[(n,s)]):=by simp [rdD,enD]
   have eb:olB [some (.d (script ns)),some (.d (.int k)),some (.loc (.list (rdD rs))),some (.d (.int i)),b,none] T=some ((.nx,[some (.d (script ns)),some (.d (.int k)),some (.loc (.list (rdD (rs++[(n,s)])))),some (.d (.int i)),some (.d (.str n)),none]),T):=by
    simp [olB,e1,e2,en,es,z,rr]
   unfold forL
   simp only [List.append_assoc,List.singleton_append] at e
   simp [eb,e]
  ·rcases List.mem_cons.mp hp with z | z
   ·subst z; exact ⟨on,os⟩
   ·exact o p z
  ·rcases List.mem_cons.mp hp with z | z
   ·subst z; exact ⟨tn,tss⟩
   ·exact ot p z
noncomputable def endsL:List PyData:=[enD (Str.ofString "made",Str.ofString "1"),enD (Str.ofString "made",Str.ofString "'"),enD (Str.ofString "fails",Str.ofString "a"),enD (Str.ofString "fails",Str.ofString "ab"),enD (Str.ofString "wants",Str.ofString "a"),enD (Str.ofString "wants",Str.ofString "b"),enD (Str.ofString "wants",Str.ofString "ab")]
theorem ends_at {r:Int} (h0:0≤r) (h1:r < 7):∃ e,atI endsL r=some (enD e)∧OkE e∧OkT e:=by
 rcases in7 h0 h1 with rfl | rfl | rfl | rfl | rfl | rfl | rfl <;> exact ⟨_,rfl,⟨lo_of (by decide +kernel),lo_of (by decide +kernel)⟩,by decide +kernel,by decide +kernel⟩
structure Lne (n:Str) (r:List SS) (e:SS):Prop where
 nm:Lo n
 rd:OkR r
 en:OkE e
 few:r.length≤10
theorem L_line (ns:List Int) (k:Int) (T:Tp) (hk:0≤k:=by omega) (hk':k≤80000:=by omega) (hl:ns.length≤63:=by omega):∃ n r e,m__law_one_line [.d (script ns),.d (.int k)] T=some (lnD n r e,T)∧Lne n r e∧r.length≤3∧n.cps.size≤5∧(∀ p∈r,OkT p)∧OkT e:=by
 obtain ⟨m,em,am,bm⟩:=L_draw ns k 4 T
 obtain ⟨r8,e8,a8,b8⟩:=L_draw ns (k + 8) 3 T
 obtain ⟨r9,e9,a9,b9⟩:=L_draw ns (k + 9) 7 T
 obtain ⟨e,ee,oe,te⟩:=ends_at a9 b9
 have hn:∃ n:Str,atI [PyData.str (Str.ofString "x"),.str (Str.ofString "y"),.str (Str.ofString "x")] r8=some (.str n)∧Lo n∧n.cps.size≤5:=by
  rcases in3 a8 b8 with rfl | rfl | rfl <;> exact ⟨_,rfl,lo_of (by decide +kernel),by decide +kernel⟩
 obtain ⟨n,en,on,tn⟩:=hn
 obtain ⟨more,a',b',ef,lf,of,otf⟩:=ol_loop ns k T hk (by omega) hl (numsD 0 m.toNat) (fun d hd=>by
  obtain ⟨i,rfl,h1,h2⟩:=nums_mem hd
  exact ⟨i,rfl,h1,by omega⟩) [] none none (by rw [nums_len]; simp; omega)
 rw [nums_len] at lf
 have hr:rngOk m=true:=rng_small (by omega) (by omega)
 refine ⟨n,more,e,?_,⟨on,of,oe,by omega⟩,by omega,tn,otf,te⟩
 have z:∀ {n:Nat},n≤6→n < sizeLine:=fun h=>by rw [sz]; omega
 unfold endsL enD at ee
 dsimp only at ee
 unfold olB at ef
 have r0:rdD []=[]:=rfl
 simp only [r0,List.nil_append] at ef
 have hz:(6:Nat) < sizeLine:=by decide
 simp [ev_frzC,m__law_one_line,em,hr,ef,e8,en,e9,hz,ee,lnD,enD]
end G
namespace G
open PySem PySem.Spec PyProof.Rows L2 D
theorem rd_len (r:List SS):(rdD r).length=r.length:=by simp [rdD]
theorem ok_app {r s:List SS} (h:OkR r) (g:OkR s):OkR (r++s):=fun p hp=>(List.mem_append.mp hp).elim (h p) (g p)
end G
namespace G
open PySem PySem.Spec PyProof.Rows L2 D
theorem len_app (a b:Str):(a++b).length=a.length + b.length:=by
 show (a++b).cps.size=_
 rw [PySem.Str.cps_append,Array.size_append]
 rfl
theorem join_le (z:Str):∀ xs:List Str,(Str.join z xs).length≤(xs.map Str.length).sum + xs.length * z.length
 | []=>by
  have:(Str.join z []).length=0:=rfl
  omega
 | [a]=>by
  have:(Str.join z [a]).length=a.length:=rfl
  simp [this]
 | a::b::r=>by
  have ih:=join_le z (b::r)
  have e:Str.join z (a::b::r)=a++z++Str.join z (b::r):=rfl
  rw [e,len_app,len_app]
  simp only [List.map_cons,List.sum_cons,List.length_cons,Nat.add_mul,Nat.one_mul] at ih ⊢
  omega
theorem sum_le {B:Nat} {xs:List Str} (h:∀ x∈xs,x.length≤B):(xs.map Str.length).sum≤B * xs.length:=by
 induction xs with
 | nil=>simp
 | cons a r ih=>
  have h1:=h a List.mem_cons_self
  have h2:=ih fun x hx=>h x (List.mem_cons_of_mem _ hx)
  simp only [List.map_cons,List.sum_cons,List.length_cons,Nat.mul_add,Nat.mul_one]
  omega
inductive Vt:Nat→PyData→Prop where
 | int {n:Nat} {i:Int}:i.natAbs≤5000000000000000000→Vt n (.int i)
 | str {n:Nat} {x:Str}:x.length≤40→Lo x→Vt n (.str x)
 | tup {n:Nat} {ds:List PyData}:ds.length≤8→(∀ d∈ds,Vt n d)→Vt (n + 1) (.tuple ds)
theorem Vt.up {n m:Nat} {v:PyData} (h:Vt n v) (l:n≤m):Vt m v:=by
 induction h generalizing m with
 | int h=>exact .int h
 | str h g=>exact .str h g
 | tup h g ih=>
  obtain ⟨k,rfl⟩:∃ k,m=k + 1:=⟨m - 1,by omega⟩
  exact .tup h fun d hd=>ih d hd (by omega)
noncomputable def stp:Nat→PyData→Str
 | _,.int i=>Str.ofString (toString i)
 | _,.str x=>Str.ofString "'"++x
 | n + 1,.tuple ds=>Str.ofString "("++Str.join (Str.ofString ",") (ds.map (stp n))++Str.ofString ")"
 | _,_=>Str.ofString ""
theorem int_text {i:Int} (h:i.natAbs≤5000000000000000000):(Str.ofString (toString i)).length≤60∧Lo (Str.ofString (toString i)):=by
 constructor
 ·have e:=int_text_length_le10 (a:=i) (k:=19) (by decide) (Nat.lt_of_le_of_lt h (by decide))
  rw [PySem.ofString_length]
  omega
 ·intro c hc
  rw [signs_ofString] at hc
  obtain ⟨d,hd,rfl⟩:=List.mem_map.mp hc
  exact int_ascii i d hd
theorem lg {i:Int} (h:i.natAbs≤5000000000000000000):i.natAbs.log2 < 1920:=by
 by_cases z:i.natAbs=0
 ·rw [z]; decide
 ·exact Nat.lt_of_lt_of_le ((Nat.log2_lt (k:=64) z).mpr (Nat.lt_of_le_of_lt h (by decide))) (by decide)
theorem stp_ok {n:Nat} {v:PyData} (h:Vt n v):∀ m,n≤m→(stp m v).length≤60 * 10 ^ n∧Lo (stp m v):=by
 induction h with
 | @int n i h=>
  intro m hm
  have e:stp m (.int i)=Str.ofString (toString i):=by cases m <;> rfl
  rw [e]
  have p:1≤10 ^ n:=Nat.one_le_pow _ _ (by decide)
  have:=int_text h
  exact ⟨by omega,this.2⟩
 | @str n x h g=>
  intro m hm
  have e:stp m (.str x)=Str.ofString "'"++x:=by cases m <;> rfl
  rw [e,len_app]
  have p:1≤10 ^ n:=Nat.one_le_pow _ _ (by decide)
  have:(Str.ofString "'").length=1:=by decide
  exact ⟨by omega,(lo_of (by decide +kernel)).app g⟩
 | @tup n ds h g ih=>
  intro m hm
  obtain ⟨k,rfl⟩:∃ k,m=k + 1:=⟨m - 1,by omega⟩
  have e:stp (k + 1) (.tuple ds)=Str.ofString "("++Str.join (Str.ofString ",") (ds.map (stp k))++Str.ofString ")":=rfl
  rw [e,len_app,len_app]
  have c1:(Str.ofString ",").length=1:=by decide
  have c2:(Str.ofString "(").length=1:=by decide
  have c3:(Str.ofString ")").length=1:=by decide
  have j:=join_le (Str.ofString ",") (ds.map (stp k))
  have s:=sum_le (B:=60 * 10 ^ n) (xs:=ds.map (stp k)) fun x hx=>by
   obtain ⟨d,hd,rfl⟩:=List.mem_map.mp hx
   exact (ih d hd k (by omega)).1
  rw [c1,List.length_map] at j
  rw [List.length_map] at s
  have p:1≤10 ^ n:=Nat.one_le_pow _ _ (by decide)
  have s2:60 * 10 ^ n * ds.length≤60 * 10 ^ n * 8:=Nat.mul_le_mul_left _ h
  have pe:10 ^ (n + 1)=10 ^ n * 10:=Nat.pow_succ _ _
  refine ⟨by rw [pe]; omega,((lo_of (by decide +kernel)).app (Lo.join (lo_of (by decide +kernel)) fun x hx=>?_)).app (lo_of (by decide +kernel))⟩
  obtain ⟨d,hd,rfl⟩:=List.mem_map.mp hx
  exact (ih d hd k (by omega)).2
theorem isi_ss:isiK .str .str=true:=rfl
theorem isi_ts:isiK .tup .str=false:=rfl
theorem isi_is:isiK .int .str=false:=rfl
theorem isi_ii:isiK .int .int=true:=rfl
theorem isi_si:isiK .str .int=false:=rfl
theorem isi_ti:isiK .tup .int=false:=rfl
theorem isi_it:isiK .int .tup=false:=rfl
theorem isi_st:isiK .str .tup=false:=rfl
theorem isi_tt:isiK .tup .tup=true:=rfl
theorem ev_strI {i:Int} (h:i.natAbs.log2 < 1920):strD [.int i]=some (.str (Str.ofString (toString i))):=if_pos h
theorem ev_joinD {z:Str} {xs:List PyData} {ys:List Str} (h:strsD xs=some ys):joinD (.str z) (.list xs)=if (ys.map Str.length).sum + ys.length * z.length≤16777216 then some (.str (Str.join z ys)) else none:=by
 show (match strsD xs with | some ys=>if (ys.map Str.length).sum + ys.length * z.length≤16777216 then some (PyData.str (Str.join z ys)) else none | none=>none)=_
 rw [h]
theorem st_tup {f:FnM} {ds:List PyData} {k:Nat} {t:Str} {T:Tp} (c:compL fTrue (fCall f (fCons (fVar 0) fNil)) [some (.d (.tuple ds))] ds T=some (ds.map fun d=>.str (stp k d),T)) (j:joinD (.str (Str.ofString ",")) (.list (ds.map fun d=>.str (stp k d)))=some (.str t))
  (z1:(Str.ofString "(").length + t.length≤sizeLine) (z2:(Str.ofString "("++t).length + (Str.ofString ")").length≤sizeLine) :
  mkFn 1 (fSeq (fIf (fTru (fUn (isiD .int) (fVar 0))) (fRet (fCB strD (fCons (fVar 0) fNil))) fNext) (fSeq (fIf (fTru (fUn (isiD .str) (fVar 0))) (fRet (fBin addD (fC (.str (Str.ofString "'"))) (fVar 0))) fNext) (fRet (fBin addD (fBin addD (fC (.str (Str.ofString "("))) (fBin joinD (fC (.str (Str.ofString ","))) (fComp (fIter (fVar 0)) fTrue (fCall f (fCons (fVar 0) fNil))))) (fC (.str (Str.ofString ")"))))))) [.d (.tuple ds)] T=some (.str (Str.ofString "("++t++Str.ofString ")"),T):=by
 simp [isi_ti,isi_ts,c,j,z1,z2]
theorem L_stamp {n:Nat} {v:PyData} (h:Vt n v) (h5:n≤4):∀ (m:Nat) (T:Tp),n≤m→m__law_stamp (m + 1) [.d v] T=some (.str (stp m v),T):=by
 induction h with
 | @int n i h=>
  intro m T hm
  have e:stp m (.int i)=Str.ofString (toString i):=by cases m <;> rfl
  rw [e]
  have q:=ev_strI (lg h)
  generalize Str.ofString (toString i)=t at q
  simp [m__law_stamp,isi_ii,q]
 | @str n x h g=>
  intro m T hm
  have e:stp m (.str x)=Str.ofString "'"++x:=by cases m <;> rfl
  rw [e]
  have z:(Str.ofString "'").length + x.length≤sizeLine:=by rw [show (Str.ofString "'").length=1 by decide,sz]; omega
  simp [m__law_stamp,isi_si,isi_ss,z]
 | @tup n ds h g ih=>
  intro m T hm
  obtain ⟨k,rfl⟩:∃ k,m=k + 1:=⟨m - 1,by omega⟩
  have o:=stp_ok (.tup h g) (k + 1) hm
  have e:stp (k + 1) (.tuple ds)=Str.ofString "("++Str.join (Str.ofString ",") (ds.map (stp k))++Str.ofString ")":=rfl
  rw [e,len_app,len_app] at o
  rw [e]
  have c:compL fTrue (fCall (m__law_stamp (k + 1)) (fCons (fVar 0) fNil)) [some (.d (.tuple ds))] ds T=some (ds.map fun d=>.str (stp k d),T):=compL_map (g:=fun d=>.str (stp k d)) fun d hd=>by
   simp [ih d hd (by omega) k T (by omega)]
  have p:10 ^ (n + 1)≤10000:=Nat.le_trans (Nat.pow_le_pow_right (by decide) h5) (by decide)
  have j:=ev_joinD (z:=Str.ofString ",") (show strsD (ds.map fun d=>.str (stp k d))=some (ds.map (stp k)) from strsD_map (stp k) ds)
  have s:=sum_le (B:=600000) (xs:=ds.map (stp k)) fun x hx=>by
   obtain ⟨d,hd,rfl⟩:=List.mem_map.mp hx
   have q:=(stp_ok (g d hd) k (by omega)).1
   have p':10 ^ n≤10000:=Nat.le_trans (Nat.pow_le_pow_right (by decide) (show n≤4 by omega)) (by decide)
   omega
  rw [List.length_map] at s
  rw [if_pos (by rw [List.length_map,show (Str.ofString ",").length=1 by decide]; omega)] at j
  have z1:(Str.ofString "(").length + (Str.join (Str.ofString ",") (ds.map (stp k))).length≤sizeLine:=by rw [sz]; omega
  have z2:(Str.ofString "("++Str.join (Str.ofString ",") (ds.map (stp k))).length + (Str.ofString ")").length≤sizeLine:=by rw [sz,len_app]; omega
  exact st_tup c j z1 z2
theorem ft_tup {f:FnM} {ds:List PyData} {k:Int} {p:PyData→Bool} {T:Tp} (h4:k < 4) (h8:ds.length≤8) (c:compL fTrue (fCall f (fCons (fVar 0) (fCons (fBin addD (fVar 2) (fC (.int 1))) fNil))) [some (.d (.tuple ds)),some (.d (.int k))] ds T=some (ds.map fun d=>.bool (p d),T)) :
  mkFn 2 (fSeq (fIf (fTru (fUn (isiD .tup) (fVar 0))) (fRet (fAndV (fBin ltD (fVar 1) (fC (.int 4))) (fAndV (fBin leD (fCB lenD (fCons (fVar 0) fNil)) (fC (.int 8))) (fCB allD (fCons (fComp (fIter (fVar 0)) fTrue (fCall f (fCons (fVar 0) (fCons (fBin addD (fVar 2) (fC (.int 1))) fNil)))) fNil))))) fNext) (fSeq (fIf (fTru (fUn (isiD .str) (fVar 0))) (fRet (fBin leD (fCB lenD (fCons (fVar 0) fNil)) (fC (.int 20)))) fNext) (fRet (fChain leD leD (fUn negD (fBin powD (fC (.int 10)) (fC (.int 18)))) (fVar 0) (fBin powD (fC (.int 10)) (fC (.int 18))))))) [.d (.tuple ds),.d (.int k)] T=some (.bool (ds.all p),T):=by
 have h8':((ds.length:Int)≤8):=by omega
 simp [isi_tt,h4,h8,h8',c]
theorem L_fits {n:Nat} {v:PyData} (h:Vt n v):∀ (m:Nat) (k:Int),n≤m→∃ b,∀ T,m__law_fits (m + 1) [.d v,.d (.int k)] T=some (.bool b,T):=by
 induction h with
 | @int n i h=>
  intro m k hm
  by_cases h1 : -1000000000000000000≤i
  ·exact ⟨decide (i≤1000000000000000000),fun T=>by simp [m__law_fits,isi_it,isi_is,h1]⟩
  ·exact ⟨false,fun T=>by simp [m__law_fits,isi_it,isi_is,h1]⟩
 | @str n x h g=>
  intro m k hm
  have z:x.length≤sizeLine:=by rw [sz]; omega
  exact ⟨decide ((x.length:Int)≤20),fun T=>by simp [m__law_fits,isi_st,isi_ss,z]⟩
 | @tup n ds h g ih=>
  intro m k hm
  obtain ⟨q,rfl⟩:∃ q,m=q + 1:=⟨m - 1,by omega⟩
  by_cases h4:k < 4
  ·have c:∃ p:PyData→Bool,∀ T,compL fTrue (fCall (m__law_fits (q + 1)) (fCons (fVar 0) (fCons (fBin addD (fVar 2) (fC (.int 1))) fNil))) [some (.d (.tuple ds)),some (.d (.int k))] ds T=some (ds.map fun d=>.bool (p d),T):=by
    have hc:∀ d,∃ b,d∈ds→∀ T,m__law_fits (q + 1) [.d d,.d (.int (k + 1))] T=some (.bool b,T):=fun d=>by
     by_cases hd:d∈ds
     ·obtain ⟨b,hb⟩:=ih d hd q (k + 1) (by omega)
      exact ⟨b,fun _=>hb⟩
     ·exact ⟨false,fun z=>absurd z hd⟩
    obtain ⟨p,hp⟩:=Classical.axiomOfChoice hc
    exact ⟨p,fun T=>compL_map (g:=fun d=>.bool (p d)) fun d hd=>by simp [hp d hd T]⟩
   obtain ⟨p,hp⟩:=c
   have l8:((ds.length:Int)≤8):=by omega
   exact ⟨ds.all p,fun T=>ft_tup h4 h (hp T)⟩
  ·exact ⟨false,fun T=>by simp [m__law_fits,isi_tt,h4]⟩
end G
namespace G
open PySem PySem.Spec PyProof.Rows L2 D
noncomputable def toldF (f:FnM):FnM:=mkFn 6 (fSeq (fIf (fTst (fBin eqD (fBin ixD (fVar 0) (fC (.int 0))) (fC (.str (Str.ofString "put"))))) (fRet (fSeqD .tuple (fCons (fC (.str (Str.ofString "value"))) (fCons (fBin ixD (fVar 0) (fC (.int 1))) fNil)))) fNext) (fSeq (fIf (fTst (fBin eqD (fBin ixD (fVar 0) (fC (.int 0))) (fC (.str (Str.ofString "got"))))) (fRet (fSeqD .tuple (fCons (fC (.str (Str.ofString "value"))) (fCons (fBin ixD (fVar 1) (fBin ixD (fVar 0) (fC (.int 1)))) fNil)))) fNext) (fSeq (fSet 2 (fComp (fIter (fIfE (fTst (fBin eqD (fBin ixD (fVar 0) (fC (.int 0))) (fC (.str (Str.ofString "row"))))) (fBin ixD (fVar 0) (fC (.int 1))) (fSl (fVar 0) (fP (fC (.int 1))) fNoP))) fTrue (fCall f (fCons (fVar 0) (fCons (fVar 2) fNil))))) (fSeq (fFor 3 (fIter (fVar 2)) (fIf (fTst (fBin eqD (fBin ixD (fVar 3) (fC (.int 0))) (fC (.str (Str.ofString "fails"))))) (fRet (fVar 3)) fNext)) (fSeq (fSet 4 (fComp (fIter (fVar 2)) fTrue (fBin ixD (fVar 0) (fC (.int 1))))) (fSeq (fIf (fTst (fBin eqD (fBin ixD (fVar 0) (fC (.int 0))) (fC (.str (Str.ofString "row"))))) (fRet (fIfE (fTru (fCall (m__law_fits 25) (fCons (fCB tupleD (fCons (fVar 4) fNil)) (fCons (fC (.int 0)) fNil)))) (fSeqD .tuple (fCons (fC (.str (Str.ofString "value"))) (fCons (fCB tupleD (fCons (fVar 4) fNil)) fNil))) (fSeqD .tuple (fCons (fC (.str (Str.ofString "fails"))) (fCons (fC (.str (Str.ofString "great"))) fNil))))) fNext) (fSeq (fIf (fTst (fBin eqD (fBin ixD (fVar 0) (fC (.int 0))) (fC (.str (Str.ofString "many"))))) (fRet (fIfE (fTru (fUn (isiD .int) (fBin ixD (fVar 4) (fC (.int 0))))) (fSeqD .tuple (fCons (fC (.str (Str.ofString "fails"))) (fCons (fC (.str (Str.ofString "kind"))) fNil))) (fSeqD .tuple (fCons (fC (.str (Str.ofString "value"))) (fCons (fCB lenD (fCons (fBin ixD (fVar 4) (fC (.int 0))) fNil)) fNil))))) fNext) (fSeq (fSet 5 (fCall m__law_of_two (fCons (fBin ixD (fVar 0) (fC (.int 0))) (fCons (fBin ixD (fVar 4) (fC (.int 0))) (fCons (fBin ixD (fVar 4) (fC (.int 1))) fNil))))) (fSeq (fIf (fTst (fBin isD (fVar 5) (fC .none))) (fRet (fSeqD .tuple (fCons (fC (.str (Str.ofString "fails"))) (fCons (fC (.str (Str.ofString "kind"))) fNil)))) fNext) (fSeq (fIf (fAndT (fTst (fBin eqD (fBin ixD (fVar 0) (fC (.int 0))) (fC (.str (Str.ofString "part"))))) (fNotT (fTst (fChain leD ltD (fC (.int 0)) (fBin ixD (fVar 4) (fC (.int 1))) (fCB lenD (fCons (fBin ixD (fVar 4) (fC (.int 0))) fNil)))))) (fRet (fSeqD .tuple (fCons (fC (.str (Str.ofString "fails"))) (fCons (fC (.str (Str.ofString "part"))) fNil)))) fNext) (fRet (fIfE (fTru (fCall (m__law_fits 25) (fCons (fVar 5) (fCons (fC (.int 0)) fNil)))) (fSeqD .tuple (fCons (fC (.str (Str.ofString "value"))) (fCons (fVar 5) fNil))) (fSeqD .tuple (fCons (fC (.str (Str.ofString "fails"))) (fCons (fC (.str (Str.ofString "great"))) fNil)))))))))))))))
noncomputable def vaD (v:PyData):PyData:=.tuple [.str (Str.ofString "value"),v]
noncomputable def faD (w:Str):PyData:=.tuple [.str (Str.ofString "fails"),.str w]
noncomputable def exP (v:PyData):PyData:=.tuple [.str (Str.ofString "put"),v]
noncomputable def exG (k:Int):PyData:=.tuple [.str (Str.ofString "got"),.int k]
noncomputable def ex2 (w:String) (a b:PyData):PyData:=.tuple [.str (Str.ofString w),a,b]
theorem tl_put (f:FnM) (v g:PyData) (T:Tp):toldF f [.d (exP v),.d g] T=some (vaD v,T):=by
 simp [toldF,exP,at2',vaD]
theorem tl_got (f:FnM) (k:Int) (g:List PyData) (v:PyData) (h:atI g k=some v) (T:Tp):toldF f [.d (exG k),.d (.list g)] T=some (vaD v,T):=by
 have n1:Str.ofString "got"≠Str.ofString "put":=by decide
 simp [toldF,exG,at2',vaD,n1,h]
inductive Vg:PyData→Prop where
 | int {i:Int}:i.natAbs≤1000000000000000000→Vg (.int i)
 | str {x:Str}:x.length≤10→Lo x→Vg (.str x)
 | tup {ds:List PyData}:ds.length≤2→(∀ d∈ds,Vt 1 d)→Vg (.tuple ds)
theorem Vg.vt {v:PyData} (h:Vg v):Vt 2 v:=by
 cases h with
 | int h=>exact .int (by omega)
 | str h g=>exact .str (by omega) g
 | tup h g=>exact .tup (by omega) g
inductive Tl:PyData→Prop where
 | va {v:PyData}:Vt 4 v→Tl (vaD v)
 | fa {w:Str}:Lo w→Tl (faD w)
theorem kn_tt:neG (.list [.bool true,.bool true]) (.list [.bool true,.bool true])=some (.bool false):=rfl
theorem kn_tf:neG (.list [.bool true,.bool false]) (.list [.bool true,.bool true])=some (.bool true):=rfl
theorem kn_ft:neG (.list [.bool false,.bool true]) (.list [.bool true,.bool true])=some (.bool true):=rfl
theorem kn_ff:neG (.list [.bool false,.bool false]) (.list [.bool true,.bool true])=some (.bool true):=rfl
theorem intD_b (b:Bool):intD [.bool b]=some (.int (if b then 1 else 0)):=rfl
theorem L_two (w:String) (hw:w = "sum"∨w = "join"∨w = "same"∨w = "part"∨w = "less") {a b:PyData} (ha:Vg a) (hb:Vg b):∃ v,(∀ T,m__law_of_two [.d (.str (Str.ofString w)),.d a,.d b] T=some (v,T))∧(v=.none∨(Vt 3 v∧(w = "part"→∃ ds k,a=.tuple ds∧b=.int k))):=by
 have s1:Str.ofString "sum"≠Str.ofString "same":=by decide
 have s2:Str.ofString "sum"≠Str.ofString "part":=by decide
 have s3:Str.ofString "sum"≠Str.ofString "join":=by decide
 have j1:Str.ofString "join"≠Str.ofString "same":=by decide
 have j2:Str.ofString "join"≠Str.ofString "part":=by decide
 have l1:Str.ofString "less"≠Str.ofString "same":=by decide
 have l2:Str.ofString "less"≠Str.ofString "part":=by decide
 have l3:Str.ofString "less"≠Str.ofString "join":=by decide
 have l4:Str.ofString "less"≠Str.ofString "sum":=by decide
 have p1:Str.ofString "part"≠Str.ofString "same":=by decide
 rcases hw with rfl | rfl | rfl | rfl | rfl
 ·cases ha with
  | int h=>
   cases hb with
   | int g=>exact ⟨_,fun T=>by simp [m__law_of_two,s1,s2,s3,isi_ii,kn_tt]; rfl,.inr ⟨.int (by omega),fun z=>absurd z (by decide)⟩⟩
   | str _ _=>exact ⟨.none,fun T=>by simp [m__law_of_two,s1,s2,s3,isi_ii,isi_si,kn_tf],.inl rfl⟩
   | tup _ _=>exact ⟨.none,fun T=>by simp [m__law_of_two,s1,s2,s3,isi_ii,isi_ti,kn_tf],.inl rfl⟩
  | str _ _=>
   cases hb with
   | int g=>exact ⟨.none,fun T=>by simp [m__law_of_two,s1,s2,s3,isi_ii,isi_si,kn_ft],.inl rfl⟩
   | str _ _=>exact ⟨.none,fun T=>by simp [m__law_of_two,s1,s2,s3,isi_ii,isi_si,kn_ff],.inl rfl⟩
   | tup _ _=>exact ⟨.none,fun T=>by simp [m__law_of_two,s1,s2,s3,isi_si,isi_ti,kn_ff],.inl rfl⟩
  | tup _ _=>
   cases hb with
   | int g=>exact ⟨.none,fun T=>by simp [m__law_of_two,s1,s2,s3,isi_ii,isi_ti,kn_ft],.inl rfl⟩
   | str _ _=>exact ⟨.none,fun T=>by simp [m__law_of_two,s1,s2,s3,isi_ti,isi_si,kn_ff],.inl rfl⟩
   | tup _ _=>exact ⟨.none,fun T=>by simp [m__law_of_two,s1,s2,s3,isi_si,isi_ti,kn_ff],.inl rfl⟩
 ·cases ha with
  | int h=>
   cases hb <;> exact ⟨.none,fun T=>by simp [m__law_of_two,j1,j2,isi_ii,isi_si,isi_ti,at2'],.inl rfl⟩
  | @str x hx ox=>
   cases hb with
   | int g=>exact ⟨.none,fun T=>by simp [m__law_of_two,j1,j2,isi_ii,isi_si,at2'],.inl rfl⟩
   | @str y hy oy=>
    have z:x.length + y.length≤sizeLine:=by rw [sz]; omega
    exact ⟨.str (x++y),fun T=>by simp [m__law_of_two,j1,j2,isi_ss,isi_si,at2',z],.inr ⟨.str (by rw [len_app]; omega) (ox.app oy),fun z=>absurd z (by decide)⟩⟩
   | tup _ _=>exact ⟨.none,fun T=>by simp [m__law_of_two,j1,j2,isi_si,isi_ti,isi_ss,isi_ts,at2'],.inl rfl⟩
  | @tup xs hx ox=>
   cases hb with
   | int g=>exact ⟨.none,fun T=>by simp [m__law_of_two,j1,j2,isi_ii,isi_ti,at2'],.inl rfl⟩
   | str _ _=>exact ⟨.none,fun T=>by simp [m__law_of_two,j1,j2,isi_si,isi_ti,isi_ss,isi_ts,at2'],.inl rfl⟩
   | @tup ys hy oy=>
    have z:xs.length + ys.length≤sizeLine:=by rw [sz]; omega
    refine ⟨.tuple (xs++ys),fun T=>by simp [m__law_of_two,j1,j2,isi_ts,isi_ti,at2',z],.inr ⟨.tup (by simp; omega) fun d hd=>?_,fun z=>absurd z (by decide)⟩⟩
    rcases List.mem_append.mp hd with q | q
    ·exact (ox d q).up (by omega)
    ·exact (oy d q).up (by omega)
 ·have q1:=fun T=>L_stamp ha.vt (by decide) 24 T (by decide)
  have q2:=fun T=>L_stamp hb.vt (by decide) 24 T (by decide)
  refine ⟨_,fun T=>by simp [m__law_of_two,q1,q2,intD_b]; rfl,.inr ⟨?_,fun z=>absurd z (by decide)⟩⟩
  split <;> exact .int (by decide)
 ·cases ha with
  | int h=>exact ⟨.none,fun T=>by simp [m__law_of_two,p1,isi_it],.inl rfl⟩
  | str _ _=>exact ⟨.none,fun T=>by simp [m__law_of_two,p1,isi_st],.inl rfl⟩
  | @tup xs hx ox=>
   cases hb with
   | str _ _=>exact ⟨.none,fun T=>by simp [m__law_of_two,p1,isi_tt,isi_si,at2'],.inl rfl⟩
   | tup _ _=>exact ⟨.none,fun T=>by simp [m__law_of_two,p1,isi_tt,isi_ti,at2'],.inl rfl⟩
   | @int i hi=>
    by_cases h0:0≤i
    ·by_cases h1:i < xs.length
     ·obtain ⟨v,hv,mv⟩:=atI_in h0 h1
      exact ⟨v,fun T=>by simp [m__law_of_two,p1,isi_tt,isi_ii,at2',h0,h1,hv],.inr ⟨(ox v mv).up (by omega),fun _=>⟨xs,i,rfl,rfl⟩⟩⟩
     ·exact ⟨.tuple [],fun T=>by simp [m__law_of_two,p1,isi_tt,isi_ii,at2',h0,h1],.inr ⟨(.tup (by simp) (fun d hd=>by cases hd)),fun _=>⟨xs,i,rfl,rfl⟩⟩⟩
    ·exact ⟨.tuple [],fun T=>by simp [m__law_of_two,p1,isi_tt,isi_ii,at2',h0],.inr ⟨(.tup (by simp) (fun d hd=>by cases hd)),fun _=>⟨xs,i,rfl,rfl⟩⟩⟩
 ·cases ha with
  | int h=>
   cases hb with
   | int g=>
    refine ⟨_,fun T=>by simp [m__law_of_two,l1,l2,l3,l4,isi_ii,kn_tt,intD_b]; rfl,.inr ⟨?_,fun z=>absurd z (by decide)⟩⟩
    split <;> exact .int (by decide)
   | str _ _=>exact ⟨.none,fun T=>by simp [m__law_of_two,l1,l2,l3,isi_ii,isi_si,kn_tf],.inl rfl⟩
   | tup _ _=>exact ⟨.none,fun T=>by simp [m__law_of_two,l1,l2,l3,isi_ii,isi_ti,kn_tf],.inl rfl⟩
  | str _ _=>
   cases hb with
   | int g=>exact ⟨.none,fun T=>by simp [m__law_of_two,l1,l2,l3,isi_ii,isi_si,kn_ft],.inl rfl⟩
   | str _ _=>exact ⟨.none,fun T=>by simp [m__law_of_two,l1,l2,l3,isi_ii,isi_si,kn_ff],.inl rfl⟩
   | tup _ _=>exact ⟨.none,fun T=>by simp [m__law_of_two,l1,l2,l3,isi_si,isi_ti,kn_ff],.inl rfl⟩
  | tup _ _=>
   cases hb with
   | int g=>exact ⟨.none,fun T=>by simp [m__law_of_two,l1,l2,l3,isi_ii,isi_ti,kn_ft],.inl rfl⟩
   | str _ _=>exact ⟨.none,fun T=>by simp [m__law_of_two,l1,l2,l3,isi_ti,isi_si,kn_ff],.inl rfl⟩
   | tup _ _=>exact ⟨.none,fun T=>by simp [m__law_of_two,l1,l2,l3,isi_si,isi_ti,kn_ff],.inl rfl⟩
theorem for_val {T:Tp}:∀ (vs:List PyData) (u v l:W) (b c d:Option W),∃ b',forL 3 (fIf (fTst (fBin eqD (fBin ixD (fVar 3) (fC (.int 0))) (fC (.str (Str.ofString "fails"))))) (fRet (fVar 3)) fNext) (vs.map vaD) [some u,some v,some l,b,c,d] T=some ((.nx,[some u,some v,some l,b',c,d]),T)
 | [],u,v,l,b,c,d=>⟨b,rfl⟩
 | x::vs,u,v,l,b,c,d=>by
  obtain ⟨b',e⟩:=for_val (T:=T) vs u v l (some (.d (vaD x))) c d
  have n1:Str.ofString "value"≠Str.ofString "fails":=by decide
  refine ⟨b',?_⟩
  rw [List.map_cons]
  unfold forL
  simp only [vaD] at e ⊢
  simp [at2',n1,e]
noncomputable def snd2:PyData→PyData
 | .tuple [_,v]=>v
 | _=>.none
theorem comp_val {T:Tp} {ρ:Rho} (vs:List PyData):compL fTrue (fBin ixD (fVar 0) (fC (.int 1))) ρ (vs.map vaD) T=some (vs,T):=by
 have h:=compL_map (e:=fBin ixD (fVar 0) (fC (.int 1))) (ρ:=ρ) (T:=T) (g:=snd2) (ds:=vs.map vaD) fun d hd=>by
  obtain ⟨v,_,rfl⟩:=List.mem_map.mp hd
  simp [vaD,at2',snd2]
 rw [h,List.map_map]
 have:(snd2 ∘ vaD)=id:=rfl
 rw [this,List.map_id]
noncomputable def twoW (w:String):Prop:=w = "sum"∨w = "join"∨w = "same"∨w = "part"∨w = "less"
theorem two_ne {w:String} (h:twoW w):Str.ofString w≠Str.ofString "put"∧Str.ofString w≠Str.ofString "got"∧Str.ofString w≠Str.ofString "row"∧Str.ofString w≠Str.ofString "many"∧(Str.ofString w=Str.ofString "part"→w = "part"):=by
 rcases h with rfl | rfl | rfl | rfl | rfl <;> exact ⟨by decide,by decide,by decide,by decide,fun z=>by first | rfl | exact absurd z (by decide)⟩
theorem lo_w {s:String} (h:((Str.ofString s).cps.toList.all fun c=>decide (c < 128))=true):Lo (Str.ofString s):=lo_of h
theorem tl_two (f:FnM) (w:String) (hw:twoW w) (x y:PyData) (g:PyData) {a b:PyData} (ha:Vg a) (hb:Vg b) (h1:∀ T,f [.d x,.d g] T=some (vaD a,T)) (h2:∀ T,f [.d y,.d g] T=some (vaD b,T)) :
  ∃ r,Tl r∧∀ T,toldF f [.d (ex2 w x y),.d g] T=some (r,T):=by
 obtain ⟨v,ev,hv⟩:=L_two w hw ha hb
 obtain ⟨n1,n2,n3,n4,n5⟩:=two_ne hw
 have c:∀ T,compL fTrue (fCall f (fCons (fVar 0) (fCons (fVar 2) fNil))) [some (.d (ex2 w x y)),some (.d g),none,none,none,none] [x,y] T=some ([vaD a,vaD b],T):=fun T=>by
  simp [compL,h1,h2]
 have sl:cutL [PyData.str (Str.ofString w),x,y] (some 1) none=[x,y]:=rfl
 have i3:atI [PyData.str (Str.ofString w),x,y] 0=some (.str (Str.ofString w)):=rfl
 have mp:[vaD a,vaD b]=[a,b].map vaD:=rfl
 have base:∀ T,∃ b',toldF f [.d (ex2 w x y),.d g] T=fnEnd (fSeq (fIf (fTst (fBin isD (fVar 5) (fC .none))) (fRet (fSeqD .tuple (fCons (fC (.str (Str.ofString "fails"))) (fCons (fC (.str (Str.ofString "kind"))) fNil)))) fNext) (fSeq (fIf (fAndT (fTst (fBin eqD (fBin ixD (fVar 0) (fC (.int 0))) (fC (.str (Str.ofString "part"))))) (fNotT (fTst (fChain leD ltD (fC (.int 0)) (fBin ixD (fVar 4) (fC (.int 1))) (fCB lenD (fCons (fBin ixD (fVar 4) (fC (.int 0))) fNil)))))) (fRet (fSeqD .tuple (fCons (fC (.str (Str.ofString "fails"))) (fCons (fC (.str (Str.ofString "part"))) fNil)))) fNext) (fRet (fIfE (fTru (fCall (m__law_fits 25) (fCons (fVar 5) (fCons (fC (.int 0)) fNil)))) (fSeqD .tuple (fCons (fC (.str (Str.ofString "value"))) (fCons (fVar 5) fNil))) (fSeqD .tuple (fCons (fC (.str (Str.ofString "fails"))) (fCons (fC (.str (Str.ofString "great"))) fNil)))))) [some (.d (ex2 w x y)),some (.d g),some (.d (.list [vaD a,vaD b])),b',some (.d (.list [a,b])),some (.d v)] T):=fun T=>by
  obtain ⟨b',e⟩:=for_val (T:=T) [a,b] (.d (ex2 w x y)) (.d g) (.d (.list [vaD a,vaD b])) none none none
  refine ⟨b',?_⟩
  have cv:=comp_val (T:=T) (ρ:=[some (.d (ex2 w x y)),some (.d g),some (.d (.list [vaD a,vaD b])),b',none,none]) [a,b]
  rw [← mp] at e cv
  have c':=c T
  unfold ex2 at c' e cv ⊢
  simp [toldF,i3,n1,n2,n3,n4,sl,c',e,cv,at2',ev]
 have kd:isNone v=true∨isNone v=false:=by cases isNone v <;> simp
 rcases hv with rfl | ⟨tv,hp⟩
 ·refine ⟨faD (Str.ofString "kind"),.fa (lo_w (by decide +kernel)),fun T=>?_⟩
  obtain ⟨b',e⟩:=base T
  rw [e]
  simp [ev_frzC,isNone,faD]
 ·have nv:isNone v=false:=by cases tv <;> rfl
  obtain ⟨fb,hf⟩:∃ fb,∀ T,m__law_fits 25 [.d v,.d (.int 0)] T=some (.bool fb,T):=L_fits tv 24 0 (by decide)
  by_cases hpw:Str.ofString w=Str.ofString "part"
  ·obtain ⟨ds,k,rfl,rfl⟩:=hp (n5 hpw)
   have i3':ixD (ex2 w x y) (.int 0)=some (.str (Str.ofString "part")):=by rw [← hpw]; rfl
   by_cases hk:0≤k∧k < ds.length
   ·cases fb with
    | true=>
     refine ⟨vaD v,.va (tv.up (by decide)),fun T=>?_⟩
     obtain ⟨b',e⟩:=base T
     rw [e]
     simp [ev_frzC,nv,i3',at2',hk.1,hk.2,hf,vaD]
    | false=>
     refine ⟨faD (Str.ofString "great"),.fa (lo_w (by decide +kernel)),fun T=>?_⟩
     obtain ⟨b',e⟩:=base T
     rw [e]
     simp [ev_frzC,nv,i3',at2',hk.1,hk.2,hf,faD]
   ·refine ⟨faD (Str.ofString "part"),.fa (lo_w (by decide +kernel)),fun T=>?_⟩
    obtain ⟨b',e⟩:=base T
    rw [e]
    by_cases h0:0≤k
    ·have h1:¬ k < ds.length:=fun z=>hk ⟨h0,z⟩
     simp [ev_frzC,nv,i3',at2',h0,h1,faD]
    ·simp [ev_frzC,nv,i3',at2',h0,faD]
  ·have i3':ixD (ex2 w x y) (.int 0)=some (.str (Str.ofString w)):=rfl
   cases fb with
   | true=>
    refine ⟨vaD v,.va (tv.up (by decide)),fun T=>?_⟩
    obtain ⟨b',e⟩:=base T
    rw [e]
    simp [ev_frzC,nv,i3',hpw,hf,vaD]
   | false=>
    refine ⟨faD (Str.ofString "great"),.fa (lo_w (by decide +kernel)),fun T=>?_⟩
    obtain ⟨b',e⟩:=base T
    rw [e]
    simp [ev_frzC,nv,i3',hpw,hf,faD]
theorem tl_row (f:FnM) (x y:PyData) (g:PyData) {a b:PyData} (ha:Vg a) (hb:Vg b) (h1:∀ T,f [.d x,.d g] T=some (vaD a,T)) (h2:∀ T,f [.d y,.d g] T=some (vaD b,T)) :
  ∃ r,Tl r∧∀ T,toldF f [.d (.tuple [.str (Str.ofString "row"),.tuple [x,y]]),.d g] T=some (r,T):=by
 have n1:Str.ofString "row"≠Str.ofString "put":=by decide
 have n2:Str.ofString "row"≠Str.ofString "got":=by decide
 have tv:Vt 3 (.tuple [a,b]):=.tup (by simp) fun d hd=>by
  simp only [List.mem_cons,List.not_mem_nil,or_false] at hd
  rcases hd with rfl | rfl
  ·exact ha.vt
  ·exact hb.vt
 obtain ⟨fb,hf⟩:∃ fb,∀ T,m__law_fits 25 [.d (.tuple [a,b]),.d (.int 0)] T=some (.bool fb,T):=L_fits tv 24 0 (by decide)
 have c:∀ T,compL fTrue (fCall f (fCons (fVar 0) (fCons (fVar 2) fNil))) [some (.d (.tuple [.str (Str.ofString "row"),.tuple [x,y]])),some (.d g),none,none,none,none] [x,y] T=some ([vaD a,vaD b],T):=fun T=>by
  simp [compL,h1,h2]
 have mp:[vaD a,vaD b]=[a,b].map vaD:=rfl
 refine ⟨if fb then vaD (.tuple [a,b]) else faD (Str.ofString "great"),by cases fb; exact .fa (lo_w (by decide +kernel)); exact .va (tv.up (by decide)),fun T=>?_⟩
 obtain ⟨b',e⟩:=for_val (T:=T) [a,b] (.d (.tuple [.str (Str.ofString "row"),.tuple [x,y]])) (.d g) (.d (.list [vaD a,vaD b])) none none none
 have cv:=comp_val (T:=T) (ρ:=[some (.d (.tuple [.str (Str.ofString "row"),.tuple [x,y]])),some (.d g),some (.d (.list [vaD a,vaD b])),b',none,none]) [a,b]
 rw [← mp] at e cv
 have vf:∀ x,PyData.tuple [.str (Str.ofString "value"),x]=vaD x:=fun _=>rfl
 have ff:∀ x,PyData.tuple [.str (Str.ofString "fails"),.str x]=faD x:=fun _=>rfl
 cases fb <;> simp [ev_frzC,toldF,at2',n1,n2,c T,e,cv,hf,vf,ff]
theorem tl_many (f:FnM) (x:PyData) (g:PyData) {a:PyData} (ha:Vg a) (h1:∀ T,f [.d x,.d g] T=some (vaD a,T)) :
  ∃ r,Tl r∧∀ T,toldF f [.d (.tuple [.str (Str.ofString "many"),x]),.d g] T=some (r,T):=by
 have n1:Str.ofString "many"≠Str.ofString "put":=by decide
 have n2:Str.ofString "many"≠Str.ofString "got":=by decide
 have n3:Str.ofString "many"≠Str.ofString "row":=by decide
 have sl:cutL [PyData.str (Str.ofString "many"),x] (some 1) none=[x]:=rfl
 have c:∀ T,compL fTrue (fCall f (fCons (fVar 0) (fCons (fVar 2) fNil))) [some (.d (.tuple [.str (Str.ofString "many"),x])),some (.d g),none,none,none,none] [x] T=some ([vaD a],T):=fun T=>by
  simp [compL,h1]
 have mp:[vaD a]=[a].map vaD:=rfl
 have a1:atI [a] 0=some a:=rfl
 have vf:∀ x,PyData.tuple [.str (Str.ofString "value"),x]=vaD x:=fun _=>rfl
 have ff:∀ x,PyData.tuple [.str (Str.ofString "fails"),.str x]=faD x:=fun _=>rfl
 have pre:∀ T,∃ b',forL 3 (fIf (fTst (fBin eqD (fBin ixD (fVar 3) (fC (.int 0))) (fC (.str (Str.ofString "fails"))))) (fRet (fVar 3)) fNext) [vaD a] [some (.d (.tuple [.str (Str.ofString "many"),x])),some (.d g),some (.d (.list [vaD a])),none,none,none] T=some ((.nx,[some (.d (.tuple [.str (Str.ofString "many"),x])),some (.d g),some (.d (.list [vaD a])),b',none,none]),T) ∧
   compL fTrue (fBin ixD (fVar 0) (fC (.int 1))) [some (.d (.tuple [.str (Str.ofString "many"),x])),some (.d g),some (.d (.list [vaD a])),b',none,none] [vaD a] T=some ([a],T):=fun T=>by
  obtain ⟨b',e⟩:=for_val (T:=T) [a] (.d (.tuple [.str (Str.ofString "many"),x])) (.d g) (.d (.list [vaD a])) none none none
  exact ⟨b',e,comp_val [a]⟩
 cases ha with
 | int h=>
  refine ⟨faD (Str.ofString "kind"),.fa (lo_w (by decide +kernel)),fun T=>?_⟩
  obtain ⟨b',e,cv⟩:=pre T
  simp [ev_frzC,toldF,at2',n1,n2,n3,sl,c T,e,cv,a1,isi_ii,vf,ff]
 | @str z h o=>
  refine ⟨vaD (.int z.length),.va (.int (by omega)),fun T=>?_⟩
  obtain ⟨b',e,cv⟩:=pre T
  have hz:z.length≤sizeLine:=by rw [sz]; omega
  simp [ev_frzC,toldF,at2',n1,n2,n3,sl,c T,e,cv,a1,isi_si,vf,ff,hz]
 | @tup ds h o=>
  refine ⟨vaD (.int ds.length),.va (.int (by omega)),fun T=>?_⟩
  obtain ⟨b',e,cv⟩:=pre T
  simp [ev_frzC,toldF,at2',n1,n2,n3,sl,c T,e,cv,a1,isi_ti,vf,ff]
end G
namespace G
open PySem PySem.Spec PyProof.Rows L2 D
noncomputable def menuV:List PyData:=[PyData.int 0,.int 1,.int 2,.int (-3),.str (Str.ofString ""),.str (Str.ofString "a"),.str (Str.ofString "-0"),.tuple [],.tuple [.int 1,.str (Str.ofString "b")],.tuple [.str (Str.ofString "a"),.tuple [.int 0]],.int 1000000000000000000,.int 1,.int 0]
theorem menu_vg {x:PyData} (h:x∈menuV++menu.map .str):Vg x:=by
 rcases List.mem_append.mp h with h | h
 ·simp only [menuV,List.mem_cons,List.not_mem_nil,or_false] at h
  rcases h with h | h | h | h | h | h | h | h | h | h | h | h | h <;> subst h
  ·exact .int (by decide)
  ·exact .int (by decide)
  ·exact .int (by decide)
  ·exact .int (by decide)
  ·exact .str (by decide) (lo_of (by decide +kernel))
  ·exact .str (by decide) (lo_of (by decide +kernel))
  ·exact .str (by decide) (lo_of (by decide +kernel))
  ·exact .tup (by simp) fun d hd=>by cases hd
  ·refine .tup (by simp) fun d hd=>?_
   simp only [List.mem_cons,List.not_mem_nil,or_false] at hd
   rcases hd with rfl | rfl
   ·exact .int (by decide)
   ·exact .str (by decide) (lo_of (by decide +kernel))
  ·refine .tup (by simp) fun d hd=>?_
   simp only [List.mem_cons,List.not_mem_nil,or_false] at hd
   rcases hd with rfl | rfl
   ·exact .str (by decide) (lo_of (by decide +kernel))
   ·refine .tup (by simp) fun d hd=>?_
    simp only [List.mem_cons,List.not_mem_nil,or_false] at hd
    subst hd
    exact .int (by decide)
  ·exact .int (by decide)
  ·exact .int (by decide)
  ·exact .int (by decide)
 ·obtain ⟨y,hy,rfl⟩:=List.mem_map.mp h
  exact .str (by have:=menu_len hy; omega) (menu_lo hy)
noncomputable def allV:List PyData:=menuV++menu.map PyData.str
noncomputable def clsV:List Nat:=[0,1,2,3,4,5,6,7,8,9,10,1,0,5,14,15,16,17,18,19,20,21,22,23,24]
noncomputable def stC (x:PyData):List Nat:=(stp 24 x).cps.toList
theorem inj_all:((List.range 25).all fun i=>(List.range 25).all fun j=>decide (((allV[i]?).map stC=(allV[j]?).map stC)→clsV[i]? = clsV[j]?))=true:=by decide +kernel
theorem cls_ok:∀ i:Nat,i < 25→allV[i]? = (clsV[i]?).bind fun k=>allV[k]?
 | 0,_=>rfl
 | 1,_=>rfl
 | 2,_=>rfl
 | 3,_=>rfl
 | 4,_=>rfl
 | 5,_=>rfl
 | 6,_=>rfl
 | 7,_=>rfl
 | 8,_=>rfl
 | 9,_=>rfl
 | 10,_=>rfl
 | 11,_=>rfl
 | 12,_=>rfl
 | 13,_=>rfl
 | 14,_=>rfl
 | 15,_=>rfl
 | 16,_=>rfl
 | 17,_=>rfl
 | 18,_=>rfl
 | 19,_=>rfl
 | 20,_=>rfl
 | 21,_=>rfl
 | 22,_=>rfl
 | 23,_=>rfl
 | 24,_=>rfl
 | n + 25,h=>by omega
theorem all_len:allV.length=25:=rfl
theorem st_inj {x y:PyData} (hx:x∈allV) (hy:y∈allV) (h:stp 24 x=stp 24 y):x=y:=by
 obtain ⟨i,hi,ei⟩:=List.getElem_of_mem hx
 obtain ⟨j,hj,ej⟩:=List.getElem_of_mem hy
 rw [all_len] at hi hj
 have ei':allV[i]? = some x:=by rw [List.getElem?_eq_getElem (by rw [all_len]; exact hi),ei]
 have ej':allV[j]? = some y:=by rw [List.getElem?_eq_getElem (by rw [all_len]; exact hj),ej]
 have a:=List.all_eq_true.mp inj_all i (List.mem_range.mpr hi)
 have b:=of_decide_eq_true (List.all_eq_true.mp a j (List.mem_range.mpr hj)) (by rw [ei',ej']; show some (stC x)=some (stC y); unfold stC; rw [h])
 have c:=cls_ok i hi
 have d:=cls_ok j hj
 rw [b,← d,ei',ej'] at c
 exact Option.some.inj c
theorem L_value (ns:List Int) (k:Int) (xs:List Str) (N:Nms xs) (T:Tp) (hk:0≤k:=by omega) (hk':k≤90000:=by omega) (hl:ns.length≤63:=by omega):∃ x,m__law_value [.d (script ns),.d (.int k),.d (.list (xs.map .str))] T=some (x,T)∧x∈allV:=by
 have n1:=N.most
 obtain ⟨r,e,a,b⟩:=L_draw ns k (13 + (xs.length:Int)) T
 obtain ⟨x,h1,h2⟩:=atI_in (xs:=menuV++xs.map PyData.str) (i:=r) a (by simp [menuV]; omega)
 refine ⟨x,?_,?_⟩
 ·have hz:13 + xs.length≤sizeLine:=by rw [sz]; omega
  have hz':(xs.length:Int) + 1 + 1 + 1 + 1 + 1 + 1 + 1 + 1 + 1 + 1 + 1 + 1 + 1=13 + (xs.length:Int):=by omega
  simp [menuV] at h1
  simp [m__law_value,hz,hz',e,h1]
 ·unfold allV
  rcases List.mem_append.mp h2 with h | h
  ·exact List.mem_append_left _ h
  ·obtain ⟨y,hy,rfl⟩:=List.mem_map.mp h
   exact List.mem_append_right _ (List.mem_map.mpr ⟨y,N.inm y hy,rfl⟩)
end G
namespace G
open PySem PySem.Spec PyProof.Rows L2 D
noncomputable def callFK (m:FnM) (ws:List D.W) (T1:Tp):Option (D.W×Tp):=if noTp ws=true then (match m (ws.map frzW) [] with
 | some (x,_)=>if tupB x=true then some (.d x,T1) else none
 | none=>none) else none
@[simp] theorem ev_callF {m:FnM} {a:FA} {ρ:Rho} {T:Tp}:fCallF m a ρ T=bnd (a ρ T) (callFK m):=rfl
theorem callFK_ok {m:FnM} {ws:List D.W} {T T':Tp} {x:PyData} (h1:noTp ws=true) (h2:m (ws.map frzW) []=some (x,T')) (h3:tupB x=true):callFK m ws T=some (.d x,T):=by
 unfold callFK
 rw [if_pos h1,h2]
 dsimp only
 rw [if_pos h3]
@[simp] theorem ev_notInB {s:Str} {ds:List (PyData×PyData)}:notInB (.str s) (.dict ds)=some (.bool (!(keyAt ds s).isSome)):=rfl
@[simp] theorem ev_ixAD {s:Str} {ds:List (PyData×PyData)}:ixA (.dict ds) (.str s)=keyAt ds s:=rfl
inductive Lf (k:Nat):PyData→Prop where
 | put {v:PyData}:v∈allV→Lf k (exP v)
 | got {i:Nat}:i < k→Lf k (exG i)
inductive EXp (k:Nat):PyData→Prop where
 | lf {e:PyData}:Lf k e→EXp k e
 | two {w:String} {a b:PyData}:twoW w→Lf k a→Lf k b→EXp k (ex2 w a b)
 | row {a b:PyData}:Lf k a→Lf k b→EXp k (.tuple [.str (Str.ofString "row"),.tuple [a,b]])
 | many {a:PyData}:Lf k a→EXp k (.tuple [.str (Str.ofString "many"),a])
theorem vt_tupB {n:Nat} {v:PyData} (h:Vt n v):tupB v=true:=by
 induction h with
 | int _=>simp [tupB]
 | str _ _=>simp [tupB]
 | tup _ _ ih=>
  rename_i ds _ _
  have:tupBs ds=true:=by
   induction ds with
   | nil=>simp [tupBs]
   | cons a r ih2=>
    simp only [tupBs,Bool.and_eq_true]
    exact ⟨ih a List.mem_cons_self,ih2 (by simp at *; omega) (fun d hd=>by simp_all) fun d hd=>ih d (List.mem_cons_of_mem _ hd)⟩
  simpa [tupB] using this
theorem all_vg {v:PyData} (h:v∈allV):Vg v:=menu_vg h
theorem lf_ok {k:Nat} {e:PyData} (h:Lf k e) {got:List PyData} (hk:got.length=k) (hg:∀ v∈got,v∈allV):∃ v,v∈allV∧∀ (n:Nat) (T:Tp),m__law_told (n + 1) [.d e,.d (.list got)] T=some (vaD v,T):=by
 cases h with
 | @put v hv=>exact ⟨v,hv,fun n T=>tl_put _ v _ T⟩
 | @got i hi=>
  obtain ⟨v,h1,h2⟩:=atI_in (xs:=got) (i:=(i:Int)) (by omega) (by omega)
  exact ⟨v,hg v h2,fun n T=>tl_got _ _ got v h1 T⟩
theorem told_ok {k:Nat} {e:PyData} (h:EXp k e) {got:List PyData} (hk:got.length=k) (hg:∀ v∈got,v∈allV):∃ r,Tl r∧∀ T,m__law_told 25 [.d e,.d (.list got)] T=some (r,T):=by
 cases h with
 | lf h=>
  obtain ⟨v,hv,e⟩:=lf_ok h hk hg
  exact ⟨vaD v,.va ((all_vg hv).vt.up (by decide)),e 24⟩
 | two hw ha hb=>
  obtain ⟨a,h1,e1⟩:=lf_ok ha hk hg
  obtain ⟨b,h2,e2⟩:=lf_ok hb hk hg
  exact tl_two (m__law_told 24) _ hw _ _ _ (all_vg h1) (all_vg h2) (e1 23) (e2 23)
 | row ha hb=>
  obtain ⟨a,h1,e1⟩:=lf_ok ha hk hg
  obtain ⟨b,h2,e2⟩:=lf_ok hb hk hg
  exact tl_row (m__law_told 24) _ _ _ (all_vg h1) (all_vg h2) (e1 23) (e2 23)
 | many ha=>
  obtain ⟨a,h1,e1⟩:=lf_ok ha hk hg
  exact tl_many (m__law_told 24) _ _ (all_vg h1) (e1 23)
noncomputable def sayD (e:PyData):PyData:=.tuple [.str (Str.ofString "say"),e]
noncomputable def failD (w:Str):PyData:=.tuple [.str (Str.ofString "fail"),.str w]
noncomputable def wantD (e r:PyData):PyData:=.tuple [.str (Str.ofString "want"),e,r]
noncomputable def whenD (e p q:PyData):PyData:=.tuple [.str (Str.ofString "when"),e,p,q]
inductive RC:Nat→Nat→PyData→Prop where
 | say {h k:Nat} {e:PyData}:EXp k e→RC h k (sayD e)
 | fail {h k:Nat} {w:Str}:Lo w→RC h k (failD w)
 | want {h k:Nat} {e r:PyData}:EXp k e→RC h (k + 1) r→RC (h + 1) k (wantD e r)
 | when {h k:Nat} {e p q:PyData}:EXp k e→RC h k p→RC h k q→RC (h + 1) k (whenD e p q)
noncomputable abbrev Dc:=List (PyData×PyData)
noncomputable def tld (e:PyData) (got:List PyData):Option PyData:=(m__law_told 25 [.d e,.d (.list got)] []).map (·.1)
noncomputable def zer:PyData:=.tuple [.int 0,.str (Str.ofString ""),.tuple []]
noncomputable def nmB (v:PyData):Option PyData:=(m__law_is_name [.d v] []).map (·.1)
inductive Run (gd:Dc):PyData→List PyData→List SS→SS→Prop where
 | sayV {e v:PyData} {got:List PyData}:tld e got=some (vaD v)→Run gd (sayD e) got [] (Str.ofString "made",stp 24 v)
 | sayF {e:PyData} {w:Str} {got:List PyData}:tld e got=some (faD w)→Run gd (sayD e) got [] (Str.ofString "fails",w)
 | fail {w:Str} {got:List PyData}:Run gd (failD w) got [] (Str.ofString "fails",w)
 | whenF {e p q:PyData} {w:Str} {got:List PyData}:tld e got=some (faD w)→Run gd (whenD e p q) got [] (Str.ofString "fails",w)
 | when {e p q v:PyData} {b:Bool} {got:List PyData} {m:List SS} {en:SS}:tld e got=some (vaD v)→inG v zer=some (.bool b)→Run gd (if b=true then q else p) got m en→Run gd (whenD e p q) got m en
 | wantF {e r:PyData} {w:Str} {got:List PyData}:tld e got=some (faD w)→Run gd (wantD e r) got [] (Str.ofString "fails",w)
 | wantN {e r v:PyData} {got:List PyData}:tld e got=some (vaD v)→nmB v=some (.bool false)→Run gd (wantD e r) got [] (Str.ofString "fails",Str.ofString "name")
 | wantW {e r:PyData} {n:Str} {got:List PyData}:tld e got=some (vaD (.str n))→nmB (.str n)=some (.bool true)→keyAt gd n=none→Run gd (wantD e r) got [] (Str.ofString "wants",n)
 | want {e r v:PyData} {n:Str} {got:List PyData} {m:List SS} {en:SS}:tld e got=some (vaD (.str n))→nmB (.str n)=some (.bool true)→keyAt gd n=some v→Run gd r (got++[v]) m en→Run gd (wantD e r) got ((n,stp 24 v)::m) en
theorem va_inj {a b:PyData} (h:vaD a=vaD b):a=b:=by
 unfold vaD at h
 injection h with h
 injection h with _ h
 injection h
theorem fa_inj {a b:Str} (h:faD a=faD b):a=b:=by
 unfold faD at h
 injection h with h
 injection h with _ h
 injection h with h _
 injection h
theorem va_fa {a:PyData} {b:Str} (h:vaD a=faD b):False:=by
 unfold vaD faD at h
 injection h with h
 injection h with h _
 injection h with h
 exact absurd h (by decide)
theorem inv_say {g:Dc} {e:PyData} {got:List PyData} {m:List SS} {en:SS} (h:Run g (sayD e) got m en):m=[]∧((∃ v,tld e got=some (vaD v)∧en=(Str.ofString "made",stp 24 v))∨∃ w,tld e got=some (faD w)∧en=(Str.ofString "fails",w)):=by
 generalize hs:sayD e=s at h
 cases h with
 | sayV h=>cases hs; exact ⟨rfl,.inl ⟨_,h,rfl⟩⟩
 | sayF h=>cases hs; exact ⟨rfl,.inr ⟨_,h,rfl⟩⟩
 | _=>cases hs
theorem inv_fail {g:Dc} {w:Str} {got:List PyData} {m:List SS} {en:SS} (h:Run g (failD w) got m en):m=[]∧en=(Str.ofString "fails",w):=by
 generalize hs:failD w=s at h
 cases h with
 | fail=>cases hs; exact ⟨rfl,rfl⟩
 | _=>cases hs
theorem inv_when {g:Dc} {e p q:PyData} {got:List PyData} {m:List SS} {en:SS} (h:Run g (whenD e p q) got m en):(∃ w,tld e got=some (faD w)∧m=[]∧en=(Str.ofString "fails",w))∨∃ v b,tld e got=some (vaD v)∧inG v zer=some (.bool b)∧Run g (if b=true then q else p) got m en:=by
 generalize hs:whenD e p q=s at h
 cases h with
 | whenF h=>cases hs; exact .inl ⟨_,h,rfl,rfl⟩
 | when h hb hr=>cases hs; exact .inr ⟨_,_,h,hb,hr⟩
 | _=>cases hs
theorem inv_want {g:Dc} {e r:PyData} {got:List PyData} {m:List SS} {en:SS} (h:Run g (wantD e r) got m en):(∃ w,tld e got=some (faD w)∧m=[]∧en=(Str.ofString "fails",w))∨(∃ v,tld e got=some (vaD v)∧nmB v=some (.bool false)∧m=[]∧en=(Str.ofString "fails",Str.ofString "name")) ∨
  (∃ n,tld e got=some (vaD (.str n))∧nmB (.str n)=some (.bool true)∧keyAt g n=none∧m=[]∧en=(Str.ofString "wants",n))∨∃ n v m',tld e got=some (vaD (.str n))∧nmB (.str n)=some (.bool true)∧keyAt g n=some v∧Run g r (got++[v]) m' en∧m=(n,stp 24 v)::m':=by
 generalize hs:wantD e r=s at h
 cases h with
 | wantF h=>cases hs; exact .inl ⟨_,h,rfl,rfl⟩
 | wantN h hn=>cases hs; exact .inr (.inl ⟨_,h,hn,rfl,rfl⟩)
 | wantW h hn hk=>cases hs; exact .inr (.inr (.inl ⟨_,h,hn,hk,rfl,rfl⟩))
 | want h hn hk hr=>cases hs; exact .inr (.inr (.inr ⟨_,_,_,h,hn,hk,hr,rfl⟩))
 | _=>cases hs
theorem run_odds {g1 g2:Dc} (inj:∀ n v v',keyAt g1 n=some v→keyAt g2 n=some v'→stp 24 v=stp 24 v'→v=v') {r:PyData} {got:List PyData} {m1:List SS} {e1:SS} (h1:Run g1 r got m1 e1):∀ {m2:List SS} {e2:SS},Run g2 r got m2 e2→odds m1 e1 m2 e2=false:=by
 have os:∀ e:SS,odds [] e [] e=false:=fun e=>odds_self [] e
 have sv:∀ {a:Option PyData} {x y:PyData},a=some (vaD x)→a=some (vaD y)→x=y:=fun h g=>va_inj (Option.some.inj (h.symm.trans g))
 have sf:∀ {a:Option PyData} {x y:Str},a=some (faD x)→a=some (faD y)→x=y:=fun h g=>fa_inj (Option.some.inj (h.symm.trans g))
 have vf:∀ {a:Option PyData} {x:PyData} {y:Str},a=some (vaD x)→a=some (faD y)→False:=fun h g=>va_fa (Option.some.inj (h.symm.trans g))
 induction h1 with
 | sayV h=>
  intro m2 e2 h2
  obtain ⟨rfl,⟨v,h',rfl⟩ | ⟨w,h',rfl⟩⟩:=inv_say h2
  ·cases sv h h'
   exact os _
  ·exact (vf h h').elim
 | sayF h=>
  intro m2 e2 h2
  obtain ⟨rfl,⟨v,h',rfl⟩ | ⟨w,h',rfl⟩⟩:=inv_say h2
  ·exact (vf h' h).elim
  ·cases sf h h'
   exact os _
 | fail=>
  intro m2 e2 h2
  obtain ⟨rfl,rfl⟩:=inv_fail h2
  exact os _
 | whenF h=>
  intro m2 e2 h2
  rcases inv_when h2 with ⟨w,h',rfl,rfl⟩ | ⟨v,b,h',hb,hr⟩
  ·cases sf h h'
   exact os _
  ·exact (vf h' h).elim
 | when h hb hr ih=>
  intro m2 e2 h2
  rcases inv_when h2 with ⟨w,h',rfl,rfl⟩ | ⟨v,b,h',hb',hr'⟩
  ·exact (vf h h').elim
  ·cases sv h h'
   rw [hb] at hb'
   cases hb'
   exact ih hr'
 | wantF h=>
  intro m2 e2 h2
  rcases inv_want h2 with ⟨w,h',rfl,rfl⟩ | ⟨v,h',_⟩ | ⟨n,h',_⟩ | ⟨n,v,m',h',_⟩
  ·cases sf h h'
   exact os _
  all_goals exact (vf h' h).elim
 | wantN h hn=>
  intro m2 e2 h2
  rcases inv_want h2 with ⟨w,h',rfl,rfl⟩ | ⟨v,h',hn',rfl,rfl⟩ | ⟨n,h',hn',_⟩ | ⟨n,v,m',h',hn',_⟩
  ·exact (vf h h').elim
  ·exact os _
  all_goals
   cases sv h h'
   rw [hn] at hn'
   cases hn'
 | wantW h hn hk=>
  intro m2 e2 h2
  rcases inv_want h2 with ⟨w,h',rfl,rfl⟩ | ⟨v,h',hn',_⟩ | ⟨n,h',hn',hk',rfl,rfl⟩ | ⟨n,v,m',h',hn',hk',hr',rfl⟩
  ·exact (vf h h').elim
  ·cases sv h h'
   rw [hn] at hn'
   cases hn'
  ·cases sv h h'
   exact os _
  ·cases sv h h'
   simp [odds,cpl,nxt]
 | @want e r v0 n0 got m en h hn hk hr ih=>
  intro m2 e2 h2
  rcases inv_want h2 with ⟨w,h',rfl,rfl⟩ | ⟨v,h',hn',_⟩ | ⟨n,h',hn',hk',rfl,rfl⟩ | ⟨n,v,m',h',hn',hk',hr',rfl⟩
  ·exact (vf h h').elim
  ·cases sv h h'
   rw [hn] at hn'
   cases hn'
  ·cases sv h h'
   simp [odds,cpl,nxt]
  ·have hq:=sv h h'
   injection hq with hq
   subst hq
   by_cases hs:stp 24 v0=stp 24 v
   ·have hv:=inj _ _ _ hk hk' hs
    subst hv
    rw [odds_cons]
    exact ih hr'
   ·simp [odds,cpl,nxt,hs]
noncomputable def rnC:FT:=(fTst (fBin notInD (fBin ixD (fVar 0) (fC (.int 0))) (fSeqD .tuple (fCons (fC (.str (Str.ofString "say"))) (fCons (fC (.str (Str.ofString "fail"))) fNil)))))
noncomputable def rnB:FS:=(fSeq (fSet 4 (fCallF (m__law_told 25) (fCons (fBin ixD (fVar 0) (fC (.int 1))) (fCons (fVar 2) fNil)))) (fSeq (fIf (fTst (fBin eqD (fBin ixD (fVar 4) (fC (.int 0))) (fC (.str (Str.ofString "fails"))))) (fRet (fSeqD .tuple (fCons (fCB tupleD (fCons (fVar 3) fNil)) (fCons (fVar 4) (fCons (fC .none) fNil))))) fNext) (fIf (fTst (fBin eqD (fBin ixD (fVar 0) (fC (.int 0))) (fC (.str (Str.ofString "when"))))) (fSet 0 (fIfE (fTst (fBin inG (fBin ixD (fVar 4) (fC (.int 1))) (fSeqD .tuple (fCons (fC (.int 0)) (fCons (fC (.str (Str.ofString ""))) (fCons (fSeqD .tuple fNil) fNil)))))) (fBin ixD (fVar 0) (fC (.int 3))) (fBin ixD (fVar 0) (fC (.int 2))))) (fIf (fNotT (fTru (fCall m__law_is_name (fCons (fBin ixD (fVar 4) (fC (.int 1))) fNil)))) (fRet (fSeqD .tuple (fCons (fCB tupleD (fCons (fVar 3) fNil)) (fCons (fSeqD .tuple (fCons (fC (.str (Str.ofString "fails"))) (fCons (fC (.str (Str.ofString "name"))) fNil))) (fCons (fC .none) fNil))))) (fIf (fTst (fBin notInB (fBin ixD (fVar 4) (fC (.int 1))) (fVar 1))) (fRet (fSeqD .tuple (fCons (fCB tupleD (fCons (fVar 3) fNil)) (fCons (fSeqD .tuple (fCons (fC (.str (Str.ofString "wants"))) (fCons (fBin ixD (fVar 4) (fC (.int 1))) fNil))) (fCons (fC .none) fNil))))) (fSeq (fApp 2 (fBin ixA (fVar 1) (fBin ixD (fVar 4) (fC (.int 1))))) (fSeq (fIf (fTst (fBin eqD (fBin ixD (fVar 0) (fC (.int 0))) (fC (.str (Str.ofString "want"))))) (fApp 3 (fSeqD .tuple (fCons (fBin ixD (fVar 4) (fC (.int 1))) (fCons (fCall (m__law_stamp 25) (fCons (fBin ixD (fVar 2) (fUn negD (fC (.int 1)))) fNil)) fNil)))) fNext) (fSet 0 (fBin ixD (fVar 0) (fC (.int 2)))))))))))
noncomputable def rnR:FS:=(fSeq (fSet 4 (fSeqD .tuple (fCons (fC (.str (Str.ofString "fails"))) (fCons (fBin ixD (fVar 0) (fC (.int 1))) fNil)))) (fSeq (fIf (fTst (fBin eqD (fBin ixD (fVar 0) (fC (.int 0))) (fC (.str (Str.ofString "say"))))) (fSet 4 (fCallF (m__law_told 25) (fCons (fBin ixD (fVar 0) (fC (.int 1))) (fCons (fVar 2) fNil)))) fNext) (fSeq (fIf (fTst (fBin eqD (fBin ixD (fVar 4) (fC (.int 0))) (fC (.str (Str.ofString "fails"))))) (fRet (fSeqD .tuple (fCons (fCB tupleD (fCons (fVar 3) fNil)) (fCons (fVar 4) (fCons (fC .none) fNil))))) fNext) (fRet (fSeqD .tuple (fCons (fCB tupleD (fCons (fVar 3) fNil)) (fCons (fSeqD .tuple (fCons (fC (.str (Str.ofString "made"))) (fCons (fCall (m__law_stamp 25) (fCons (fBin ixD (fVar 4) (fC (.int 1))) fNil)) fNil))) (fCons (fBin ixD (fVar 4) (fC (.int 1))) fNil))))))))
theorem run_is:m__law_run=mkFn 5 (fSeq (fSetL 2 fNil) (fSeq (fSetL 3 fNil) (fSeq (whileF rnC rnB 100000) rnR))):=rfl
theorem sh_vt {n:Nat} {v:PyData} (h:Vt n v):v.canLay0=true∧v.depth≤n:=by
 induction h with
 | int _=>exact ⟨rfl,by simp [PyData.depth]⟩
 | str _ g=>exact ⟨by simp [PyData.canLay0,ok_str g],by simp [PyData.depth]⟩
 | @tup n ds h g ih=>
  have key:PyData.canLayAll0 ds=true∧PyData.depthAll ds≤n:=by
   clear h
   induction ds with
   | nil=>exact ⟨rfl,by simp [PyData.depthAll]⟩
   | cons a r ih2=>
    have h1:=ih a List.mem_cons_self
    have h2:=ih2 (fun d hd=>g d (List.mem_cons_of_mem _ hd)) fun d hd=>ih d (List.mem_cons_of_mem _ hd)
    exact ⟨by simp [PyData.canLayAll0,h1.1,h2.1],by simp [PyData.depthAll]; omega⟩
  exact ⟨by simp [PyData.canLay0,key.1],by simp [PyData.depth]; omega⟩
theorem in_zer {v:PyData} (h:Vt 4 v):∃ b,inG v zer=some (.bool b):=by
 have s:=sh_vt h
 have s1:SeqAt.shaped v=true:=by
  unfold SeqAt.shaped
  rw [s.1]
  simp
  omega
 exact ⟨_,if_pos ⟨s1,by decide +kernel⟩⟩
theorem L_isname {n:Nat} {v:PyData} (h:Vt n v):∃ b,(∀ T,m__law_is_name [.d v] T=some (.bool b,T))∧(b=true→∃ x,v=.str x∧Lo x):=by
 cases h with
 | int _=>exact ⟨false,fun T=>by simp [m__law_is_name,isi_is],fun z=>by cases z⟩
 | tup _ _=>exact ⟨false,fun T=>by simp [m__law_is_name,isi_ts],fun z=>by cases z⟩
 | @str _ x hx ox=>
  have z:x.length≤sizeLine:=by rw [sz]; omega
  by_cases h1:1≤x.length∧x.length≤8
  ·have c:∀ T,compL fTrue (fBin inD (fVar 0) (fC (.str (Str.ofString "abcdefghijklmnopqrstuvwxyz")))) [some (.d (.str x))] (D.signs x) T=some ((D.signs x).map fun d=>.bool (strHas (Str.ofString "abcdefghijklmnopqrstuvwxyz") d),T):=fun T=>compL_map (g:=fun d=>.bool (strHas (Str.ofString "abcdefghijklmnopqrstuvwxyz") d)) fun d hd=>by
    obtain ⟨k,_,rfl⟩:=signs_mem hd
    simp [strHas]
   have h1a:(1:Int)≤x.length:=by omega
   have h1b:(x.length:Int)≤8:=by omega
   exact ⟨(D.signs x).all (strHas (Str.ofString "abcdefghijklmnopqrstuvwxyz")),fun T=>by simp [m__law_is_name,isi_ss,z,h1,h1a,h1b,c],fun _=>⟨x,rfl,ox⟩⟩
  ·by_cases h2:(1:Int)≤x.length
   ·have h3:¬ (x.length:Int)≤8:=by omega
    have h3':¬ x.length≤8:=by omega
    exact ⟨false,fun T=>by simp [m__law_is_name,isi_ss,z,h2,h3,h3'],fun z=>by cases z⟩
   ·exact ⟨false,fun T=>by simp [m__law_is_name,isi_ss,z,h2],fun z=>by cases z⟩
theorem tb_va {v:PyData} (h:Vt 4 v):tupB (vaD v)=true:=by
 have:=vt_tupB h
 simp [vaD,tupB,tupBs,this]
theorem tb_fa (w:Str):tupB (faD w)=true:=by simp [faD,tupB,tupBs]
theorem tb_tl {r:PyData} (h:Tl r):tupB r=true:=by
 cases h with
 | va h=>exact tb_va h
 | fa _=>exact tb_fa _
theorem nin2 (a b c:Str):notInD (.str a) (.tuple [.str b,.str c])=some (.bool (!(decide (b=a) || decide (c=a)))):=by
 have e:∀ x y:Str,eqF (.str x) (.str y)=decide (x=y):=fun x y=>by
  rw [Bool.eq_iff_iff]
  simp [eqF]
 simp [notInD,inS,flatD,e]
theorem cond_of (w:String) (l:List PyData) (u v x y:Option W) (T:Tp):rnC [some (.d (.tuple (.str (Str.ofString w)::l))),u,v,x,y] T=some (!(decide (Str.ofString "say" = Str.ofString w) || decide (Str.ofString "fail" = Str.ofString w)),T):=by
 have i0:atI (PyData.str (Str.ofString w)::l) 0=some (.str (Str.ofString w)):=by
  exact atI_nat (xs:=PyData.str (Str.ofString w)::l) (j:=0) (v:=.str (Str.ofString w)) rfl
 simp [rnC,i0,nin2]
theorem cf_told {e:PyData} {got:List PyData} {r:PyData} {T:Tp} (h:∀ T,m__law_told 25 [.d e,.d (.list got)] T=some (r,T)) (hr:Tl r):callFK (m__law_told 25) [.d e,.loc (.list got)] T=some (.d r,T):=callFK_ok rfl (h []) (tb_tl hr)
noncomputable def fin (rs:List SS) (en:SS) (x:PyData):PyData:=.tuple [.tuple (rdD rs),enD en,x]
theorem n_vf:Str.ofString "value"≠Str.ofString "fails":=by decide
theorem at4 {α:Type} {a b c d:α}:atI [a,b,c,d] 0=some a∧atI [a,b,c,d] 1=some b∧atI [a,b,c,d] 2=some c∧atI [a,b,c,d] 3=some d:=⟨rfl,rfl,rfl,rfl⟩
theorem end_say {e:PyData} {got:List PyData} {r:PyData} (h:∀ T,m__law_told 25 [.d e,.d (.list got)] T=some (r,T)) (hr:Tl r) (g:PyData) (rs:List SS) (y:Option W) (T:Tp):∃ en x ρ',(OkE en∧tupB x=true)∧((∃ v,r=vaD v∧en=(Str.ofString "made",stp 24 v))∨(∃ w,r=faD w∧en=(Str.ofString "fails",w))) ∧
  rnR [some (.d (sayD e)),some (.d g),some (.loc (.list got)),some (.loc (.list (rdD rs))),y] T=some ((.rt (fin rs en x),ρ'),T):=by
 have cf:=cf_told (T:=T) h hr
 cases hr with
 | @va v hv=>
  have st:∀ T,m__law_stamp 25 [.d v] T=some (.str (stp 24 v),T):=fun T=>L_stamp hv (by decide) 24 T (by decide)
  refine ⟨(Str.ofString "made",stp 24 v),v,[some (.d (sayD e)),some (.d g),some (.loc (.list got)),some (.loc (.list (rdD rs))),some (.d (vaD v))],⟨⟨lo_w (by decide +kernel),(stp_ok hv 24 (by decide)).2⟩,vt_tupB hv⟩,.inl ⟨v,rfl,rfl⟩,?_⟩
  unfold vaD at cf
  simp [rnR,sayD,at2',cf,n_vf,st,fin,enD,vaD]
 | @fa w hw=>
  refine ⟨(Str.ofString "fails",w),.none,[some (.d (sayD e)),some (.d g),some (.loc (.list got)),some (.loc (.list (rdD rs))),some (.d (faD w))],⟨⟨lo_w (by decide +kernel),hw⟩,rfl⟩,.inr ⟨w,rfl,rfl⟩,?_⟩
  unfold faD at cf
  simp [rnR,sayD,at2',cf,fin,enD,faD]
theorem end_fail {w:Str} (g:PyData) (got:List PyData) (rs:List SS) (y:Option W) (T:Tp):∃ ρ',rnR [some (.d (failD w)),some (.d g),some (.loc (.list got)),some (.loc (.list (rdD rs))),y] T=some ((.rt (fin rs (Str.ofString "fails",w) .none),ρ'),T):=by
 refine ⟨[some (.d (failD w)),some (.d g),some (.loc (.list got)),some (.loc (.list (rdD rs))),some (.d (faD w))],?_⟩
 have n:Str.ofString "fail"≠Str.ofString "say":=by decide
 simp [rnR,failD,at2',n,fin,enD,faD]
theorem tld_of {e:PyData} {got:List PyData} {r:PyData} (h:∀ T,m__law_told 25 [.d e,.d (.list got)] T=some (r,T)):tld e got=some r:=by
 unfold tld
 rw [h []]
 rfl
theorem nmB_of {v:PyData} {b:Bool} (h:∀ T,m__law_is_name [.d v] T=some (.bool b,T)):nmB v=some (.bool b):=by
 unfold nmB
 rw [h []]
 rfl
theorem ok_nil:OkR []:=fun p hp=>by cases hp
theorem n_ww:Str.ofString "want"≠Str.ofString "when":=by decide
theorem gl {got:List PyData} {v:PyData}:atI (got++[v]) (-1)=some v:=by
 have h1:(1:Int)≤(got.length:Int) + 1:=by omega
 have h2:(-1 + ((got.length:Int) + 1)).toNat=got.length:=by omega
 unfold atI ixN
 simp [h1,h2]
theorem step_fail {e:PyData} {l:List PyData} {a:String} {got:List PyData} {w:Str} (h:∀ T,m__law_told 25 [.d e,.d (.list got)] T=some (faD w,T)) (ht:Tl (faD w)) (g:PyData) (rs:List SS) (y:Option W) (T:Tp) :
  ∃ ρ',rnB [some (.d (.tuple (.str (Str.ofString a)::e::l))),some (.d g),some (.loc (.list got)),some (.loc (.list (rdD rs))),y] T=some ((.rt (fin rs (Str.ofString "fails",w) .none),ρ'),T):=by
 have cf:=cf_told (T:=T) h ht
 have i1:atI (PyData.str (Str.ofString a)::e::l) 1=some e:=atI_nat (xs:=PyData.str (Str.ofString a)::e::l) (j:=1) (v:=e) rfl
 refine ⟨[some (.d (.tuple (.str (Str.ofString a)::e::l))),some (.d g),some (.loc (.list got)),some (.loc (.list (rdD rs))),some (.d (faD w))],?_⟩
 unfold faD at cf
 simp [rnB,i1,cf,at2',fin,enD,faD]
theorem step_when {e p q v:PyData} {b:Bool} {got:List PyData} (h:∀ T,m__law_told 25 [.d e,.d (.list got)] T=some (vaD v,T)) (ht:Tl (vaD v)) (hb:inG v zer=some (.bool b)) (g:PyData) (rs:List SS) (y:Option W) (T:Tp) :
  rnB [some (.d (whenD e p q)),some (.d g),some (.loc (.list got)),some (.loc (.list (rdD rs))),y] T=some ((.nx,[some (.d (if b=true then q else p)),some (.d g),some (.loc (.list got)),some (.loc (.list (rdD rs))),some (.d (vaD v))]),T):=by
 have cf:=cf_told (T:=T) h ht
 unfold vaD at cf ⊢
 unfold zer at hb
 cases b <;> simp [rnB,whenD,at4,cf,at2',n_vf,hb]
theorem step_noname {e r v:PyData} {got:List PyData} (h:∀ T,m__law_told 25 [.d e,.d (.list got)] T=some (vaD v,T)) (ht:Tl (vaD v)) (hn:∀ T,m__law_is_name [.d v] T=some (.bool false,T)) (g:PyData) (rs:List SS) (y:Option W) (T:Tp) :
  ∃ ρ',rnB [some (.d (wantD e r)),some (.d g),some (.loc (.list got)),some (.loc (.list (rdD rs))),y] T=some ((.rt (fin rs (Str.ofString "fails",Str.ofString "name") .none),ρ'),T):=by
 have cf:=cf_told (T:=T) h ht
 refine ⟨[some (.d (wantD e r)),some (.d g),some (.loc (.list got)),some (.loc (.list (rdD rs))),some (.d (vaD v))],?_⟩
 unfold vaD at cf ⊢
 simp [rnB,wantD,at3,cf,at2',n_vf,n_ww,hn,fin,enD]
theorem step_lack {e r:PyData} {n:Str} {got:List PyData} {gd:Dc} (h:∀ T,m__law_told 25 [.d e,.d (.list got)] T=some (vaD (.str n),T)) (ht:Tl (vaD (.str n))) (hn:∀ T,m__law_is_name [.d (.str n)] T=some (.bool true,T)) (hk:keyAt gd n=none) (rs:List SS) (y:Option W) (T:Tp) :
  ∃ ρ',rnB [some (.d (wantD e r)),some (.d (.dict gd)),some (.loc (.list got)),some (.loc (.list (rdD rs))),y] T=some ((.rt (fin rs (Str.ofString "wants",n) .none),ρ'),T):=by
 have cf:=cf_told (T:=T) h ht
 refine ⟨[some (.d (wantD e r)),some (.d (.dict gd)),some (.loc (.list got)),some (.loc (.list (rdD rs))),some (.d (vaD (.str n)))],?_⟩
 unfold vaD at cf ⊢
 simp [rnB,wantD,at3,cf,at2',n_vf,n_ww,hn,hk,fin,enD]
theorem step_want {e r v:PyData} {n:Str} {got:List PyData} {gd:Dc} (h:∀ T,m__law_told 25 [.d e,.d (.list got)] T=some (vaD (.str n),T)) (ht:Tl (vaD (.str n))) (hn:∀ T,m__law_is_name [.d (.str n)] T=some (.bool true,T)) (hk:keyAt gd n=some v) (hv:Vt 2 v) (rs:List SS) (l1:rs.length≤100) (l2:got.length≤100) (y:Option W) (T:Tp) :
  rnB [some (.d (wantD e r)),some (.d (.dict gd)),some (.loc (.list got)),some (.loc (.list (rdD rs))),y] T=some ((.nx,[some (.d r),some (.d (.dict gd)),some (.loc (.list (got++[v]))),some (.loc (.list (rdD (rs++[(n,stp 24 v)])))),some (.d (vaD (.str n)))]),T):=by
 have cf:=cf_told (T:=T) h ht
 have st:∀ T,m__law_stamp 25 [.d v] T=some (.str (stp 24 v),T):=fun T=>L_stamp hv (by decide) 24 T (by decide)
 have z1:got.length < sizeLine:=by rw [sz]; omega
 have z2:(rdD rs).length < sizeLine:=by rw [sz,rd_len]; omega
 have rr:rdD rs++[.tuple [.str n,.str (stp 24 v)]]=rdD (rs++[(n,stp 24 v)]):=by simp [rdD,enD]
 have vw:∀ (T:Tp) (xs:List PyData) (y:PyData),op2 ixD T (.loc (.list xs)) (.d y)=mkD T (ixD (.list xs) y):=fun _ _ _=>rfl
 unfold vaD at cf ⊢
 simp [rnB,wantD,at3,cf,at2',n_vf,n_ww,hn,hk,z1,z2,st,gl,rr,vw]
theorem run_ok {gd:Dc} (hgd:∀ n v,keyAt gd n=some v→v∈allV) {h k:Nat} {r:PyData} (hc:RC h k r):∀ (got:List PyData) (rs:List SS) (y:Option W) (T:Tp) (f:Nat),got.length=k→(∀ v∈got,v∈allV)→OkR rs→rs.length + h≤100→got.length + h≤100→h < f →
  ∃ more en x ρ',Run gd r got more en∧OkR more∧(OkE en∧tupB x=true)∧more.length≤h∧bnd (whileF rnC rnB f [some (.d r),some (.d (.dict gd)),some (.loc (.list got)),some (.loc (.list (rdD rs))),y] T) (seqK rnR)=some ((.rt (fin (rs++more) en x),ρ'),T):=by
 induction hc with
 | @say h k e he=>
  intro got rs y T f hk hg ho l1 l2 hf
  obtain ⟨f,rfl⟩:∃ q,f=q + 1:=⟨f - 1,by omega⟩
  obtain ⟨t,ht,et⟩:=told_ok he hk hg
  obtain ⟨en,x,ρ',oe,hen,ee⟩:=end_say et ht (.dict gd) rs y T
  have cc:=cond_of "say" [e] (some (.d (.dict gd))) (some (.loc (.list got))) (some (.loc (.list (rdD rs)))) y T
  refine ⟨[],en,x,ρ',?_,ok_nil,oe,Nat.zero_le _,?_⟩
  ·rcases hen with ⟨v,rfl,rfl⟩ | ⟨w,rfl,rfl⟩
   ·exact .sayV (tld_of et)
   ·exact .sayF (tld_of et)
  ·rw [List.append_nil,← ee]
   unfold whileF sayD
   rw [cc]
   simp
 | @fail h k w hw=>
  intro got rs y T f hk hg ho l1 l2 hf
  obtain ⟨f,rfl⟩:∃ q,f=q + 1:=⟨f - 1,by omega⟩
  obtain ⟨ρ',ee⟩:=end_fail (w:=w) (.dict gd) got rs y T
  have cc:=cond_of "fail" [.str w] (some (.d (.dict gd))) (some (.loc (.list got))) (some (.loc (.list (rdD rs)))) y T
  refine ⟨[],_,.none,ρ',.fail,ok_nil,⟨⟨lo_w (by decide +kernel),hw⟩,rfl⟩,Nat.zero_le _,?_⟩
  rw [List.append_nil,← ee]
  unfold whileF failD
  rw [cc]
  simp
 | @want h k e r he hr ih=>
  intro got rs y T f hk hg ho l1 l2 hf
  obtain ⟨f,rfl⟩:∃ q,f=q + 1:=⟨f - 1,by omega⟩
  obtain ⟨t,ht,et⟩:=told_ok he hk hg
  have cc:=cond_of "want" [e,r] (some (.d (.dict gd))) (some (.loc (.list got))) (some (.loc (.list (rdD rs)))) y T
  have c1:(!(decide (Str.ofString "say" = Str.ofString "want") || decide (Str.ofString "fail" = Str.ofString "want")))=true:=by decide
  rw [c1] at cc
  have go:whileF rnC rnB (f + 1) [some (.d (wantD e r)),some (.d (.dict gd)),some (.loc (.list got)),some (.loc (.list (rdD rs))),y] T=bnd (rnB [some (.d (wantD e r)),some (.d (.dict gd)),some (.loc (.list got)),some (.loc (.list (rdD rs))),y] T) fun p T2=>match p with
    | (.nx,ρ1)=>whileF rnC rnB f ρ1 T2
    | (.ct,ρ1)=>whileF rnC rnB f ρ1 T2
    | (.bk,ρ1)=>some ((.nx,ρ1),T2)
    | (.rt x,ρ1)=>some ((.rt x,ρ1),T2)
    | (.ro x,ρ1)=>some ((.ro x,ρ1),T2):=by
   conv=>lhs; unfold whileF
   show bnd (rnC [some (.d (.tuple (.str (Str.ofString "want")::[e,r]))),_,_,_,_] T) _=_
   rw [cc]
   rfl
  rw [go]
  cases ht with
  | @fa w hw=>
   obtain ⟨ρ',es⟩:=step_fail (a:="want") (l:=[r]) et (.fa hw) (.dict gd) rs y T
   refine ⟨[],_,.none,ρ',.wantF (tld_of et),ok_nil,⟨⟨lo_w (by decide +kernel),hw⟩,rfl⟩,Nat.zero_le _,?_⟩
   rw [List.append_nil,show wantD e r=.tuple (.str (Str.ofString "want")::e::[r]) from rfl,es]
   rfl
  | @va v hv=>
   obtain ⟨b,hb,hb'⟩:=L_isname hv
   cases b with
   | false=>
    obtain ⟨ρ',es⟩:=step_noname (r:=r) et (.va hv) hb (.dict gd) rs y T
    refine ⟨[],_,.none,ρ',.wantN (tld_of et) (nmB_of hb),ok_nil,⟨⟨lo_w (by decide +kernel),lo_w (by decide +kernel)⟩,rfl⟩,Nat.zero_le _,?_⟩
    rw [List.append_nil,es]
    rfl
   | true=>
    obtain ⟨n,rfl,on⟩:=hb' rfl
    cases hkk:keyAt gd n with
    | none=>
     obtain ⟨ρ',es⟩:=step_lack (r:=r) et (.va hv) hb hkk rs y T
     refine ⟨[],_,.none,ρ',.wantW (tld_of et) (nmB_of hb) hkk,ok_nil,⟨⟨lo_w (by decide +kernel),on⟩,rfl⟩,Nat.zero_le _,?_⟩
     rw [List.append_nil,es]
     rfl
    | some u=>
     have hu:=hgd n u hkk
     have vu:=(all_vg hu).vt
     have es:=step_want (r:=r) et (.va hv) hb hkk vu rs (by omega) (by omega) y T
     obtain ⟨more,en,x,ρ',h1,h2,h3,h4,h5⟩:=ih (got++[u]) (rs++[(n,stp 24 u)]) (some (.d (vaD (.str n)))) T f (by simp [hk]) (fun v hv=>by
      rcases List.mem_append.mp hv with q | q
      ·exact hg v q
      ·simp at q; subst q; exact hu) (ok_app ho fun p hp=>by simp at hp; subst hp; exact ⟨on,(stp_ok vu 24 (by decide)).2⟩) (by simp; omega) (by simp; omega) (by omega)
     refine ⟨(n,stp 24 u)::more,en,x,ρ',.want (tld_of et) (nmB_of hb) hkk h1,fun p hp=>?_,h3,by simp; omega,?_⟩
     ·rcases List.mem_cons.mp hp with q | q
      ·subst q; exact ⟨on,(stp_ok vu 24 (by decide)).2⟩
      ·exact h2 p q
     ·rw [es]
      rw [List.append_assoc] at h5
      exact h5
 | @when h k e p q he hp hq ihp ihq=>
  intro got rs y T f hk hg ho l1 l2 hf
  obtain ⟨f,rfl⟩:∃ q,f=q + 1:=⟨f - 1,by omega⟩
  obtain ⟨t,ht,et⟩:=told_ok he hk hg
  have cc:=cond_of "when" [e,p,q] (some (.d (.dict gd))) (some (.loc (.list got))) (some (.loc (.list (rdD rs)))) y T
  have c1:(!(decide (Str.ofString "say" = Str.ofString "when") || decide (Str.ofString "fail" = Str.ofString "when")))=true:=by decide
  rw [c1] at cc
  have go:whileF rnC rnB (f + 1) [some (.d (whenD e p q)),some (.d (.dict gd)),some (.loc (.list got)),some (.loc (.list (rdD rs))),y] T=bnd (rnB [some (.d (whenD e p q)),some (.d (.dict gd)),some (.loc (.list got)),some (.loc (.list (rdD rs))),y] T) fun p T2=>match p with
    | (.nx,ρ1)=>whileF rnC rnB f ρ1 T2
    | (.ct,ρ1)=>whileF rnC rnB f ρ1 T2
    | (.bk,ρ1)=>some ((.nx,ρ1),T2)
    | (.rt x,ρ1)=>some ((.rt x,ρ1),T2)
    | (.ro x,ρ1)=>some ((.ro x,ρ1),T2):=by
   conv=>lhs; unfold whileF
   show bnd (rnC [some (.d (.tuple (.str (Str.ofString "when")::[e,p,q]))),_,_,_,_] T) _=_
   rw [cc]
   rfl
  rw [go]
  cases ht with
  | @fa w hw=>
   obtain ⟨ρ',es⟩:=step_fail (a:="when") (l:=[p,q]) et (.fa hw) (.dict gd) rs y T
   refine ⟨[],_,.none,ρ',.whenF (tld_of et),ok_nil,⟨⟨lo_w (by decide +kernel),hw⟩,rfl⟩,Nat.zero_le _,?_⟩
   rw [List.append_nil,show whenD e p q=.tuple (.str (Str.ofString "when")::e::[p,q]) from rfl,es]
   rfl
  | @va v hv=>
   obtain ⟨b,hb⟩:=in_zer hv
   have es:=step_when (p:=p) (q:=q) et (.va hv) hb (.dict gd) rs y T
   have ih:∃ more en x ρ',Run gd (if b=true then q else p) got more en∧OkR more∧(OkE en∧tupB x=true)∧more.length≤h∧bnd (whileF rnC rnB f [some (.d (if b=true then q else p)),some (.d (.dict gd)),some (.loc (.list got)),some (.loc (.list (rdD rs))),some (.d (vaD v))] T) (seqK rnR)=some ((.rt (fin (rs++more) en x),ρ'),T):=by
    cases b with
    | true=>exact ihq got rs _ T f hk hg ho (by omega) (by omega) (by omega)
    | false=>exact ihp got rs _ T f hk hg ho (by omega) (by omega) (by omega)
   obtain ⟨more,en,x,ρ',h1,h2,h3,h4,h5⟩:=ih
   refine ⟨more,en,x,ρ',.when (tld_of et) hb h1,h2,h3,by omega,?_⟩
   rw [es]
   exact h5
theorem L_run {gd:Dc} (hgd:∀ n v,keyAt gd n=some v→v∈allV) {h:Nat} {r:PyData} (hc:RC h 0 r) (hh:h≤10) (T:Tp):∃ m en x,Run gd r [] m en∧OkR m∧(OkE en∧tupB x=true)∧m.length≤10∧m__law_run [.d r,.d (.dict gd)] T=some (fin m en x,T):=by
 obtain ⟨m,en,x,ρ',h1,h2,h3,h4,h5⟩:=run_ok hgd hc [] [] none T 100000 rfl (fun v hv=>by cases hv) ok_nil (by simp; omega) (by simp; omega) (by omega)
 refine ⟨m,en,x,h1,h2,h3,by omega,?_⟩
 rw [List.nil_append] at h5
 rw [run_is]
 have r0:rdD []=[]:=rfl
 rw [r0] at h5
 simp [h5]
end G
namespace G
open PySem PySem.Spec PyProof.Rows L2 D
theorem in10 {r:Int} (h0:0≤r) (h1:r < 10):r=0∨r=1∨r=2∨r=3∨r=4∨r=5∨r=6∨r=7∨r=8∨r=9:=by omega
theorem v_1:PyData.int 1∈allV:=by simp [allV,menuV]
theorem v_0:PyData.int 0∈allV:=by simp [allV,menuV]
theorem v_a:PyData.str (Str.ofString "a")∈allV:=by simp [allV,menuV]
theorem g0 {k:Nat} (h:0 < k):Lf k (exG 0):=.got (i:=0) h
theorem g1 {k:Nat} (h:1 < k):Lf k (exG 1):=.got (i:=1) h
theorem L_expr (ns:List Int) (k:Int) (xs:List Str) (N:Nms xs) (T:Tp) (hk:0≤k:=by omega) (hk':k≤80000:=by omega) (hl:ns.length≤63:=by omega):∃ e,m__law_expr [.d (script ns),.d (.int k),.d (.list (xs.map .str))] T=some (e,T)∧EXp 1 e:=by
 obtain ⟨v,ev,hv⟩:=L_value ns (k + 1) xs N T
 obtain ⟨r,er,a,b⟩:=L_draw ns k 10 T
 have z:(5:Nat) + 5≤sizeLine:=by decide
 have all:∃ e,atI [exG 0,ex2 "sum" (exG 0) (exP (.int 1)),ex2 "join" (exG 0) (exP (.str (Str.ofString "a"))),.tuple [.str (Str.ofString "many"),exG 0],ex2 "same" (exG 0) (exP v),.tuple [.str (Str.ofString "row"),.tuple [exG 0,exP v]],ex2 "part" (exG 0) (exP (.int 0)),ex2 "less" (exG 0) (exP (.int 1)),.tuple [.str (Str.ofString "many"),exG 0],exG 0] r=some e∧EXp 1 e:=by
  have g:=g0 (show 0 < 1 by decide)
  rcases in10 a b with rfl | rfl | rfl | rfl | rfl | rfl | rfl | rfl | rfl | rfl
  ·exact ⟨_,rfl,.lf g⟩
  ·exact ⟨_,rfl,.two (.inl rfl) g (.put v_1)⟩
  ·exact ⟨_,rfl,.two (.inr (.inl rfl)) g (.put v_a)⟩
  ·exact ⟨_,rfl,.many g⟩
  ·exact ⟨_,rfl,.two (.inr (.inr (.inl rfl))) g (.put hv)⟩
  ·exact ⟨_,rfl,.row g (.put hv)⟩
  ·exact ⟨_,rfl,.two (.inr (.inr (.inr (.inl rfl)))) g (.put v_0)⟩
  ·exact ⟨_,rfl,.two (.inr (.inr (.inr (.inr rfl)))) g (.put v_1)⟩
  ·exact ⟨_,rfl,.many g⟩
  ·exact ⟨_,rfl,.lf g⟩
 obtain ⟨e,ee,he⟩:=all
 refine ⟨e,?_,he⟩
 unfold exG exP ex2 at ee
 simp [m__law_expr,ev,z,er,ee]
theorem L_pick (ns:List Int) (k:Int) (xs:List Str) (N:Nms xs) (T:Tp) (hk:0≤k:=by omega) (hk':k≤90000:=by omega) (hl:ns.length≤63:=by omega):∃ r x,m__law_draw [.d (script ns),.d (.int k),.d (.int (xs.length:Int))] T=some (.int r,T)∧atI (xs.map PyData.str) r=some (.str x)∧x∈menu:=by
 have n1:=N.few
 obtain ⟨r,e,a,b⟩:=L_draw ns k (xs.length:Int) T
 obtain ⟨x,h1,h2⟩:=atI_in (xs:=xs.map PyData.str) (i:=r) a (by simpa using b)
 obtain ⟨y,hy,rfl⟩:=List.mem_map.mp h2
 exact ⟨r,y,e,h1,N.inm y hy⟩
theorem v_nm {x:Str} (h:x∈menu):PyData.str x∈allV:=List.mem_append_right _ (List.mem_map.mpr ⟨x,h,rfl⟩)
theorem L_recipe (ns:List Int) (k:Int) (xs:List Str) (N:Nms xs) (T:Tp) (hk:0≤k:=by omega) (hk':k≤70000:=by omega) (hl:ns.length≤63:=by omega):∃ r,m__law_recipe [.d (script ns),.d (.int k),.d (.list (xs.map .str)),.d (.int 8)] T=some (r,T)∧RC 3 0 r:=by
 obtain ⟨r0,n0,e0,f0,m0⟩:=L_pick ns k xs N T
 obtain ⟨r1,n1,e1,f1,m1⟩:=L_pick ns (k + 1) xs N T
 obtain ⟨v,e2,hv⟩:=L_value ns (k + 2) xs N T
 obtain ⟨x,e3,hx⟩:=L_expr ns (k + 3) xs N T
 obtain ⟨r5,e5,a5,b5⟩:=L_draw ns (k + 5) 3 T
 obtain ⟨r6,n6,e6,f6,m6⟩:=L_pick ns (k + 6) xs N T
 obtain ⟨r7,e7,a7,b7⟩:=L_draw ns (k + 7) 8 T
 have hb:∃ b,atI [PyData.tuple [.str (Str.ofString "row"),.tuple [exG 0,exG 1]],ex2 "same" (exG 0) (exG 1),ex2 "sum" (exG 1) (exG 0)] r5=some b∧EXp 2 b:=by
  have p:=g0 (show 0 < 2 by decide)
  have q:=g1 (show 1 < 2 by decide)
  rcases in3 a5 b5 with rfl | rfl | rfl
  ·exact ⟨_,rfl,.row p q⟩
  ·exact ⟨_,rfl,.two (.inr (.inr (.inl rfl))) p q⟩
  ·exact ⟨_,rfl,.two (.inl rfl) q p⟩
 obtain ⟨b,eb,hb⟩:=hb
 have p0:∀ {k:Nat},EXp k (exP (.str n0)):=.lf (.put (v_nm m0))
 have p1:∀ {k:Nat},EXp k (exP (.str n1)):=.lf (.put (v_nm m1))
 have all:∃ r,atI [sayD (exP v),wantD (exP (.str n0)) (sayD x),wantD (exP (.str n0)) (wantD (exP (.str n1)) (sayD b)),wantD (exP (.str n0)) (sayD x),wantD (exP (.str n0)) (whenD x (wantD (exP (.str n1)) (sayD (exG 1))) (sayD (exP v))),wantD (exP (.str n0)) (wantD (exG 0) (sayD (exG 1))),failD n6,wantD (exP (.str n0)) (wantD (exP (.str n0)) (sayD b)),
   .tuple [.str (Str.ofString "peek"),exP (.str n0),sayD x],.tuple [.str (Str.ofString "peek"),exP (.str n0),whenD x (wantD (exP (.str n1)) (sayD (exG 1))) (sayD (exP v))],wantD (exP (.str n0)) (.tuple [.str (Str.ofString "peek"),exP (.str n1),sayD b]),.tuple [.str (Str.ofString "peek"),exP (.str n0),wantD (exP (.str n1)) (sayD b)]] r7=some r∧RC 3 0 r:=by
  rcases in8 a7 b7 with rfl | rfl | rfl | rfl | rfl | rfl | rfl | rfl
  ·exact ⟨_,rfl,.say (.lf (.put hv))⟩
  ·exact ⟨_,rfl,.want p0 (.say hx)⟩
  ·exact ⟨_,rfl,.want p0 (.want p1 (.say hb))⟩
  ·exact ⟨_,rfl,.want p0 (.say hx)⟩
  ·exact ⟨_,rfl,.want p0 (.when hx (.want p1 (.say (.lf (g1 (by decide))))) (.say (.lf (.put hv))))⟩
  ·exact ⟨_,rfl,.want p0 (.want (.lf (g0 (by decide))) (.say (.lf (g1 (by decide)))))⟩
  ·exact ⟨_,rfl,.fail (menu_lo m6)⟩
  ·exact ⟨_,rfl,.want p0 (.want p0 (.say hb))⟩
 obtain ⟨r,er,hr⟩:=all
 refine ⟨r,?_,hr⟩
 ·have z1:(4:Nat) + 2≤sizeLine:=by decide
  have z2:(6:Nat) + 2≤sizeLine:=by decide
  have z3:(8:Nat) + 2≤sizeLine:=by decide
  have z4:(10:Nat) + 2≤sizeLine:=by decide
  unfold exG ex2 at eb
  unfold sayD wantD whenD failD exP exG at er
  simp [m__law_recipe,e0,f0,e1,f1,e2,e3,e5,eb,e6,f6,z1,z2,z3,z4,e7,er]
end G
namespace G
open PySem PySem.Spec PyProof.Rows L2 D
noncomputable def AllIn (ds:Dc):Prop:=∀ p∈ds,p.2∈allV
theorem key_in {n:Str} {v:PyData}:∀ {ds:Dc},AllIn ds→keyAt ds n=some v→v∈allV
 | [],_,h=>by simp [keyAt] at h
 | (k,x)::r,a,h=>by
  have a1:=a (k,x) List.mem_cons_self
  have a2:AllIn r:=fun p hp=>a p (List.mem_cons_of_mem _ hp)
  cases k with
  | str k=>
   unfold keyAt at h
   split at h
   ·cases h; exact a1
   ·exact key_in a2 h
  | _=>exact key_in a2 h
theorem put_in {s:Str} {x:PyData} (hx:x∈allV):∀ {ds:Dc},AllIn ds→AllIn (putKey ds s x)
 | [],_=>fun p hp=>by cases hp
 | (k,y)::r,a=>by
  have a1:=a (k,y) List.mem_cons_self
  have a2:AllIn (putKey r s x):=put_in hx fun p hp=>a p (List.mem_cons_of_mem _ hp)
  have key:∀ q:PyData×PyData,q.2∈allV→AllIn (q::putKey r s x):=fun q hq p hp=>by
   rcases List.mem_cons.mp hp with z | z
   ·subst z; exact hq
   ·exact a2 p z
  cases k with
  | str k=>
   unfold putKey
   split
   ·exact key _ hx
   ·exact key _ a1
  | _=>exact key _ a1
theorem putN_in {s:Str} {x:PyData} {ds:Dc} (hx:x∈allV) (a:AllIn ds):AllIn (putN ds s x):=by
 unfold putN
 split
 ·exact put_in hx a
 ·intro p hp
  rcases List.mem_append.mp hp with z | z
  ·exact a p z
  ·simp at z; subst z; exact hx
theorem put_len (s:Str) (x:PyData):∀ ds:Dc,(putKey ds s x).length=ds.length
 | []=>rfl
 | (k,y)::r=>by
  have ih:=put_len s x r
  cases k with
  | str k=>
   unfold putKey
   split <;> simp [ih]
  | _=>exact congrArg (· + 1) ih
theorem putN_len (s:Str) (x:PyData) (ds:Dc):(putN ds s x).length≤ds.length + 1:=by
 unfold putN
 split
 ·rw [put_len]; omega
 ·simp
@[simp] theorem ev_putN {i:Nat} {fk fv:FE} {ρ:Rho} {T:Tp}:fPutN i fk fv ρ T=bnd (fv ρ T) fun w T1=>putNO i fk ρ w T1 ρ[i]?:=rfl
@[simp] theorem ev_putNO {i:Nat} {fk:FE} {ρ:Rho} {w:D.W} {T:Tp} {ds:Dc}:putNO i fk ρ w T (some (some (.loc (.dict ds))))=bnd (fk ρ T) (putNK i ρ ds w):=rfl
@[simp] theorem ev_putNK {i:Nat} {ρ:Rho} {T:Tp} {ds:Dc} {x:PyData} {s:Str}:putNK i ρ ds (.d x) (.d (.str s)) T=if ds.length≤1000 then some ((.nx,ρ.set i (some (.loc (.dict (putN ds s x))))),T) else none:=rfl
noncomputable def gdB:FS:=(fIf (fTst (fBin gtD (fCall m__law_draw (fCons (fVar 0) (fCons (fBin addD (fVar 1) (fBin mulD (fC (.int 2)) (fVar 5))) (fCons (fC (.int 4)) fNil)))) (fC (.int 0)))) (fPutN 4 (fBin ixD (fVar 2) (fVar 5)) (fCall m__law_value (fCons (fVar 0) (fCons (fBin addD (fBin addD (fVar 1) (fC (.int 1))) (fBin mulD (fC (.int 2)) (fVar 5))) (fCons (fVar 2) fNil))))) fNext)
theorem gd_loop (ns:List Int) (k:Int) (xs:List Str) (N:Nms xs) (rc:PyData) (T:Tp) (hk:0≤k) (hk':k≤70000) (hl:ns.length≤63):∀ (ds:List PyData),(∀ d∈ds,∃ i:Int,d=.int i∧0≤i∧i < xs.length)→∀ (g:Dc) (a:Option W),AllIn g→g.length + ds.length≤1000 →
  ∃ g' a',forL 5 gdB ds [some (.d (script ns)),some (.d (.int k)),some (.d (.list (xs.map .str))),some (.d rc),some (.loc (.dict g)),a,none] T=some ((.nx,[some (.d (script ns)),some (.d (.int k)),some (.d (.list (xs.map .str))),some (.d rc),some (.loc (.dict g')),a',none]),T)∧AllIn g'
 | [],_,g,a,hg,_=>⟨g,a,rfl,hg⟩
 | d::ds,h,g,a,hg,hz=>by
  have n1:=N.most
  obtain ⟨i,rfl,h0,h1⟩:=h d List.mem_cons_self
  obtain ⟨r1,e1,a1,b1⟩:=L_draw ns (k + 2 * i) 4 T
  obtain ⟨v,e2,hv⟩:=L_value ns (k + 1 + 2 * i) xs N T
  obtain ⟨y,f1,f2⟩:=atI_in (xs:=xs.map PyData.str) (i:=i) h0 (by simpa using h1)
  obtain ⟨x,hx,rfl⟩:=List.mem_map.mp f2
  have hm:(-18446744073709551616 < i∧i < 18446744073709551616):=by omega
  have zl:g.length≤1000:=by simp at hz; omega
  by_cases hr:0 < r1
  ·obtain ⟨g',a',e,hg'⟩:=gd_loop ns k xs N rc T hk hk' hl ds (fun x hx=>h x (List.mem_cons_of_mem _ hx)) (putN g x v) (some (.d (.int i))) (putN_in hv hg) (by have:=putN_len x v g; simp at hz; omega)
   refine ⟨g',a',?_,hg'⟩
   have eb:gdB [some (.d (script ns)),some (.d (.int k)),some (.d (.list (xs.map .str))),some (.d rc),some (.loc (.dict g)),some (.d (.int i)),none] T=some ((.nx,[some (.d (script ns)),some (.d (.int k)),some (.d (.list (xs.map .str))),some (.d rc),some (.loc (.dict (putN g x v))),some (.d (.int i)),none]),T):=by
    simp [gdB,e1,hr,e2,f1,zl]
   unfold forL
   simp [eb,e]
  ·obtain ⟨g',a',e,hg'⟩:=gd_loop ns k xs N rc T hk hk' hl ds (fun x hx=>h x (List.mem_cons_of_mem _ hx)) g (some (.d (.int i))) hg (by simp at hz; omega)
   refine ⟨g',a',?_,hg'⟩
   have eb:gdB [some (.d (script ns)),some (.d (.int k)),some (.d (.list (xs.map .str))),some (.d rc),some (.loc (.dict g)),some (.d (.int i)),none] T=some ((.nx,[some (.d (script ns)),some (.d (.int k)),some (.d (.list (xs.map .str))),some (.d rc),some (.loc (.dict g)),some (.d (.int i)),none]),T):=by
    simp [gdB,e1,hr]
   unfold forL
   simp [eb,e]
structure Dng (r:PyData) (m:List SS) (en:SS):Prop where
 rd:OkR m
 oe:OkE en
 few:m.length≤10
 run:∃ g,AllIn g∧Run g r [] m en
theorem L_doing (ns:List Int) (k:Int) (xs:List Str) (N:Nms xs) (r:PyData) (hc:RC 3 0 r) (T:Tp) (hk:0≤k:=by omega) (hk':k≤70000:=by omega) (hl:ns.length≤63:=by omega):∃ m en,m__law_doing [.d (script ns),.d (.int k),.d (.list (xs.map .str)),.d r] T=some (lnD (Str.ofString "x") m en,T)∧Dng r m en:=by
 have n1:=N.most
 obtain ⟨g,a,e,hg⟩:=gd_loop ns k xs N r T hk hk' hl (numsD 0 xs.length) (fun d hd=>by
  obtain ⟨i,rfl,h1,h2⟩:=nums_mem hd
  exact ⟨i,rfl,h1,by omega⟩) [] none (fun p hp=>by cases hp) (by rw [nums_len]; simp; omega)
 obtain ⟨m,en,x,h1,h2,h3,h4,h5⟩:=L_run (fun n v h=>key_in hg h) hc (by omega) []
 refine ⟨m,en,?_,h2,h3.1,h4,g,hg,h1⟩
 have hr:rngOk (xs.length:Int)=true:=rng_small (by omega) (by omega)
 have sE:∀ {i:Nat} {ρ:Rho} {T:Tp},fSetE i ρ T=some ((.nx,ρ.set i (some (.loc (.dict [])))),T):=rfl
 unfold gdB at e
 have tb:tupB (fin m en x)=true:=by
  have t1:∀ rs:List SS,tupBs (rdD rs)=true:=fun rs=>by
   induction rs with
   | nil=>rfl
   | cons p r ih=>show (tupB (enD p) && tupBs (rdD r))=true; rw [ih]; rfl
  show (tupB (.tuple (rdD m)) && (tupB (enD en) && (tupB x && true)))=true
  rw [h3.2,show tupB (.tuple (rdD m))=true from t1 m]; rfl
 have fl:∀ {f:FE} {ρ:Rho} {T:Tp},fLend f ρ T=lendK T (f (lendR ρ) []):=rfl
 have lr0:lendR []=[]:=rfl
 have lrN:∀ {r:Rho},lendR (none::r)=none::lendR r:=rfl
 have lrD:∀ {x:PyData} {r:Rho},lendR (some (.d x)::r)=some (.d x)::lendR r:=rfl
 have lrL:∀ {x:PyData} {r:Rho},lendR (some (.loc x)::r)=some (.d x)::lendR r:=rfl
 have ra:∃ a',lendR [a,none]=[a',none]:=by
  cases a with
  | none=>exact ⟨_,rfl⟩
  | some w=>cases w <;> exact ⟨_,rfl⟩
 obtain ⟨a',ra⟩:=ra
 have lk:∀ {x:PyData} {T T':Tp},tupB x=true→lendK T (some (.d x,T'))=some (.d x,T):=fun h=>if_pos h
 simp [ev_frzC,m__law_doing,sE,hr,e,fl,lrD,lrL,ra,h5,lk tb]
 simp [fin,lnD,at3.1,at3.2.1,enD]
end G
namespace G
open PySem PySem.Spec PyProof.Rows L2 D
structure Lk where
 n:Str
 r:List SS
 e:SS
noncomputable def Lk.d (l:Lk):PyData:=lnD l.n l.r l.e
structure Lk.Ok (l:Lk):Prop where
 n:Lo l.n
 r:OkR l.r
 e:OkE l.e
 few:l.r.length≤10
noncomputable def oddL (l k:Lk):Bool:=odds k.r k.e l.r l.e
noncomputable def optD:Option Lk→PyData
 | none=>.none
 | some k=>k.d
theorem en_inj {a b:SS} (h:enD a=enD b):a=b:=by
 unfold enD at h
 injection h with h
 injection h with h1 h2
 injection h2 with h2 _
 injection h1 with h1
 injection h2 with h2
 exact Prod.ext h1 h2
theorem rd_inj:∀ {a b:List SS},rdD a=rdD b→a=b
 | [],[],_=>rfl
 | [],_::_,h=>by cases h
 | _::_,[],h=>by cases h
 | a::r,b::s,h=>by
  have h':enD a::rdD r=enD b::rdD s:=h
  injection h' with h1 h2
  rw [en_inj h1,rd_inj h2]
theorem lk_inj {a b:Lk} (h:a.d=b.d):a=b:=by
 obtain ⟨n,r,e⟩:=a
 obtain ⟨m,s,f⟩:=b
 have h':PyData.tuple [.str n,.tuple (rdD r),enD e]=.tuple [.str m,.tuple (rdD s),enD f]:=h
 injection h' with h'
 injection h' with h1 h2
 injection h2 with h2 h3
 injection h3 with h3 _
 injection h1 with h1
 injection h2 with h2
 rw [h1,rd_inj h2,en_inj h3]
noncomputable def faB:FS:=(fIf (fTru (fCall m_at_odds (fCons (fVar 2) (fCons (fVar 1) fNil)))) (fRet (fVar 2)) fNext)
theorem fa_loop (A:PyData) (l:Lk) (hl:l.Ok) (T:Tp):∀ (ls:List Lk) (u:Option W),(∀ k∈ls,k.Ok)→∃ ρ',bnd (forL 2 faB (ls.map Lk.d) [some (.d A),some (.d l.d),u] T) (seqK (fRet (fC .none)))=some ((.rt (optD (ls.find? (oddL l))),ρ'),T)
 | [],u,_=>⟨[some (.d A),some (.d l.d),u],by simp [forL,optD]⟩
 | k::ls,u,h=>by
  have hk:=h k List.mem_cons_self
  have o:m_at_odds [.d k.d,.d l.d] T=some (.bool (oddL l k),T):=L_odds k.n l.n k.r l.r k.e l.e T (by have:=hk.few; omega) hk.r hl.r hk.e hl.e
  rw [List.find?_cons,List.map_cons]
  unfold forL
  cases ho:oddL l k with
  | true=>
   refine ⟨[some (.d A),some (.d l.d),some (.d k.d)],?_⟩
   have eb:faB [some (.d A),some (.d l.d),some (.d k.d)] T=some ((.rt k.d,[some (.d A),some (.d l.d),some (.d k.d)]),T):=by simp [ev_frzC,faB,o,ho]
   simp [eb,optD]
  | false=>
   obtain ⟨ρ',e⟩:=fa_loop A l hl T ls (some (.d k.d)) fun x hx=>h x (List.mem_cons_of_mem _ hx)
   refine ⟨ρ',?_⟩
   have eb:faB [some (.d A),some (.d l.d),some (.d k.d)] T=some ((.nx,[some (.d A),some (.d l.d),some (.d k.d)]),T):=by simp [faB,o,ho]
   rw [← e]
   simp [eb]
theorem L_first (ls:List Lk) (l:Lk) (hl:l.Ok) (h:∀ k∈ls,k.Ok) (T:Tp):m_first_at_odds [.d (.list (ls.map Lk.d)),.d l.d] T=some (optD (ls.find? (oddL l)),T):=by
 obtain ⟨ρ',e⟩:=fa_loop (.list (ls.map Lk.d)) l hl T ls none h
 have e0:m_first_at_odds=mkFn 3 (fSeq (fFor 2 (fIter (fVar 0)) faB) (fRet (fC .none))):=rfl
 rw [e0]
 simp [e]
noncomputable abbrev Pr:=Str×Lk
noncomputable def prD (p:Pr):PyData:=.tuple [.str p.1,p.2.d]
noncomputable def elB:FS:=(fIf (fAndT (fTst (fBin eqD (fVar 3) (fVar 1))) (fTru (fCall m__law_odds (fCons (fVar 4) (fCons (fVar 2) fNil))))) (fRetOL (fCons (fVar 4) fNil)) fNext)
noncomputable def withT (ps:List Pr) (x:Str):List Lk:=(ps.filter fun p=>decide (p.1=x)).map (·.2)
noncomputable def dueD (o:Option Lk):List PyData:=match o with
 | none=>[]
 | some k=>[k.d]
theorem el_loop (A:PyData) (x:Str) (l:Lk) (hl:l.Ok) (T:Tp):∀ (ps:List Pr) (u v:Option W),(∀ p∈ps,p.2.Ok)→∃ ρ',bnd (forT 3 4 elB (ps.map prD) [some (.d A),some (.d (.str x)),some (.d l.d),u,v] T) (seqK (fRetOL fNil))=some ((.ro (.list (dueD ((withT ps x).find? (oddL l)))),ρ'),T)
 | [],u,v,_=>⟨[some (.d A),some (.d (.str x)),some (.d l.d),u,v],by simp [forT,withT,dueD,fRetOL,retOLK,datas]⟩
 | (y,k)::ps,u,v,h=>by
  have hk:k.Ok:=h (y,k) List.mem_cons_self
  have o:m__law_odds [.d k.d,.d l.d] T=some (.bool (oddL l k),T):=L_lodds k.n l.n k.r l.r k.e l.e T (by have:=hk.few; omega) (by have:=hl.few; omega) hk.r hl.r hk.e hl.e
  rw [List.map_cons]
  rw [show prD (y,k)=.tuple [.str y,k.d] from rfl]
  unfold forT
  by_cases hx:y=x
  ·subst hx
   have w:withT ((y,k)::ps) y=k::withT ps y:=by simp [withT]
   rw [w,List.find?_cons]
   cases ho:oddL l k with
   | true=>
    refine ⟨[some (.d A),some (.d (.str y)),some (.d l.d),some (.d (.str y)),some (.d k.d)],?_⟩
    have eb:elB [some (.d A),some (.d (.str y)),some (.d l.d),some (.d (.str y)),some (.d k.d)] T=some ((.ro (.list [k.d]),[some (.d A),some (.d (.str y)),some (.d l.d),some (.d (.str y)),some (.d k.d)]),T):=by simp [elB,o,ho,fRetOL,retOLK,datas]
    simp [eb,dueD]
    rfl
   | false=>
    obtain ⟨ρ',e⟩:=el_loop A y l hl T ps (some (.d (.str y))) (some (.d k.d)) fun p hp=>h p (List.mem_cons_of_mem _ hp)
    refine ⟨ρ',?_⟩
    have eb:elB [some (.d A),some (.d (.str y)),some (.d l.d),some (.d (.str y)),some (.d k.d)] T=some ((.nx,[some (.d A),some (.d (.str y)),some (.d l.d),some (.d (.str y)),some (.d k.d)]),T):=by simp [elB,o,ho]
    rw [← e]
    simp [eb]
  ·have w:withT ((y,k)::ps) x=withT ps x:=by simp [withT,hx]
   rw [w]
   obtain ⟨ρ',e⟩:=el_loop A x l hl T ps (some (.d (.str y))) (some (.d k.d)) fun p hp=>h p (List.mem_cons_of_mem _ hp)
   refine ⟨ρ',?_⟩
   have eb:elB [some (.d A),some (.d (.str x)),some (.d l.d),some (.d (.str y)),some (.d k.d)] T=some ((.nx,[some (.d A),some (.d (.str x)),some (.d l.d),some (.d (.str y)),some (.d k.d)]),T):=by simp [elB,hx]
   rw [← e]
   simp [eb]
theorem L_elder (ps:List Pr) (x:Str) (l:Lk) (hl:l.Ok) (h:∀ p∈ps,p.2.Ok) (T:Tp):m__law_elder [.d (.list (ps.map prD)),.d (.str x),.d l.d] T=some (.list (dueD ((withT ps x).find? (oddL l))),T):=by
 obtain ⟨ρ',e⟩:=el_loop (.list (ps.map prD)) x l hl T ps none none h
 have e0:m__law_elder=mkFnO 5 (fSeq (fForT 3 4 (fIter (fVar 0)) elB) (fRetOL fNil)):=rfl
 have fz:∀ {i j:Nat} {it:FI} {body:FS} {ρ:Rho} {T:Tp},fForT i j it body ρ T=bnd (it ρ T) fun ds T1=>forT i j body ds ρ T1:=rfl
 have mk:∀ {N:Nat} {f:FS} {ws:List D.W} {T:Tp},mkFnO N f ws T=if noLoc ws=true then fnEndO (f (ws.map some++List.replicate (N - ws.length) none) T) else none:=rfl
 rw [e0,mk,if_pos (show noLoc [W.d (.list (ps.map prD)),W.d (.str x),W.d l.d]=true from rfl)]
 show fnEndO (bnd (fForT 3 4 (fIter (fVar 0)) elB [some (.d (.list (ps.map prD))),some (.d (.str x)),some (.d l.d),none,none] T) (seqK (fRetOL fNil)))=_
 rw [fz]
 have it:fIter (fVar 0) [some (.d (.list (ps.map prD))),some (.d (.str x)),some (.d l.d),none,none] T=some (ps.map prD,T):=by simp
 rw [it]
 show fnEndO (bnd (forT 3 4 elB (ps.map prD) [some (.d (.list (ps.map prD))),some (.d (.str x)),some (.d l.d),none,none] T) _)=_
 rw [e]
 rfl
open Classical in
noncomputable def nub (ls:List Lk):List Lk:=ls.foldl (fun acc l=>if l∈acc then acc else acc++[l]) []
open Classical in
theorem nub_snoc (ls:List Lk) (l:Lk):nub (ls++[l])=if l∈nub ls then nub ls else nub ls++[l]:=by
 unfold nub
 rw [List.foldl_append]
 rfl
theorem snoc_ind {α:Type} {p:List α→Prop} (h0:p []) (h1:∀ l a,p l→p (l++[a])):∀ l,p l:=fun l=>by
 have:∀ n (l:List α),l.length=n→p l:=fun n=>by
  induction n with
  | zero=>intro l h; rw [List.length_eq_zero_iff.mp h]; exact h0
  | succ n ih=>
   intro l h
   have hne:l≠[]:=fun z=>by subst z; cases h
   rw [← List.dropLast_concat_getLast hne]
   exact h1 _ _ (ih _ (by rw [List.length_dropLast,h]; rfl))
 exact this _ l rfl
theorem nub_find (f:Lk→Bool) (ls:List Lk):(nub ls).find? f=ls.find? f:=by
 induction ls using snoc_ind with
 | h0=>rfl
 | h1 ls l ih=>
  rw [nub_snoc,List.find?_append,← ih]
  split
  ·rename_i h
   cases e:(nub ls).find? f with
   | some k=>rfl
   | none=>
    have:=List.find?_eq_none.mp e l h
    simp [this]
  ·rw [List.find?_append]
theorem nub_mem {ls:List Lk}:∀ k,k∈nub ls→k∈ls:=by
 induction ls using snoc_ind with
 | h0=>intro k h; cases h
 | h1 ls l ih=>
  intro k h
  rw [nub_snoc] at h
  split at h
  ·exact List.mem_append_left _ (ih k h)
  ·rcases List.mem_append.mp h with h | h
   ·exact List.mem_append_left _ (ih k h)
   ·exact List.mem_append_right _ h
theorem nub_len (ls:List Lk):(nub ls).length≤ls.length:=by
 induction ls using snoc_ind with
 | h0=>exact Nat.zero_le _
 | h1 ls l ih=>
  rw [nub_snoc]
  split
  ·simp; omega
  ·simp; omega
theorem with_snoc (ps:List Pr) (y x:Str) (l:Lk):withT (ps++[(y,l)]) x=if y=x then withT ps x++[l] else withT ps x:=by
 unfold withT
 rw [List.filter_append,List.map_append]
 by_cases h:y=x
 ·simp [h]
 ·simp [h]
open Classical in
noncomputable def seenOf (ps:List Pr):TK.Seen:=ps.foldl (fun S p=>TK.putS p.1 p.2.d S) []
theorem seen_snoc (ps:List Pr) (p:Pr):seenOf (ps++[p])=TK.putS p.1 p.2.d (seenOf ps):=by
 unfold seenOf
 rw [List.foldl_append]
 rfl
open Classical in
theorem lines_put (x y:Str) (l:PyData):∀ S:TK.Seen,TK.linesOf (TK.putS y l S) x=if y=x then TK.putL (TK.linesOf S x) l else TK.linesOf S x
 | []=>by
  show TK.linesOf [(y,[l])] x=_
  rw [TK.look_cons]
  by_cases h:y=x
  ·rw [if_pos h,if_pos h]; simp [TK.linesOf,TK.putL]
  ·rw [if_neg h,if_neg h]
 | (z,ls)::S=>by
  show TK.linesOf (if z=y then (z,TK.putL ls l)::S else (z,ls)::TK.putS y l S) x=_
  by_cases h:z=y
  ·rw [if_pos h,TK.look_cons,TK.look_cons,h]
   by_cases g:y=x
   ·rw [if_pos g,if_pos g,if_pos g]
   ·rw [if_neg g,if_neg g,if_neg g]
  ·rw [if_neg h,TK.look_cons,TK.look_cons,lines_put x y l S]
   by_cases g:z=x
   ·rw [if_pos g,if_pos g,if_neg (fun q=>h (g.trans q.symm))]
   ·rw [if_neg g,if_neg g]
open Classical in
theorem seen_lines (x:Str) (ps:List Pr):TK.linesOf (seenOf ps) x=(nub (withT ps x)).map Lk.d:=by
 induction ps using snoc_ind with
 | h0=>rfl
 | h1 ps p ih=>
  obtain ⟨y,l⟩:=p
  rw [seen_snoc,lines_put,with_snoc,ih]
  by_cases h:y=x
  ·rw [if_pos h,if_pos h,nub_snoc]
   unfold TK.putL
   by_cases g:l∈nub (withT ps x)
   ·rw [if_pos g,if_pos (List.mem_map_of_mem g)]
   ·rw [if_neg g,if_neg (fun q=>by
     obtain ⟨k,h1,h2⟩:=List.mem_map.mp q
     have z:k=l:=lk_inj h2
     rw [← z] at g
     exact g h1),List.map_append]
    rfl
  ·rw [if_neg h,if_neg h]
theorem putS_len (x:Str) (l:PyData):∀ S:TK.Seen,(TK.putS x l S).length≤S.length + 1
 | []=>Nat.le_refl _
 | (y,ls)::S=>by
  show (if y=x then (y,TK.putL ls l)::S else (y,ls)::TK.putS x l S).length≤_
  have:=putS_len x l S
  split <;> simp <;> omega
theorem seen_len (ps:List Pr):(seenOf ps).length≤ps.length:=by
 induction ps using snoc_ind with
 | h0=>exact Nat.zero_le _
 | h1 ps p ih=>
  rw [seen_snoc]
  have:=putS_len p.1 p.2.d (seenOf ps)
  simp
  omega
end G
namespace G
open PySem PySem.Spec PyProof.Rows L2 D
theorem ok0 {x:Str} (h:Lo x) (n:Nat):TK.tk n (.str x)=true:=by
 have:=ok_str h
 cases n <;> exact this
theorem tk_en {e:SS} (h:OkE e) (n:Nat):TK.tk (n + 1) (enD e)=true:=by
 show List.all [PyData.str e.1,.str e.2] (TK.tk n)=true
 simp [ok0 h.1,ok0 h.2]
theorem tk_line {l:Lk} (h:l.Ok):TK.tk 3 l.d=true:=by
 show List.all [PyData.str l.n,.tuple (rdD l.r),enD l.e] (TK.tk 2)=true
 have h2:TK.tk 2 (.tuple (rdD l.r))=true:=by
  show (rdD l.r).all (TK.tk 1)=true
  refine List.all_eq_true.mpr fun d hd=>?_
  obtain ⟨p,hp,rfl⟩:=List.mem_map.mp hd
  exact tk_en (h.r p hp) 0
 simp [ok0 h.n,h2,tk_en h.e 1]
structure Sm3 (n B:Nat) (d:PyData):Prop where
 sh:d.showable=true
 lf:d.leavesShort 200=true
 dp:d.depth≤n
 wt:d.weight≤B
 hd:d.hasDict=false
theorem Sm3.up {n B n' B':Nat} {d:PyData} (h:Sm3 n B d) (a:n≤n') (b:B≤B'):Sm3 n' B' d:=⟨h.sh,h.lf,Nat.le_trans h.dp a,Nat.le_trans h.wt b,h.hd⟩
theorem sm_str {x:Str} {B:Nat} (h:Lo x) (s:x.cps.size≤B):Sm3 0 B (.str x):=⟨rfl,by
 show (x.cps.toList.all fun c=>decide (c < 16 ^ 8))=true
 exact List.all_eq_true.mpr fun c hc=>decide_eq_true (Nat.lt_trans (h c hc) (by decide)),by simp [PyData.depth],by simpa [PyData.weight] using s,rfl⟩
theorem sm_all {n B:Nat}:∀ {ds:List PyData},(∀ d∈ds,Sm3 n B d)→PyData.showableAll ds=true∧PyData.leavesShortAll 200 ds=true∧PyData.depthAll ds≤n∧PyData.weightAll ds≤(B + 1) * ds.length∧PyData.hasDictAll ds=false
 | [],_=>⟨rfl,rfl,by simp [PyData.depthAll],by simp [PyData.weightAll],rfl⟩
 | d::ds,h=>by
  have h1:=h d List.mem_cons_self
  obtain ⟨a1,a2,a3,a4,a5⟩:=sm_all (ds:=ds) fun x hx=>h x (List.mem_cons_of_mem _ hx)
  refine ⟨?_,?_,?_,?_,?_⟩
  ·show (d.showable && PyData.showableAll ds)=true; rw [h1.sh,a1]; rfl
  ·show (d.leavesShort 200 && PyData.leavesShortAll 200 ds)=true; rw [h1.lf,a2]; rfl
  ·have:=h1.dp; simp only [PyData.depthAll]; omega
  ·have:=h1.wt
   simp only [PyData.weightAll,List.length_cons,Nat.mul_add,Nat.mul_one]
   omega
  ·show (d.hasDict || PyData.hasDictAll ds)=false; rw [h1.hd,a5]; rfl
theorem sm_tup {n B:Nat} {ds:List PyData} (h:∀ d∈ds,Sm3 n B d):Sm3 (n + 1) ((B + 1) * ds.length) (.tuple ds):=by
 obtain ⟨a1,a2,a3,a4,a5⟩:=sm_all h
 exact ⟨a1,a2,by simp only [PyData.depth]; omega,a4,a5⟩
theorem sm_lst {n B:Nat} {ds:List PyData} (h:∀ d∈ds,Sm3 n B d):Sm3 (n + 1) ((B + 1) * ds.length) (.list ds):=by
 obtain ⟨a1,a2,a3,a4,a5⟩:=sm_all h
 exact ⟨a1,a2,by simp only [PyData.depth]; omega,a4,a5⟩
theorem sm_good {d:PyData} (h:Sm3 60 60000 d):goodB d=true:=by
 unfold goodB
 rw [h.sh,h.lf,decide_eq_true h.dp,decide_eq_true h.wt,h.hd]
 rfl
structure Tiny (l:Lk):Prop where
 ok:l.Ok
 n:l.n.cps.size≤5
 few:l.r.length≤3
 r:∀ p∈l.r,OkT p
 e:OkT l.e
theorem sm_en {e:SS} (h:OkE e) (t:OkT e):Sm3 1 12 (enD e):=by
 refine (sm_tup (n:=0) (B:=5) (ds:=[.str e.1,.str e.2]) fun d hd=>?_).up (Nat.le_refl _) (by simp)
 rcases List.mem_cons.mp hd with rfl | hd
 ·exact sm_str h.1 t.1
 ·rcases List.mem_cons.mp hd with rfl | hd
  ·exact sm_str h.2 t.2
  ·cases hd
theorem sm_line {l:Lk} (t:Tiny l):Sm3 3 120 l.d:=by
 refine (sm_tup (n:=2) (B:=39) (ds:=[.str l.n,.tuple (rdD l.r),enD l.e]) fun d hd=>?_).up (Nat.le_refl _) (by simp)
 rcases List.mem_cons.mp hd with rfl | hd
 ·exact (sm_str t.ok.n t.n).up (by omega) (by omega)
 rcases List.mem_cons.mp hd with rfl | hd
 ·refine (sm_tup (n:=1) (B:=12) fun d hd=>?_).up (Nat.le_refl _) ?_
  ·obtain ⟨p,hp,rfl⟩:=List.mem_map.mp hd
   exact sm_en (t.ok.r p hp) (t.r p hp)
  ·have:=t.few
   rw [show (rdD l.r).length=l.r.length from by simp [rdD]]
   omega
 rcases List.mem_cons.mp hd with rfl | hd
 ·exact (sm_en t.ok.e t.e).up (by omega) (by omega)
 ·cases hd
theorem L_same {d:PyData} (g:goodB d=true) (nd:isiD .dct d=some (.bool false)) (T:Tp):m__law_same [.d d,.d d] T=some (.bool true,T):=by
 have fr:∀ {f:FE} {ρ:Rho} {T:Tp},fRepr f ρ T=bnd (f ρ T) fun w T1=>reprW T1 w:=rfl
 have rw':∀ {T:Tp},reprW T (.d d)=some (.d (.str d.shown),T):=if_pos g
 have nk:isiK (kd d) Kd.dct=false:=by
  have:some (PyData.bool (isiK (kd d) Kd.dct))=some (.bool false):=by simpa using nd
  injection this with this
  injection this
 simp [m__law_same,nk,fr,rw',ev_frzC]
noncomputable abbrev t123:Str:=Str.ofString "say put 123"
noncomputable def texts:List Str:=[Str.ofString "say put 1",Str.ofString "say put 12",Str.ofString "fail a"]
theorem texts_ne {x:Str} (h:x∈texts):x≠t123∧Lo x∧x.cps.size≤12:=by
 unfold texts at h
 rcases List.mem_cons.mp h with rfl | h
 ·exact ⟨by decide,lo_of (by decide +kernel),by decide +kernel⟩
 rcases List.mem_cons.mp h with rfl | h
 ·exact ⟨by decide,lo_of (by decide +kernel),by decide +kernel⟩
 rcases List.mem_cons.mp h with rfl | h
 ·exact ⟨by decide,lo_of (by decide +kernel),by decide +kernel⟩
 ·cases h
noncomputable def Adm (rc:PyData) (x:Str) (l:Lk):Prop:=l.Ok∧((x=t123∧Dng rc l.r l.e)∨(x∈texts∧Tiny l))
noncomputable def OddOk (d:PyData):Prop:=∃ x k l,d=.tuple [.str x,Lk.d k,Lk.d l]∧x∈texts∧Tiny k∧Tiny l
structure GD (rc:PyData) (m:Nat) (S:TK.Seen) (odd sn:List PyData):Prop where
 ex:∃ ps:List Pr,ps.length≤m∧sn=ps.map prD∧S=seenOf ps∧(∀ p∈ps,Adm rc p.1 p.2)∧odd.length≤m∧∀ d∈odd,OddOk d
theorem gd0 (rc:PyData):GD rc 0 [] [] []:=⟨[],Nat.le_refl _,rfl,rfl,fun p hp=>(by cases hp),Nat.le_refl _,fun d hd=>by cases hd⟩
theorem sm_odd {d:PyData} (h:OddOk d):Sm3 4 363 d:=by
 obtain ⟨x,k,l,rfl,hx,hk,hl⟩:=h
 refine (sm_tup (n:=3) (B:=120) (ds:=[.str x,k.d,l.d]) fun d hd=>?_).up (Nat.le_refl _) (by simp)
 rcases List.mem_cons.mp hd with rfl | hd
 ·exact (sm_str (texts_ne hx).2.1 (texts_ne hx).2.2).up (by omega) (by omega)
 rcases List.mem_cons.mp hd with rfl | hd
 ·exact sm_line hk
 rcases List.mem_cons.mp hd with rfl | hd
 ·exact sm_line hl
 ·cases hd
theorem odd_same {odd:List PyData} (h:∀ d∈odd,OddOk d) (m:odd.length≤100) (T:Tp):m__law_same [.d (.list odd),.d (.list odd)] T=some (.bool true,T):=
 L_same (sm_good ((sm_lst fun d hd=>sm_odd (h d hd)).up (by omega) (by omega))) rfl T
structure Step (rc:PyData) (m:Nat) (S:TK.Seen) (odd sn:List PyData) (x:Str) (l:Lk) (due:List PyData) (r:PyData):Prop where
 f:m_first_at_odds [.d (.list (TK.linesOf S x)),.d l.d] []=some (r,[])
 e:m__law_elder [.d (.list sn),.d (.str x),.d l.d] []=some (.list due,[])
 d:due=[]∧r=.none∨due=[r]∧r≠.none
 t:due.all (TK.tk 3)=true
 s1:m__law_same [.d r,.d r] []=some (.bool true,[])
 s2:m__law_same [.d (.list (TK.oddBy x r l.d odd)),.d (.list (TK.oddBy x r l.d odd))] []=some (.bool true,[])
 g:GD rc (m + 1) (TK.putS x l.d S) (TK.oddBy x r l.d odd) (sn++[.tuple [.str x,l.d]])
 l1:S.length < 1000
 l2:(TK.linesOf S x).length < 1000
 l3:odd.length < 1000
 l4:sn.length < 1000
theorem gd_step {rc:PyData} {m:Nat} {S:TK.Seen} {odd sn:List PyData} (h:GD rc m S odd sn) (hm:m≤50) {x:Str} {l:Lk} (a:Adm rc x l):∃ due r,Step rc m S odd sn x l due r:=by
 obtain ⟨ps,h1,rfl,rfl,h4,h5,h6⟩:=h.ex
 have okp:∀ p∈ps,p.2.Ok:=fun p hp=>(h4 p hp).1
 have okw:∀ {k},k∈withT ps x→Adm rc x k:=fun {k} hk=>by
  obtain ⟨p,hp,rfl⟩:=List.mem_map.mp hk
  obtain ⟨hp,hx⟩:=List.mem_filter.mp hp
  have e:p.1=x:=of_decide_eq_true hx
  rw [← e]
  exact h4 p hp
 have hlen:(withT ps x).length≤ps.length:=by
  unfold withT
  rw [List.length_map]
  exact List.length_filter_le _ _
 have nl:=nub_len (withT ps x)
 have sl:=seen_len ps
 have f1:=L_first (nub (withT ps x)) l a.1 (fun k hk=>(okw (nub_mem k hk)).1) []
 rw [nub_find] at f1
 have e1:=L_elder ps x l a.1 okp []
 have ga:∀ odd',odd'.length≤m + 1→(∀ d∈odd',OddOk d)→GD rc (m + 1) (TK.putS x l.d (seenOf ps)) odd' (ps.map prD++[.tuple [.str x,l.d]]):=fun odd' q1 q2=>⟨ps++[(x,l)],by simp; omega,by simp [prD],by rw [seen_snoc],fun p hp=>by
  rcases List.mem_append.mp hp with hp | hp
  ·exact h4 p hp
  ·rw [List.mem_singleton] at hp; subst hp; exact a,q1,q2⟩
 cases hf:(withT ps x).find? (oddL l) with
 | none=>
  rw [hf] at f1 e1
  refine ⟨[],.none,by rw [seen_lines]; exact f1,e1,.inl ⟨rfl,rfl⟩,rfl,L_same rfl rfl [],odd_same h6 (by omega) [],ga _ (by show odd.length≤_; omega) h6,by omega,?_,by omega,by simp; omega⟩
  rw [seen_lines,List.length_map]; omega
 | some k=>
  rw [hf] at f1 e1
  have hk:=List.mem_of_find?_eq_some hf
  have hkk:=okw hk
  have ho:oddL l k=true:=List.find?_some hf
  rcases a with ⟨al,⟨rfl,ad⟩ | ⟨ax,at_⟩⟩
  ·exfalso
   rcases hkk with ⟨_,⟨_,kd⟩ | ⟨kx,_⟩⟩
   ·obtain ⟨g1,b1,b2⟩:=kd.run
    obtain ⟨g2,c1,c2⟩:=ad.run
    have o:odds k.r k.e l.r l.e=false:=run_odds (fun n v v' h1 h2 h3=>st_inj (key_in b1 h1) (key_in c1 h2) h3) b2 c2
    have ho':odds k.r k.e l.r l.e=true:=ho
    rw [o] at ho'
    cases ho'
   ·exact (texts_ne kx).1 rfl
  ·rcases hkk with ⟨ko,⟨kx,_⟩ | ⟨_,kt⟩⟩
   ·exact absurd kx (texts_ne ax).1
   have ob:TK.oddBy x k.d l.d odd=odd++[.tuple [.str x,k.d,l.d]]:=rfl
   have oo:∀ d∈odd++[.tuple [.str x,k.d,l.d]],OddOk d:=fun d hd=>by
    rcases List.mem_append.mp hd with hd | hd
    ·exact h6 d hd
    ·rw [List.mem_singleton] at hd; subst hd; exact ⟨x,k,l,rfl,ax,kt,at_⟩
   refine ⟨[k.d],k.d,by rw [seen_lines]; exact f1,e1,.inr ⟨rfl,fun z=>nomatch z⟩,by simp [tk_line ko],L_same (sm_good ((sm_line kt).up (by omega) (by omega))) rfl [],?_,?_,by omega,?_,by omega,by simp; omega⟩
   ·rw [ob]; exact odd_same oo (by simp; omega) []
   ·rw [ob]; exact ga _ (by simp; omega) oo
   ·rw [seen_lines,List.length_map]; omega
end G
namespace TK
open PySem PySem.Spec PyProof.Rows L2 D G
section
variable (K:PySem.W.Frag) (P:Program) (w:World) (C:Addr) (O:Addr→Prop) (rc:PyData)
structure Side (U:Addr→Prop) (H:Hp) (p a f:Addr) (m:Nat):Prop where
 ex:∃ S odd sn us fs,WA K P w C O U H p S odd∧GD rc m S odd sn∧H a=some (.lst us)∧Reps K O H us sn∧H f=some (.lst fs)∧Reps K O H fs odd
 al:∀ b,U b→H b≠none
 ua:¬ U a
 uf:¬ U f
 oa:O a
 of:O f
 naf:a≠f
noncomputable def Fp (U:Addr→Prop) (a f:Addr):Addr→Prop:=fun b=>U b∨b=a∨b=f
structure LI (H:Hp) (cs:List (Addr×HO)) (p0 a0 f0 p1 a1 f1:Addr) (m:Nat):Prop where
 tr:Tr O H
 ex:∃ U0 U1,Side K P w C O rc U0 H p0 a0 f0 m∧Side K P w C O rc U1 H p1 a1 f1 m∧(∀ b,Fp U0 a0 f0 b→¬ Fp U1 a1 f1 b)∧∀ c∈cs,H c.1=some c.2∧¬ Fp U0 a0 f0 c.1∧¬ Fp U1 a1 f1 c.1
end
section
variable {K:PySem.W.Frag} {P:Program} {w:World} {C:Addr} {O:Addr→Prop} {rc:PyData} {U:Addr→Prop} {H H':Hp} {p a f p0 a0 f0 p1 a1 f1:Addr} {m m':Nat} {cs:List (Addr×HO)}
theorem gd_up {S:Seen} {odd sn:List PyData} (h:GD rc m S odd sn) (l:m≤m'):GD rc m' S odd sn:=by
 obtain ⟨ps,h1,h2,h3,h4,h5,h6⟩:=h.ex
 exact ⟨ps,by omega,h2,h3,h4,by omega,h6⟩
theorem Side.alF (s:Side K P w C O rc U H p a f m):∀ b,Fp U a f b→H b≠none:=fun b h=>by
 obtain ⟨_,_,_,us,fs,_,_,h1,_,h2,_⟩:=s.ex
 rcases h with h | rfl | rfl
 ·exact s.al b h
 ·rw [h1]; exact fun z=>nomatch z
 ·rw [h2]; exact fun z=>nomatch z
theorem Side.mono (s:Side K P w C O rc U H p a f m) (k:∀ b o,Fp U a f b→H b=some o→H' b=some o) (lp:LeP O H O H') (l:m≤m'):Side K P w C O rc U H' p a f m':=by
 obtain ⟨S,odd,sn,us,fs,h1,h2,h3,h4,h5,h6⟩:=s.ex
 refine ⟨⟨S,odd,sn,us,fs,h1.mono (fun b o hb h=>k b o (.inl hb) h) lp fun _ h=>h,gd_up h2 l,k _ _ (.inr (.inl rfl)) h3,reps_monoP lp h4,k _ _ (.inr (.inr rfl)) h5,reps_monoP lp h6⟩,fun b hb=>?_,s.ua,s.uf,s.oa,s.of,s.naf⟩
 have:=s.al b hb
 cases e:H b with
 | none=>exact absurd e this
 | some o=>rw [k b o (.inl hb) e]; exact fun z=>nomatch z
theorem LI.same (h:LI K P w C O rc H cs p0 a0 f0 p1 a1 f1 m) (s:SameX [] H H'):LI K P w C O rc H' cs p0 a0 f0 p1 a1 f1 m:=by
 obtain ⟨U0,U1,h0,h1,h2,h3⟩:=h.ex
 exact ⟨h.tr.same s,U0,U1,h0.mono (fun b o _ e=>s b o (by simp) e) (.same s) (Nat.le_refl _),h1.mono (fun b o _ e=>s b o (by simp) e) (.same s) (Nat.le_refl _),h2,fun c hc=>⟨s _ _ (by simp) (h3 c hc).1,(h3 c hc).2⟩⟩
theorem LI.up (h:LI K P w C O rc H cs p0 a0 f0 p1 a1 f1 m) (l:m≤m'):LI K P w C O rc H cs p0 a0 f0 p1 a1 f1 m':=by
 obtain ⟨U0,U1,h0,h1,h2,h3⟩:=h.ex
 exact ⟨h.tr,U0,U1,h0.mono (fun _ _ _ e=>e) .refl l,h1.mono (fun _ _ _ e=>e) .refl l,h2,h3⟩
theorem LI.swap (h:LI K P w C O rc H cs p0 a0 f0 p1 a1 f1 m):LI K P w C O rc H cs p1 a1 f1 p0 a0 f0 m:=by
 obtain ⟨U0,U1,h0,h1,h2,h3⟩:=h.ex
 exact ⟨h.tr,U1,U0,h1,h0,fun b x y=>h2 b y x,fun c hc=>⟨(h3 c hc).1,(h3 c hc).2.2,(h3 c hc).2.1⟩⟩
theorem LI.saw {x:Str} {l:Lk} {b:Addr} {Q:VK} (h:LI K P w C O rc H cs p0 a0 f0 p1 a1 f1 m) (hm:m≤50) (ad:Adm rc x l) (rl:Rep K O H (.ref b) l.d) (q:∀ H',LI K P w C O rc H' cs p0 a0 f0 p1 a1 f1 (m + 1)→LeP O H O H'→Q (.bl true) H') :
  LSawP K P w C [.ref p0,.ref a0,.ref f0,.str x,.ref b] H Q:=by
 obtain ⟨U0,U1,s0,s1,dj,hc⟩:=h.ex
 obtain ⟨S,odd,sn,us,fs,wa,gd,ha,rs,hf,rf⟩:=s0.ex
 obtain ⟨due,r,st⟩:=gd_step gd hm ad
 refine ⟨O,U0,p0,a0,f0,x,b,l.d,S,odd,sn,due,r,us,fs,rfl,wa,h.tr,rl,tk_line ad.1,st.l1,st.l2,st.l3,st.l4,st.f,s0.oa,s0.of,s0.naf,s0.ua,s0.uf,ha,hf,rs,rf,st.e,st.d,st.t,st.s1,st.s2,fun U' H' us' fs' tr' lp fr su fe kn al wa' ha' ra' hf' rf'=>q H' ?_ lp⟩
 have nU:∀ {c o},H c=some o→¬ U0 c→¬ U' c:=fun {c o} e n z=>(fe c z).elim n fun y=>by rw [e] at y; cases y
 have nF:∀ {c o},H c=some o→¬ Fp U0 a0 f0 c→¬ Fp U' a0 f0 c:=fun {c o} e n z=>by
  rcases z with z | z
  ·exact nU e (fun y=>n (.inl y)) z
  ·exact n (.inr z)
 have frF:∀ c o,¬ Fp U0 a0 f0 c→H c=some o→H' c=some o:=fun c o n e=>fr c o (fun y=>n (.inl y)) (fun y=>n (.inr (.inl y))) (fun y=>n (.inr (.inr y))) e
 refine ⟨tr',U',U1,⟨⟨_,_,_,us',fs',wa',st.g,ha',ra',hf',rf'⟩,fun c hc=>(al c hc).elim (fun y=>kn c (s0.al c y)) fun y=>y,nU ha s0.ua,nU hf s0.uf,s0.oa,s0.of,s0.naf⟩,s1.mono (fun c o hb e=>frF c o (fun y=>dj c y hb) e) lp (by omega),fun c h1 h2=>?_,fun c hcs=>?_⟩
 ·cases e:H c with
  | none=>exact s1.alF c h2 e
  | some o=>exact nF e (fun y=>dj c y h2) h1
 ·obtain ⟨e1,e2,e3⟩:=hc c hcs
  exact ⟨frF _ _ e2 e1,nF e1 e2,e3⟩
end
theorem all_true:∀ ys:List PyData,(∀ y∈ys,y=.bool true)→boolsD ys=some (List.replicate ys.length true)
 | [],_=>rfl
 | y::ys,h=>by
  have:=h y List.mem_cons_self
  subst this
  have ih:=all_true ys fun z hz=>h z (List.mem_cons_of_mem _ hz)
  simp [boolsD,ih,List.replicate_succ]
theorem none_back {H H':Hp} {c:Addr} (s:SameX [] H H') (h:H' c=none):H c=none:=by
 cases e:H c with
 | none=>rfl
 | some o=>rw [s c o (by simp) e] at h; cases h
structure Laid (L:List Addr) (H:Hp):Prop where
 nd:L.Nodup
 al:∀ c∈L,H c≠none
theorem Laid.put {L:List Addr} {H:Hp} {x:Addr} (h:Laid L H) (hx:H x=none) (o:HO):Laid (x::L) (upd H x o):=⟨List.nodup_cons.mpr ⟨fun z=>h.al x z hx,h.nd⟩,fun c hc=>by
 rcases List.mem_cons.mp hc with rfl | hc
 ·rw [upd_same]; exact fun z=>nomatch z
 ·exact Kn.put c (h.al c hc)⟩
theorem Laid.same {L:List Addr} {H H':Hp} (h:Laid L H) (s:SameX [] H H'):Laid L H':=⟨h.nd,fun c hc=>Kn.same s c (h.al c hc)⟩
theorem Laid.more {L:List Addr} {H H':Hp} {x:Addr} (h:Laid L H) (s:SameX [] H H') (hx:H x=none) (hx':H' x≠none):Laid (x::L) H':=⟨List.nodup_cons.mpr ⟨fun z=>h.al x z hx,h.nd⟩,fun c hc=>by
 rcases List.mem_cons.mp hc with rfl | hc
 ·exact hx'
 ·exact Kn.same s c (h.al c hc)⟩
theorem ini_same {C:Addr} {H H':Hp} {p dx d l:Addr} (hp:H p=none) (hdx:H dx=none) (n:dx≠p) (hd:upd (upd H dx (.own p)) p (.ins C dx []) d=none) (hl:upd (upd H dx (.own p)) p (.ins C dx []) l=none)
  (fr:∀ b,b≠p→b≠d→b≠l→H' b=upd (upd H dx (.own p)) p (.ins C dx []) b):SameX [] H H':=fun c o _ e=>by
 have e1:upd (upd H dx (.own p)) p (.ins C dx []) c=some o:=by rw [upd_ne (ne_of_none e hp),upd_ne (ne_of_none e hdx)]; exact e
 rw [fr c (ne_of_none e hp) (ne_of_none e1 hd) (ne_of_none e1 hl)]
 exact e1
theorem fin_all {od0 od1:List PyData} (h0:∀ d∈od0,OddOk d) (h1:∀ d∈od1,OddOk d) (hl:od0.length + od1.length≤1000) :
  fCB allD (fCons (fComp (fIter (fBin addD (fBin ixD (fVar 4) (fC (.int 0))) (fBin ixD (fVar 4) (fC (.int 1))))) fTrue (fBin neD (fBin ixD (fVar 0) (fC (.int 0))) (fC (.str t123)))) fNil) [none,none,none,none,some (.d (.list [.list od0,.list od1]))] []=some (.d (.bool true),[]):=by
 obtain ⟨ys,e,hy,hq⟩:=compL_ex (e:=fBin neD (fBin ixD (fVar 0) (fC (.int 0))) (fC (.str t123))) (ρ:=[none,none,none,none,some (.d (.list [.list od0,.list od1]))]) (T:=[]) (Q:=fun y=>y=.bool true) (ds:=od0++od1) fun d hd=>by
  have:OddOk d:=by
   rcases List.mem_append.mp hd with h | h
   ·exact h0 d h
   ·exact h1 d h
  obtain ⟨x,k,l,rfl,hx,_,_⟩:=this
  have hn:=(texts_ne hx).1
  exact ⟨_,by simp [at3.1,hn],rfl⟩
 have big:od0.length + od1.length≤sizeLine:=Nat.le_trans hl (by decide)
 have tt:allD [.list ys]=some (.bool true):=by
  show (boolsD ys).map _=_
  rw [all_true ys hq]
  simp
 simp [at2',big,e,tt]
structure Pk (K:PySem.W.Frag) (P:Program) (w:World) (C:Addr) (O:Addr→Prop) (rc:PyData) (ns:List Int) (xs:List Str) (v0 v1 v5 v6:V) (cs:List (Addr×HO)) (p0 a0 f0 p1 a1 f1:Addr) (H:Hp) (m:Nat):Prop where
 li:LI K P w C O rc H cs p0 a0 f0 p1 a1 f1 m
 r0:Rep K O H v0 (script ns)
 r1:Rep K O H v1 (.list (texts.map .str))
 r5:Rep K O H v5 (.list (xs.map .str))
 r6:Rep K O H v6 rc
section
variable {K:PySem.W.Frag} {P:Program} {w:World} {C:Addr} {O:Addr→Prop} {rc:PyData} {H H':Hp} {p0 a0 f0 p1 a1 f1:Addr} {m m':Nat} {cs:List (Addr×HO)} {ns:List Int} {xs:List Str} {v0 v1 v5 v6:V}
theorem Pk.lp (h:Pk K P w C O rc ns xs v0 v1 v5 v6 cs p0 a0 f0 p1 a1 f1 H m) (l:LeP O H O H') (li:LI K P w C O rc H' cs p0 a0 f0 p1 a1 f1 m'):Pk K P w C O rc ns xs v0 v1 v5 v6 cs p0 a0 f0 p1 a1 f1 H' m':=⟨li,rep_monoP l h.r0,rep_monoP l h.r1,rep_monoP l h.r5,rep_monoP l h.r6⟩
theorem Pk.same (h:Pk K P w C O rc ns xs v0 v1 v5 v6 cs p0 a0 f0 p1 a1 f1 H m) (s:SameX [] H H'):Pk K P w C O rc ns xs v0 v1 v5 v6 cs p0 a0 f0 p1 a1 f1 H' m:=h.lp (.same s) (h.li.same s)
theorem Pk.at_c (h:Pk K P w C O rc ns xs v0 v1 v5 v6 cs p0 a0 f0 p1 a1 f1 H m) {c:Addr} {o:HO} (hc:(c,o)∈cs):H c=some o:=let ⟨_,_,_,_,_,k⟩:=h.li.ex; (k _ hc).1
end
noncomputable abbrev nLaw:List Str:=[Str.ofString "_law_script",Str.ofString "_law_texts",Str.ofString "_law_watches",Str.ofString "_law_seen",Str.ofString "_law_faults",Str.ofString "_law_names_here",Str.ofString "_law_recipe_here",Str.ofString "_law_number",Str.ofString "_law_k",Str.ofString "_law_at",Str.ofString "_law_text",Str.ofString "_law_line"]
section
variable {P:Program} {w:World} {K:PySem.W.Frag} {mg:Str→Option Value} {base:Heap} (E:Ev P w K mg base (Bi K mg) top zS) {C:Addr} (W:Wc K mg C)
include E W
theorem ok_law {fl0:Addr} {fd:FuncData} (F:Fun K (Str.ofString "law") (Str.ofString "law") (top 25) fl0 fd):FnOk P w K mg base CX0 61 fl0 fd [Str.ofString "_law_script"] (spLaw K):=by
 have S:FnScope nLaw [Str.ofString "_law_script"] (defScope (top 25)):=sc_of (by decide +kernel)
 obtain ⟨f0,fd0,A1,A2,A3⟩:=(m_init (P:=P) (w:=w) (base:=base) W).ex
 obtain ⟨f2,fd2,B1,B2,B3⟩:=(m_faults E W).ex
 refine F.ok S (fun vs H Q E h=>by obtain ⟨_,_,rfl,_⟩:=h; rfl) fun cdv A outer s H vs Q E' hr h=>?_
 have saw:=g__law_saw E W
 obtain ⟨as,ns,rfl,hS,hl,q⟩:=h
 have tail:∃ t,PSs (cxOf CX0 P w K mg base nLaw (Str.ofString "law") (defScope (top 25)) fl0 cdv A outer s H E').nox ((defBody (top 25)).drop 7) t ∧
   ∀ (O:Addr→Prop) (rc:PyData) (xs:List Str) (v0 v1 v5 v6:V) (wl sl fl p0 a0 f0 p1 a1 f1:Addr) (H1:Hp),Nms xs→RC 3 0 rc→Pk K P w C O rc ns xs v0 v1 v5 v6 [(wl,.lst [.ref p0,.ref p1]),(sl,.lst [.ref a0,.ref a1]),(fl,.lst [.ref f0,.ref f1])] p0 a0 f0 p1 a1 f1 H1 0 →
    t { nx:=fun _ H'=>Q .non H',rt:=Q } [some v0,some v1,some (.ref wl),some (.ref sl),some (.ref fl),some v5,some v6,none,none,none,none,none] H1:=by
  refine ⟨_,pss_cons (ps_for PassesOwn.never rfl (pi_range1 rfl E.b.z (pa_cons (DE.pe (de_bin o_add de_int (d_c3 (g__law_draw E) hr (de_var 0) de_int de_int))) pa_nil)) (pg_name (i:=7) S.nd rfl (Or.inl rfl))
    (pss_cons (ps_set (i:=8) S.nd rfl (Or.inl rfl) (DE.pe (de_bin o_add de_int (de_bin o_mul de_int (de_var 7)))))
    (pss_cons (ps_set (i:=9) S.nd rfl (Or.inl rfl) (DE.pe (d_c3 (g__law_draw E) hr (de_var 0) (de_bin o_add (de_var 8) de_int) de_int)))
    (pss_cons (ps_set (i:=10) S.nd rfl (Or.inl rfl) (DE.pe (de_ix x_seq (de_var 1) (d_c3 (g__law_draw E) hr (de_var 0) (de_bin o_add (de_var 8) de_int) de_int))))
    (pss_cons (ps_if (pt_not (pt_val (pe_fn saw (hr.mono (by omega)) rfl (pa_cons (pe_ix ix_list (pv 2) (pv 9) (fun _ _=>rfl)) (pa_cons (pe_ix ix_list (pv 3) (pv 9) (fun _ _=>rfl)) (pa_cons (pe_ix ix_list (pv 4) (pv 9) (fun _ _=>rfl)) (pa_cons (pv 10) (pa_cons (DE.pe (d_c2 (g__law_one_line E) hr (de_var 0) (de_var 8))) pa_nil)))))))) (pss_one (ps_ret pe_bl)) pss_nil)
    (pss_one (ps_if (DT.pe (dt_cmp o_eq (d_c3 (g__law_draw E) hr (de_var 0) de_int de_int) de_int))
     (pss_cons (ps_set (i:=11) S.nd rfl (Or.inl rfl) (DE.pe (d_c4 (g__law_doing E) hr (de_var 0) (de_bin o_add de_int (de_var 8)) (de_var 5) (de_var 6))))
     (pss_one (ps_if (pt_not (pt_val (pe_fn saw (hr.mono (by omega)) rfl (pa_cons (pe_ix ix_list (pv 2) (pv 9) (fun _ _=>rfl)) (pa_cons (pe_ix ix_list (pv 3) (pv 9) (fun _ _=>rfl)) (pa_cons (pe_ix ix_list (pv 4) (pv 9) (fun _ _=>rfl)) (pa_cons pe_str (pa_cons (pv 11) pa_nil)))))))) (pss_one (ps_ret pe_bl)) pss_nil)))
     pss_nil)))))))
   (pss_one (ps_ret (DE.pe (de_callB c_all rfl E.b.z boot_all (da_cons (d_cp (top 25) nLaw (di_iter (de_bin o_add (de_ix x_seq (de_var 4) de_int) (de_ix x_seq (de_var 4) de_int))) (de_cmp o_ne (de_ix x_seq (de_var 0) de_int) de_str)) da_nil))))),fun O rc xs v0 v1 v5 v6 wl sl fl p0 a0 f0 p1 a1 f1 H1 hN hR pk=>?_⟩
  obtain ⟨dr,ed,d1,d2⟩:=L_draw ns 0 13 [] (hl:=hl)
  refine ⟨O,[],[some (.d (script ns))],[],.d (.int (2 + dr)),[],pk.li.tr.hc,relS pk.r0 relZ,by simp [ed],fun v H2 s2 _ rv=>?_⟩
  cases (show Rep K O H2 v (.int (2 + dr)) from rv)
  refine ⟨_,rfl,by omega,by omega,for_range (n:=(2 + dr).toNat) (fun i σ Hi=>∃ o7 o8 o9 o10 o11,σ=[some v0,some v1,some (.ref wl),some (.ref sl),some (.ref fl),some v5,some v6,o7,o8,o9,o10,o11]∧Pk K P w C O rc ns xs v0 v1 v5 v6 [(wl,.lst [.ref p0,.ref p1]),(sl,.lst [.ref a0,.ref a1]),(fl,.lst [.ref f0,.ref f1])] p0 a0 f0 p1 a1 f1 Hi (2 * i)) ⟨none,none,none,none,none,rfl,pk.same s2⟩ ?_ ?_⟩
  ·rintro i σ Hi hi ⟨o7,o8,o9,o10,o11,rfl,pk⟩
   have hi':(i:Int) < 15:=by omega
   have hi0:0≤(i:Int):=by omega
   refine ⟨O,[],[none,none,none,none,none,none,none,some (.d (.int (0 + i)))],[],.d (.int (10 + 20 * (0 + i))),[],pk.li.tr.hc,relN (relN (relN (relN (relN (relN (relN (relS (.int _) relZ))))))),by simp,fun v8 H2 s2 _ rv8=>?_⟩
   cases (show Rep K O H2 v8 (.int (10 + 20 * (0 + i))) from rv8)
   have pk2:=pk.same s2
   generalize hk:(10 + 20 * (0 + (i:Int)))=k at *
   obtain ⟨at_,ea,b1,b2⟩:=L_draw ns (k + 10) 2 [] (hl:=hl)
   refine ⟨O,[],[some (.d (script ns)),none,none,none,none,none,none,none,some (.d (.int k))],[],.d (.int at_),[],pk2.li.tr.hc,relS pk2.r0 (relN (relN (relN (relN (relN (relN (relN (relS (.int _) relZ)))))))),by simp [ea],fun v9 H3 s3 _ rv9=>?_⟩
   cases (show Rep K O H3 v9 (.int at_) from rv9)
   have pk3:=pk2.same s3
   obtain ⟨tx,et,c1,c2⟩:=L_draw ns (k + 11) 3 [] (hl:=hl)
   obtain ⟨x,ex,hx⟩:∃ x,atI (texts.map PyData.str) tx=some (.str x)∧x∈texts:=by
    rcases in3 c1 c2 with rfl | rfl | rfl <;> exact ⟨_,rfl,by simp [texts]⟩
   refine ⟨O,[],[some (.d (script ns)),some (.d (.list (texts.map .str))),none,none,none,none,none,none,some (.d (.int k))],[],.d (.str x),[],pk3.li.tr.hc,relS pk3.r0 (relS pk3.r1 (relN (relN (relN (relN (relN (relN (relS (.int _) relZ)))))))),by simp [et,ex],fun v10 H4 s4 _ rv10=>?_⟩
   cases (show Rep K O H4 v10 (.str x) from rv10)
   have pk4:=pk3.same s4
   obtain ⟨pp,aa,ff,i1,i2,i3,sawAt⟩:∃ pp aa ff,atI [V.ref p0,.ref p1] at_=some (.ref pp)∧atI [V.ref a0,.ref a1] at_=some (.ref aa)∧atI [V.ref f0,.ref f1] at_=some (.ref ff)∧∀ (Hx:Hp) (m:Nat) (x:Str) (l:Lk) (b:Addr) (Qx:VK),Pk K P w C O rc ns xs v0 v1 v5 v6 [(wl,.lst [.ref p0,.ref p1]),(sl,.lst [.ref a0,.ref a1]),(fl,.lst [.ref f0,.ref f1])] p0 a0 f0 p1 a1 f1 Hx m→m≤50→Adm rc x l→Rep K O Hx (.ref b) l.d→(∀ H',Pk K P w C O rc ns xs v0 v1 v5 v6 [(wl,.lst [.ref p0,.ref p1]),(sl,.lst [.ref a0,.ref a1]),(fl,.lst [.ref f0,.ref f1])] p0 a0 f0 p1 a1 f1 H' (m + 1)→Qx (.bl true) H')→LSawP K P w C [.ref pp,.ref aa,.ref ff,.str x,.ref b] Hx Qx:=by
    rcases (show at_=0∨at_=1 by omega) with rfl | rfl
    ·exact ⟨p0,a0,f0,rfl,rfl,rfl,fun Hx m x l b Qx pkx hm ad rl qx=>pkx.li.saw hm ad rl fun H' li' lp'=>qx H' (pkx.lp lp' li')⟩
    ·exact ⟨p1,a1,f1,rfl,rfl,rfl,fun Hx m x l b Qx pkx hm ad rl qx=>pkx.li.swap.saw hm ad rl fun H' li' lp'=>qx H' (pkx.lp lp' li'.swap)⟩
   obtain ⟨ln,lr,le,el,hL,few,t1,t2,t3⟩:=L_line ns k [] (hl:=hl)
   have ad:Adm rc x ⟨ln,lr,le⟩:=⟨⟨hL.nm,hL.rd,hL.en,hL.few⟩,.inr ⟨hx,⟨⟨hL.nm,hL.rd,hL.en,hL.few⟩,t1,few,t2,t3⟩⟩⟩
   refine ⟨_,rfl,_,rfl,wl,_,_,_,rfl,rfl,SqL.of (pk4.at_c (by simp)),i1,_,rfl,_,rfl,sl,_,_,_,rfl,rfl,SqL.of (pk4.at_c (by simp)),i2,_,rfl,_,rfl,fl,_,_,_,rfl,rfl,SqL.of (pk4.at_c (by simp)),i3,_,rfl,O,[],[some (.d (script ns)),none,none,none,none,none,none,none,some (.d (.int k))],[],.d (lnD ln lr le),[],pk4.li.tr.hc,relS pk4.r0 (relN (relN (relN (relN (relN (relN (relN (relS (.int _) relZ)))))))),by simp [el],fun vb H5 s5 _ rvb=>?_⟩
   obtain ⟨b,us,rfl,_,_⟩:=(Vw.rep (show Rep K O H5 vb (lnD ln lr le) from rvb)).tup
   have pk5:=pk4.same s5
   refine sawAt H5 (2 * i) x ⟨ln,lr,le⟩ b _ pk5 (by omega) ad rvb fun H6 pk6=>⟨true,rfl,?_⟩
   show (if (!true)=true then _ else _)
   rw [if_neg (by decide)]
   obtain ⟨d5,e5,g1,g2⟩:=L_draw ns 1 2 [] (hl:=hl)
   refine ⟨O,[],[some (.d (script ns))],[],decide (d5=0),[],pk6.li.tr.hc,relS pk6.r0 relZ,by simp [e5],fun H7 s7 _=>?_⟩
   have pk7:=pk6.same s7
   by_cases h0:d5=0
   ·rw [if_pos (decide_eq_true h0)]
    obtain ⟨dm,de,ee,hD⟩:=L_doing ns (400 + k) xs hN rc hR [] (hl:=hl)
    have ad2:Adm rc t123 ⟨Str.ofString "x",dm,de⟩:=⟨⟨show Lo (Str.ofString "x") from lo_of (by decide +kernel),hD.rd,hD.oe,hD.few⟩,.inl ⟨rfl,hD⟩⟩
    refine ⟨O,[],[some (.d (script ns)),none,none,none,none,some (.d (.list (xs.map .str))),some (.d rc),none,some (.d (.int k))],[],.d (lnD (Str.ofString "x") dm de),[],pk7.li.tr.hc,relS pk7.r0 (relN (relN (relN (relN (relS pk7.r5 (relS pk7.r6 (relN (relS (.int _) relZ)))))))),by simp [ee],fun v11 H8 s8 _ rv11=>?_⟩
    obtain ⟨b2,us2,rfl,_,_⟩:=(Vw.rep (show Rep K O H8 v11 (lnD (Str.ofString "x") dm de) from rv11)).tup
    have pk8:=pk7.same s8
    refine ⟨_,rfl,_,rfl,wl,_,_,_,rfl,rfl,SqL.of (pk8.at_c (by simp)),i1,_,rfl,_,rfl,sl,_,_,_,rfl,rfl,SqL.of (pk8.at_c (by simp)),i2,_,rfl,_,rfl,fl,_,_,_,rfl,rfl,SqL.of (pk8.at_c (by simp)),i3,_,rfl,?_⟩
    refine sawAt H8 (2 * i + 1) t123 ⟨Str.ofString "x",dm,de⟩ b2 _ pk8 (by omega) ad2 rv11 fun H9 pk9=>⟨true,rfl,?_⟩
    show (if (!true)=true then _ else _)
    rw [if_neg (by decide)]
    exact ⟨_,_,_,_,_,rfl,pk9⟩
   ·rw [if_neg (by rw [decide_eq_false h0]; decide)]
    exact ⟨_,_,_,_,_,rfl,⟨pk7.li.up (by omega),pk7.r0,pk7.r1,pk7.r5,pk7.r6⟩⟩
  ·rintro σ Hi ⟨o7,o8,o9,o10,o11,rfl,pk⟩
   obtain ⟨U0,U1,s0,s1,_,_⟩:=pk.li.ex
   obtain ⟨_,od0,_,_,fs0,_,g0,_,_,hf0,rf0⟩:=s0.ex
   obtain ⟨_,od1,_,_,fs1,_,g1,_,_,hf1,rf1⟩:=s1.ex
   obtain ⟨_,_,_,_,_,l0,k0⟩:=g0.ex
   obtain ⟨_,_,_,_,_,l1,k1⟩:=g1.ex
   have le:LeP O Hi (fun _=>False) Hi:=fun a o _ _ e=>⟨fun z=>z,e⟩
   have t0:Tr (fun _=>False) Hi:=fun b z=>z.elim
   have big:(2000:Nat) < sizeLine:=by decide
   refine ⟨fun _=>False,[],[none,none,none,none,some (.d (.list [.list od0,.list od1]))],[],.d (.bool true),[],t0.hc,relN (relN (relN (relN (relS (.lst (.inl ⟨fun z=>z,.inl (pk.at_c (by simp))⟩) (.cons (.lst (.inl ⟨fun z=>z,.inl hf0⟩) (reps_monoP le rf0)) (.cons (.lst (.inl ⟨fun z=>z,.inl hf1⟩) (reps_monoP le rf1)) .nil))) relZ)))),?_,fun v H2 s2 _ rv=>?_⟩
   ·exact fin_all k0 k1 (by omega)
   ·cases (show Rep K (fun _=>False) H2 v (.bool true) from rv)
    exact q H2
 obtain ⟨t,ht,main⟩:=tail
 refine ⟨_,pss_cons (ps_set (i:=1) S.nd rfl (Or.inl rfl) (DE.pe (de_lst (da_cons de_str (da_cons de_str (da_cons de_str da_nil))))))
  (pss_cons (ps_set (i:=2) S.nd rfl (Or.inl rfl) (pe_lst (pa_cons (pe_make0 A3 A1 (hr.mono (by omega)) rfl W.q A2 .nil pass0) (pa_cons (pe_make0 A3 A1 (hr.mono (by omega)) rfl W.q A2 .nil pass0) pa_nil))))
  (pss_cons (ps_set (i:=3) S.nd rfl (Or.inl rfl) (pe_lst (pa_cons (pe_lst pa_nil) (pa_cons (pe_lst pa_nil) pa_nil))))
  (pss_cons (ps_set (i:=4) S.nd rfl (Or.inl rfl) (pe_lst (pa_cons (pe_lst pa_nil) (pa_cons (pe_lst pa_nil) pa_nil))))
  (pss_cons (ps_if (PW.pt (pw_or (pt_cmpR (op_neG hr) (pe_meth0 (pe_ix ix_list (pv 2) pe_int (fun _ _=>rfl)) W.cl B3 B1 (hr.mono (by omega)) B2 .nil pass0 rfl) (pe_lst pa_nil) (nomark _)) (pw_or1 (pt_cmpR (op_neG hr) (pe_meth0 (pe_ix ix_list (pv 2) pe_int (fun _ _=>rfl)) W.cl B3 B1 (hr.mono (by omega)) B2 .nil pass0 rfl) (pe_lst pa_nil) (nomark _))))) (pss_one (ps_ret pe_bl)) pss_nil)
  (pss_cons (ps_set (i:=5) S.nd rfl (Or.inl rfl) (DE.pe (d_c2 (g__law_names E) hr (de_var 0) de_int)))
  (pss_cons (ps_set (i:=6) S.nd rfl (Or.inl rfl) (DE.pe (d_c4 (g__law_recipe E) hr (de_var 0) de_int (de_var 5) de_int))) ht)))))),?_⟩
 have big:(1000:Nat) < sizeLine:=by decide
 have t0:Tr (fun _=>False) H:=fun b z=>z.elim
 have ra:Rep K (fun _=>False) H (.ref as) (script ns):=.lst (by
  rcases hS with h | h
  ·exact .inl ⟨fun z=>z,h⟩
  ·exact .inr (.inr h)) (reps_ints ns)
 refine ⟨fun _=>False,[],[],[],.d (.list (texts.map .str)),[],t0.hc,relZ,by simp [texts],fun v1 H1 s1 _ rv1=>?_⟩
 have rv1':Rep K (fun _=>False) H1 v1 (.list (texts.map .str)):=rv1
 have ra1:=rep_monoP (LeP.same s1) ra
 refine fun p0 dx0 hp0 hdx0 n0=>⟨p0,dx0,rfl,upd_same,fun d0 l0 Ha hd0 hl0 ndl0 fr0 e1 e2 e3=>⟨rfl,fun p1 dx1 hp1 hdx1 n1=>⟨p1,dx1,rfl,upd_same,fun d1 l1 Hb hd1 hl1 ndl1 fr1 k1 k2 k3=>⟨rfl,by show (2:Nat)≤sizeLine; decide,fun wl hwl=>?_⟩⟩⟩⟩
 refine ⟨Nat.zero_le _,fun a0 ha0=>⟨Nat.zero_le _,fun a1 ha1=>⟨by show (2:Nat)≤sizeLine; decide,fun sl hsl=>?_⟩⟩⟩
 refine ⟨Nat.zero_le _,fun f0 hf0=>⟨Nat.zero_le _,fun f1 hf1=>⟨by show (2:Nat)≤sizeLine; decide,fun fl hfl=>?_⟩⟩⟩
 have sa:SameX [] H1 Ha:=ini_same hp0 hdx0 n0 hd0 hl0 fr0
 have sb:SameX [] Ha Hb:=ini_same hp1 hdx1 n1 hd1 hl1 fr1
 have nn:∀ {o:Option HO} {u:HO},o=some u→o≠none:=fun h z=>by rw [h] at z; cases z
 have b_dx {H:Hp} {p dx c:Addr} (h:upd (upd H dx (.own p)) p (.ins C dx []) c=none):H c=none∧c≠p:=by
  refine ⟨?_,fun z=>by subst z; rw [upd_same] at h; cases h⟩
  by_cases z:c=p
  ·subst z; rw [upd_same] at h; cases h
  ·rw [upd_ne z] at h
   by_cases y:c=dx
   ·subst y; rw [upd_same] at h; cases h
   ·rw [upd_ne y] at h; exact h
 have la:Laid [l0,d0,p0] Ha:=⟨by simp [(b_dx hl0).2,(b_dx hd0).2,Ne.symm ndl0],fun c hc=>by
  simp only [List.mem_cons,List.not_mem_nil,or_false] at hc
  rcases hc with rfl | rfl | rfl
  ·exact nn e3
  ·exact nn e2
  ·exact nn e1⟩
 have lb:Laid [l1,d1,p1,l0,d0,p0] Hb:=by
  have q1:=la.more sb hp1 (nn k1)
  have q2:Laid [d1,p1,l0,d0,p0] Hb:=⟨List.nodup_cons.mpr ⟨fun z=>by
   rcases List.mem_cons.mp z with z | z
   ·exact (b_dx hd1).2 z
   ·exact la.al _ z (b_dx hd1).1,q1.nd⟩,fun c hc=>by
   rcases List.mem_cons.mp hc with rfl | hc
   ·exact nn k2
   ·exact q1.al c hc⟩
  exact ⟨List.nodup_cons.mpr ⟨fun z=>by
   rcases List.mem_cons.mp z with z | z
   ·exact ndl1 z.symm
   rcases List.mem_cons.mp z with z | z
   ·exact (b_dx hl1).2 z
   ·exact la.al _ z (b_dx hl1).1,q2.nd⟩,fun c hc=>by
   rcases List.mem_cons.mp hc with rfl | hc
   ·exact nn k3
   ·exact q2.al c hc⟩
 have lc:=((((((lb.put hwl (.lst [.ref p0,.ref p1])).put ha0 (.lst [])).put ha1 (.lst [])).put hsl (.lst [.ref a0,.ref a1])).put hf0 (.lst [])).put hf1 (.lst [])).put hfl (.lst [.ref f0,.ref f1])
 have sw:SameX [] Hb _:=SameX.new hwl (.lst [.ref p0,.ref p1])
 have s2:=SameX.new (ts:=[]) ha0 (.lst [])
 have s3:=SameX.new (ts:=[]) ha1 (.lst [])
 have s4:=SameX.new (ts:=[]) hsl (.lst [.ref a0,.ref a1])
 have s5:=SameX.new (ts:=[]) hf0 (.lst [])
 have s6:=SameX.new (ts:=[]) hf1 (.lst [])
 have s7:=SameX.new (ts:=[]) hfl (.lst [.ref f0,.ref f1])
 have c6:=s7
 have c5:=s6.trans c6
 have c4:=s5.trans c5
 have c3:=s4.trans c4
 have c2:=s3.trans c3
 have c1:=s2.trans c2
 have cb:=sw.trans c1
 have ca:=sb.trans cb
 have ch:=sa.trans ca
 have vw:=c1 _ _ (by simp) (upd_same (H:=Hb) (a:=wl) (o:=.lst [.ref p0,.ref p1]))
 have va0:=c2 _ _ (by simp) (upd_same (a:=a0) (o:=.lst []))
 have va1:=c3 _ _ (by simp) (upd_same (a:=a1) (o:=.lst []))
 have vs:=c4 _ _ (by simp) (upd_same (a:=sl) (o:=.lst [.ref a0,.ref a1]))
 have vf0:=c5 _ _ (by simp) (upd_same (a:=f0) (o:=.lst []))
 have vf1:=c6 _ _ (by simp) (upd_same (a:=f1) (o:=.lst []))
 have vf:=upd_same (H:=upd (upd (upd (upd (upd (upd Hb wl (.lst [.ref p0,.ref p1])) a0 (.lst [])) a1 (.lst [])) sl (.lst [.ref a0,.ref a1])) f0 (.lst [])) f1 (.lst [])) (a:=fl) (o:=.lst [.ref f0,.ref f1])
 have vp0:=ca _ _ (by simp) e1
 have vd0:=ca _ _ (by simp) e2
 have vl0:=ca _ _ (by simp) e3
 have vp1:=cb _ _ (by simp) k1
 have vd1:=cb _ _ (by simp) k2
 have vl1:=cb _ _ (by simp) k3
 have sw':=sb.trans sw
 have s2':=sw'.trans s2
 have s3':=s2'.trans s3
 have s4':=s3'.trans s4
 have s5':=s4'.trans s5
 have x1:H1 l0=none:=(b_dx hl0).1
 have x2:H1 l1=none:=none_back sa (b_dx hl1).1
 have x3:H1 a0=none:=none_back (sa.trans sw') ha0
 have x4:H1 a1=none:=none_back (sa.trans s2') ha1
 have x5:H1 f0=none:=none_back (sa.trans s4') hf0
 have x6:H1 f1=none:=none_back (sa.trans s5') hf1
 have nd:=lc.nd
 clear c6 c5 c4 c3 c2 c1 cb ca sw' s2' s3' s4' s5' sw s2 s3 s4 s5 s6 s7 lc lb la hfl
 generalize upd (upd (upd (upd (upd (upd (upd Hb wl (.lst [.ref p0,.ref p1])) a0 (.lst [])) a1 (.lst [])) sl (.lst [.ref a0,.ref a1])) f0 (.lst [])) f1 (.lst [])) fl (.lst [.ref f0,.ref f1])=Hc at *
 clear hf0 hf1 hsl ha0 ha1 hwl
 have inj:∀ {i j:Nat} {b:Addr},[fl,f1,f0,sl,a1,a0,wl,l1,d1,p1,l0,d0,p0][i]? = some b→[fl,f1,f0,sl,a1,a0,wl,l1,d1,p1,l0,d0,p0][j]? = some b→i=j:=fun {i j b} hi hj=>(List.getElem?_inj (List.getElem?_eq_some_iff.mp hi).1 nd).mp (hi.trans hj.symm)
 let O:Addr→Prop:=fun b=>b=l0∨b=l1∨b=a0∨b=a1∨b=f0∨b=f1
 have leH:LeP (fun _=>False) H1 O Hc:=fun c o _ _ e=>⟨fun z=>(by
  rcases z with rfl | rfl | rfl | rfl | rfl | rfl
  ·rw [x1] at e; cases e
  ·rw [x2] at e; cases e
  ·rw [x3] at e; cases e
  ·rw [x4] at e; cases e
  ·rw [x5] at e; cases e
  ·rw [x6] at e; cases e),ch c o (by simp) e⟩
 have tr:Tr O Hc:=fun c hc=>by
  rcases hc with rfl | rfl | rfl | rfl | rfl | rfl
  ·exact .inl ⟨_,vl0⟩
  ·exact .inl ⟨_,vl1⟩
  ·exact .inl ⟨_,va0⟩
  ·exact .inl ⟨_,va1⟩
  ·exact .inl ⟨_,vf0⟩
  ·exact .inl ⟨_,vf1⟩
 let U0:Addr→Prop:=fun b=>b=p0∨b=d0∨b=l0
 let U1:Addr→Prop:=fun b=>b=p1∨b=d1∨b=l1
 have u0:∀ {b},U0 b→∃ i,i∈[12,11,10]∧[fl,f1,f0,sl,a1,a0,wl,l1,d1,p1,l0,d0,p0][i]? = some b:=fun {b} h=>by
  rcases h with rfl | rfl | rfl
  ·exact ⟨12,by decide,rfl⟩
  ·exact ⟨11,by decide,rfl⟩
  ·exact ⟨10,by decide,rfl⟩
 have u1:∀ {b},U1 b→∃ i,i∈[9,8,7]∧[fl,f1,f0,sl,a1,a0,wl,l1,d1,p1,l0,d0,p0][i]? = some b:=fun {b} h=>by
  rcases h with rfl | rfl | rfl
  ·exact ⟨9,by decide,rfl⟩
  ·exact ⟨8,by decide,rfl⟩
  ·exact ⟨7,by decide,rfl⟩
 have m0:∀ {b},Fp U0 a0 f0 b→∃ i,i∈[12,11,10,5,2]∧[fl,f1,f0,sl,a1,a0,wl,l1,d1,p1,l0,d0,p0][i]? = some b:=fun {b} h=>by
  rcases h with h | rfl | rfl
  ·obtain ⟨i,h1,h2⟩:=u0 h
   exact ⟨i,by simp at h1 ⊢; omega,h2⟩
  ·exact ⟨5,by decide,rfl⟩
  ·exact ⟨2,by decide,rfl⟩
 have m1:∀ {b},Fp U1 a1 f1 b→∃ i,i∈[9,8,7,4,1]∧[fl,f1,f0,sl,a1,a0,wl,l1,d1,p1,l0,d0,p0][i]? = some b:=fun {b} h=>by
  rcases h with h | rfl | rfl
  ·obtain ⟨i,h1,h2⟩:=u1 h
   exact ⟨i,by simp at h1 ⊢; omega,h2⟩
  ·exact ⟨4,by decide,rfl⟩
  ·exact ⟨1,by decide,rfl⟩
 have no:∀ {I:List Nat} {j:Nat} {b:Addr},[fl,f1,f0,sl,a1,a0,wl,l1,d1,p1,l0,d0,p0][j]? = some b→j∉I→¬ ∃ i,i∈I∧[fl,f1,f0,sl,a1,a0,wl,l1,d1,p1,l0,d0,p0][i]? = some b:=fun {I j b} hj hn ⟨i,h1,h2⟩=>hn (inj hj h2 ▸ h1)
 have wa0:WA K P w C O U0 Hc p0 [] []:=⟨dx0,d0,l0,[],[],vp0,vd0,vl0,.inl rfl,.nil,⟨.inl rfl,.inr (.inl rfl),.inr (.inr rfl)⟩,List.nodup_nil,.nil⟩
 have wa1:WA K P w C O U1 Hc p1 [] []:=⟨dx1,d1,l1,[],[],vp1,vd1,vl1,.inr (.inl rfl),.nil,⟨.inl rfl,.inr (.inl rfl),.inr (.inr rfl)⟩,List.nodup_nil,.nil⟩
 have li:∀ rc,LI K P w C O rc Hc [(wl,.lst [.ref p0,.ref p1]),(sl,.lst [.ref a0,.ref a1]),(fl,.lst [.ref f0,.ref f1])] p0 a0 f0 p1 a1 f1 0:=fun rc=>by
  refine ⟨tr,U0,U1,⟨⟨_,_,_,_,_,wa0,gd0 rc,va0,.nil,vf0,.nil⟩,fun b hb=>?_,?_,?_,.inr (.inr (.inl rfl)),.inr (.inr (.inr (.inr (.inl rfl)))),?_⟩,⟨⟨_,_,_,_,_,wa1,gd0 rc,va1,.nil,vf1,.nil⟩,fun b hb=>?_,?_,?_,.inr (.inr (.inr (.inl rfl))),.inr (.inr (.inr (.inr (.inr rfl)))),?_⟩,?_,?_⟩
  ·rcases hb with rfl | rfl | rfl
   ·exact nn vp0
   ·exact nn vd0
   ·exact nn vl0
  ·exact fun h=>no (j:=5) rfl (by decide) (u0 h)
  ·exact fun h=>no (j:=2) rfl (by decide) (u0 h)
  ·exact fun z=>absurd (inj (i:=5) (j:=2) rfl (by rw [z]; rfl)) (by decide)
  ·rcases hb with rfl | rfl | rfl
   ·exact nn vp1
   ·exact nn vd1
   ·exact nn vl1
  ·exact fun h=>no (j:=4) rfl (by decide) (u1 h)
  ·exact fun h=>no (j:=1) rfl (by decide) (u1 h)
  ·exact fun z=>absurd (inj (i:=4) (j:=1) rfl (by rw [z]; rfl)) (by decide)
  ·intro b h g
   obtain ⟨i,h1,h2⟩:=m0 h
   obtain ⟨j,g1,g2⟩:=m1 g
   have:=inj h2 g2
   subst this
   simp at h1 g1
   omega
  ·intro c hc
   simp only [List.mem_cons,List.not_mem_nil,or_false] at hc
   rcases hc with rfl | rfl | rfl
   ·exact ⟨vw,fun h=>no (j:=6) rfl (by decide) (m0 h),fun h=>no (j:=6) rfl (by decide) (m1 h)⟩
   ·exact ⟨vs,fun h=>no (j:=3) rfl (by decide) (m0 h),fun h=>no (j:=3) rfl (by decide) (m1 h)⟩
   ·exact ⟨vf,fun h=>no (j:=0) rfl (by decide) (m0 h),fun h=>no (j:=0) rfl (by decide) (m1 h)⟩
 have nil_of:∀ {H:Hp} {us:List V},Reps K O H us []→us=[]:=fun r=>by cases r; rfl
 refine ⟨_,rfl,wl,_,0,_,rfl,rfl,SqL.of vw,rfl,p0,dx0,_,rfl,vp0,rfl,O,U0,p0,_,_,rfl,wa0,fun b1 us1 hb1 r1=>?_⟩
 cases nil_of r1
 refine ⟨Nat.zero_le _,fun b2 hb2=>⟨fun _=>False,.list [],.list [],.raw (by rw [upd_ne (ne_of_none (upd_same (H:=Hc) (a:=b1) (o:=.lst [])) hb2)]; exact upd_same) .nil,.raw upd_same .nil,rfl,rfl,false,rfl,?_⟩⟩
 show (if false=true then _ else _)
 rw [if_neg (by decide)]
 have sq1:SameX [] Hc (upd (upd Hc b1 (.lst [])) b2 (.lst [])):=(SameX.new hb1 _).trans (.new hb2 _)
 refine ⟨_,rfl,wl,_,1,_,rfl,rfl,SqL.of (sq1 _ _ (by simp) vw),rfl,p1,dx1,_,rfl,sq1 _ _ (by simp) vp1,rfl,O,U1,p1,_,_,rfl,wa1.same sq1,fun b3 us3 hb3 r3=>?_⟩
 cases nil_of r3
 refine ⟨Nat.zero_le _,fun b4 hb4=>⟨fun _=>False,.list [],.list [],.raw (by rw [upd_ne (ne_of_none (upd_same (H:=upd (upd Hc b1 (.lst [])) b2 (.lst [])) (a:=b3) (o:=.lst [])) hb4)]; exact upd_same) .nil,.raw upd_same .nil,rfl,rfl,false,rfl,?_⟩⟩
 show (if false=true then _ else _)
 rw [if_neg (by decide)]
 have sq2:=sq1.trans ((SameX.new (ts:=[]) hb3 (.lst [])).trans (.new hb4 (.lst [])))
 generalize upd (upd (upd (upd Hc b1 (.lst [])) b2 (.lst [])) b3 (.lst [])) b4 (.lst [])=Hd at *
 have r0:Rep K O Hd (.ref as) (script ns):=rep_monoP (leH.trans (.same sq2)) ra1
 have r1':Rep K O Hd v1 (.list (texts.map .str)):=rep_monoP (leH.trans (.same sq2)) rv1'
 obtain ⟨xs,en,hN⟩:=L_names ns 300 [] (by omega) (by omega) hl
 refine ⟨O,[],[some (.d (script ns))],[],.d (.list (xs.map .str)),[],(tr.same sq2).hc,relS r0 relZ,by simp [en],fun v5 He s5 _ rv5=>?_⟩
 obtain ⟨rc,er,hR⟩:=L_recipe ns 310 xs hN [] (hl:=hl)
 have rv5':Rep K O He v5 (.list (xs.map .str)):=rv5
 have sq3:=sq2.trans s5
 refine ⟨O,[],[some (.d (script ns)),none,none,none,none,some (.d (.list (xs.map .str)))],[],.d rc,[],(tr.same sq3).hc,relS (rep_monoP (.same s5) r0) (relN (relN (relN (relN (relS rv5' relZ))))),by simp [er],fun v6 Hf s6 _ rv6=>?_⟩
 have s56:=s5.trans s6
 exact main O rc xs (.ref as) v1 v5 v6 wl sl fl p0 a0 f0 p1 a1 f1 Hf hN hR ⟨(li rc).same (sq3.trans s6),rep_monoP (.same s56) r0,rep_monoP (.same s56) r1',rep_monoP (.same s6) rv5',rv6⟩
end
end TK
namespace G
open PySem PySem.Spec PyProof.Rows L2 D
theorem all_mk {l:PySem.W.OpenLaw} {w:World} {K:PySem.W.Frag} {h:Heap} {mg:Str→Option Value} {fa:Addr} (X:K.In h) (G:h.Ns mainGlobals mg) (hfa:mg (Str.ofString "law")=some (.ref fa)) (d:DfL K top zS) (z:ZL K zZ) (i:IL K zI) (s:SL K zT)
  {C:Addr} (qC:PySem.W.nsIn K mainGlobals (Str.ofString "Watch")=some (some (.ref C))) (kC:clsB K C=true) (mC:mkB K C=true) (n1:noB K C (Str.ofString "seen")=true) (n2:noB K C (Str.ofString "odd")=true)
  (d0:DfM K C (Str.ofString "__init__") (Str.ofString "Watch.__init__") (mtop 4 0)) (d1:DfM K C (Str.ofString "saw") (Str.ofString "Watch.saw") (mtop 4 1)) (d2:DfM K C (Str.ofString "faults") (Str.ofString "Watch.faults") (mtop 4 2)) :
  ∃ fd:FuncData,(∀ (s:Shared) (v:Value),BindsTo s fd ⟨[v],[]⟩ [((Str.ofString "_law_script"),v)])∧∀ base:Heap,K.In base→base.Ns mainGlobals mg→FnOk l.prog w K mg base CX0 61 fa fd [Str.ofString "_law_script"] (spLaw K):=by
 obtain ⟨f0,oc,od,an,sl,kV,dc,pm,cd,ct,a,lk,c,kp⟩:=(d.at (x:=(Str.ofString "law")) (i:=25) (by decide +kernel)).ex
 cases hfa.symm.trans (PySem.W.mg_of X G a)
 have W:Wc K mg C:=⟨PySem.W.mg_of X G qC,clsB_of kC,noB_of n1,noB_of n2,mC,d0,d1,d2⟩
 exact ⟨PySem.W.fnOf (Str.ofString "law") (Str.ofString "law") (defArgs (top 25)) (defBody (top 25)) (defScope (top 25)) .none kV dc pm an cd ct,fun s v=>.of_eq rfl,fun base _ _=>TK.ok_law ⟨⟨_,X,G⟩,⟨bz_of X G z i s,C,W⟩,d⟩ W (fun_mk (st:=top 25) lk c kp)⟩
theorem walk {l:PySem.W.OpenLaw} {q:Program} {loose:List Str} {XP:(Str→Option Value)→Heap→Prop} {YP:World→Heap→Prop} {d:DefRec} {K:Params→PySem.W.Frag} (hn:l.most=some 63) (hdf:d.params.defaults=[])
  (hY:∀ (w:World) (h:Heap),YP w h→(K w.params).In h)
  (F:∀ (w:World) (mg:Str→Option Value) (fa:Addr) (h:Heap),(K w.params).In h→h.Ns mainGlobals mg→mg d.name=some (.ref fa) →
   ∃ fd:FuncData,(∀ (s:Shared) (u:Value),BindsTo s fd ⟨[u],[]⟩ [((Str.ofString "_law_script"),u)])∧∀ base:Heap,(K w.params).In base→base.Ns mainGlobals mg→FnOk l.prog w (K w.params) mg base CX0 61 fa fd [Str.ofString "_law_script"] (spLaw (K w.params))) :
  PySem.W.WalkO q loose XP YP l.row.toRowW d [] (fun f vs=>PySem.call f vs):=
 L2.walk_of (n:=63) (k:=61) (x:=(Str.ofString "_law_script")) (CX:=fun _=>CX0) (sp:=fun w=>spLaw (K w.params)) hn (by decide) hdf ⟨rfl,by decide,by decide,rfl⟩ hY F (fun _ _ a ns hl _ hS=>⟨a,ns,rfl,hS,hl,fun _=>rfl⟩) fun _ _ _ _ _ z=>z
end G
namespace G
open PySem PySem.Spec PySem.Calls PySem.W PyProof.Rows PySem.W.X PySem.W.ZRun
theorem walkZ {q:Program} {loose:List Str} {XP:(Str→Option Value)→Heap→Prop} {K:Params→PySem.W.Frag} {r:RowW} {d:DefRec} {kwd:List (Str×Expr)}
  {w:World} {s₀ s₁:Shared} {mg mb:Str→Option Value} {a:Addr} {o:Obj} {pm cd doc dV kV:Value} {args:List WData} {vals:List Value} {as:List Addr}
  (KX:(K w.params).In s₁.heap) (GR:Ground q loose r.records XP w s₀ mg mb s₁.heap) (ho:s₁.heap.get? a=some o)
  (hd:o.data=.func { docDef d.name d.params d.body d.scope pm cd doc with defaults:=dV,kwdefaults:=kV }) (hcd:s₁.heap.CodeRec cd d.name) (hD:Dflts mg s₁.heap d.params kwd dV kV) (hmg:mg d.name=some (.ref a)) (hg:s₁.gens = #[])
  (hpre:r.claim.pre args=true) (hlay:WData.layableAll args=true) (hrd:ReadsAllW r.records (classAt s₀.heap) s₁.heap vals args as) (hwl:WellAll w.params s₁.heap vals args) (hlo:∀ a∈as,(a == sysModules)=false)
  (W:PySem.W.WalkO q loose XP (fun w h=>(K w.params).In h) r d kwd fun f vs=>PySem.call f vs) :
  wpAny (model r.prog w) callerA (PySem.call (.ref a) vals) (fun v s'=>GoodWG r.claim (classAt s₀.heap) (ExcName.means s₀.heap) args s₁ (.ok (.ret v)) s')
    (fun e s'=>GoodWG r.claim (classAt s₀.heap) (ExcName.means s₀.heap) args s₁ (.error e) s') s₁:=
 W w s₀ s₁ mg mb GR KX a o pm cd doc dV kV ho hd hcd hD hmg hg args vals as hpre hlay hrd hwl hlo
end G
end Internal
namespace PySem.W.Fast
def tw1107337085224042919:=Nat
def tw17860906454898752181:=Nat
def tw6468594908816259011:=Nat
def tw14300161835446922493:=Nat
def tw3687484062672519179:=Nat
def tw14229615086558488359:=Nat
def tw17619669080533256757:=Nat
def tw16409276243479150754:=Nat
def tw10388926692204777758:=Nat
def tw10032892416922443837:=Nat
def tw12430288850979887275:=Nat
def tw879020445516510677:=Nat
def tw11639784154904842657:=Nat
def tw10718147586419067941:=Nat
def tw12620267918821316315:=Nat
def tw7971080793277367504:=Nat
def tw17943726645172104956:=Nat
def tw2321826128791811452:=Nat
def tw7729983956193721952:=Nat
def tw15453572157861335847:=Nat
def tw18227445718873571488:=Nat
def tw6147062901110181105:=Nat
def tw4522764740571039146:=Nat
def tw12637120450518329654:=Nat
def tw6383336952274654561:=Nat
def tw5041385768267218735:=Nat
def tw5570800658188380343:=Nat
def tw4203134521405680512:=Nat
def tw11305212248164162137:=Nat
def tw11484841909355451076:=Nat
def tw11517226307068532889:=Nat
def tw4264346387890179314:=Nat
def tw4969297787823847156:=Nat
def tw13568507010231259587:=Nat
def tw13377256414088205468:=Nat
def tw16349731008151722920:=Nat
def tw2033031527934455626:=Nat
def tw4492713316356162406:=Nat
def tw18166472405886903156:=Nat
def tw1328651164238879815:=Nat
def tw792792547872068185:=Nat
def tw16363044691649800517:=Nat
def tw7099544760173862607:=Nat
def tw1685759576277256024:=Nat
def tw4835978541627325974:=Nat
def tw16920282750065230887:=Nat
def tw11538218303774732243:=Nat
def tw4579138425788274226:=Nat
def tw13658089082243498552:=Nat
def tw5285056290485559999:=Nat
def tw4073388796973486435:=Nat
def tw5330562566593238247:=Nat
def tw13602002894910403508:=Nat
def tw3809594821925793724:=Nat
def tw18066721102453078374:=Nat
def tw211609929581951959:=Nat
def tw10572548728105171793:=Nat
def tw3614621207300378378:=Nat
def tw7739368238305681541:=Nat
def tw15367237248794003463:=Nat
def tw2405528754282279855:=Nat
def tw3349727974910192181:=Nat
def tw7007611286974798374:=Nat
def tw7997877077645366589:=Nat
def tw10315168705212504873:=Nat
def tw15318452926106092023:=Nat
def tw12222140321334681839:=Nat
def tw13220801632983131184:=Nat
def tw3239507704106814199:=Nat
def tw11106487083764108257:=Nat
def tw8983809626891439814:=Nat
def tw9020772669421210735:=Nat
def tw5737848194219219471:=Nat
def tw13672053358658340712:=Nat
def tw1430850934105093038:=Nat
def tw4154072079289422443:=Nat
def tw855456940862151533:=Nat
def tw13819851698928431945:=Nat
def tw14192016363033900050:=Nat
def tw14998517197518592798:=Nat
def tw3549625751678568163:=Nat
def tw9927085125322237625:=Nat
def tw6815238482540520744:=Nat
def tw15115686665822116581:=Nat
def tw8924226770166445444:=Nat
def tw3540705052265069101:=Nat
def tw12664649055910513273:=Nat
def tw9007096371490724919:=Nat
def tw9186538715487633167:=Nat
def tw3591324129111681688:=Nat
def tw12947403956581863510:=Nat
def tw3058618690334463425:=Nat
def tw10748721511416733022:=Nat
def tw11600055486382443946:=Nat
def tw18064719306237510314:=Nat
def tw11803891816751154128:=Nat
def tw4966736824698034932:=Nat
def tw6243918537267430585:=Nat
def tw17711543660423993535:=Nat
def tw8023859450966675750:=Nat
def tw13848989605176124528:=Nat
def tw1099203034921876051:=Nat
def tw14875447532346236215:=Nat
def tw10487415251738672660:=Nat
def tw6990629847462971052:=Nat
def tw13609687258685422901:=Nat
def tw1740981114568139523:=Nat
def tw14155218007386048196:=Nat
def tw6852009688581718727:=Nat
def tw8912462458106173800:=Nat
def tw12338113134850538631:=Nat
def tw13891637945984076981:=Nat
def tw7497271661885630700:=Nat
def tw14592773316814983426:=Nat
def tw4257102216919220043:=Nat
def tw14288895991116041923:=Nat
def tw2686488699521668183:=Nat
def tw782333901256380773:=Nat
def tw14885910064832601898:=Nat
end PySem.W.Fast
noncomputable def PySem.W.Fast.tw10431064682648053238 : PySem.Program := PySem.Challenge.pw_redo_k76_a_watch
theorem PySem.W.Fast.te10431064682648053238 : PySem.Challenge.pw_redo_k76_a_watch = PySem.W.Fast.tw10431064682648053238 := rfl
open Internal
open PySem PySem.W PyProof.Rows PySem.W.X PySem.W.ZRun
set_option maxRecDepth 100000 in
set_option maxHeartbeats 0 in
theorem PySem.Challenge.cw_redo_k76_a_watch_holds : PySem.Challenge.rw_redo_k76_a_watch.Holds := by
 w_on; o_law; z_head; (case hw=>w_witness2)
 k_fill
 intro w s₀ s₁ mg mb GR y fa o pm cd doc dV kV ho hd hcd hD hmg hg args vals as L hpre hlay hrd hwl hlo
 z_open y L KX ZH ZN ZT
 clear ZH ZN ZT
 refine G.walkZ KX GR ho hd hcd hD hmg hg hpre hlay hrd hwl hlo ?W
 clear KX GR ho hd hcd hD hmg hg hpre hlay hrd hwl hlo L y
 refine G.walk (l:=PySem.Challenge.rw_redo_k76_a_watch) rfl rfl (fun w h Y=>Y) ?F
 case F=>
  intro w mg fa h KX GG hmg
  refine' G.all_mk KX GG hmg ?_ ?_ ?_ ?_ ?_ ?_ ?_ ?_ ?_ ?_ ?_ ?_
  any_goals repeat' first | exact True.intro | refine' D.dfl_cons ?_ ?_ | refine' D.zl_cons ?_ ?_ | refine' D.il_cons ?_ ?_ | refine' D.sl_cons ?_ ?_
  any_goals first | (refine' D.df_mk ?a ?l ?c ?k; (case a=>k_is); (case l=>k_is); (case c=>k_is); (case k=>k_is)) | (refine' D.dfm_mk ?a ?l ?c ?k ?n; (case a=>k_is); (case l=>k_is); (case c=>k_is); (case k=>k_is); (case n=>k_is)) | k_is
  all_goals first | rfl | decide +kernel
