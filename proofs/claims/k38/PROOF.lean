import PyProof.Rows.All
import Wide.All
import OpenK.AllK
import Wide.FinOn
import Lean
import PyProof.EqAt
import PyProof.EqKinds
import PyProof.TupleCall
import PySem.Challenge.RW_redo_k38_lines_that_stand
noncomputable section
open PySem.W (Frag)
set_option Elab.async false
set_option linter.all false
set_option maxRecDepth 100000
namespace L2
open PySem PySem.Spec PyProof.Rows
abbrev Key:=Sum Int Str
def eN:Key->Value->Bool
 |.inl k,v=>Value.isInt k v
 |.inr x,v=>Value.isStrOf x v
def yk(w:World):Key->Int
 |.inl k=>hashInt k
 |.inr x=>hashStr w x
theorem dQ:∀{k:Key}{v:Value},eN k v=true->(∃i t,k=Sum.inl i/\v=Value.int i t)\/(∃x t,k=Sum.inr x/\v=Value.str x t)
 |.inl i,v,h=>by
  obtain⟨t,e⟩:=Value.isInt_shape (k:=i) (v:=v) h;exact .inl ⟨i,t,rfl,e⟩
 |.inr x,v,h=>by
  obtain⟨t,e⟩:=Value.isStrOf_shape (x:=x) (v:=v) h;exact .inr ⟨x,t,rfl,e⟩
theorem AB(i:Int)(t:Tok):eN (.inl i) (.int i t)=true:=by simp[eN,Value.isInt]
theorem AA(x:Str)(t:Tok):eN (.inr x) (.str x t)=true:=by simp[eN,Value.isStrOf]
theorem wb(a b:Int):decide ((Sum.inl a:Key)=Sum.inl b)=(a == b):=by
 by_cases e:a=b
 .subst e;simp
 .have h:¬(Sum.inl a:Key)=Sum.inl b:=fun q=>e (Sum.inl.inj q)
  rw[decide_eq_false h];exact(beq_eq_false_iff_ne.mpr e).symm
theorem v8(a b:Str):decide ((Sum.inr a:Key)=Sum.inr b)=decide (a=b):=by
 by_cases e:a=b
 .subst e;simp
 .have h:¬(Sum.inr a:Key)=Sum.inr b:=fun q=>e (Sum.inr.inj q)
  rw[decide_eq_false h,decide_eq_false e]
theorem wa(a:Int)(b:Str):decide ((Sum.inl a:Key)=Sum.inr b)=false:=decide_eq_false (fun q=>nomatch q)
theorem v9(a:Str)(b:Int):decide ((Sum.inr a:Key)=Sum.inl b)=false:=decide_eq_false (fun q=>nomatch q)
def bz(prog:Program)(w:World):PySem.KeyKind prog w Key where
 is:=eN
 hash:=yk w
 inj:=fun v a b ha hb=>by
  rcases dQ ha with⟨i,t,rfl,rfl⟩|⟨x,t,rfl,rfl⟩
  .rcases dQ hb with⟨j,u,rfl,e⟩|⟨y,u,rfl,e⟩
   .injection e with e1 _;rw[e1]
   .exact nomatch e
  .rcases dQ hb with⟨j,u,rfl,e⟩|⟨y,u,rfl,e⟩
   .exact nomatch e
   .injection e with e1 _;rw[e1]
 byValue:=fun k v h=>by
  rcases dQ h with⟨i,t,rfl,rfl⟩|⟨x,t,rfl,rfl⟩ <;> rfl
 pyHash:=fun hv h=>by
  rcases dQ hv with⟨i,t,rfl,rfl⟩|⟨x,t,rfl,rfl⟩
  .exact wpAny_pyHash_int h
  .exact wpAny_pyHash_str h
 eqBool:=fun hu hv h=>by
  rcases dQ hu with⟨i,t,rfl,rfl⟩|⟨x,t,rfl,rfl⟩
  .rcases dQ hv with⟨j,u,rfl,rfl⟩|⟨y,u,rfl,rfl⟩
   .rw[wb] at h;exact wpAny_eqBool_int h
   .rw[wa] at h;exact SeqAt.EqAt.int_str i t y u _ _ _ _ h
  .rcases dQ hv with⟨j,u,rfl,rfl⟩|⟨y,u,rfl,rfl⟩
   .rw[v9] at h;exact SeqAt.EqAt.str_int x t j u _ _ _ _ h
   .rw[v8] at h;exact wpAny_eqBool_str h
 «strs»:=fun k x t v h=>by
  rcases dQ h with⟨i,u,rfl,e⟩|⟨y,u,rfl,e⟩
  .exact nomatch e
  .injection e with e1 _
   subst e1
   cases v <;> rfl
theorem zj(prog:Program)(w:World)(i:Int)(t:Tok):(bz prog w).is (.inl i) (.int i t)=true:=AB i t
theorem zi(prog:Program)(w:World)(x:Str)(t:Tok):(bz prog w).is (.inr x) (.str x t)=true:=AA x t
inductive V where
 |non|bl (b:Bool)|int (i:Int)|str (x:Str)|byt (b:Array UInt8)|flt (b:UInt64)|ref (a:Addr)|ty (n:String)
 deriving DecidableEq
def RelV:V->Value->Prop
 |.non,u=>u=Value.none
 |.bl b,u=>u=Value.bool b
 |.int i,u=>∃t,u=Value.int i t
 |.str x,u=>∃t,u=Value.str x t
 |.byt b,u=>∃t,u=Value.bytes b t
 |.flt b,u=>∃t,u=Value.float b t
 |.ref a,u=>u=Value.ref a
 |.ty n,u=>u=Value.type n
abbrev Vals:List V->List Value->Prop:=Paired RelV
theorem Vals.length{xs:List V}{us:List Value}(r:Vals xs us):xs.length=us.length:=Paired.length r
theorem Vals.get:∀{xs:List V}{us:List Value}{i:Nat}{x:V},Vals xs us->xs[i]? = some x->∃u,us[i]? = some u/\RelV x u
 |_,_,_,_,.nil,e=>by simp at e
 |_,_,0,_,.cons r _,e=>by simp at e;subst e;exact⟨_,rfl,r⟩
 |_,_,i+1,x,.cons _ t,e=>by
  obtain⟨u,h1,h2⟩:=Vals.get (i:=i) (x:=x) t (by simpa using e);exact⟨u,by simpa using h1,h2⟩
theorem Vals.set{x:V}{u:Value}(r:RelV x u):∀{xs:List V}{us:List Value} (i:Nat),Vals xs us->Vals (xs.set i x) (us.set i u)
 |_,_,_,.nil=>.nil
 |_,_,0,.cons _ t=>.cons r t
 |_,_,i+1,.cons q t=>.cons q (Vals.set r i t)
theorem Vals.append:∀{xs ys:List V}{us ws:List Value},Vals xs us->Vals ys ws->Vals (xs++ys) (us++ws)
 |_,_,_,_,.nil,s=>s
 |_,_,_,_,.cons r t,s=>.cons r (Vals.append t s)
theorem Vals.take:∀{xs:List V}{us:List Value} (n:Nat),Vals xs us->Vals (xs.take n) (us.take n)
 |_,_,0,_=>.nil
 |_,_,_+1,.nil=>.nil
 |_,_,n+1,.cons r t=>.cons r (Vals.take n t)
theorem Vals.drop:∀{xs:List V}{us:List Value} (n:Nat),Vals xs us->Vals (xs.drop n) (us.drop n)
 |_,_,0,r=>r
 |_,_,_+1,.nil=>.nil
 |_,_,n+1,.cons _ t=>Vals.drop n t
def RelO:Option V->Option Value->Prop
 |some v,some u=>RelV v u
 |none,none=>True
 |_,_=>False
def KV{κ:Type}:List (κ×V)->List (κ×Value)->Prop:=Paired fun(p:κ×V) (q:κ×Value)=>p.1=q.1/\RelV p.2 q.2
def kV:Key->V
 |.inl i=>.int i
 |.inr x=>.str x
inductive HO where
  |lst (xs:List V)
  |tup (xs:List V)
  |dK (kvs:List (Key×V))|dT (kvs:List (List Key×V))
  |set (S:Int->Bool) (n:Nat)
  |ins (C dx:Addr) (fs:List (Str×V))
  |own (x:Addr)
  |xd (fs:List (Str×V))
  |met (f x:Addr)
  |rng (lo hi:Int)
  |frz (o:Obj) (u:HO)
  |tbl (ps:Array Value)
  |ext (φ:Heap->Prop)
abbrev Hp:=Addr->Option HO
def upd(H:Hp)(a:Addr)(o:HO):Hp:=fun b=>if b=a then some o else H b
theorem bx{H:Hp}{a:Addr}{o:HO}:upd H a o a=some o:=by unfold upd;rw[if_pos rfl]
theorem aS{H:Hp}{a b:Addr}{o:HO}(h:b≠a):upd H a o b=H b:=by unfold upd;rw[if_neg h]
theorem Ci{H:Hp}{a:Addr}{o u:HO}:upd (upd H a o) a u=upd H a u:=by funext b;unfold upd;split <;> rfl
theorem GH{H:Hp}{a b:Addr}{o u:HO}(h:H a=some o)(h':H b=some u)(d:o≠u):a≠b:=by intro e;subst e;rw[h] at h';exact d (Option.some.inj h')
theorem dv{H:Hp}{a b:Addr}{o:HO}(h:H a=some o)(h':H b=none):a≠b:=by intro e;subst e;rw[h] at h';cases h'
section
variable (P:Program)(w:World)
def ObjOk(H:Hp)(h:Heap)(a:Addr):HO->Prop
 |.lst xs=>xs.length<=sizeLine/\∃(its:List Value) (n:Nat),Vals xs its/\h.get? a=some { cls:=.type "list",data:=.seq its.toArray n }
 |.tup xs=>xs.length<=sizeLine/\∃its:List Value,Vals xs its/\IsTup h a its.toArray
 |.dK kvs=>kvs.length<=sizeLine/\(a == sysModules)=false/\∃vs,KV kvs vs/\h.DictOf (bz P w) a vs
 |.dT kvs=>kvs.length<=sizeLine/\(a == sysModules)=false/\∃xs:List (List Key×Addr×Value),
   Paired (fun(p:List Key×V) (q:List Key×Addr×Value)=>p.1=q.1/\H q.2.1=some (.tup (p.1.map kV))/\RelV p.2 q.2.2) kvs xs /\
   ∃o es ep,h.get? a=some o/\o.ExactDict/\o.data=.dict es ep/\es.toList=xs.map (entryOfKey (tupleKind (bz P w)))/\(xs.map (·.1)).Nodup
 |.set S n=>h.SetOf (intKind P w) a S n
 |.ins C dx fs=>H dx=some (.own a)/\fs.length<=1000/\dx≠a/\h.get? a=some (PySem.W.instObj C dx) /\
   ∃mA,h.Ns1 dx mA/\(∀f,RelO (fs.lookup f) (mA f))/\PySem.Within mA (fs.map (·.1))
 |.own _=>∃o,h.get? a=some o
 |.xd fs=>∃mA,h.Ns1 a mA/\∀f,RelO (fs.lookup f) (mA f)
 |.rng lo hi=>∃t u v,h.get? a=some { cls:=.type "range",data:=.fields #[.int lo t,.int hi u,.int 1 v] }
 |.frz o u=>h.get? a=some o/\ObjOk H h a u
 |.tbl ps=>h.get? a=some { cls:=.none,data:=.fields ps }
 |.met f x=>h.get? a=some (PySem.W.methodObj (.ref f) (.ref x))
 |.ext φ=>φ h/\(∃o,h.get? a=some o)/\∀h1 h2:Heap,φ h1->(∀o,h1.get? a=some o->h2.get? a=some o)->φ h2
def HOk(H:Hp)(h:Heap):Prop:=∀a o,H a=some o->ObjOk P w H h a o
end
section
variable {P:Program}{w:World}{H H':Hp}{h h':Heap}{a:Addr}{o:HO}
theorem ObjOk.lt(x:ObjOk P w H h a o):a<h.objs.size:=by
 cases o with
 |lst xs=>obtain⟨_,_,_,_,e⟩:=x;exact Heap.lt_size e
 |tup xs=>obtain⟨_,_,_,p⟩:=x;exact p.lt
 |dK kvs=>obtain⟨_,_,_,_,o,_,_,e,_⟩:=x;exact Heap.lt_size e
 |dT kvs=>obtain⟨_,_,_,_,o,_,_,e,_⟩:=x;exact Heap.lt_size e
 |set S n=>obtain⟨o,_,_,_,e,_⟩:=x;exact Heap.lt_size e
 |ins C dx fs=>obtain⟨_,_,_,e,_⟩:=x;exact Heap.lt_size e
 |own y=>obtain⟨_,e⟩:=x;exact Heap.lt_size e
 |xd fs=>obtain⟨_,⟨_,_,_,e,_⟩,_⟩:=x;exact Heap.lt_size e
 |rng lo hi=>obtain⟨_,_,_,e⟩:=x;exact Heap.lt_size e
 |frz ob u=>obtain⟨e,_⟩:=x;exact Heap.lt_size e
 |tbl ps=>exact Heap.lt_size (show h.get? a=some _ from x)
 |met f y=>exact Heap.lt_size (show h.get? a=some _ from x)
 |ext φ=>obtain⟨_,⟨_,e⟩,_⟩:=x;exact Heap.lt_size e
theorem Paired.mapP{α β:Type}{F G:α->β->Prop}:∀{l₁:List α}{l₂:List β},Paired F l₁ l₂->(∀a b,F a b->G a b)->Paired G l₁ l₂
 |_,_,.nil,_=>.nil
 |_,_,.cons r t,f=>.cons (f _ _ r) (Paired.mapP t f)
theorem ObjOk.stay(x:ObjOk P w H h a o)(k:∀b u,(b=a\/H b=some (.own a))->h.get? b=some u->h'.get? b=some u)
  (ho:∀b,H b=some (.own a)->H' b=some (.own a)) (ht:∀b xs,H b=some (.tup xs)->H' b=some (.tup xs)):ObjOk P w H' h' a o:=by
 induction o with
 |lst xs=>obtain⟨z,its,n,r,e⟩:=x;exact⟨z,its,n,r,k _ _ (.inl rfl) e⟩
 |tup xs=>obtain⟨z,its,r,ob,e,c⟩:=x;exact⟨z,its,r,ob,k _ _ (.inl rfl) e,c⟩
 |dK kvs=>obtain⟨z,y,vs,r,ob,es,ep,e,c⟩:=x;exact⟨z,y,vs,r,ob,es,ep,k _ _ (.inl rfl) e,c⟩
 |dT kvs=>
  obtain⟨z,y,xs,r,ob,es,ep,e,c⟩:=x;exact⟨z,y,xs,Paired.mapP r fun p q z=>⟨z.1,ht _ _ z.2.1,z.2.2⟩,ob,es,ep,k _ _ (.inl rfl) e,c⟩
 |set S n=>obtain⟨ob,es,ep,t,e,c⟩:=x;exact⟨ob,es,ep,t,k _ _ (.inl rfl) e,c⟩
 |ins C dx fs=>
  obtain⟨d,z,ne,e,mA,⟨od,es,ep,e2,c⟩,r⟩:=x;exact⟨ho _ d,z,ne,k _ _ (.inl rfl) e,mA,⟨od,es,ep,k _ _ (.inr d) e2,c⟩,r⟩
 |own y=>obtain⟨ob,e⟩:=x;exact⟨ob,k _ _ (.inl rfl) e⟩
 |xd fs=>obtain⟨mA,⟨od,es,ep,e,c⟩,r⟩:=x;exact⟨mA,⟨od,es,ep,k _ _ (.inl rfl) e,c⟩,r⟩
 |rng lo hi=>obtain⟨t,u,v,e⟩:=x;exact⟨t,u,v,k _ _ (.inl rfl) e⟩
 |frz ob u ih=>obtain⟨e,q⟩:=x;exact⟨k _ _ (.inl rfl) e,ih q⟩
 |tbl ps=>
  have e:h.get? a=some { cls:=.none,data:=.fields ps }:=x;show h'.get? a=some { cls:=.none,data:=.fields ps };exact k a _ (.inl rfl) e
 |met f y=>
  have e:h.get? a=some (PySem.W.methodObj (.ref f) (.ref y)):=x;show h'.get? a=some (PySem.W.methodObj (.ref f) (.ref y));exact k a _ (.inl rfl) e
 |ext φ=>obtain⟨p,⟨o,e⟩,st⟩:=x;exact⟨st _ _ p fun o q=>k _ _ (.inl rfl) q,⟨o,k _ _ (.inl rfl) e⟩,st⟩
theorem HOk.lt(x:HOk P w H h)(e:H a=some o):a<h.objs.size:=(x a o e).lt
theorem HOk.fresh(x:HOk P w H h)(e:h.objs.size<=a):H a=none:=by
 cases q:H a with
 |none=>rfl
 |some u=>exact absurd (Nat.lt_of_lt_of_le (x.lt q) e) (Nat.lt_irrefl _)
theorem HOk.kept(x:HOk P w H h)(k:∀b u,h.get? b=some u->h'.get? b=some u):HOk P w H h':=fun a o e=>
 (x a o e).stay (fun b u _ q=>k b u q) (fun _ q=>q) fun _ _ q=>q
theorem HOk.laid(x:HOk P w H h)(k:∀b u,h.get? b=some u->h'.get? b=some u)(hp:h.objs.size<=a)(new:ObjOk P w (upd H a o) h' a o):HOk P w (upd H a o) h':=fun b u e=>by
 have hn:=x.fresh hp
 by_cases hb:b=a
 .subst hb;rw[bx] at e;cases e;exact new
 .rw[aS hb] at e
  exact(x b u e).stay (fun c v _ q=>k c v q) (fun c q=>by rw[aS (dv q hn)];exact q) fun c xs q=>by rw[aS (dv q hn)];exact q
end
def Rd(H:Hp)(a:Addr)(u:HO):Prop:=H a=some u\/∃o,H a=some (.frz o u)
theorem Rd.ok{P:Program}{w:World}{H:Hp}{h:Heap}{a:Addr}{u:HO}(r:Rd H a u)(x:HOk P w H h):ObjOk P w H h a u:=by
 rcases r with r|⟨o,r⟩
 .exact x a u r
 .obtain⟨_,q⟩:=x a _ r
  exact q
def Mut:Option HO->Prop
 |some (.lst _)=>True
 |some (.dK _)=>True
 |some (.dT _)=>True
 |some (.set _ _)=>True
 |some (.ins _ _ _)=>True
 |some (.ext _)=>True
 |_=>False
section
variable {P:Program}{w:World}{H:Hp}{h h':Heap}{x e:Addr}{o':HO}
theorem HOk.write(ok:HOk P w H h)(mu:Mut (H x))(he:e=x\/H e=some (.own x))(k:∀b u,b≠e->h.get? b=some u->h'.get? b=some u)(heo:∃u,h'.get? e=some u)
  (new:ObjOk P w (upd H x o') h' x o'):HOk P w (upd H x o') h':=fun b u q=>by
 have nown:∀c y,H c=some (.own y)->c≠x:=fun c y r z=>by subst z;rw[r] at mu;exact mu
 have ntup:∀c xs,H c=some (.tup xs)->c≠x:=fun c xs r z=>by subst z;rw[r] at mu;exact mu
 by_cases hb:b=x
 .subst hb;rw[bx] at q;cases q;exact new
 .rw[aS hb] at q
  by_cases hbe:b=e
  .have q':H b=some (.own x):=by
    rcases he with z|z
    .exact absurd (hbe.trans z) hb
    .rw[hbe];exact z
   rw[q] at q';cases q';obtain⟨v,hv⟩:=heo;exact⟨v,by rw[hbe];exact hv⟩
  .refine(ok b u q).stay (fun c v hc r=>k c v ?_ r) (fun c r=>by rw[aS (nown c b r)];exact r) fun c xs r=>by rw[aS (ntup c xs r)];exact r
   rcases hc with rfl|hc
   .exact hbe
   .rintro rfl
    rcases he with z|z
    .exact nown c b hc z
    .rw[hc] at z;cases z;exact hb rfl
end
structure Un(fs ex:List Addr)(H H':Hp)(h h':Heap):Prop where
 keep:∀b o,h.get? b=some o->H b=none->b∉fs->b∉ex->h'.get? b=some o
 slot:∀b o,h.get? b=some o->H b=none->b∈fs->b∉ex->∃sl,h'.get? b=some { o with slots:=sl }
 free:∀b o,h.get? b=some o->H b=none->b∉ex->H' b=none
 there:∀b o,h.get? b=some o->b∉ex->∃o',h'.get? b=some o'
 tups:∀b xs,H b=some (.tup xs)->H' b=some (.tup xs)
 frzs:∀b o u,H b=some (.frz o u)->H' b=some (.frz o u)
 tbls:∀b ps,H b=some (.tbl ps)->∃more,H' b=some (.tbl (ps++more))
section
variable {fs fs' ex ex':List Addr}{H H1 H2:Hp}{h h1 h2 h':Heap}{a x e:Addr}{o:HO}
theorem Un.any(u:Un fs ex H H1 h h1){b:Addr}{ob:Obj}(q:h.get? b=some ob)(n:H b=none)(hx:b∉ex):∃sl,h1.get? b=some { ob with slots:=sl }:=by
 by_cases hb:b∈fs
 .exact u.slot b ob q n hb hx
 .exact⟨ob.slots,u.keep b ob q n hb hx⟩
theorem Un.kept(k:∀b u,h.get? b=some u->h'.get? b=some u):Un fs ex H H h h':=⟨fun b ob q _ _ _=>k b ob q,fun b ob q _ _ _=>⟨ob.slots,k b ob q⟩,fun _ _ _ n _=>n,fun b ob q _=>⟨ob,k b ob q⟩,fun _ _ q=>q,fun _ _ _ q=>q,fun _ ps q=>⟨#[],by rw[q];simp⟩⟩
theorem Un.refl:Un fs ex H H h h:=Un.kept fun _ _ q=>q
theorem Un.laid(k:∀b u,h.get? b=some u->h'.get? b=some u)(hp:h.objs.size<=a)(hn:H a=none):Un fs ex H (upd H a o) h h' where
 keep:=fun b u q _ _ _=>k b u q
 slot:=fun b u q _ _ _=>⟨u.slots,k b u q⟩
 free:=fun b u q n _=>by rw[aS (Nat.ne_of_lt (Nat.lt_of_lt_of_le (Heap.lt_size q) hp))];exact n
 there:=fun b u q _=>⟨u,k b u q⟩
 tups:=fun b xs q=>by rw[aS (dv q hn)];exact q
 frzs:=fun b u xs q=>by rw[aS (dv q hn)];exact q
 tbls:=fun b ps q=>⟨#[],by rw[aS (dv q hn),q];simp⟩
theorem Un.write(mu:Mut (H x))(he:e=x\/H e=some (.own x))(k:∀b u,b≠e->h.get? b=some u->h'.get? b=some u)(heo:∃u,h'.get? e=some u):Un fs ex H (upd H x o) h h':=by
 have hx:∀b,H b=none->b≠x:=fun b n z=>by subst z;rw[n] at mu;exact mu
 have hb:∀b,H b=none->b≠e:=fun b n z=>by
  subst z
  rcases he with r|r
  .exact hx b n r
  .rw[n] at r;cases r
 have hm:∀b u,H b=some u->¬Mut (some u)->b≠x:=fun b u q nm z=>by subst z;rw[q] at mu;exact nm mu
 refine⟨fun b u q n _ _=>k b u (hb b n) q,fun b u q n _ _=>⟨u.slots,k b u (hb b n) q⟩,fun b u q n _=>by rw[aS (hx b n)];exact n,fun b u q _=>?_,
  fun b xs q=>by rw[aS (hm b _ q fun z=>z)];exact q,fun b u xs q=>by rw[aS (hm b _ q fun z=>z)];exact q,fun b ps q=>⟨#[],by rw[aS (hm b _ q fun z=>z),q];simp⟩⟩
 by_cases hbe:b=e
 .subst hbe;exact heo
 .exact⟨u,k b u hbe q⟩
end
def trk(h:Heap)(H:Hp):List Addr:=(List.range h.objs.size).filter fun a=>(H a).isSome
def gf(h:Heap)(H:Hp):Heap:=PySem.W.hideAll h (trk h H)
theorem AG(h:Heap)(H:Hp):(gf h H).objs.size=h.objs.size:=PySem.W.hideAll_size _ _
theorem BH{h:Heap}{H:Hp}{b:Addr}{o:Obj}(e:h.get? b=some o)(n:H b=none):(gf h H).get? b=some o:=
 PySem.W.hideAll_get _ e fun hm=>by
  have q:(H b).isSome=true:=(List.mem_filter.mp hm).2;rw[n] at q;simp at q
theorem CQ{h:Heap}{H:Hp}{b:Addr}{o:Obj}(e:(gf h H).get? b=some o):h.get? b=some o/\H b=none:=by
 have e':h.get? b=some o:=PySem.W.of_hideAll (trk h H) e;refine⟨e',?_⟩
 cases q:H b with
 |none=>rfl
 |some x=>
  have hm:b∈trk h H:=List.mem_filter.mpr ⟨List.mem_range.mpr (Heap.lt_size e'),by simp[q]⟩;have z:(gf h H).get? b=none:=PySem.W.hideAll_none (trk h H) hm;rw[z] at e;cases e
def DY(g h:Heap)(L:Addr):List (Addr×Obj):=(List.range h.objs.size).filterMap fun a=>if a=L\/(g.get? a).isSome=true then none else (h.get? a).map fun o=>(a,o)
def rest(g h:Heap)(L d:Addr):List (Addr×Obj):=(DY g h L).filter fun p=>decide (p.1≠d)
structure Mod(K:Frag)(mg:Str->Option Value)(base:Heap):Prop where
 kin:K.In base
 glob:base.Ns mainGlobals mg
 blt:∃mb,base.Ns builtinsNs mb/\∀x:Str,x≠"__name__"->mb x=bootBuiltins x
 nolimit:base.NoLimit
structure Cx where
 prog:Program
 w:World
 K:Frag
 mg:Str->Option Value
 base:Heap
 A:Around
 N:List Str
 s₀:Shared
 H₀:Hp
 env:Env
 outer:List Env
 stack:List Env
 ex:List Addr
 fn:Str->Bool
 calm:Bool
 pn:List (Addr×Obj)
 xe:Value->Shared->Prop
def frs(l:List Env):List Addr:=l.filterMap (·.frame)
abbrev Cx.fs(X:Cx):List Addr:=frs X.outer
def Vis(sc:Scope)(x:Str):Prop:=sc.names.lookup x=some .local\/sc.names.lookup x=some .cell\/sc.names.lookup x=some .free
def Loc(sc:Scope)(x:Str):Prop:=sc.names.lookup x=some .local\/sc.names.lookup x=some .cell
def Look(env:Env)(h:Heap)(m:Str->Option Value)(x:Str)(u:Value):Prop:=(env.kindOf x=some .local/\m x=some u)\/((env.kindOf x=some .cell\/env.kindOf x=some .free)/\∃c,env.cells.lookup x=some c/\h.IsCell c (some u))
structure Cx.Ok(X:Cx):Prop where
 mod:Mod X.K X.mg X.base
 kind:X.env.scope.kind=.function
 glob:X.env.globals=mainGlobals
 blt:X.env.builtins=builtinsNs
 above:X.s₀.heap.objs.size<=X.env.locals
 inj:∀x y c,X.env.cells.lookup x=some c->X.env.cells.lookup y=some c->x=y
 has:∀x,(X.env.kindOf x=some .cell\/X.env.kindOf x=some .free)->∃c,X.env.cells.lookup x=some c
 cab:∀x c,X.fn x=true->X.env.cells.lookup x=some c->X.s₀.heap.objs.size<=c
 hd:X.calm=true->X.A.handled=none
 frames:X.A.frames=some X.stack
 stk:X.stack=X.outer\/(X.stack=X.env::X.outer/\X.env.frame=some X.env.locals)
 exf:∀b∈X.ex,b≠X.env.locals/\∀x c,X.env.cells.lookup x=some c->c≠b
 bs:∀b o,X.base.get? b=some o->X.s₀.heap.get? b=some o/\X.H₀ b=none
 bsz:X.base.objs.size<=X.s₀.heap.objs.size
 noex:∀b o,X.base.get? b=some o->b∉X.ex
 exfs:∀b∈X.ex,b∉X.fs
 funs:X.s₀.heap.FunFrames X.base X.outer
 frf:∀b∈X.fs,X.H₀ b=none
structure Inv(X:Cx)(pins:List (Addr×Obj))(σ:List (Option V))(H:Hp)(s:Shared):Prop where
 ok:X.Ok
 os:s.os=X.s₀.os
 bare:AllBare s.gens
 base:Un X.fs X.ex X.H₀ H X.s₀.heap s.heap
 loc:∃m,s.heap.Ns X.env.locals m/\∀(i:Nat) (x:Str) (v:V),X.N[i]? = some x->σ[i]? = some (some v)->Vis X.env.scope x->∃u,RelV v u/\Look X.env s.heap m x u
 cell:∀x c,X.env.cells.lookup x=some c->∃v,s.heap.IsCell c v
 free:H X.env.locals=none
 freeC:∀x c,X.env.cells.lookup x=some c->H c=none
 pin:∀p∈X.pn++pins,s.heap.get? p.1=some p.2/\H p.1=none/\p.1≠X.env.locals/\p.1∉X.fs/\∀v,p.2.data≠.cell v
 hok:HOk X.prog X.w H s.heap
 len:σ.length=X.N.length
section
variable {X:Cx}{pins:List (Addr×Obj)}{σ:List (Option V)}{H H':Hp}{s:Shared}{h':Heap}
theorem Cx.Ok.nofr(ok:X.Ok){b:Addr}{o:Obj}(e:X.base.get? b=some o):b∉X.fs:=fun hb=>by
 have:=(ok.funs.mem hb).1;rw[e] at this;cases this
theorem Inv.bs(I:Inv X pins σ H s):∀b o,X.base.get? b=some o->s.heap.get? b=some o/\H b=none:=fun b o e=>
 ⟨I.base.keep b o (I.ok.bs b o e).1 (I.ok.bs b o e).2 (I.ok.nofr e) (I.ok.noex b o e),I.base.free b o (I.ok.bs b o e).1 (I.ok.bs b o e).2 (I.ok.noex b o e)⟩
theorem Inv.bk(I:Inv X pins σ H s):∀b o,X.base.get? b=some o->s.heap.get? b=some o:=fun b o e=>(I.bs b o e).1
theorem Inv.mod(I:Inv X pins σ H s):Mod X.K X.mg X.base:=I.ok.mod
theorem Inv.kIn(I:Inv X pins σ H s):X.K.In s.heap:=I.ok.mod.kin.keeps I.bk
theorem Inv.lt(I:Inv X pins σ H s):X.env.locals<s.heap.objs.size:=let ⟨_,hn,_⟩:=I.loc;hn.lt
theorem Inv.sz(I:Inv X pins σ H s):X.s₀.heap.objs.size<=s.heap.objs.size:=Nat.le_trans I.ok.above (Nat.le_of_lt I.lt)
theorem Inv.nofs(I:Inv X pins σ H s){a:Addr}(h:s.heap.objs.size<=a):a∉X.fs:=fun hb=>by
 obtain⟨_,o,ho,_⟩:=I.ok.funs.mem hb;exact absurd (Nat.lt_of_lt_of_le (Heap.lt_size ho) (Nat.le_trans I.sz h)) (Nat.lt_irrefl _)
theorem Inv.cne(I:Inv X pins σ H s):∀x c,X.env.cells.lookup x=some c->c≠X.env.locals:=fun x c e z=>by
 obtain⟨v,o,ho,hd⟩:=I.cell x c e;obtain⟨m,⟨o',es,ep,ho',hd',_⟩,_⟩:=I.loc;rw[z,ho'] at ho;cases ho;rw[hd'] at hd;cases hd
theorem Inv.funs(I:Inv X pins σ H s):s.heap.FunFrames X.base X.outer:=by
 have all:∀(l:List Env),(∀b∈frs l,b∈X.fs)->X.s₀.heap.FunFrames X.base l->s.heap.FunFrames X.base l:=by
  intro l
  induction l with
  |nil=>intro _ _;trivial
  |cons env r ih=>
   intro hs hl;obtain⟨hk,⟨L,o,hf,hn,ho,hd⟩,hr⟩:=hl;have hL:L∈X.fs:=hs L (by unfold frs;rw[List.filterMap_cons,hf];exact List.mem_cons_self);obtain⟨sl,e⟩:=I.base.slot L o ho (I.ok.frf L hL) hL fun z=>I.ok.exfs L z hL;exact⟨hk,⟨L,_,hf,hn,e,hd⟩,ih (fun b hb=>hs b (by unfold frs;rw[List.filterMap_cons,hf];exact List.mem_cons_of_mem _ hb)) hr⟩
 exact all X.outer (fun _ hb=>hb) I.ok.funs
theorem Inv.stack(I:Inv X pins σ H s):s.heap.FunFrames X.base X.stack:=by
 rcases I.ok.stk with e|⟨e,hf⟩
 .rw[e];exact I.funs
 .rw[e]
  obtain⟨m,hn,_⟩:=I.loc;refine .cons (by rw[I.ok.kind];decide) hf hn ?_ I.funs;exact Heap.get?_none_of_le (Nat.le_trans I.ok.bsz I.ok.above)
theorem Inv.stkSub(I:Inv X pins σ H s):∀b∈frs X.stack,b∈X.env.locals::X.fs:=fun b hb=>by
 rcases I.ok.stk with e|⟨e,hf⟩
 .rw[e] at hb;exact List.mem_cons_of_mem _ hb
 .rw[e] at hb
  unfold frs at hb;rw[List.filterMap_cons,hf] at hb;exact hb
theorem Inv.stkFree(I:Inv X pins σ H s):∀b∈frs X.stack,H b=none:=fun b hb=>by
 rcases List.mem_cons.mp (I.stkSub b hb) with e|hb
 .rw[e];exact I.free
 .obtain⟨_,o,ho,_⟩:=I.ok.funs.mem hb
  exact I.base.free b o ho (I.ok.frf b hb) fun z=>I.ok.exfs b z hb
theorem Inv.step{g':Array GenState}{t':Nat}{d':Drawn}{ch:List Addr}(I:Inv X pins σ H s)
  (hch:∀b∈ch,(b∈X.ex\/X.s₀.heap.objs.size<=b)/\b≠X.env.locals/\(∀x c,X.env.cells.lookup x=some c->c≠b)/\∀p∈X.pn++pins,p.1≠b)
  (keep:∀b o,b≠X.env.locals->b∉X.fs->b∉ch->s.heap.get? b=some o->H b=none->h'.get? b=some o)
  (slot:∀b o,b≠X.env.locals->b∈X.fs->b∉ch->s.heap.get? b=some o->H b=none->∃sl,h'.get? b=some { o with slots:=sl }) (free:∀b o,b∉ch->s.heap.get? b=some o->H b=none->H' b=none)
  (there:∀b o,b∉ch->s.heap.get? b=some o->∃o',h'.get? b=some o')
  (tups:∀b xs,H b=some (.tup xs)->H' b=some (.tup xs)) (frzs:∀b o u,H b=some (.frz o u)->H' b=some (.frz o u)) (tbls:∀b ps,H b=some (.tbl ps)->∃more,H' b=some (.tbl (ps++more)))
  (ns:∀m,s.heap.Ns X.env.locals m->h'.Ns X.env.locals m) (hok:HOk X.prog X.w H' h') (hg:AllBare g') :
  Inv X pins σ H' { s with heap:=h',gens:=g',drawn:=d',toks:=t' }:=by
 have neL:∀b o,X.s₀.heap.get? b=some o->b≠X.env.locals:=fun b o e=>Nat.ne_of_lt (Nat.lt_of_lt_of_le (Heap.lt_size e) I.ok.above)
 have neC:∀b o,X.s₀.heap.get? b=some o->b∉X.ex->b∉ch:=fun b o e hx hb=>by
  rcases(hch b hb).1 with z|z
  .exact hx z
  .exact absurd (Nat.lt_of_lt_of_le (Heap.lt_size e) z) (Nat.lt_irrefl _)
 have cellK:∀x c,X.env.cells.lookup x=some c->∀v,s.heap.IsCell c v->h'.IsCell c v:=fun x c e v ⟨o,ho,hd⟩=>by
  have nch:c∉ch:=fun z=>(hch c z).2.2.1 x c e rfl
  by_cases hc:c∈X.fs
  .obtain⟨sl,q⟩:=slot c o (I.cne x c e) hc nch ho (I.freeC x c e)
   exact⟨_,q,hd⟩
  .exact⟨o,keep c o (I.cne x c e) hc nch ho (I.freeC x c e),hd⟩
 refine⟨I.ok,I.os,hg,⟨fun b o e n hb hx=>?_,fun b o e n hb hx=>?_,fun b o e n hx=>?_,fun b o e hx=>?_,fun b xs e=>tups b xs (I.base.tups b xs e),fun b o xs e=>frzs b o xs (I.base.frzs b o xs e),fun b ps e=>?_⟩,?_,fun x c e=>?_,?_,fun x c e=>?_,fun p hp=>?_,hok,I.len⟩
 .exact keep b o (neL b o e) hb (neC b o e hx) (I.base.keep b o e n hb hx) (I.base.free b o e n hx)
 .obtain⟨sl,e1⟩:=I.base.slot b o e n hb hx
  obtain⟨sl',e2⟩:=slot b _ (neL b o e) hb (neC b o e hx) e1 (I.base.free b o e n hx);exact⟨sl',e2⟩
 .obtain⟨o',e1⟩:=I.base.there b o e hx
  exact free b o' (neC b o e hx) e1 (I.base.free b o e n hx)
 .obtain⟨o',e1⟩:=I.base.there b o e hx
  exact there b o' (neC b o e hx) e1
 .obtain⟨m1,e1⟩:=I.base.tbls b ps e
  obtain⟨m2,e2⟩:=tbls b _ e1;exact⟨m1++m2,by rw[e2,Array.append_assoc]⟩
 .obtain⟨m,hn,hl⟩:=I.loc
  refine⟨m,ns m hn,fun i x v e1 e2 e3=>?_⟩;obtain⟨u,r,l⟩:=hl i x v e1 e2 e3;refine⟨u,r,?_⟩
  rcases l with l|⟨k,c,e,z⟩
  .exact .inl l
  .exact .inr ⟨k,c,e,cellK x c e _ z⟩
 .obtain⟨v,z⟩:=I.cell x c e
  exact⟨v,cellK x c e v z⟩
 .obtain⟨m,⟨o,_,_,ho,_⟩,_⟩:=I.loc
  exact free _ o (fun z=>(hch _ z).2.1 rfl) ho I.free
 .obtain⟨v,o,ho,hd⟩:=I.cell x c e
  exact free c o (fun z=>(hch c z).2.2.1 x c e rfl) ho (I.freeC x c e)
 .obtain⟨e,n,ne,nf,d⟩:=I.pin p hp
  have nch:p.1∉ch:=fun z=>(hch p.1 z).2.2.2 p hp rfl;exact⟨keep p.1 p.2 ne nf nch e n,free p.1 p.2 nch e n,ne,nf,d⟩
theorem Inv.un{t':Nat}(I:Inv X pins σ H s)(u:Un X.fs [] H H' s.heap h')(hok:HOk X.prog X.w H' h'):Inv X pins σ H' { s with heap:=h',toks:=t' }:=by
 obtain⟨m,⟨o,es,ep,ho,r⟩,_⟩:=id I.loc;obtain⟨sl,hL⟩:=u.any ho I.free (by simp)
 exact I.step (g':=s.gens) (d':=s.drawn) (ch:=[]) (fun _ z=>nomatch z) (fun b o _ hb _ e n=>u.keep b o e n hb (by simp)) (fun b o _ hb _ e n=>u.slot b o e n hb (by simp)) (fun b o _ e n=>u.free b o e n (by simp)) (fun b o _ e=>u.there b o e (by simp)) u.tups u.frzs u.tbls (fun m' hm=>by
  obtain⟨o',es',ep',ho',r'⟩:=hm;rw[ho] at ho';cases ho'
  exact⟨_,es',ep',hL,r'⟩) hok I.bare
theorem Inv.call{g':Array GenState}{t':Nat}{d':Drawn}{ch:List Addr}(I:Inv X pins σ H s)(u:Un (frs X.stack) ch H H' s.heap h')(hok:HOk X.prog X.w H' h')(hg:AllBare g')
  (hch:∀b∈ch,(b∈X.ex\/X.s₀.heap.objs.size<=b)/\b≠X.env.locals/\(∀x c,X.env.cells.lookup x=some c->c≠b)/\∀p∈X.pn++pins,p.1≠b) :
  Inv X pins σ H' { s with heap:=h',gens:=g',drawn:=d',toks:=t' }:=by
 obtain⟨m,⟨o,es,ep,ho,r⟩,_⟩:=id I.loc;obtain⟨sl,hL⟩:=u.any ho I.free fun z=>(hch _ z).2.1 rfl
 exact I.step (ch:=ch) hch (fun b o hL hb hc e n=>u.keep b o e n (fun z=>(List.mem_cons.mp (I.stkSub b z)).elim hL hb) hc) (fun b o _ _ hc e n=>u.any e n hc) (fun b o hc e n=>u.free b o e n hc) (fun b o hc e=>u.there b o e hc) u.tups u.frzs u.tbls (fun m' hm=>by
  obtain⟨o',es',ep',ho',r'⟩:=hm;rw[ho] at ho';cases ho'
  exact⟨_,es',ep',hL,r'⟩) hok hg
theorem Inv.turned{t':Nat}{it:Addr}(I:Inv X pins σ H s)(k:∀b o,b≠it->s.heap.get? b=some o->h'.get? b=some o)(hn:H it=none)(hL:it≠X.env.locals)
  (h1:it∈X.ex\/X.s₀.heap.objs.size<=it) (h2:∀x c,X.env.cells.lookup x=some c->c≠it) (h3:∀p∈X.pn++pins,p.1≠it):Inv X pins σ H { s with heap:=h',toks:=t' }:=by
 have nit:∀b u,H b=some u->b≠it:=fun b u e z=>by rw[z,hn] at e;cases e
 refine I.step (g':=s.gens) (d':=s.drawn) (ch:=[it]) (fun b hb=>?_) (fun b o _ _ hc e _=>k b o (fun z=>hc (by simp[z])) e) (fun b o _ _ hc e _=>⟨o.slots,k b o (fun z=>hc (by simp[z])) e⟩) (fun _ _ _ _ n=>n)
  (fun b o hc e=>⟨o,k b o (fun z=>hc (by simp[z])) e⟩) (fun _ _ e=>e) (fun _ _ _ e=>e) (fun b ps e=>⟨#[],by rw[e];simp⟩) (fun m hm=>?_) (fun b u e=>?_) I.bare
 .have e:b=it:=by simpa using hb
  subst e;exact⟨h1,hL,h2,h3⟩
 .obtain⟨o,es,ep,ho,r⟩:=hm
  exact⟨o,es,ep,k _ o (Ne.symm hL) ho,r⟩
 .refine(I.hok b u e).stay (fun c v hc q=>k c v ?_ q) (fun _ q=>q) fun _ _ q=>q
  rcases hc with z|z
  .rw[z];exact nit b u e
  .exact nit c _ z
theorem Inv.tok(I:Inv X pins σ H s)(t:Nat):Inv X pins σ H { s with toks:=t }:=I.un (h':=s.heap) (t':=t) Un.refl I.hok
theorem Inv.kept{t':Nat}(I:Inv X pins σ H s)(k:∀b u,s.heap.get? b=some u->h'.get? b=some u):Inv X pins σ H { s with heap:=h',toks:=t' }:=I.un (Un.kept k) (I.hok.kept k)
theorem Inv.laid{a:Addr}{o:HO}{t':Nat}(I:Inv X pins σ H s)(k:∀b u,s.heap.get? b=some u->h'.get? b=some u)(hp:s.heap.objs.size<=a)(new:ObjOk X.prog X.w (upd H a o) h' a o) :
  Inv X pins σ (upd H a o) { s with heap:=h',toks:=t' }:=I.un (Un.laid k hp (I.hok.fresh hp)) (I.hok.laid k hp new)
theorem Inv.write{x e:Addr}{o:HO}{t':Nat}(I:Inv X pins σ H s)(mu:Mut (H x))(he:e=x\/H e=some (.own x))(k:∀b u,b≠e->s.heap.get? b=some u->h'.get? b=some u)(heo:∃u,h'.get? e=some u)
  (new:ObjOk X.prog X.w (upd H x o) h' x o):Inv X pins σ (upd H x o) { s with heap:=h',toks:=t' }:=I.un (Un.write mu he k heo) (I.hok.write mu he k heo new)
theorem Inv.pins_of{pins':List (Addr×Obj)}(I:Inv X pins σ H s)(h:∀p∈pins',s.heap.get? p.1=some p.2/\H p.1=none/\p.1≠X.env.locals/\p.1∉X.fs/\∀v,p.2.data≠.cell v):Inv X pins' σ H s:=⟨I.ok,I.os,I.bare,I.base,I.loc,I.cell,I.free,I.freeC,fun p hp=>(List.mem_append.mp hp).elim (fun z=>I.pin p (List.mem_append_left _ z)) (h p),I.hok,I.len⟩
theorem tX{N:List Str}(hN:N.Nodup){i j:Nat}{x:Str}(a:N[i]? = some x)(b:N[j]? = some x):i=j:=by
 obtain⟨h1,e1⟩:=List.getElem?_eq_some_iff.mp a;obtain⟨h2,e2⟩:=List.getElem?_eq_some_iff.mp b;exact(List.getElem_inj hN).mp (e1.trans e2.symm)
theorem sJ{M:Model}{A:Around}{E:Value->Shared->Prop}{i:Nat}{x:Str}{v:V}{u:Value}{Q:Unit->Shared->Prop}(I:Inv X pins σ H s)(hN:X.N.Nodup)(hi:X.N[i]? = some x)(hx:Loc X.env.scope x)(r:RelV v u)
  (h:∀s',Inv X pins (σ.set i (some v)) H s'->(∃a,Heap.SameBut a s.heap s'.heap/\(a=X.env.locals\/X.env.cells.lookup x=some a))->Q () s') (hf:X.fn x=true\/X.env.scope.names.lookup x=some .local:=by first|exact .inl rfl|exact .inr rfl|assumption):wpAny M A (storeName X.env x u) Q E s:=by
 obtain⟨m,hn,hl⟩:=id I.loc
 have hcls:(X.env.scope.kind == .class||(X.env.scope.kind == .module&&X.env.locals != X.env.globals))=false:=by rw[I.ok.kind];rfl
 have hiσ:i<σ.length:=by rw[I.len];exact(List.getElem?_eq_some_iff.mp hi).1
 have cne:=I.cne
 have tracked:∀{a:Addr}{h':Heap},(∃o,s.heap.get? a=some o/\H a=none)->Heap.SameBut a s.heap h'->HOk X.prog X.w H h':=fun {a h'} ha hs b ob e=>by
  obtain⟨_,_,hfree⟩:=ha;refine(I.hok b ob e).stay (fun c w' hc q=>(hs.2 c ?_).trans q) (fun _ q=>q) fun _ _ q=>q;rintro rfl
  rcases hc with rfl|hc
  .rw[hfree] at e;cases e
  .rw[hfree] at hc;cases hc
 rcases hx with hk|hk
 .refine wpAny_storeName_local hk hn (fun h' hn' hs=>?_) hcls
  obtain⟨oL,_,_,hoL,_⟩:=id hn;refine h _ ⟨I.ok,I.os,I.bare,⟨fun b o e n hb hx=>?_,fun b o e n hb hx=>?_,I.base.free,fun b o e hx=>?_,I.base.tups,I.base.frzs,I.base.tbls⟩,⟨_,hn',fun j y v' e1 e2 e3=>?_⟩,fun y c e=>?_,I.free,I.freeC,fun p hp=>?_,tracked ⟨oL,hoL,I.free⟩ hs,by simpa using I.len⟩ ⟨_,hs,.inl rfl⟩
  .exact(hs.2 b (Nat.ne_of_lt (Nat.lt_of_lt_of_le (Heap.lt_size e) I.ok.above))).trans (I.base.keep b o e n hb hx)
  .obtain⟨sl,e1⟩:=I.base.slot b o e n hb hx
   exact⟨sl,(hs.2 b (Nat.ne_of_lt (Nat.lt_of_lt_of_le (Heap.lt_size e) I.ok.above))).trans e1⟩
  .obtain⟨o',e1⟩:=I.base.there b o e hx
   exact⟨o',(hs.2 b (Nat.ne_of_lt (Nat.lt_of_lt_of_le (Heap.lt_size e) I.ok.above))).trans e1⟩
  .by_cases hj:j=i
   .subst hj
    rw[hi] at e1;cases e1;rw[List.getElem?_set_self hiσ] at e2;cases e2;exact⟨u,r,.inl ⟨hk,by simp⟩⟩
   .rw[List.getElem?_set_ne (Ne.symm hj)] at e2
    obtain⟨u',r',q⟩:=hl j y v' e1 e2 e3;refine⟨u',r',?_⟩
    rcases q with⟨k,e⟩|⟨k,c,e,z⟩
    .refine .inl ⟨k,?_⟩
     have:y≠x:=fun e=>hj (tX hN e1 (e ▸ hi));simp[this,e]
    .exact .inr ⟨k,c,e,z.sameBut hs (cne y c e)⟩
  .obtain⟨w',z⟩:=I.cell y c e
   exact⟨w',z.sameBut hs (cne y c e)⟩
  .obtain⟨e,n,ne,nf,d⟩:=I.pin p hp
   exact⟨(hs.2 p.1 ne).trans e,n,ne,nf,d⟩
 .have hfn:X.fn x=true:=by
   rcases hf with z|z
   .exact z
   .rw[z] at hk;cases hk
  obtain⟨c,hc⟩:=I.ok.has x (.inl hk);obtain⟨w',z⟩:=I.cell x c hc;refine wpAny_storeName_cell I.ok.kind hk hc z (fun h' hc' hs=>?_);obtain⟨oc,hoc,hocd⟩:=id z;refine h { s with heap:=h' } ⟨I.ok,I.os,I.bare,⟨fun b o e n hb hx=>?_,fun b o e n hb hx=>?_,I.base.free,fun b o e hx=>?_,I.base.tups,I.base.frzs,I.base.tbls⟩,⟨m,hn.sameBut hs (Ne.symm (cne x c hc)),fun j y v' e1 e2 e3=>?_⟩,fun y c' e=>?_,I.free,I.freeC,fun p hp=>?_,tracked ⟨oc,hoc,I.freeC x c hc⟩ hs,by simpa using I.len⟩ ⟨c,hs,.inr hc⟩
  .exact(hs.2 b (Nat.ne_of_lt (Nat.lt_of_lt_of_le (Heap.lt_size e) (I.ok.cab x c hfn hc)))).trans (I.base.keep b o e n hb hx)
  .obtain⟨sl,e1⟩:=I.base.slot b o e n hb hx
   exact⟨sl,(hs.2 b (Nat.ne_of_lt (Nat.lt_of_lt_of_le (Heap.lt_size e) (I.ok.cab x c hfn hc)))).trans e1⟩
  .obtain⟨o',e1⟩:=I.base.there b o e hx
   exact⟨o',(hs.2 b (Nat.ne_of_lt (Nat.lt_of_lt_of_le (Heap.lt_size e) (I.ok.cab x c hfn hc)))).trans e1⟩
  .by_cases hj:j=i
   .subst hj
    rw[hi] at e1;cases e1;rw[List.getElem?_set_self hiσ] at e2;cases e2;exact⟨u,r,.inr ⟨.inl hk,c,hc,hc'⟩⟩
   .rw[List.getElem?_set_ne (Ne.symm hj)] at e2
    obtain⟨u',r',q⟩:=hl j y v' e1 e2 e3;refine⟨u',r',?_⟩
    rcases q with q|⟨k,c',e,z'⟩
    .exact .inl q
    .refine .inr ⟨k,c',e,z'.sameBut hs ?_⟩
     rintro rfl;exact hj (tX hN e1 (I.ok.inj _ _ _ e hc ▸ hi))
  .by_cases hcc:c'=c
   .subst hcc;exact⟨_,hc'⟩
   .obtain⟨w2,z2⟩:=I.cell y c' e
    exact⟨w2,z2.sameBut hs hcc⟩
  .obtain⟨e,n,ne,nf,d⟩:=I.pin p hp
   refine⟨(hs.2 p.1 ?_).trans e,n,ne,nf,d⟩;intro q;rw[q,hoc] at e;have q':oc=p.2:=Option.some.inj e;exact d w' (by rw[←q'];exact hocd)
theorem oK{M:Model}{A:Around}{E:Value->Shared->Prop}{i:Nat}{x:Str}{v:V}{u:Value}{Q:Unit->Shared->Prop}(I:Inv X pins σ H s)(hN:X.N.Nodup)(hi:X.N[i]? = some x)(hx:Loc X.env.scope x)(r:RelV v u)
  (h:∀s',Inv X pins (σ.set i (some v)) H s'->Q () s') (hf:X.fn x=true\/X.env.scope.names.lookup x=some .local:=by first|exact .inl rfl|exact .inr rfl|assumption):wpAny M A (storeName X.env x u) Q E s:=sJ I hN hi hx r (fun s' I' _=>h s' I') hf
theorem Inv.call'{s':Shared}{ch:List Addr}(I:Inv X pins σ H s)(ho:s'.os=s.os)(u:Un (frs X.stack) ch H H' s.heap s'.heap)(hok:HOk X.prog X.w H' s'.heap)(hg:AllBare s'.gens)
  (hch:∀b∈ch,(b∈X.ex\/X.s₀.heap.objs.size<=b)/\b≠X.env.locals/\(∀x c,X.env.cells.lookup x=some c->c≠b)/\∀p∈X.pn++pins,p.1≠b):Inv X pins σ H' s':=by
 obtain⟨h',g',d',t',o'⟩:=s';have e:o'=s.os:=ho;subst e;exact I.call (g':=g') (t':=t') (d':=d') u hok hg hch
end
abbrev XK:=Value->Option Addr->Hp->Prop
abbrev St:=List (Option V)
abbrev VK:=V->Hp->Prop
abbrev TE:=St->Hp->VK->Prop
abbrev TT:=St->Hp->(Bool->Hp->Prop)->Prop
abbrev TA:=St->Hp->(List V->Hp->Prop)->Prop
structure Ends where
 nx:St->Hp->Prop
 rt:VK
 bk:St->Hp->Prop:=fun _ _=>False
 ct:St->Hp->Prop:=fun _ _=>False
abbrev TS:=Ends->St->Hp->Prop
def EP(X:Cx)(pins:List (Addr×Obj))(σ:St)(Q:VK)(u:Value)(s':Shared):Prop:=∃v H',Inv X pins σ H' s'/\RelV v u/\Q v H'
def TP(X:Cx)(pins:List (Addr×Obj))(σ:St)(Q:Bool->Hp->Prop)(b:Bool)(s':Shared):Prop:=∃H',Inv X pins σ H' s'/\Q b H'
def AP(X:Cx)(pins:List (Addr×Obj))(σ:St)(Q:List V->Hp->Prop)(us:List Value)(s':Shared):Prop:=∃vs H',Inv X pins σ H' s'/\Vals vs us/\Q vs H'
def SP(X:Cx)(pins:List (Addr×Obj))(D:Ends)(f:Flow)(s':Shared):Prop:=
 match f with
 |.next=>∃σ' H',Inv X pins σ' H' s'/\D.nx σ' H'
 |.brk=>∃σ' H',Inv X pins σ' H' s'/\D.bk σ' H'
 |.cont=>∃σ' H',Inv X pins σ' H' s'/\D.ct σ' H'
 |.ret u=>∃v σ' H',Inv X pins σ' H' s'/\RelV v u/\D.rt v H'
def PE(X:Cx)(e:Expr)(t:TE):Prop:=∀(pins:List (Addr×Obj)) (s:Shared) (σ:St) (H:Hp) (Q:VK),Inv X pins σ H s->t σ H Q->wpAny (model X.prog X.w) X.A (eval e X.env) (EP X pins σ Q) X.xe s
def PT(X:Cx)(e:Expr)(t:TT):Prop:=∀(pins:List (Addr×Obj)) (s:Shared) (σ:St) (H:Hp) (Q:Bool->Hp->Prop),Inv X pins σ H s->t σ H Q->wpAny (model X.prog X.w) X.A (isTrue e X.env (eval e X.env)) (TP X pins σ Q) X.xe s
def PW(X:Cx)(e:Expr)(t:TT):Prop:=∀(whole:Sem Value) (pins:List (Addr×Obj)) (s:Shared) (σ:St) (H:Hp) (Q:Bool->Hp->Prop),Inv X pins σ H s->t σ H Q->wpAny (model X.prog X.w) X.A (isTrue e X.env whole) (TP X pins σ Q) X.xe s
theorem PW.pt{X:Cx}{e:Expr}{t:TT}(h:PW X e t):PT X e t:=h _
def PA(X:Cx)(es:List Expr)(t:TA):Prop:=∀(pos:Pos) (pins:List (Addr×Obj)) (s:Shared) (σ:St) (H:Hp) (Q:List V->Hp->Prop),Inv X pins σ H s->t σ H Q->wpAny (model X.prog X.w) X.A (spliced (backTo pos (starEach es X.env))) (AP X pins σ Q) X.xe s
def PS(X:Cx)(st:Stmt)(t:TS):Prop:=∀(pins:List (Addr×Obj)) (s:Shared) (σ:St) (H:Hp) (D:Ends),Inv X pins σ H s->t D σ H->wpAny (model X.prog X.w) X.A (exec st X.env) (SP X pins D) X.xe s
def PSs(X:Cx)(st:List Stmt)(t:TS):Prop:=∀(pins:List (Addr×Obj)) (s:Shared) (σ:St) (H:Hp) (D:Ends),Inv X pins σ H s->t D σ H->wpAny (model X.prog X.w) X.A (execs st X.env) (SP X pins D) X.xe s
theorem thn{α:Type}{t:Sem α}{Q Q':α->Shared->Prop}{M:Model}{A:Around}{E:Value->Shared->Prop}{s:Shared}(h:wpAny M A t Q E s)(hQ:∀a s,Q a s->Q' a s):wpAny M A t Q' E s:=wpAny_mono h hQ fun _ _ x=>x
section
variable {X:Cx}
def xZ(i:Nat):TE:=fun σ H Q=>∃v,σ[i]? = some (some v)/\Q v H
def tC(v:V):TE:=fun _ H Q=>Q v H
theorem EF{i:Nat}{x:Str}{pos:Pos}(hN:X.N[i]? = some x)(hv:Vis X.env.scope x)(hd:(x == ("__debug__" : Str))=false:=by decide)(hcd:(x == ("__classdict__" : Str))=false:=by decide):PE X (.Name x pos) (xZ i):=by
 intro pins s σ H Q I h;obtain⟨v,e,h⟩:=h;obtain⟨m,hn,hl⟩:=I.loc;obtain⟨u,r,l⟩:=hl i x v hN e hv;have fin:EP X pins σ Q u s:=⟨v,H,I,r,h⟩
 rcases l with⟨hk,hm⟩|⟨hk,c,hc,hcell⟩
 .exact wpAny_Name (wpAny_loadName_local I.ok.kind hk hn hm fin) hd
 .rcases hk with hk|hk
  .exact wpAny_Name (wpAny_loadName_cell I.ok.kind hk hc hcell fin) hd
  .exact wpAny_Name (wpAny_loadName_free I.ok.kind hk hc hcell fin hcd) hd
theorem EL{i j pos}:PE X (.Constant (.int i) j pos) (tC (.int i)):=fun _ _ _ H _ I h=>wpAny_Constant_int ⟨.int i,H,I.tok _,⟨_,rfl⟩,h⟩
theorem Gs{b j pos}:PE X (.Constant (.bool b) j pos) (tC (.bl b)):=fun _ _ _ H _ I h=>Constant_bool ⟨.bl b,H,I,rfl,h⟩
theorem EK{j pos}:PE X (.Constant .none j pos) (tC .non):=fun _ _ _ H _ I h=>Constant_none ⟨.non,H,I,rfl,h⟩
theorem EH{x j pos}:PE X (.Constant (.str x) j pos) (tC (.str x)):=fun _ _ _ H _ I h=>Calls.Constant_str ⟨.str x,H,I.tok _,⟨_,rfl⟩,h⟩
def Gl(X:Cx)(x:Str):Prop:=X.env.kindOf x=some .globalImplicit
theorem uW{E:Value->Shared->Prop}{pins:List (Addr×Obj)}{s:Shared}{σ:St}{H:Hp}{x:Str}{u:Value}{pos:Pos}{Q:Value->Shared->Prop}(I:Inv X pins σ H s)(hg:Gl X x)(hm:X.mg x=some u)(h:Q u s)
  (hd:(x == ("__debug__" : Str))=false:=by decide):wpAny (model X.prog X.w) X.A (eval (.Name x pos) X.env) Q E s:=Calls.Name_function_global I.ok.kind hg (Calls.loadGlobal_global (by rw[I.ok.glob];exact I.mod.glob.keeps I.bk) hm h) hd
theorem ja{E:Value->Shared->Prop}{pins:List (Addr×Obj)}{s:Shared}{σ:St}{H:Hp}{x:Str}{u:Value}{pos:Pos}{Q:Value->Shared->Prop}(I:Inv X pins σ H s)(hg:Gl X x)(hm:X.mg x=none)(hv:bootBuiltins x=some u)(h:Q u s)
  (hn:x≠"__name__":=by decide) (hd:(x == ("__debug__" : Str))=false:=by decide):wpAny (model X.prog X.w) X.A (eval (.Name x pos) X.env) Q E s:=by
 obtain⟨mb,h1,h2⟩:=I.mod.blt;exact Calls.Name_function_global I.ok.kind hg (Calls.loadGlobal_builtin (by rw[I.ok.glob];exact I.mod.glob.keeps I.bk) hm (by rw[I.ok.blt];exact h1.keeps I.bk) ((h2 x hn).trans hv) h) hd
theorem pG{x:Str}{v:V}{u:Value}{pos:Pos}(hg:Gl X x)(hm:X.mg x=some u)(r:RelV v u)(hd:(x == ("__debug__" : Str))=false:=by decide):PE X (.Name x pos) (tC v):=fun _ _ _ H _ I h=>uW I hg hm ⟨v,H,I,r,h⟩ hd
theorem CM{x:Str}{v:V}{u:Value}{pos:Pos}(hg:Gl X x)(hm:X.mg x=none)(hv:bootBuiltins x=some u)(r:RelV v u)(hn:x≠"__name__":=by decide)(hd:(x == ("__debug__" : Str))=false:=by decide):PE X (.Name x pos) (tC v):=fun _ _ _ H _ I h=>ja I hg hm hv ⟨v,H,I,r,h⟩ hn hd
variable {a b:Expr}{ta tb:TE}{pos:Pos}
variable {tA tB':TT}{rest:List Expr}
def Hy(t u:TT):TT:=fun σ H Q=>t σ H fun c H1=>if c=true then u σ H1 Q else Q false H1
def tOr(t u:TT):TT:=fun σ H Q=>t σ H fun c H1=>if c=true then Q true H1 else u σ H1 Q
def Ht(t:TT):TT:=fun σ H Q=>t σ H fun c H1=>Q (!c) H1
theorem Cu(ha:PT X a tA):PW X (.BoolOp .And [a] pos) tA:=by
 intro wh pins s σ H Q I h;refine isTrue_and (thn (ha pins s σ H Q I h) fun c s1 e=>?_)
 cases c with
 |true=>exact isTrue_and_nil e
 |false=>exact e
theorem Ez(ha:PT X a tA):PW X (.BoolOp .Or [a] pos) tA:=by
 intro wh pins s σ H Q I h;refine isTrue_or (thn (ha pins s σ H Q I h) fun c s1 e=>?_)
 cases c with
 |false=>exact isTrue_or_nil e
 |true=>exact e
theorem EA(ha:PT X a tA)(hb:PW X (.BoolOp .And (b::rest) pos) tB'):PW X (.BoolOp .And (a::b::rest) pos) (Hy tA tB'):=by
 intro wh pins s σ H Q I h;refine isTrue_and (thn (ha pins s σ H _ I h) fun c s1 ⟨H1,I1,q1⟩=>?_)
 cases c with
 |true=>exact hb wh pins s1 σ H1 Q I1 q1
 |false=>exact⟨H1,I1,q1⟩
theorem Gi(ha:PT X a tA)(hb:PW X (.BoolOp .Or (b::rest) pos) tB'):PW X (.BoolOp .Or (a::b::rest) pos) (tOr tA tB'):=by
 intro wh pins s σ H Q I h;refine isTrue_or (thn (ha pins s σ H _ I h) fun c s1 ⟨H1,I1,q1⟩=>?_)
 cases c with
 |true=>exact⟨H1,I1,q1⟩
 |false=>exact hb wh pins s1 σ H1 Q I1 q1
theorem EB(ha:PT X a tA):PT X (.UnaryOp .Not a pos) (Ht tA):=by
 intro pins s σ H Q I h;exact isTrue_not (ha pins s σ H (fun c H1=>Q (!c) H1) I h)
def Ga(ta tb:TE):TE:=fun σ H Q=>ta σ H fun x H1=>∃c,x=.bl c/\if c=true then tb σ H1 Q else Q (.bl false) H1
def Hs(ta tb:TE):TE:=fun σ H Q=>ta σ H fun x H1=>∃c,x=.bl c/\if c=true then Q (.bl true) H1 else tb σ H1 Q
def F6(ta:TE):TE:=fun σ H Q=>ta σ H fun x H1=>∃c,x=.bl c/\Q (.bl (!c)) H1
theorem EI{op}{t:TE}(h:PE X a t):PE X (.BoolOp op [a] pos) t:=fun pins s σ H Q I hw=>BoolOp_one (h pins s σ H Q I hw)
theorem EM(ha:PE X a ta)(hb:PE X (.BoolOp .And (b::rest) pos) tb):PE X (.BoolOp .And (a::b::rest) pos) (Ga ta tb):=by
 intro pins s σ H Q I h;refine BoolOp_and (thn (ha pins s σ H _ I h) fun v s1 ⟨x,H1,I1,r1,q1⟩=>?_);obtain⟨c,rfl,q1⟩:=q1;cases r1;refine wpAny_truthy_bool ?_
 cases c with
 |true=>exact hb pins s1 σ H1 Q I1 q1
 |false=>exact⟨.bl false,H1,I1,rfl,q1⟩
theorem Gn(ha:PE X a ta)(hb:PE X (.BoolOp .Or (b::rest) pos) tb):PE X (.BoolOp .Or (a::b::rest) pos) (Hs ta tb):=by
 intro pins s σ H Q I h;refine BoolOp_or (thn (ha pins s σ H _ I h) fun v s1 ⟨x,H1,I1,r1,q1⟩=>?_);obtain⟨c,rfl,q1⟩:=q1;cases r1;refine wpAny_truthy_bool ?_
 cases c with
 |false=>exact hb pins s1 σ H1 Q I1 q1
 |true=>exact⟨.bl true,H1,I1,rfl,q1⟩
theorem EJ(ha:PE X a ta):PE X (.UnaryOp .Not a pos) (F6 ta):=by
 intro pins s σ H Q I h;refine UnaryOp_ (thn (ha pins s σ H _ I h) fun v s1 ⟨x,H1,I1,r1,q1⟩=>?_);obtain⟨c,rfl,q1⟩:=q1;cases r1;exact not_of (wpAny_truthy_bool ⟨.bl (!c),H1,I1,rfl,q1⟩)
def tIf(t:TT)(ta tb:TE):TE:=fun σ H Q=>t σ H fun c H1=>if c=true then ta σ H1 Q else tb σ H1 Q
theorem Bn{c:Expr}(hc:PT X c tA)(ha:PE X a ta)(hb:PE X b tb):PE X (.IfExp c a b pos) (tIf tA ta tb):=by
 intro pins s σ H Q I h;refine wpAny_IfExp (thn (hc pins s σ H _ I h) fun d s1 ⟨H1,I1,q1⟩=>?_)
 cases d with
 |true=>exact ha pins s1 σ H1 Q I1 q1
 |false=>exact hb pins s1 σ H1 Q I1 q1
end
def SqL(K:Frag)(H:Hp)(a:Addr)(xs:List V):Prop:=
 Rd H a (.lst xs) \/
  ∃(o:Obj) (its:Array Value) (n:Nat),K.lookup a=some o/\o.cls=.type "list"/\o.dict=none/\o.data=.seq its n/\its.size<=sizeLine/\Vals xs its.toList
def SqT(K:Frag)(H:Hp)(a:Addr)(xs:List V):Prop:=
 Rd H a (.tup xs) \/
  ∃(o:Obj) (its:Array Value) (n:Nat),K.lookup a=some o/\o.cls=.type "tuple"/\o.data=.seq its n/\its.size<=sizeLine/\Vals xs its.toList
def HP:Value->Option V
 |.none=>some .non
 |.bool b=>some (.bl b)
 |.int i _=>some (.int i)
 |.str x _=>some (.str x)
 |.bytes b _=>some (.byt b)
 |.float b _=>some (.flt b)
 |.ref a=>some (.ref a)
 |.type n=>some (.ty n)
 |_=>none
theorem RelV.abs{x:V}{u:Value}(r:RelV x u):HP u=some x:=by
 cases x with
 |non=>cases r;rfl
 |bl _=>cases r;rfl
 |int _=>obtain⟨t,rfl⟩:=r;rfl
 |str _=>obtain⟨t,rfl⟩:=r;rfl
 |byt _=>obtain⟨t,rfl⟩:=r;rfl
 |flt _=>obtain⟨t,rfl⟩:=r;rfl
 |ref _=>cases r;rfl
 |ty _=>cases r;rfl
theorem RelV.inj{x y:V}{u:Value}(r:RelV x u)(q:RelV y u):x=y:=Option.some.inj (r.abs.symm.trans q.abs)
theorem Vals.inj:∀{xs ys:List V}{us:List Value},Vals xs us->Vals ys us->xs=ys
 |_,_,_,.nil,.nil=>rfl
 |_,_,_,.cons r t,.cons r' t'=>by rw[r.inj r',Vals.inj t t']
section
variable {X:Cx}{pins:List (Addr×Obj)}{σ:St}{H:Hp}{s:Shared}{a:Addr}{xs ys:List V}
theorem SqL.of{K:Frag}(h:H a=some (.lst xs)):SqL K H a xs:=.inl (.inl h)
theorem SqT.of{K:Frag}(h:H a=some (.tup xs)):SqT K H a xs:=.inl (.inl h)
theorem Inv.list(I:Inv X pins σ H s)(h:SqL X.K H a xs):∃its:List Value,Vals xs its/\PlainL s.heap a its.toArray/\xs.length<=sizeLine:=by
 rcases h with h|⟨o,its,n,hk,hc,hd,hs,hz,r⟩
 .obtain⟨z,its,n,r,e⟩:=h.ok I.hok
  exact⟨its,r,⟨_,n,e,rfl,rfl,rfl⟩,z⟩
 .refine⟨its.toList,r,⟨o,n,I.kIn a o hk,hc,hd,by simpa using hs⟩,?_⟩
  have e:=r.length;simp only[Array.length_toList] at e;omega
theorem Inv.tuple(I:Inv X pins σ H s)(h:SqT X.K H a xs):∃its:List Value,Vals xs its/\IsTup s.heap a its.toArray/\xs.length<=sizeLine:=by
 rcases h with h|⟨o,its,n,hk,hc,hs,hz,r⟩
 .obtain⟨z,its,r,p⟩:=h.ok I.hok
  exact⟨its,r,p,z⟩
 .refine⟨its.toList,r,⟨o,I.kIn a o hk,hc,n,by simpa using hs⟩,?_⟩
  have e:=r.length;simp only[Array.length_toList] at e;omega
theorem Inv.list_inj(I:Inv X pins σ H s)(h:SqL X.K H a xs)(h':SqL X.K H a ys):xs=ys:=by
 obtain⟨its,r,⟨o,n,e,_,_,d⟩,_⟩:=I.list h;obtain⟨its',r',⟨o',n',e',_,_,d'⟩,_⟩:=I.list h';rw[e] at e';cases e';rw[d] at d'
 injection d' with d1 _
 have:its=its':=by simpa using congrArg Array.toList d1
 subst this;exact r.inj r'
theorem Inv.tuple_inj(I:Inv X pins σ H s)(h:SqT X.K H a xs)(h':SqT X.K H a ys):xs=ys:=by
 obtain⟨its,r,⟨o,e,_,n,d⟩,_⟩:=I.tuple h;obtain⟨its',r',⟨o',e',_,n',d'⟩,_⟩:=I.tuple h';rw[e] at e';cases e';rw[d] at d'
 injection d' with d1 _
 have:its=its':=by simpa using congrArg Array.toList d1
 subst this;exact r.inj r'
end
abbrev Cx.wish(X:Cx)(E:Value->Shared->Prop):Cx:={ X with xe:=E }
abbrev Cx.nox(X:Cx):Cx:=X.wish fun _ _=>False
theorem Cx.Ok.wish{X:Cx}(ok:X.Ok)(E:Value->Shared->Prop):(X.wish E).Ok:=⟨ok.mod,ok.kind,ok.glob,ok.blt,ok.above,ok.inj,ok.has,ok.cab,ok.hd,ok.frames,ok.stk,ok.exf,ok.bs,ok.bsz,ok.noex,ok.exfs,ok.funs,ok.frf⟩
theorem Cx.Ok.unwish{X:Cx}{E:Value->Shared->Prop}(ok:(X.wish E).Ok):X.Ok:=⟨ok.mod,ok.kind,ok.glob,ok.blt,ok.above,ok.inj,ok.has,ok.cab,ok.hd,ok.frames,ok.stk,ok.exf,ok.bs,ok.bsz,ok.noex,ok.exfs,ok.funs,ok.frf⟩
section
variable {X:Cx}{pins:List (Addr×Obj)}{σ:St}{H:Hp}{s:Shared}{E:Value->Shared->Prop}
theorem Inv.wish(I:Inv X pins σ H s)(E:Value->Shared->Prop):Inv (X.wish E) pins σ H s:=⟨I.ok.wish E,I.os,I.bare,I.base,I.loc,I.cell,I.free,I.freeC,I.pin,I.hok,I.len⟩
theorem Inv.unwish(I:Inv (X.wish E) pins σ H s):Inv X pins σ H s:=⟨I.ok.unwish,I.os,I.bare,I.base,I.loc,I.cell,I.free,I.freeC,I.pin,I.hok,I.len⟩
theorem SP.unwish{D:Ends}{f:Flow}{s':Shared}(h:SP (X.wish E) pins D f s'):SP X pins D f s':=by
 cases f with
 |next=>obtain⟨σ',H',I,q⟩:=h;exact⟨σ',H',I.unwish,q⟩
 |brk=>obtain⟨σ',H',I,q⟩:=h;exact⟨σ',H',I.unwish,q⟩
 |cont=>obtain⟨σ',H',I,q⟩:=h;exact⟨σ',H',I.unwish,q⟩
 |ret u=>obtain⟨v,σ',H',I,r,q⟩:=h;exact⟨v,σ',H',I.unwish,r,q⟩
theorem PSs.nox{st:List Stmt}{t:TS}(h:PSs X.nox st t):PSs X st t:=fun pins s σ H D I hw=>
 wpAny_mono (h pins s σ H D (I.wish _) hw) (fun _ _ q=>q.unwish) fun _ _ z=>False.elim z
end
section
variable {X:Cx}{st:Stmt}{rest:List Stmt}{t u:TS}{e:Expr}{te:TE}{pos:Pos}
def F7:TS:=fun D σ H=>D.nx σ H
def Ho(t u:TS):TS:=fun D σ H=>t { D with nx:=u D } σ H
theorem CC:PSs X [] F7:=fun _ _ σ H _ I h=>wpAny_execs_nil ⟨σ,H,I,h⟩
theorem tS(h1:PS X st t)(h2:PSs X rest u):PSs X (st::rest) (Ho t u):=by
 intro pins s σ H D I h;refine wpAny_execs_cons (thn (h1 pins s σ H { D with nx:=u D } I h) fun f s1 q=>?_)
 cases f with
 |next=>
  obtain⟨σ',H',I',q⟩:=q;exact h2 pins s1 σ' H' D I' q
 |ret v=>exact q
 |brk=>exact q
 |cont=>exact q
theorem CB(h1:PS X st t):PSs X [st] t:=by
 intro pins s σ H D I h;refine wpAny_execs_cons (thn (h1 pins s σ H D I h) fun f s1 q=>?_)
 cases f with
 |next=>exact wpAny_execs_nil q
 |ret v=>exact q
 |brk=>exact q
 |cont=>exact q
theorem Inv.quiet{pins:List (Addr×Obj)}{σ:St}{H:Hp}{s:Shared}(I:Inv X pins σ H s):interactive X.env=false:=by simp[interactive,I.ok.kind]
def F9(te:TE):TS:=fun D σ H=>te σ H fun _ H1=>D.nx σ H1
theorem pF(he:PE X e te)(hs:swapsWith e none pos.line X.env=pure false:=by rfl):PS X (.Expr e pos) (F9 te):=by
 intro pins s σ H D I h;exact wpAny_Expr_any (thn (he pins s σ H _ I h) fun v s1 ⟨x,H1,I1,r1,q1⟩=>⟨σ,H1,I1,q1⟩) I.quiet hs
def Hr(te:TE):TS:=fun D σ H=>te σ H D.rt
theorem vR(he:PE X e te):PS X (.Return (some e) pos) (Hr te):=by
 intro pins s σ H D I h;exact wpAny_Return_some (thn (he pins s σ H _ I h) fun v s1 ⟨x,H1,I1,r1,q1⟩=>⟨x,σ,H1,I1,r1,q1⟩)
def Hv(c:TT)(t u:TS):TS:=fun D σ H=>c σ H fun b H1=>if b=true then t D σ H1 else u D σ H1
theorem Gj{c:Expr}{a b:List Stmt}{tc:TT}(hc:PT X c tc)(ha:PSs X a t)(hb:PSs X b u):PS X (.If c a b pos) (Hv tc t u):=by
 intro pins s σ H D I h;refine wpAny_If (thn (hc pins s σ H _ I h) fun d s1 ⟨H1,I1,q1⟩=>?_)
 cases d with
 |true=>exact ha pins s1 σ H1 D I1 q1
 |false=>exact hb pins s1 σ H1 D I1 q1
end
abbrev TG:=V->St->Hp->(St->Hp->Prop)->Prop
abbrev TGs:=List V->St->Hp->(St->Hp->Prop)->Prop
def PG(X:Cx)(target:Expr)(t:TG):Prop:=
 ∀(pins:List (Addr×Obj)) (s:Shared) (σ:St) (H:Hp) (v:V) (u:Value) (Q:St->Hp->Prop),Inv X pins σ H s->RelV v u->t v σ H Q ->
  wpAny (model X.prog X.w) X.A (assign target X.env u) (fun _ s'=>∃σ' H',Inv X pins σ' H' s'/\Q σ' H') X.xe s
def PGs(X:Cx)(ts:List Expr)(t:TGs):Prop:=
 ∀(pins:List (Addr×Obj)) (s:Shared) (σ:St) (H:Hp) (vs:List V) (us:List Value) (Q:St->Hp->Prop),Inv X pins σ H s->Vals vs us->t vs σ H Q ->
  wpAny (model X.prog X.w) X.A (assignInOrder ((assignEach ts X.env).map (·.2)) us) (fun _ s'=>∃σ' H',Inv X pins σ' H' s'/\Q σ' H') X.xe s
abbrev rh:=V->V->V->Hp->(Hp->Prop)->Prop
def yu(X:Cx)(t:rh):Prop:=
 ∀(pins:List (Addr×Obj)) (s:Shared) (σ:St) (H:Hp) (o i v:V) (ov iv u:Value) (Q:Hp->Prop),Inv X pins σ H s->RelV o ov->RelV i iv->RelV v u->t o i v H Q ->
  wpAny (model X.prog X.w) X.A (setItem ov iv u) (fun _ s'=>∃H',Inv X pins σ H' s'/\Q H') X.xe s
section
variable {X:Cx}{pos:Pos}
def xB(i:Nat):TG:=fun v σ H Q=>Q (σ.set i (some v)) H
theorem fQ{i:Nat}{x:Str}(hN:X.N.Nodup)(hi:X.N[i]? = some x)(hx:Loc X.env.scope x)(hf:X.fn x=true\/X.env.scope.names.lookup x=some .local:=by first|exact .inl rfl|exact .inr rfl|assumption):PG X (.Name x pos) (xB i):=by
 intro pins s σ H v u Q I r h;exact wpAny_assign_Name (oK I hN hi hx r (fun s' I'=>⟨_,H,I',h⟩) hf)
def HJ:TGs:=fun vs σ H Q=>vs=[]/\Q σ H
def G3(t:TG)(u:TGs):TGs:=fun vs σ H Q=>∃v r,vs=v::r/\t v σ H fun σ' H'=>u r σ' H' Q
theorem lU:PGs X [] HJ:=by
 intro pins s σ H vs us Q I r h;obtain⟨e,h⟩:=h;subst e;cases r;exact assignInOrder_nil ⟨σ,H,I,h⟩
theorem gw{e:Expr}{es:List Expr}{t:TG}{u:TGs}(h1:PG X e t)(h2:PGs X es u)
  (hs:(assignEach (e::es) X.env).map (·.2)=assign e X.env::(assignEach es X.env).map (·.2):=by rfl):PGs X (e::es) (G3 t u):=by
 intro pins s σ H vs us Q I r h;obtain⟨v,vr,e1,h⟩:=h;subst e1
 cases r with
 |cons r rr=>
  rw[hs];refine assignInOrder_cons (thn (h1 pins s σ H _ _ _ I r h) fun _ s1 ⟨σ1,H1,I1,q1⟩=>?_);exact h2 pins s1 σ1 H1 _ _ Q I1 rr q1
def HH(K:Frag)(n:Nat)(t:TGs):TG:=fun v σ H Q=>∃a xs,v=.ref a/\SqT K H a xs/\xs.length=n/\t xs σ H Q
theorem mF{es:List Expr}{k:Nat}{t:TGs}{n:Nat}(hc:X.calm=true)(h:PGs X es t)
  (hn:(assignEach es X.env).length=n:=by rfl) (hst:(assignEach es X.env).findIdx? (·.1)=none:=by rfl):PG X (.Tuple es k pos) (HH X.K n t):=by
 intro pins s σ H v u Q I r hw;obtain⟨a,xs,e1,hq,hl,hw⟩:=hw;subst e1;cases r;obtain⟨its,rv,ht,hz⟩:=I.tuple hq;refine assign_Tuple_tuple (I.ok.hd hc) ht (by simp[hn,←hl,rv.length]) hst fun h' hx=>?_;have I1:Inv X pins σ H { s with heap:=h' }:=I.kept (t':=s.toks) fun b o e=>hx b o (Nat.ne_of_lt (Heap.lt_size e)) e;exact h pins _ σ H xs _ Q I1 (by simpa using rv) hw
def HI(to ti:TE)(t:rh):TG:=fun v σ H Q=>to σ H fun o H1=>ti σ H1 fun i H2=>t o i v H2 fun H3=>Q σ H3
theorem EE{o i:Expr}{to ti:TE}{t:rh}(ho:PE X o to)(hi:PE X i ti)(hs:yu X t)
  (ha:∀v,assign (.Subscript o i pos) X.env v=(do
   let ov ←holding [v] (eval o X.env)
   let iv ←holding [v,ov] (eval i X.env)
   standAt pos
   holding [v,ov,iv] (setItem ov iv v)
   release [v,ov,iv] []):=by intro _;rfl):PG X (.Subscript o i pos) (HI to ti t):=by
 intro pins s σ H v u Q I r h;rw[ha];refine wpAny_bind (wpAny_holding (thn (ho pins s σ H _ I h) fun ov s1 ⟨x,H1,I1,r1,q1⟩=>?_));refine wpAny_bind (wpAny_holding (thn (hi pins s1 σ H1 _ I1 q1) fun iv s2 ⟨y,H2,I2,r2,q2⟩=>?_));refine wpAny_bind (wpAny_standAt (wpAny_bind (wpAny_holding (thn (hs pins s2 σ H2 x y v ov iv u _ I2 r1 r2 r q2) fun _ s3 ⟨H3,I3,q3⟩=>?_))));exact wpAny_release ⟨σ,H3,I3,q3⟩
def x6(te:TE)(g:TG):TS:=fun D σ H=>te σ H fun x H1=>g x σ H1 D.nx
theorem vS{tg e:Expr}{te:TE}{g:TG}(he:PE X e te)(hg:PG X tg g)(hs:swapsWithSole [tg] e pos.line X.env=pure false:=by rfl)(hw:swappedStores [tg] e X.env=pure none:=by rfl)
  (h1:(assignEach [tg] X.env).map (·.2)=[assign tg X.env]:=by rfl):PS X (.Assign [tg] e pos) (x6 te g):=by
 intro pins s σ H D I h;refine wpAny_Assign_stores (thn (he pins s σ H _ I h) fun v s1 ⟨x,H1,I1,r1,q1⟩=>?_) hs hw;rw[h1];exact thn (hg pins s1 σ H1 x v _ I1 r1 q1) fun _ s2 q=>q
theorem ia{i:Nat}{x:Str}{e:Expr}{te:TE}{pos':Pos}(hN:X.N.Nodup)(hi:X.N[i]? = some x)(hx:Loc X.env.scope x)(he:PE X e te)(hs:swapsWith e (some (.Name x pos')) pos.line X.env=pure false:=by rfl)(hf:X.fn x=true\/X.env.scope.names.lookup x=some .local:=by first|exact .inl rfl|exact .inr rfl|assumption) :
  PS X (.Assign [.Name x pos'] e pos) (x6 te (xB i)):=by
 intro pins s σ H D I h;refine wpAny_Assign_Name (thn (he pins s σ H _ I h) fun v s1 ⟨y,H1,I1,r1,q1⟩=>?_) hs;exact oK I1 hN hi hx r1 (fun s2 I2=>⟨_,H1,I2,q1⟩) hf
def Ek(c:TT)(tb:TS):TS:=fun D σ H=>∃W:Nat->St->Hp->Prop,(∃m,W m σ H)/\∀m σ H,W m σ H ->
 c σ H fun b H1=>if b=true then ∃N:St->Hp->Prop,(∀σ' H',N σ' H'->∃m',m' < m/\W m' σ' H')/\tb { D with nx:=N,ct:=N,bk:=D.nx } σ H1 else D.nx σ H1
theorem Bg{c:Expr}{body:List Stmt}{tc:TT}{tb:TS}(hp:PassesOwn (model X.prog X.w) X.A X.env X.xe)(hc:PT X c tc)(hb:PSs X body tb):PS X (.While c body [] pos) (Ek tc tb):=by
 intro pins s σ H D I h;obtain⟨W,⟨m0,w0⟩,turn⟩:=h;refine wpAny_While (codeAny_whileLoop (fun n s'=>∃σ' H',Inv X pins σ' H' s'/\W n σ' H') ?_ m0 ⟨σ,H,I,w0⟩);rintro n s1 ⟨σ1,H1,I1,w1⟩;refine wpAny_passesOwn hp (thn (hc pins s1 σ1 H1 _ I1 (turn n σ1 H1 w1)) fun b s2 ⟨H2,I2,q2⟩=>?_)
 cases b with
 |true=>
  obtain⟨N,hN,q2⟩:=q2;rw[if_pos rfl];refine wpAny_passesOwn hp (thn (hb pins s2 σ1 H2 _ I2 q2) fun f s3 q3=>?_)
  cases f with
  |next=>
   obtain⟨σ3,H3,I3,n3⟩:=q3;obtain⟨m',hm,w3⟩:=hN σ3 H3 n3;exact⟨m',hm,σ3,H3,I3,w3⟩
  |cont=>
   obtain⟨σ3,H3,I3,n3⟩:=q3;obtain⟨m',hm,w3⟩:=hN σ3 H3 n3;exact⟨m',hm,σ3,H3,I3,w3⟩
  |brk=>exact q3
  |ret v=>exact q3
 |false=>
  rw[if_neg Bool.false_ne_true];exact wpAny_execs_nil ⟨σ1,H2,I2,q2⟩
end
structure It where
 go:Nat->Hp->Prop
 yld:Nat->Hp->V->Hp->Prop
 stop:Nat->Hp->Prop
def dq(X:Cx)(pins:List (Addr×Obj))(H:Hp)(b:Addr):Prop:=H b=none/\b≠X.env.locals/\b∉X.fs/\(b∈X.ex\/X.s₀.heap.objs.size<=b)/\(∀x c,X.env.cells.lookup x=some c->c≠b)/\∀p∈X.pn++pins,p.1≠b
theorem Inv.fpOk{X:Cx}{pins:List (Addr×Obj)}{σ:St}{H H':Hp}{s:Shared}{b:Addr}(I:Inv X pins σ H s)(hb:s.heap.objs.size<=b)(hn:H' b=none):dq X pins H' b:=by
 refine⟨hn,Nat.ne_of_gt (Nat.lt_of_lt_of_le I.lt hb),I.nofs hb,.inr (Nat.le_trans I.sz hb),fun x c e z=>?_,fun p hp z=>?_⟩
 .obtain⟨v,q⟩:=I.cell x c e
  exact absurd (Nat.lt_of_lt_of_le q.lt (by rw[z];exact hb)) (Nat.lt_irrefl _)
 .exact absurd (Nat.lt_of_lt_of_le (Heap.lt_size (I.pin p hp).1) (by rw[z];exact hb)) (Nat.lt_irrefl _)
structure Turn(P:Program)(w:World)(K:Frag)(tg:Expr)(J:It)(fp:List Addr)(it:Addr)(tn:Nat->Heap->Prop):Prop where
 mem:it∈fp
 obj:∀i h,tn i h->∀b∈fp,∃o,h.get? b=some o/\∀v,o.data≠.cell v
 keep:∀i h h',tn i h->(∀b∈fp,∀o,h.get? b=some o->h'.get? b=some o)->tn i h'
 item:∀(X:Cx),X.prog=P->X.w=w->X.K=K->X.calm=true->∀(i:Nat) (pins:List (Addr×Obj)) (s:Shared) (σ:St) (H:Hp) (E:Value->Shared->Prop),Inv X pins σ H s->(∀b∈fp,dq X pins H b)->tn i s.heap->J.go i H ->
  wpAny (model P w) X.A (pyNext (.ref it)) (fun r s1=>∃u,r=some u /\
   wpAny (model P w) X.A (letOwnedTupleGo tg (.ref it) u) (fun _ s2=>∃x H',Inv X pins σ H' s2/\RelV x u/\J.yld i H x H'/\tn (i+1) s2.heap/\∀b∈fp,H' b=none) E s1) E s
 done:∀(X:Cx),X.prog=P->X.w=w->X.K=K->X.calm=true->∀(i:Nat) (pins:List (Addr×Obj)) (s:Shared) (σ:St) (H:Hp) (E:Value->Shared->Prop),Inv X pins σ H s->(∀b∈fp,dq X pins H b)->tn i s.heap->J.stop i H ->
  wpAny (model P w) X.A (pyNext (.ref it)) (fun r s1=>r=none/\Inv X pins σ H s1) E s
 self:∀(A:Around) (i:Nat) (s:Shared) (Q:Value->Shared->Prop) (E:Value->Shared->Prop),tn i s.heap->Q (.ref it) s->wpAny (model P w) A (pyIter (.ref it)) Q E s
abbrev TI:=St->Hp->(It->Hp->Prop)->Prop
def PIE(X:Cx)(pins:List (Addr×Obj))(σ:St)(tg:Expr)(R:It->Hp->Prop)(itv:Value)(s2:Shared):Prop:=∃(it:Addr) (fp:List Addr) (tn:Nat->Heap->Prop) (J:It) (H':Hp),itv=.ref it/\Inv X pins σ H' s2/\Turn X.prog X.w X.K tg J fp it tn/\tn 0 s2.heap/\(∀b∈fp,dq X pins H' b)/\R J H'
def PI(X:Cx)(tg iter:Expr)(wi:TI):Prop:=
 ∀(pins:List (Addr×Obj)) (s:Shared) (σ:St) (H:Hp) (R:It->Hp->Prop),Inv X pins σ H s->wi σ H R ->
  wpAny (model X.prog X.w) X.A (eval iter X.env) (fun v s1=>wpAny (model X.prog X.w) X.A (pyIter v) (PIE X pins σ tg R) X.xe s1) X.xe s
theorem kG{M:Model}{A:Around}{E:Value->Shared->Prop}{s:Shared}{tg:Expr}{it:Addr}{u:Value}{o:Obj}{n:String}{vs:Array Value}{Q:Unit->Shared->Prop}(ho:s.heap.get? it=some o)(hc:o.cls=.type n)(hd:o.data=.fields vs)
  (hn:["enumerate","zip","dict_itemiterator","dict_reverseitemiterator","odict_iterator","itertools.zip_longest","itertools.pairwise"].contains n=false) (hQ:Q () s):wpAny M A (letOwnedTupleGo tg (.ref it) u) Q E s:=by
 unfold letOwnedTupleGo
 cases tg <;> first
  |exact wpAny_pure hQ
  | (cases u <;> first
    |exact wpAny_pure hQ
    | (refine wpAny_bind (wpAny_load ho ?_)
       rw[hc,hd];show wpAny M A (if (["enumerate","zip","dict_itemiterator","dict_reverseitemiterator","odict_iterator","itertools.zip_longest","itertools.pairwise"].contains n&&vs[0]? == some (rawInt _))=true then _ else _) Q E s;rw[if_neg (by intro h;rw[hn,Bool.false_and] at h;cases h)]
       exact wpAny_pure hQ))
def Itl(K:Frag)(a:Addr):It:=⟨fun i H=>∃xs x,SqL K H a xs/\xs[i]? = some x,fun i H x H'=>H'=H/\∀xs,SqL K H a xs->xs[i]? = some x,fun i H=>∃xs,SqL K H a xs/\xs.length<=i⟩
def Itt(K:Frag)(a:Addr):It:=⟨fun i H=>∃xs x,SqT K H a xs/\xs[i]? = some x,fun i H x H'=>H'=H/\∀xs,SqT K H a xs->xs[i]? = some x,fun i H=>∃xs,SqT K H a xs/\xs.length<=i⟩
def Itr(lo:Int)(n:Nat):It:=⟨fun i _=>i<n,fun i H x H'=>H'=H/\x=.int (lo+i),fun i _=>n<=i⟩
theorem Aa{P:Program}{w:World}{K:Frag}{tg:Expr}(a it:Addr):Turn P w K tg (Itl K a) [it] it (fun i h=>h.IsListIter it a i) where
 mem:=by simp
 obj:=fun i h st b hb=>by
  have e:b=it:=by simpa using hb
  subst e;obtain⟨o,e,c,d⟩:=st;exact⟨o,e,fun v z=>by rw[d] at z;cases z⟩
 keep:=fun i h h' st k=>st.at fun o e=>k it (by simp) o e
 item:=by
  intro X hP hw hK hc i pins s σ H E I hf st hg;subst hP hw hK;obtain⟨xs,x,hq,hx⟩:=hg;obtain⟨its,rv,p,hz⟩:=I.list hq;obtain⟨u,hu,ru⟩:=rv.get hx;obtain⟨f0,f1,f2,f3,f4,f5⟩:=hf it (by simp);refine wpAny_pyNext_list_item st p.isList (x:=u) (by simpa using hu) fun h' st' sb=>?_;have I1:Inv X pins σ H { s with heap:=h' }:=I.turned (t':=s.toks) (fun b o hb e=>(sb.2 b hb).trans e) f0 f1 f3 f4 f5;obtain⟨o,e,c,d⟩:=id st';exact⟨u,rfl,kG (s:={ s with heap:=h' }) e c d (by decide) ⟨x,H,I1,ru,⟨rfl,fun ys hy=>by rw[I.list_inj hy hq];exact hx⟩,st',fun b hb=>(hf b hb).1⟩⟩
 done:=by
  intro X hP hw hK hc i pins s σ H E I hf st hg;subst hP hw hK;obtain⟨xs,hq,hx⟩:=hg;obtain⟨its,rv,p,hz⟩:=I.list hq;obtain⟨f0,f1,f2,f3,f4,f5⟩:=hf it (by simp);have hl:=rv.length;exact wpAny_pyNext_list_end (I.ok.hd hc) st p.isList (by simp;omega) fun h' eb=>⟨rfl,I.turned (t':=s.toks) (fun b o hb e=>eb b o hb e) f0 f1 f3 f4 f5⟩
 self:=fun _ _ _ _ _ st h=>wpAny_pyIter_listiter st h
theorem zB{P:Program}{w:World}{K:Frag}{tg:Expr}(a it:Addr):Turn P w K tg (Itt K a) [it] it (fun i h=>h.IsTupleIter it a i) where
 mem:=by simp
 obj:=fun i h st b hb=>by
  have e:b=it:=by simpa using hb
  subst e;obtain⟨o,e,c,d⟩:=st;exact⟨o,e,fun v z=>by rw[d] at z;cases z⟩
 keep:=fun i h h' st k=>st.at fun o e=>k it (by simp) o e
 item:=by
  intro X hP hw hK hc i pins s σ H E I hf st hg;subst hP hw hK;obtain⟨xs,x,hq,hx⟩:=hg;obtain⟨its,rv,p,hz⟩:=I.tuple hq;obtain⟨u,hu,ru⟩:=rv.get hx;obtain⟨f0,f1,f2,f3,f4,f5⟩:=hf it (by simp);refine wpAny_pyNext_tuple_item st (show s.heap.IsTuple a its.toArray from p) (x:=u) (by simpa using hu) fun h' st' sb=>?_;have I1:Inv X pins σ H { s with heap:=h' }:=I.turned (t':=s.toks) (fun b o hb e=>(sb.2 b hb).trans e) f0 f1 f3 f4 f5;obtain⟨o,e,c,d⟩:=id st';exact⟨u,rfl,kG (s:={ s with heap:=h' }) e c d (by decide) ⟨x,H,I1,ru,⟨rfl,fun ys hy=>by rw[I.tuple_inj hy hq];exact hx⟩,st',fun b hb=>(hf b hb).1⟩⟩
 done:=by
  intro X hP hw hK hc i pins s σ H E I hf st hg;subst hP hw hK;obtain⟨xs,hq,hx⟩:=hg;obtain⟨its,rv,p,hz⟩:=I.tuple hq;obtain⟨f0,f1,f2,f3,f4,f5⟩:=hf it (by simp);have hl:=rv.length;exact wpAny_pyNext_tuple_end (I.ok.hd hc) st (show s.heap.IsTuple a its.toArray from p) (by simp;omega) fun h' eb=>⟨rfl,I.turned (t':=s.toks) (fun b o hb e=>eb b o hb e) f0 f1 f3 f4 f5⟩
 self:=fun _ _ _ _ _ st h=>wpAny_pyIter_tupleiter st h
theorem zC{P:Program}{w:World}{K:Frag}{tg:Expr}(it:Addr)(lo:Int)(n:Nat):Turn P w K tg (Itr lo n) [it] it (fun i h=>IsRangeIter h it (lo+(i:Nat)*1) ((n:Int)-(i:Nat)) 1) where
 mem:=by simp
 obj:=fun i h st b hb=>by
  have e:b=it:=by simpa using hb
  subst e
  exact⟨_,st,fun v z=>by
   have z':Data.fields _=Data.cell v:=z
   cases z'⟩
 keep:=fun i h h' st k=>k it (by simp) _ st
 item:=by
  intro X hP hw hK hc i pins s σ H E I hf st hg;subst hP hw hK;obtain⟨f0,f1,f2,f3,f4,f5⟩:=hf it (by simp);have W:=Walks.range (prog:=X.prog) (w:=X.w) (I.ok.hd hc) it lo 1 n;refine W.item i s _ _ hg st fun v h' tk hv st' kk=>?_;obtain⟨t,rfl⟩:=hv;have I1:Inv X pins σ H { s with heap:=h',toks:=tk }:=I.turned (fun b o hb e=>kk b o (by simpa using hb) e) f0 f1 f3 f4 f5;refine⟨_,rfl,kG (s:={ s with heap:=h',toks:=tk }) (n:="range_iterator") st' rfl rfl (by decide) ⟨.int (lo+i),H,I1,⟨t,?_⟩,⟨rfl,rfl⟩,st',fun b hb=>(hf b hb).1⟩⟩;rw[Int.mul_one]
 done:=by
  intro X hP hw hK hc i pins s σ H E I hf st hg;subst hP hw hK;obtain⟨f0,f1,f2,f3,f4,f5⟩:=hf it (by simp);exact wpAny_pyNext_range_end (I.ok.hd hc) st (by have:n<=i:=hg;omega) fun h' eb=>⟨rfl,I.turned (t':=s.toks) (fun b o hb e=>eb b o hb e) f0 f1 f3 f4 f5⟩
 self:=fun _ _ _ _ _ st h=>wpAny_pyIter_rangeiter st h
section
variable {X:Cx}{tg:Expr}
theorem Ba{pins:List (Addr×Obj)}{σ:St}{H:Hp}{s:Shared}{R:It->Hp->Prop}{E:Value->Shared->Prop}{lo hi:Int}{t u v:Tok}{tk:Nat}(I:Inv X pins σ H s)(h1 : -(2^62)<=lo)(h2:lo<2^62)(h3 : -(2^62)<=hi)(h4:hi<2^62)
  (q:R (Itr lo (hi-lo).toNat) H):wpAny (model X.prog X.w) X.A (pyIter (.ref s.heap.objs.size)) (PIE X pins σ tg R) E { s with heap:=s.heap.push { cls:=.type "range",data:=.fields #[.int lo t,.int hi u,.int 1 v] },toks:=tk }:=by
 refine wpAny_pyIter_range (IsRange.new ..) (small_one h1 h2 h3 h4) ?_;have I1:Inv X pins σ H { s with heap:=s.heap.push { cls:=.type "range",data:=.fields #[.int lo t,.int hi u,.int 1 v] },toks:=tk }:=I.kept fun b o e=>Heap.get?_push_of_some _ e
 refine⟨(s.heap.push { cls:=.type "range",data:=.fields #[.int lo t,.int hi u,.int 1 v] }).objs.size,[(s.heap.push { cls:=.type "range",data:=.fields #[.int lo t,.int hi u,.int 1 v] }).objs.size],_,_,H,rfl,
  I1.kept (t':=tk) fun b o e=>Heap.get?_push_of_some _ e,zC _ lo (hi-lo).toNat,?_,fun b hb=>?_,q⟩
 .have e1:lo+((0:Nat):Int)*1=lo:=by simp
  have e2:(((hi-lo).toNat:Nat):Int)-((0:Nat):Int)=Builtin.Range.rangeSize lo hi 1:=by rw[rangeSize_one];split <;> omega
  show IsRangeIter _ _ (lo+((0:Nat):Int)*1) ((((hi-lo).toNat:Nat):Int)-((0:Nat):Int)) 1;rw[e1,e2];exact Heap.get?_push_size _ rfl
 .have e:b=(s.heap.push { cls:=.type "range",data:=.fields #[.int lo t,.int hi u,.int 1 v] }).objs.size:=by simpa using hb
  subst e;exact I1.fpOk (Nat.le_refl _) (I1.hok.fresh (Nat.le_refl _))
def GW(ta:TA):TI:=fun σ H R=>ta σ H fun vs H1=>∃j:Int,vs=[.int j]/\-(2^62)<=j/\j<2^62/\R (Itr 0 j.toNat) H1
theorem Ag{a:Expr}{ta:TA}{p pos:Pos}(hg:Gl X "range")(hm:X.mg "range"=none)(ha:PA X [a] ta)(hs:starEach [a] X.env=[(false,eval a X.env)]:=by rfl):PI X tg (.Call (.Name "range" p) [a] [] pos) (GW ta):=by
 intro pins s σ H R I h;refine Call_ (ja I hg hm boot_range (PyProof.Rows.callWith_type1 (thn (ha pos pins s σ H _ I h) fun us s1 ⟨vs,H1,I1,r1,q1⟩=>?_) hs rfl));obtain⟨j,e,q1,q2,q⟩:=q1;subst e
 cases r1 with
 |cons r rr=>
  cases rr;obtain⟨t,rfl⟩:=r;exact call_range_1 (Ba I1 (by omega) (by omega) q1 q2 (by simpa using q))
def Hw(wi:TI)(g:TG)(tb:TS):TS:=fun D σ H=>wi σ H fun J H1=>∃W:Nat->Nat->St->Hp->Prop,(∃m,W 0 m σ H1)/\∀i m σ H,W i m σ H ->
 (J.stop i H/\D.nx σ H)\/(J.go i H/\∃N:St->Hp->Prop,(∀σ' H',N σ' H'->∃m',m' < m/\W (i+1) m' σ' H')/\∀x H',J.yld i H x H'->g x σ H' fun σ2 H2=>tb { D with nx:=N,ct:=N,bk:=D.nx } σ2 H2)
def gB(fp:List Addr)(h:Heap):List (Addr×Obj):=fp.filterMap fun b=>(h.get? b).map fun o=>(b,o)
theorem k7{fp:List Addr}{h:Heap}{b:Addr}{o:Obj}(hb:b∈fp)(e:h.get? b=some o):(b,o)∈gB fp h:=List.mem_filterMap.mpr ⟨b,hb,by rw[e];rfl⟩
theorem Al{fp:List Addr}{h:Heap}{p:Addr×Obj}(hp:p∈gB fp h):p.1∈fp/\h.get? p.1=some p.2:=by
 obtain⟨b,hb,e⟩:=List.mem_filterMap.mp hp
 cases q:h.get? b with
 |none=>rw[q] at e;cases e
 |some o=>
  rw[q] at e;have e':(b,o)=p:=Option.some.inj e;subst e';exact⟨hb,q⟩
theorem Inv.pinned{pins:List (Addr×Obj)}{σ:St}{H:Hp}{s:Shared}{fp:List Addr}(I:Inv X pins σ H s)(hf:∀b∈fp,dq X pins H b)(ho:∀b∈fp,∃o,s.heap.get? b=some o/\∀v,o.data≠.cell v):Inv X (pins++gB fp s.heap) σ H s:=
 I.pins_of fun p hp=>(List.mem_append.mp hp).elim (fun z=>I.pin p (List.mem_append_right _ z)) fun z=>by
  obtain⟨hb,e⟩:=Al z;obtain⟨f0,f1,f2,_⟩:=hf p.1 hb;obtain⟨o,e',d⟩:=ho p.1 hb;rw[e] at e';cases e';exact⟨e,f0,f1,f2,d⟩
theorem Inv.unpinned{pins pl:List (Addr×Obj)}{σ:St}{H:Hp}{s:Shared}(I:Inv X (pins++pl) σ H s):Inv X pins σ H s:=I.pins_of fun p hp=>I.pin p (List.mem_append_right _ (List.mem_append_left _ hp))
theorem mE{iter:Expr}{body:List Stmt}{wi:TI}{g:TG}{tb:TS}{pos:Pos}(hp:PassesOwn (model X.prog X.w) X.A X.env X.xe)(hc:X.calm=true)(hi:PI X tg iter wi)(hg:PG X tg g)(hb:PSs X body tb)
  (hs:∀x,foldedSetIterable iter X.env x=pure x:=by intro _;rfl):PS X (.For tg iter body [] pos) (Hw wi g tb):=by
 intro pins s σ H D I h;refine wpAny_For (thn (hi pins s σ H _ I h) fun v s1 h1=>thn h1 fun itv s2 h2=>?_) hs;obtain⟨it,fp,tn,J,H2,e,I2,T,st2,f2,W,⟨m0,w0⟩,turn⟩:=h2;subst e;have stat:∀{H':Hp},(∀b∈fp,H' b=none)->∀b∈fp,dq X pins H' b:=fun hn b hb=>⟨hn b hb,(f2 b hb).2⟩;refine codeAny_forLoop_any (fun n s'=>∃i σ' H',Inv X pins σ' H' s'/\tn i s'.heap/\(∀b∈fp,H' b=none)/\W i n σ' H') ?_ m0 ⟨0,σ,H2,I2,st2,fun b hb=>(f2 b hb).1,w0⟩;rintro n s3 ⟨i,σ3,H3,I3,st3,fr3,w3⟩
 rcases turn i n σ3 H3 w3 with⟨stop,qn⟩|⟨go,N,hN,step⟩
 .refine wpAny_passesOwn hp (thn (T.done X rfl rfl rfl hc i pins s3 σ3 H3 X.xe I3 (stat fr3) st3 stop) fun r s4 ⟨hr,I4⟩=>?_)
  subst hr;exact wpAny_execs_nil ⟨σ3,H3,I4,qn⟩
 .refine wpAny_passesOwn hp (thn (T.item X rfl rfl rfl hc i pins s3 σ3 H3 X.xe I3 (stat fr3) st3 go) fun r s4 ⟨u,hr,h4⟩=>?_)
  subst hr;refine wpAny_passesOwn hp (thn h4 fun _ s5 ⟨x,H5,I5,r5,y5,st5,fr5⟩=>?_);have I5':=I5.pinned (stat fr5) (T.obj _ _ st5);refine wpAny_passesOwn hp (thn (hg _ s5 σ3 H5 x u _ I5' r5 (step x H5 y5)) fun _ s6 ⟨σ6,H6,I6,q6⟩=>?_);refine wpAny_passesOwn hp (thn (hb _ s6 σ6 H6 _ I6 q6) fun f s7 q7=>?_)
  have again:∀{σ7:St}{H7:Hp},Inv X (pins++gB fp s5.heap) σ7 H7 s7->N σ7 H7->∃m,m<n/\∃i σ' H',Inv X pins σ' H' s7/\tn i s7.heap/\(∀b∈fp,H' b=none)/\W i m σ' H':=fun {σ7 H7} I7 n7=>by
   obtain⟨m',hm,w7⟩:=hN σ7 H7 n7;refine⟨m',hm,i+1,σ7,H7,I7.unpinned,T.keep _ _ _ st5 fun b hb o e=>(I7.pin (b,o) (List.mem_append_right _ (List.mem_append_right _ (k7 hb e)))).1,fun b hb=>?_,w7⟩;obtain⟨o,e,d⟩:=T.obj _ _ st5 b hb;exact(I7.pin (b,o) (List.mem_append_right _ (List.mem_append_right _ (k7 hb e)))).2.1
  cases f with
  |next=>obtain⟨σ7,H7,I7,n7⟩:=q7;exact again I7 n7
  |cont=>obtain⟨σ7,H7,I7,n7⟩:=q7;exact again I7 n7
  |brk=>obtain⟨σ7,H7,I7,q7⟩:=q7;exact⟨σ7,H7,I7.unpinned,q7⟩
  |ret v=>obtain⟨x7,σ7,H7,I7,r7,q7⟩:=q7;exact⟨x7,σ7,H7,I7.unpinned,r7,q7⟩
end
abbrev R2:=V->V->Hp->VK->Prop
def OpR(X:Cx)(f:Value->Value->Sem Value)(r:R2):Prop:=
 ∀(pins:List (Addr×Obj)) (s:Shared) (σ:St) (H:Hp) (x y:V) (v u:Value) (Q:VK),Inv X pins σ H s->RelV x v->RelV y u->r x y H Q ->
  wpAny (model X.prog X.w) X.A (f v u) (EP X pins σ Q) X.xe s
def UnR(X:Cx)(f:Value->Sem Value)(r:V->Hp->VK->Prop):Prop:=
 ∀(pins:List (Addr×Obj)) (s:Shared) (σ:St) (H:Hp) (x:V) (v:Value) (Q:VK),Inv X pins σ H s->RelV x v->r x H Q ->
  wpAny (model X.prog X.w) X.A (f v) (EP X pins σ Q) X.xe s
def CallR(X:Cx)(f:Value)(r:List V->Hp->VK->Prop):Prop:=
 ∀(pins:List (Addr×Obj)) (s:Shared) (σ:St) (H:Hp) (xs:List V) (us:List Value) (Q:VK),Inv X pins σ H s->Vals xs us->r xs H Q ->
  wpAny (model X.prog X.w) X.A (call f us) (EP X pins σ Q) X.xe s
def HQ(X:Cx)(r:V->Hp->(Bool->Hp->Prop)->Prop):Prop:=
 ∀(pins:List (Addr×Obj)) (s:Shared) (σ:St) (H:Hp) (x:V) (v:Value) (Q:Bool->Hp->Prop),Inv X pins σ H s->RelV x v->r x H Q ->
  wpAny (model X.prog X.w) X.A (truthy v) (TP X pins σ Q) X.xe s
def tOp(r:R2)(ta tb:TE):TE:=fun σ H Q=>ta σ H fun x H1=>tb σ H1 fun y H2=>r x y H2 Q
def tUn(r:V->Hp->VK->Prop)(ta:TE):TE:=fun σ H Q=>ta σ H fun x H1=>r x H1 Q
def rI(C:Int->Int->Prop)(g:Int->Int->V):R2:=fun x y H Q=>∃i j,x=.int i/\y=.int j/\C i j/\Q (g i j) H
def rI0(g:Int->Int->V):R2:=fun x y H Q=>∃i j,x=.int i/\y=.int j/\Q (g i j) H
def rU(g:Int->V):V->Hp->VK->Prop:=fun x H Q=>∃i,x=.int i/\Q (g i) H
section
variable {X:Cx}{a b c:Expr}{ta tb tc:TE}{pos:Pos}
theorem qZ(ha:PE X a ta)(hb:PE X b tb){pins:List (Addr×Obj)}{s:Shared}{σ:St}{H:Hp}{R:V->V->Hp->Prop}(I:Inv X pins σ H s)
  (h:ta σ H fun x H1=>tb σ H1 fun y H2=>R x y H2) {Q:Value->Shared->Prop}{f:Value->Value->Sem Value}
  (hf:∀v u s2 x y H2,Inv X pins σ H2 s2->RelV x v->RelV y u->R x y H2->wpAny (model X.prog X.w) X.A (f v u) Q X.xe s2) :
  wpAny (model X.prog X.w) X.A (eval a X.env) (fun v s₁=>wpAny (model X.prog X.w) X.A (eval b X.env) (fun u s₂=>wpAny (model X.prog X.w) X.A (f v u) Q X.xe s₂) X.xe s₁) X.xe s:=by
 refine thn (ha pins s σ H _ I h) fun v s1 ⟨x,H1,I1,r1,q1⟩=>?_;refine thn (hb pins s1 σ H1 _ I1 q1) fun u s2 ⟨y,H2,I2,r2,q2⟩=>?_;exact hf v u s2 x y H2 I2 r1 r2 q2
theorem xj{op:Operator}{r:R2}(ho:OpR X (binaryOp op) r)(ha:PE X a ta)(hb:PE X b tb):PE X (.BinOp a op b pos) (tOp r ta tb):=by
 intro pins s σ H Q I h;exact wpAny_BinOp (qZ ha hb I h fun v u s2 x y H2 I2 rx ry q=>ho pins s2 σ H2 x y v u Q I2 rx ry q)
theorem Gm{op:UnaryOp}{r:V->Hp->VK->Prop}(ho:UnR X (unaryOp op) r)(ha:PE X a ta):PE X (.UnaryOp op a pos) (tUn r ta):=by
 intro pins s σ H Q I h;exact UnaryOp_ (thn (ha pins s σ H _ I h) fun v s1 ⟨x,H1,I1,r1,q1⟩=>ho pins s1 σ H1 x v Q I1 r1 q1)
theorem opI{f:Value->Value->Sem Value}{C:Int->Int->Prop}{g:Int->Int->Int}
  (rule:∀(i j:Int) (t u:Tok) (s:Shared) (Q:Value->Shared->Prop) (E:Value->Shared->Prop),C i j->Q (.int (g i j) s.toks) { s with toks:=s.toks+1 }->wpAny (model X.prog X.w) X.A (f (.int i t) (.int j u)) Q E s) :
  OpR X f (rI C fun i j=>.int (g i j)):=by
 intro pins s σ H x y v u Q I rx ry h;obtain⟨i,j,rfl,rfl,hc,q⟩:=h;obtain⟨t,rfl⟩:=rx;obtain⟨t',rfl⟩:=ry;exact rule i j t t' s _ _ hc ⟨.int (g i j),H,I.tok _,⟨_,rfl⟩,q⟩
theorem yg{f:Value->Value->Sem Value}{g:Int->Int->Int}
  (rule:∀(i j:Int) (t u:Tok) (s:Shared) (Q:Value->Shared->Prop) (E:Value->Shared->Prop),Q (.int (g i j) s.toks) { s with toks:=s.toks+1 }->wpAny (model X.prog X.w) X.A (f (.int i t) (.int j u)) Q E s) :
  OpR X f (rI0 fun i j=>.int (g i j)):=by
 intro pins s σ H x y v u Q I rx ry h;obtain⟨i,j,rfl,rfl,q⟩:=h;obtain⟨t,rfl⟩:=rx;obtain⟨t',rfl⟩:=ry;exact rule i j t t' s _ _ ⟨.int (g i j),H,I.tok _,⟨_,rfl⟩,q⟩
theorem nF{f:Value->Value->Sem Value}{g:Int->Int->Bool}
  (rule:∀(i j:Int) (t u:Tok) (s:Shared) (Q:Value->Shared->Prop) (E:Value->Shared->Prop),Q (.bool (g i j)) s->wpAny (model X.prog X.w) X.A (f (.int i t) (.int j u)) Q E s) :
  OpR X f (rI0 fun i j=>.bl (g i j)):=by
 intro pins s σ H x y v u Q I rx ry h;obtain⟨i,j,rfl,rfl,q⟩:=h;obtain⟨t,rfl⟩:=rx;obtain⟨t',rfl⟩:=ry;exact rule i j t t' s _ _ ⟨.bl (g i j),H,I,rfl,q⟩
def HS(i j:Int):Prop:=0<=j/\j<=1000000/\i.natAbs<2^64
def CMul(i j:Int):Prop:=(-(2^64)<i/\i<2^64)\/(-(2^64)<j/\j<2^64)
theorem CMul.ok{i j:Int}(h:CMul i j):IntMulOk i j:=by
 rcases h with⟨h1,h2⟩|⟨h1,h2⟩
 .exact .of_left (intBits_le_64 h1 h2)
 .exact .of_right (intBits_le_64 h1 h2)
theorem op_add:OpR X (binaryOp .Add) (rI0 fun i j=>.int (i+j)):=yg fun _ _ _ _ _ _ _ q=>add_int q
theorem EN:OpR X (binaryOp .Sub) (rI0 fun i j=>.int (i-j)):=yg fun _ _ _ _ _ _ _ q=>sub_int q
theorem op_mul:OpR X (binaryOp .Mult) (rI CMul fun i j=>.int (i*j)):=opI fun _ _ _ _ _ _ _ hc q=>mul_int q hc.ok
theorem ER:OpR X (binaryOp .Mod) (rI (fun _ j=>0<j) fun i j=>.int (i % j)):=opI fun i j _ _ _ _ _ hc q=>by
 have h1:(0:Int)<j:=hc;exact mod_int' (by omega) (by rw[Int.fmod_eq_emod_of_nonneg i (by omega)];exact q)
theorem EO:OpR X (binaryOp .Pow) (rI HS fun i j=>.int (i^j.toNat)):=opI fun _ _ _ _ _ _ _ hc q=>pow_int_small hc.1 hc.2.1 hc.2.2 q
theorem unI{f:Value->Sem Value}{g:Int->Int}
  (rule:∀(i:Int) (t:Tok) (s:Shared) (Q:Value->Shared->Prop) (E:Value->Shared->Prop),Q (.int (g i) s.toks) { s with toks:=s.toks+1 }->wpAny (model X.prog X.w) X.A (f (.int i t)) Q E s) :
  UnR X f (rU fun i=>.int (g i)):=by
 intro pins s σ H x v Q I rx h;obtain⟨i,rfl,q⟩:=h;obtain⟨t,rfl⟩:=rx;exact rule i t s _ _ ⟨.int (g i),H,I.tok _,⟨_,rfl⟩,q⟩
theorem Ed:UnR X (unaryOp .USub) (rU fun i=>.int (-i)):=unI fun _ _ _ _ _ q=>neg_int q
end
def qV:V->V->Bool
 |.non,.non=>true | .non,.int _=>true | .int _,.non=>true | .non,.bl _=>true | .bl _,.non=>true | .non,.str _=>true | .str _,.non=>true
 |.int _,.int _=>true | .bl _,.bl _=>true | .str _,.str _=>true | .byt _,.byt _=>true
 |.int _,.str _=>true | .str _,.int _=>true | .bl _,.str _=>true | .str _,.bl _=>true
 |_,_=>false
def rEq:R2:=fun x y H Q=>qV x y=true/\Q (.bl (decide (x=y))) H
def rNe:R2:=fun x y H Q=>qV x y=true/\Q (.bl (!decide (x=y))) H
theorem vy{i j:Int}:decide (V.int i=V.int j)=(i == j):=by
 rw[Bool.eq_iff_iff];simp
theorem wO{i j:Bool}:decide (V.bl i=V.bl j)=(i == j):=by
 rw[Bool.eq_iff_iff];simp
theorem vv{i j:Str}:decide (V.str i=V.str j)=(i == j):=by
 rw[Bool.eq_iff_iff];simp
theorem vz{i j:Array UInt8}:decide (V.byt i=V.byt j)=(i.toList == j.toList):=by
 rw[Bool.eq_iff_iff];cases i;cases j;simp
section
variable {X:Cx}{a b c:Expr}{ta tb tc:TE}{pos:Pos}
theorem bt{pins:List (Addr×Obj)}{σ:St}{H:Hp}{s:Shared}{Q:VK}{k k':Bool}(I:Inv X pins σ H s)(q:Q (.bl k) H)(e:k=k'):EP X pins σ Q (.bool k') s:=by
 subst e;exact⟨.bl k,H,I,rfl,q⟩
theorem GB:OpR X (compareOp .Eq) rEq:=by
 intro pins s σ H x y v u Q I rx ry h;obtain⟨hs,q⟩:=h
 cases x with
 |non=>
  cases rx
  cases y with
  |non=>cases ry;exact PySem.EqNone.eq_none_none (bt I q (by simp))
  |bl j=>cases ry;exact PySem.EqNone.eq_none_bool (bt I q (by simp))
  |int j=>obtain⟨t',rfl⟩:=ry;exact PySem.EqNone.eq_none_int (bt I q (by simp))
  |str j=>obtain⟨t',rfl⟩:=ry;exact PySem.EqNone.eq_none_str (bt I q (by simp))
  |_=>exact absurd (show false=true from hs) Bool.false_ne_true
 |bl i=>
  cases rx
  cases y with
  |non=>cases ry;exact PySem.EqNone.eq_bool_none (bt I q (by simp))
  |bl j=>cases ry;exact eq_bool (bt I q wO)
  |str j=>obtain⟨t',rfl⟩:=ry;exact PySem.EqMixed.eq_bool_str (bt I q (by simp))
  |_=>exact absurd (show false=true from hs) Bool.false_ne_true
 |int i=>
  obtain⟨t,rfl⟩:=rx
  cases y with
  |non=>cases ry;exact PySem.EqNone.eq_int_none (bt I q (by simp))
  |int j=>obtain⟨t',rfl⟩:=ry;exact eq_int (bt I q vy)
  |str j=>obtain⟨t',rfl⟩:=ry;exact PySem.EqMixed.eq_int_str (bt I q (by simp))
  |_=>exact absurd (show false=true from hs) Bool.false_ne_true
 |str i=>
  obtain⟨t,rfl⟩:=rx
  cases y with
  |non=>cases ry;exact PySem.EqNone.eq_str_none (bt I q (by simp))
  |bl j=>cases ry;exact PySem.EqMixed.eq_str_bool (bt I q (by simp))
  |int j=>obtain⟨t',rfl⟩:=ry;exact PySem.EqMixed.eq_str_int (bt I q (by simp))
  |str j=>obtain⟨t',rfl⟩:=ry;exact eq_str (bt I q vv)
  |_=>exact absurd (show false=true from hs) Bool.false_ne_true
 |byt i=>
  obtain⟨t,rfl⟩:=rx
  cases y with
  |byt j=>obtain⟨t',rfl⟩:=ry;exact PySem.W.eq_bytes (bt I q vz)
  |_=>exact absurd (show false=true from hs) Bool.false_ne_true
 |_=>cases y <;> exact absurd (show false=true from hs) Bool.false_ne_true
theorem Gw:OpR X (compareOp .NotEq) rNe:=by
 intro pins s σ H x y v u Q I rx ry h;obtain⟨hs,q⟩:=h
 cases x with
 |non=>
  cases rx
  cases y with
  |non=>cases ry;exact PySem.EqNone.ne_none_none (bt I q (by simp))
  |bl j=>cases ry;exact PySem.EqNone.ne_none_bool (bt I q (by simp))
  |int j=>obtain⟨t',rfl⟩:=ry;exact PySem.EqNone.ne_none_int (bt I q (by simp))
  |str j=>obtain⟨t',rfl⟩:=ry;exact PySem.EqNone.ne_none_str (bt I q (by simp))
  |_=>exact absurd (show false=true from hs) Bool.false_ne_true
 |bl i=>
  cases rx
  cases y with
  |non=>cases ry;exact PySem.EqNone.ne_bool_none (bt I q (by simp))
  |bl j=>cases ry;exact ne_bool (bt I q (congrArg not wO))
  |str j=>obtain⟨t',rfl⟩:=ry;exact PySem.EqMixed.ne_bool_str (bt I q (by simp))
  |_=>exact absurd (show false=true from hs) Bool.false_ne_true
 |int i=>
  obtain⟨t,rfl⟩:=rx
  cases y with
  |non=>cases ry;exact PySem.EqNone.ne_int_none (bt I q (by simp))
  |int j=>obtain⟨t',rfl⟩:=ry;exact ne_int (bt I q (congrArg not vy))
  |str j=>obtain⟨t',rfl⟩:=ry;exact PySem.EqMixed.ne_int_str (bt I q (by simp))
  |_=>exact absurd (show false=true from hs) Bool.false_ne_true
 |str i=>
  obtain⟨t,rfl⟩:=rx
  cases y with
  |non=>cases ry;exact PySem.EqNone.ne_str_none (bt I q (by simp))
  |bl j=>cases ry;exact PySem.EqMixed.ne_str_bool (bt I q (by simp))
  |int j=>obtain⟨t',rfl⟩:=ry;exact PySem.EqMixed.ne_str_int (bt I q (by simp))
  |str j=>obtain⟨t',rfl⟩:=ry;exact ne_str (bt I q (congrArg not vv))
  |_=>exact absurd (show false=true from hs) Bool.false_ne_true
 |byt i=>
  obtain⟨t,rfl⟩:=rx
  cases y with
  |byt j=>obtain⟨t',rfl⟩:=ry;exact PySem.W.ne_bytes (bt I q (congrArg not vz))
  |_=>exact absurd (show false=true from hs) Bool.false_ne_true
 |_=>cases y <;> exact absurd (show false=true from hs) Bool.false_ne_true
theorem Gx:OpR X (compareOp .Lt) (rI0 fun i j=>.bl (decide (i<j))):=nF fun _ _ _ _ _ _ _ q=>lt_int q
theorem Gy:OpR X (compareOp .LtE) (rI0 fun i j=>.bl (decide (i<=j))):=nF fun _ _ _ _ _ _ _ q=>le_int q
theorem Gz:OpR X (compareOp .Gt) (rI0 fun i j=>.bl (decide (j<i))):=nF fun _ _ _ _ _ _ _ q=>gt_int q
theorem GA:OpR X (compareOp .GtE) (rI0 fun i j=>.bl (decide (j<=i))):=nF fun _ _ _ _ _ _ _ q=>ge_int q
theorem op_in_str:OpR X (compareOp .In) (fun x y H Q=>∃i j,x=.str i/\y=.str j/\Q (.bl (!(Builtin.Str.occurrences j i 0 j.length 1).isEmpty)) H):=by
 intro pins s σ H x y v u Q I rx ry h;obtain⟨i,j,rfl,rfl,q⟩:=h;obtain⟨t,rfl⟩:=rx;obtain⟨t',rfl⟩:=ry;exact in_str (bt I q rfl)
theorem ES:OpR X (compareOp .Is) (fun x y H Q=>y=.non/\Q (.bl (decide (x=.non))) H):=by
 intro pins s σ H x y v u Q I rx ry h;obtain⟨rfl,q⟩:=h;cases ry;refine is_none_gen (bt I q ?_)
 cases x <;> first
  |(cases rx;rfl)
  |(obtain⟨t,rfl⟩:=rx;rfl)
theorem op_notN:OpR X (compareOp .IsNot) (fun x y H Q=>y=.non/\Q (.bl (!decide (x=.non))) H):=by
 intro pins s σ H x y v u Q I rx ry h;obtain⟨rfl,q⟩:=h;cases ry;refine isnot_none_gen (bt I q ?_)
 cases x <;> first
  |(cases rx;rfl)
  |(obtain⟨t,rfl⟩:=rx;rfl)
theorem op_notin_str:OpR X (compareOp .NotIn) (fun x y H Q=>∃i j,x=.str i/\y=.str j/\Q (.bl (!(!(Builtin.Str.occurrences j i 0 j.length 1).isEmpty))) H):=by
 intro pins s σ H x y v u Q I rx ry h;obtain⟨i,j,rfl,rfl,q⟩:=h;obtain⟨t,rfl⟩:=rx;obtain⟨t',rfl⟩:=ry;exact notIn_str (bt I q rfl)
theorem OpR.or{f:Value->Value->Sem Value}{r r':R2}(h:OpR X f r)(h':OpR X f r'):OpR X f (fun x y H Q=>r x y H Q\/r' x y H Q):=by
 intro pins s σ H x y v u Q I rx ry q
 rcases q with q|q
 .exact h pins s σ H x y v u Q I rx ry q
 .exact h' pins s σ H x y v u Q I rx ry q
theorem vX(b:Expr){op:CmpOp}(h:op≠.In:=by decide)(h2:op≠.NotIn:=by decide):behindInMarks op b=false:=by
 have e1:(op == CmpOp.In)=false:=by cases op <;> first|rfl|exact absurd rfl h
 have e2:(op == CmpOp.NotIn)=false:=by cases op <;> first|rfl|exact absurd rfl h2
 cases b <;> simp[behindInMarks,e1,e2]
theorem CK{op:CmpOp}{r:R2}(ho:OpR X (compareOp op) r)(ha:PE X a ta)(hb:PE X b tb)(hm:behindInMarks op b=false):PE X (.Compare a [op] [b] pos) (tOp r ta tb):=by
 intro pins s σ H Q I h;exact wpAny_Compare1 (qZ ha hb I h fun v u s2 x y H2 I2 rx ry q=>ho pins s2 σ H2 x y v u Q I2 rx ry q) hm
def xa(t:TE):TT:=fun σ H Q=>t σ H fun x H'=>∃k,x=.bl k/\Q k H'
theorem CA{op:CmpOp}{r:R2}(ho:OpR X (compareOp op) r)(ha:PE X a ta)(hb:PE X b tb)(hm:behindInMarks op b=false):PT X (.Compare a [op] [b] pos) (xa (tOp r ta tb)):=by
 intro pins s σ H Q I h
 refine wpAny_isTrue_Compare1 (thn (ha pins s σ H _ I h) fun v s1 ⟨x,H1,I1,r1,q1⟩=>thn (hb pins s1 σ H1 _ I1 q1) fun u s2 ⟨y,H2,I2,r2,q2⟩=>
  thn (ho pins s2 σ H2 x y v u _ I2 r1 r2 q2) fun c s3 ⟨z,H3,I3,r3,k,e,q3⟩=>?_) hm
 subst e;cases r3;exact wpAny_truthy_bool ⟨H3,I3,q3⟩
def qe(r r':R2)(ta tb tc:TE):TE:=fun σ H Q=>ta σ H fun x H1=>tb σ H1 fun y H2=>r x y H2 fun z H3=>∃k,z=.bl k /\
 (if k=true then tc σ H3 fun w' H4=>r' y w' H4 Q else Q (.bl false) H3)
theorem Br{op op':CmpOp}{r r':R2}(ho:OpR X (compareOp op) r)(ho':OpR X (compareOp op') r')(ha:PE X a ta)(hb:PE X b tb)(hc:PE X c tc)
  (hm:lastMarks [op,op'] [b,c]=false:=by with_unfolding_all rfl):PE X (.Compare a [op,op'] [b,c] pos) (qe r r' ta tb tc):=by
 intro pins s σ H Q I h
 refine Compare_chain (thn (ha pins s σ H _ I h) fun v s1 ⟨x,H1,I1,r1,q1⟩=>chain_link (thn (hb pins s1 σ H1 _ I1 q1) fun u s2 ⟨y,H2,I2,r2,q2⟩=>
  thn (ho pins s2 σ H2 x y v u _ I2 r1 r2 q2) fun d s3 ⟨z,H3,I3,r3,k,e,q3⟩=>?_)) hm
 subst e;cases r3;refine wpAny_truthy_bool ?_
 cases k with
 |false=>exact ite_ff ⟨.bl false,H3,I3,rfl,q3⟩
 |true=>exact ite_tt (chain_last (thn (hc pins s3 σ H3 _ I3 q3) fun w' s4 ⟨z',H4,I4,r4,q4⟩=>ho' pins s4 σ H4 y z' u w' Q I4 r2 r4 q4))
theorem Bf{op op':CmpOp}{r r':R2}(ho:OpR X (compareOp op) r)(ho':OpR X (compareOp op') r')(ha:PE X a ta)(hb:PE X b tb)(hc:PE X c tc)
  (hm:lastMarks [op,op'] [b,c]=false:=by with_unfolding_all rfl):PT X (.Compare a [op,op'] [b,c] pos) (xa (qe r r' ta tb tc)):=by
 intro pins s σ H Q I h
 refine isTrue_chain (thn (ha pins s σ H _ I h) fun v s1 ⟨x,H1,I1,r1,q1⟩=>test_link (thn (hb pins s1 σ H1 _ I1 q1) fun u s2 ⟨y,H2,I2,r2,q2⟩=>
  thn (ho pins s2 σ H2 x y v u _ I2 r1 r2 q2) fun d s3 ⟨z,H3,I3,r3,k,e,q3⟩=>?_)) hm
 subst e;cases r3;refine wpAny_truthy_bool ?_
 cases k with
 |false=>
  obtain⟨k',e',q'⟩:=q3;cases e';exact ite_ff ⟨H3,I3,q'⟩
 |true=>
  refine ite_tt (test_last (thn (hc pins s3 σ H3 _ I3 q3) fun w' s4 ⟨z',H4,I4,r4,q4⟩=>thn (ho' pins s4 σ H4 y z' u w' _ I4 r2 r4 q4) fun d' s5 ⟨z2,H5,I5,r5,k2,e2,q5⟩=>?_));subst e2;cases r5;exact wpAny_truthy_bool ⟨H5,I5,q5⟩
def rf(K:Frag)(x:V)(H:Hp)(k:Bool):Prop:=
 match x with
 |.non=>k=false
 |.bl b=>k=b
 |.int i=>k=(i != 0)
 |.str y=>y.length<=sizeLine/\k=((y.length:Int) != 0)
 |.byt y=>y.size<=sizeLine/\k=((y.size:Int) != 0)
 |.ref p=>(∃xs,SqL K H p xs/\k = !xs.isEmpty)\/(∃xs,SqT K H p xs/\k = !xs.isEmpty)\/∃kvs,H p=some (.dK kvs)/\k = !kvs.isEmpty
 |_=>False
theorem zQ{κ:Type}{kvs:List (κ×V)}{vs:List (κ×Value)}(r:KV kvs vs):(!vs.isEmpty) = !kvs.isEmpty:=by cases r <;> rfl
theorem r8{xs:List V}{its:List Value}(r:Vals xs its):(!its.toArray.isEmpty) = !xs.isEmpty:=by cases r <;> simp
theorem ie:(sizeLine:Nat)<2^63:=by rw[sizeLine_eq];decide
theorem Ei:HQ X (fun x H Q=>∃k,rf X.K x H k/\Q k H):=by
 intro pins s σ H x v Q I rx h;obtain⟨k,e,q⟩:=h;have hl:=ie;have hs:sizeLine=16777216:=sizeLine_eq
 cases x with
 |non=>
  cases rx;have e':k=false:=e;subst e';exact truthy_none ⟨H,I,q⟩
 |bl b=>
  cases rx;have e':k=b:=e;subst e';exact wpAny_truthy_bool ⟨H,I,q⟩
 |int i=>
  obtain⟨t,rfl⟩:=rx;have e':k=(i != 0):=e;subst e';exact PySem.P.truthy_int ⟨H,I,q⟩
 |str y=>
  obtain⟨t,rfl⟩:=rx;obtain⟨hy,e'⟩:y.length<=sizeLine/\k=((y.length:Int) != 0):=e;subst e';exact PySem.P.truthy_str (by omega) ⟨H,I.tok _,q⟩
 |byt y=>
  obtain⟨t,rfl⟩:=rx;obtain⟨hy,e'⟩:y.size<=sizeLine/\k=((y.size:Int) != 0):=e;subst e';exact PySem.W.truthy_bytes (by omega) ⟨H,I.tok _,q⟩
 |ref p=>
  cases rx;have e':(∃xs,SqL X.K H p xs/\k = !xs.isEmpty)\/(∃xs,SqT X.K H p xs/\k = !xs.isEmpty)\/∃kvs,H p=some (.dK kvs)/\k = !kvs.isEmpty:=e
  rcases e' with⟨xs,hx,e'⟩|⟨xs,hx,e'⟩|⟨kvs,hx,e'⟩
  .subst e'
   obtain⟨its,r,pl,hz⟩:=I.list hx;have hlen:=r.length;exact wpAny_truthy_list pl.isList (by simp only[List.size_toArray];omega) ⟨H,I.tok _,by rw[r8 r];exact q⟩
  .subst e'
   obtain⟨its,r,pl,hz⟩:=I.tuple hx;have hlen:=r.length;exact truthy_tuple pl (by simp only[List.size_toArray];omega) ⟨H,I.tok _,by rw[r8 r];exact q⟩
  .subst e'
   obtain⟨hz,hS,vs,r,m⟩:kvs.length<=sizeLine/\(p == sysModules)=false/\∃vs,KV kvs vs/\s.heap.DictOf (bz X.prog X.w) p vs:=I.hok p _ hx;have hlen:kvs.length=vs.length:=Paired.length r;exact wpAny_truthy_dict hS m (by omega) ⟨H,I.tok _,by rw[zQ r];exact q⟩
 |_=>exact(show False from e).elim
theorem Be(ha:PE X a ta)(he:∀whole,isTrue a X.env whole=(do let v ←whole;standAt a.pos;holding [v] (truthy v))) :
  PT X a (fun σ H Q=>ta σ H fun x H'=>∃k,rf X.K x H' k/\Q k H'):=by
 intro pins s σ H Q I h;exact isTrue_plain (thn (ha pins s σ H _ I h) fun v s1 ⟨x,H1,I1,r1,q1⟩=>Ei pins s1 σ H1 x v Q I1 r1 q1) (he _)
theorem op_add_str:OpR X (binaryOp .Add) (fun x y H Q=>∃i j,x=.str i/\y=.str j/\i.length+j.length<=sizeLine/\Q (.str (i++j)) H):=by
 intro pins s σ H x y v u Q I rx ry h;obtain⟨i,j,rfl,rfl,hz,q⟩:=h;obtain⟨t,rfl⟩:=rx;obtain⟨t',rfl⟩:=ry;exact add_str (fun t' tk=>⟨.str (i++j),H,I.tok _,⟨_,rfl⟩,q⟩) hz
theorem vals1{x:V}{us:List Value}(r:Vals [x] us):∃u,us=[u]/\RelV x u:=by
 cases r with
 |cons r1 r2=>cases r2;exact⟨_,rfl,r1⟩
theorem vals2{x y:V}{us:List Value}(r:Vals [x,y] us):∃u w',us=[u,w']/\RelV x u/\RelV y w':=by
 cases r with
 |cons r1 r2=>
  cases r2 with
  |cons r3 r4=>cases r4;exact⟨_,_,rfl,r1,r3⟩
theorem B6:CallR X (.builtin "abs") (fun xs H Q=>∃i,xs=[.int i]/\Q (.int (if i<0 then -i else i)) H):=by
 intro pins s σ H xs us Q I r h;obtain⟨i,rfl,q⟩:=h;obtain⟨u,rfl,t,rfl⟩:=vals1 r;exact call_abs_int fun u tk=>⟨.int (if i<0 then -i else i),H,I.tok _,⟨_,rfl⟩,q⟩
theorem call_int1:CallR X (.type "int") (fun xs H Q=>(∃i,xs=[.int i]/\Q (.int i) H)\/∃k,xs=[.bl k]/\Q (.int (if k then 1 else 0)) H):=by
 intro pins s σ H xs us Q I r h
 rcases h with⟨i,rfl,q⟩|⟨k,rfl,q⟩
 .obtain⟨u,rfl,t,rfl⟩:=vals1 r
  exact call_int_int ⟨.int i,H,I,⟨_,rfl⟩,q⟩
 .obtain⟨u,rfl,r1⟩:=vals1 r
  cases r1;exact call_int_bool ⟨.int (if k then 1 else 0),H,I.tok _,⟨_,rfl⟩,q⟩
theorem zg:CallR X (.type "str") (fun xs H Q=>∃i,xs=[.int i]/\i.natAbs.log2<1920/\Q (.str (toString i)) H):=by
 intro pins s σ H xs us Q I r h;obtain⟨i,rfl,hz,q⟩:=h;obtain⟨u,rfl,t,rfl⟩:=vals1 r;exact PySem.P.str_of_int hz ⟨.str _,H,I.tok _,⟨_,rfl⟩,q⟩
end
structure ObjM(h:Heap)(x dx C:Addr)(mA:Str->Option Value):Prop where
 obj:h.get? x=some (PySem.W.instObj C dx)
 ns:h.Ns1 dx mA
 ne:dx≠x
theorem Aq{h:Heap}{dx:Addr}{mA:Str->Option Value}(n:h.Ns1 dx mA):∃od,h.get? dx=some od/\∀name,PySem.W.lookIn name od=some (mA name):=by
 obtain⟨o,es,ep,ho,hd,hk,_,hm⟩:=n;refine⟨o,ho,fun name=>?_⟩;have e:=hm name;unfold nsFind findBy at e;rw[←Array.find?_toList] at e;unfold PySem.W.lookIn;rw[hd];dsimp only;split
 .rename_i y q
  rw[q] at e;exact congrArg some e
 .rename_i q
  rw[q] at e
  have a:es.toList.any (·.refKey)=false:=by
   rw[List.any_eq_false];intro y hy;obtain⟨z,t,hkey⟩:=hk y (Array.mem_toList_iff.mp hy);simp[DictEntry.refKey,hkey]
  have a':¬es.toList.any (·.refKey)=true:=by rw[a];exact Bool.false_ne_true
  rw[if_neg a'];exact congrArg some e
theorem ObjM.look{h:Heap}{x dx C:Addr}{mA:Str->Option Value}(I:ObjM h x dx C mA):∃od,PySem.W.InstAt h x (PySem.W.instObj C dx) C (some od)/\∀name,PySem.W.lookIn name od=some (mA name):=
 let ⟨od,ho,hl⟩:=Aq I.ns
 ⟨od,⟨I.obj,rfl,rfl,ho⟩,hl⟩
section
variable {prog:Program}{w:World}{A:Around}{E:Value->Shared->Prop}{s:Shared}{K:Frag}{x dx C f:Addr}{mA:Str->Option Value}{name:Str}{v:Value}
end
theorem RelO.some_of{v:V}{o:Option Value}(r:RelO (some v) o):∃u,o=some u/\RelV v u:=by
 cases o with
 |none=>exact(show False from r).elim
 |some u=>exact⟨u,rfl,r⟩
theorem RelO.none_of{o:Option Value}(r:RelO none o):o=none:=by
 cases o with
 |none=>rfl
 |some u=>exact(show False from r).elim
section
variable {P:Program}{w:World}{H H':Hp}{h h':Heap}{a C dx:Addr}{fs fs':List (Str×V)}
theorem Dh(hok:HOk P w H h)(e:H a=some (.ins C dx fs)):∃mA,ObjM h a dx C mA/\(∀f,RelO (fs.lookup f) (mA f))/\PySem.Within mA (fs.map (·.1))/\fs.length<=1000/\H dx=some (.own a):=by
 obtain⟨d,z,ne,ob,mA,n,r,q⟩:=(show ObjOk P w H h a (.ins C dx fs) from hok a _ e);exact⟨mA,⟨ob,n,ne⟩,r,q,z,d⟩
end
structure Cls(K:Frag)(C:Addr):Prop where
 pg:PySem.W.plainGet K C Str.empty=true
 hd:PySem.W.hasDictIn K C=true
 po:PySem.W.plainOver K C=true
 sa:PySem.W.findIn K (.ref C) "__setattr__"=some (some (.builtin "object.__setattr__"))
theorem Cls.get{K:Frag}{C:Addr}(c:Cls K C)(f:Str):PySem.W.plainGet K C f=true:=c.pg
structure Con(K:Frag)(C:Addr)(f:Str)(v:V)(u:Value):Prop where
 at_:PySem.W.findIn K (.ref C) f=some (some u)
 rel:RelV v u
 get:PySem.W.specialIn K u "__get__"=some none
 cp:PySem.W.copiedNames.contains f=false
structure Meth(K:Frag)(C:Addr)(m:Str)(f:Addr):Prop where
 at_:PySem.W.findIn K (.ref C) m=some (some (.ref f))
 fn:PySem.W.isFn K (.ref f)=true
 kp:PySem.W.keepIn K (.ref f)=true
section
variable {X:Cx}{pins:List (Addr×Obj)}{σ:St}{H:Hp}{s:Shared}{a C dx:Addr}{fs:List (Str×V)}{f:Str}{v:V}{A:Around}{E:Value->Shared->Prop}
end
section
variable {X:Cx}{o e value:Expr}{f:Str}{pos pos' tpos:Pos}{ta tv:TE}
end
section
variable {X:Cx}{pins:List (Addr×Obj)}{σ:St}{H:Hp}{s:Shared}{A:Around}{E:Value->Shared->Prop}{Q:Value->Shared->Prop}{c:Value}{b:Bool}
inductive TyOf(K:Frag)(H:Hp):V->Value->Prop where
 |non:TyOf K H .non (.type "NoneType")
 |bl (x:Bool):TyOf K H (.bl x) (.type "bool")
 |int (i:Int):TyOf K H (.int i) (.type "int")
 |str (x:Str):TyOf K H (.str x) (.type "str")
 |flt (x:UInt64):TyOf K H (.flt x) (.type "float")
 |lst {a:Addr}{xs:List V} (e:H a=some (.lst xs)):TyOf K H (.ref a) (.type "list")
 |frz {a:Addr}{o:Obj}{xs:List V} (e:H a=some (.frz o (.lst xs))):TyOf K H (.ref a) (.type "list")
 |tup {a:Addr}{xs:List V} (e:H a=some (.tup xs)):TyOf K H (.ref a) (.type "tuple")
 |dK {a:Addr}{kvs:List (Key×V)} (e:H a=some (.dK kvs)):TyOf K H (.ref a) (.type "dict")
 |dT {a:Addr}{kvs:List (List Key×V)} (e:H a=some (.dT kvs)):TyOf K H (.ref a) (.type "dict")
 |ins {a C dx:Addr}{fs:List (Str×V)} (e:H a=some (.ins C dx fs)) (cl:Cls K C) (ha:PySem.W.findIn K (.ref C) "__class__"=some (some (.builtin "object.__class__")))
   (hn:PySem.W.specialIn K (.builtin "object.__class__") "__get__"=some (some (.builtin "getset_descriptor.__get__"))) (htk:PySem.W.takesIn K (.builtin "object.__class__")=some true)
   (hm:PySem.W.mroIn K C (.type "object")=some true):TyOf K H (.ref a) (.ref C)
theorem ly{x:V}{u t:Value}(I:Inv X pins σ H s)(rx:RelV x u)(ty:TyOf X.K H x t)(e:PySem.W.kitOne X.K t c=some b)(h:∀tk,Q (.bool b) { s with toks:=tk }) :
  wpAny (model X.prog X.w) A (call (.builtin "isinstance") [u,c]) Q E s:=by
 cases ty with
 |non=>cases (show u=Value.none from rx);exact PySem.W.kia_one PySem.W.kitx_none I.kIn True.intro e (fun z=>nomatch z) h
 |bl y=>cases (show u=Value.bool y from rx);exact PySem.W.kia_one PySem.W.kitx_bool I.kIn True.intro e (fun z=>nomatch z) h
 |int i=>obtain⟨t,q⟩:=(show ∃t,u=Value.int i t from rx);cases q;exact PySem.W.kia_one PySem.W.kitx_int I.kIn True.intro e (fun z=>nomatch z) h
 |str y=>obtain⟨t,q⟩:=(show ∃t,u=Value.str y t from rx);cases q;exact PySem.W.kia_one PySem.W.kitx_str I.kIn True.intro e (fun z=>nomatch z) h
 |flt y=>obtain⟨t,q⟩:=(show ∃t,u=Value.float y t from rx);cases q;exact PySem.W.kia_one PySem.W.kitx_float I.kIn True.intro e (fun z=>nomatch z) h
 |@lst a xs ea=>
  cases (show u=Value.ref a from rx);obtain⟨_,_,n,_,h1⟩:=(show ObjOk X.prog X.w H s.heap a (.lst xs) from I.hok a _ ea);exact PySem.W.kia_one PySem.W.kitx_list I.kIn ⟨_,h1,rfl⟩ e (fun z=>nomatch z) h
 |@frz a ob xs ea=>
  cases (show u=Value.ref a from rx);obtain⟨_,_,_,n,_,h1⟩:=(show ObjOk X.prog X.w H s.heap a (.frz ob (.lst xs)) from I.hok a _ ea);exact PySem.W.kia_one PySem.W.kitx_list I.kIn ⟨_,h1,rfl⟩ e (fun z=>nomatch z) h
 |@tup a xs ea=>
  cases (show u=Value.ref a from rx);obtain⟨_,_,_,p⟩:=(show ObjOk X.prog X.w H s.heap a (.tup xs) from I.hok a _ ea);obtain⟨o,h1,h2,_⟩:=p;exact PySem.W.kia_one PySem.W.kitx_tuple I.kIn ⟨o,h1,h2⟩ e (fun z=>nomatch z) h
 |@dK a kvs ea=>
  cases (show u=Value.ref a from rx);obtain⟨_,_,vs,_,p⟩:=(show ObjOk X.prog X.w H s.heap a (.dK kvs) from I.hok a _ ea);obtain⟨o,es,ep,h1,h2,_⟩:=p;exact PySem.W.kia_one PySem.W.kitx_dict I.kIn ⟨o,h1,h2.1⟩ e (fun z=>nomatch z) h
 |@dT a kvs ea=>
  cases (show u=Value.ref a from rx);obtain⟨_,_,xs,_,o,es,ep,h1,h2,_⟩:=(show ObjOk X.prog X.w H s.heap a (.dT kvs) from I.hok a _ ea);exact PySem.W.kia_one PySem.W.kitx_dict I.kIn ⟨o,h1,h2.1⟩ e (fun z=>nomatch z) h
 |@ins a C dx fs ea cl ha hn htk hm=>
  cases (show u=Value.ref a from rx);obtain⟨mA,O,_⟩:=Dh I.hok ea;obtain⟨od,J,_⟩:=O.look;exact PySem.W.kia_one (PySem.W.kitx_own (cl.get _) cl.hd ha hn htk hm) I.kIn J e (fun z=>nomatch z) h
end
structure Room(k:Nat)(A:Around):Prop where
 hd:A.handled=none
 dp:A.depth+3*k+5<recursionLimit
 un:A.units+16*k+200<cLine
 gd:A.guards=some []
theorem Room.mono{j k:Nat}{A:Around}(r:Room k A)(h:j<=k):Room j A:=⟨r.hd,by have:=r.dp;omega,by have:=r.un;omega,r.gd⟩
theorem Room.deeper{k:Nat}{A:Around}(r:Room (k+1) A)(env:Env):Room k (A.deeper env):=⟨r.hd,by have:=r.dp;show A.depth+1+3*k+5<_;omega,by have:=r.un;show A.units+3+16*k+200<_;omega,r.gd⟩
theorem Room.depth{k:Nat}{A:Around}(r:Room k A):A.depth<recursionLimit:=by have:=r.dp;omega
def qT:TA:=fun _ H Q=>Q [] H
def qx(ta:TE)(tr:TA):TA:=fun σ H Q=>ta σ H fun x H1=>tr σ H1 fun xs H2=>Q (x::xs) H2
section
variable {X:Cx}{e:Expr}{es:List Expr}{te:TE}{t:TA}{pos:Pos}
theorem dG:PA X [] qT:=fun _ _ _ _ H Q I h=>Calls.spliced_nil ⟨[],H,I,.nil,h⟩
theorem cW(ha:PE X e te)(hr:PA X es t)(hs:starEach (e::es) X.env=(false,eval e X.env)::starEach es X.env:=by rfl):PA X (e::es) (qx te t):=by
 intro pos pins s σ H Q I h;rw[hs];show wpAny _ _ (spliced ((false,eval e X.env)::backTo pos (starEach es X.env))) _ _ s;refine Calls.spliced_cons (thn (ha pins s σ H _ I h) fun u s1 ⟨x,H1,I1,r1,q1⟩=>?_);exact thn (hr pos pins s1 σ H1 _ I1 q1) fun us s2 ⟨xs,H2,I2,r2,q2⟩=>⟨x::xs,H2,I2,.cons r1 r2,q2⟩
def Hn(t:TA):TE:=fun σ H Q=>t σ H fun xs H1=>xs.length<=sizeLine/\∀p,H1 p=none->Q (.ref p) (upd H1 p (.tup xs))
def Hu(t:TA):TE:=fun σ H Q=>t σ H fun xs H1=>xs.length<=sizeLine/\∀p,H1 p=none->Q (.ref p) (upd H1 p (.lst xs))
theorem EG{x1}(h:PA X es t):PE X (.Tuple es x1 pos) (Hn t):=by
 intro pins s σ H Q I hq;refine wpAny_Tuple_spliced (thn (h pos pins s σ H _ I hq) fun us s1 ⟨xs,H1,I1,r,z,q⟩=>⟨by rw[←r.length];exact z,?_⟩);have hf:H1 s1.heap.objs.size=none:=I1.hok.fresh (Nat.le_refl _);refine⟨.ref s1.heap.objs.size,upd H1 s1.heap.objs.size (.tup xs),I1.laid (t':=s1.toks) (fun b u e=>Heap.get?_push_of_some _ e) (Nat.le_refl _) ?_,rfl,q _ hf⟩;exact⟨z,us,r,⟨_,Heap.get?_push_size _ rfl,rfl,_,rfl⟩⟩
theorem qh(h:PA X es t):PE X (.List es pos) (Hu t):=by
 intro pins s σ H Q I hq;refine wpAny_List_spliced (thn (h pos pins s σ H _ I hq) fun us s1 ⟨xs,H1,I1,r,z,q⟩=>⟨by rw[←r.length];exact z,?_⟩);have hf:H1 s1.heap.objs.size=none:=I1.hok.fresh (Nat.le_refl _);refine⟨.ref s1.heap.objs.size,upd H1 s1.heap.objs.size (.lst xs),I1.laid (t':=s1.toks) (fun b u e=>Heap.get?_push_of_some _ e) (Nat.le_refl _) ?_,rfl,q _ hf⟩;exact⟨z,us,0,r,Heap.get?_push_size _ rfl⟩
end
abbrev Sp:=List V->Hp->VK->XK->Prop
abbrev CXT:=List Env->Hp->Shared->XK->Value->Shared->Prop
structure Env0(P:Program)(w:World)(K:Frag)(mg:Str->Option Value)(base:Heap)(A:Around)(outer:List Env)(s:Shared)(H:Hp):Prop where
 frames:A.frames=some outer
 mod:Mod K mg base
 bs:∀b o,base.get? b=some o->s.heap.get? b=some o/\H b=none
 bsz:base.objs.size<=s.heap.objs.size
 funs:s.heap.FunFrames base outer
 frf:∀b∈frs outer,H b=none
 hok:HOk P w H s.heap
 bare:AllBare s.gens
def CE(outer:List Env)(P:Program)(w:World)(H:Hp)(s:Shared)(Q:VK)(u:Value)(s':Shared):Prop:=∃v H',s'.os=s.os/\AllBare s'.gens/\Un (frs outer) [] H H' s.heap s'.heap/\HOk P w H' s'.heap/\RelV v u/\Q v H'
def CR(CX:CXT)(outer:List Env)(P:Program)(w:World)(H:Hp)(s:Shared)(Q:VK)(E:XK)(r:Result)(s':Shared):Prop:=
 match r with
 |.ok (.ret u)=>CE outer P w H s Q u s'
 |.ok _=>False
 |.error e=>CX outer H s E e s'
structure FnOk(P:Program)(w:World)(K:Frag)(mg:Str->Option Value)(base:Heap)(CX:CXT)(k:Nat)(f:Addr)(fd:FuncData)(ps:List Str)(sp:Sp):Prop where
 len:∀vs H Q E,sp vs H Q E->vs.length=ps.length
 run:∀(A:Around) (outer:List Env) (s:Shared) (H:Hp) (args:Args) (us:List Value) (vs:List V) (Q:VK) (E:XK),Room k A->Env0 P w K mg base A outer s H->BindsTo s fd args (ps.zip us)->Vals vs us->sp vs H Q E ->
  codeAny (model P w) A (.call (.ref f) args) (CR CX outer P w H s Q E) s
section
variable {X:Cx}{pins:List (Addr×Obj)}{σ:St}{H:Hp}{s s':Shared}
theorem Inv.env0(I:Inv X pins σ H s):Env0 X.prog X.w X.K X.mg X.base X.A X.stack s H:=⟨I.ok.frames,I.ok.mod,I.bs,Nat.le_trans I.ok.bsz I.sz,I.stack,I.stkFree,I.hok,I.bare⟩
theorem Inv.after{Q:VK}{u:Value}(I:Inv X pins σ H s)(h:CE X.stack X.prog X.w H s Q u s'):EP X pins σ Q u s':=by
 obtain⟨v,H',os,bare,un,hok,r,q⟩:=h;obtain⟨hh,g,d,t,os'⟩:=s';obtain rfl:os'=s.os:=os;exact⟨v,H',I.call (h':=hh) (g':=g) (d':=d) (t':=t) (ch:=[]) un hok bare (fun b z=>absurd z (by simp)),r,q⟩
end
def xc(sp:Sp)(dvs:List V)(E:XK)(t:TA):TE:=fun σ H Q=>t σ H fun vs H1=>sp (vs++dvs) H1 Q E
def Binds(K:Frag)(fd:FuncData)(ps:List Str)(ds:List Value):Prop:=∀(s:Shared) (us:List Value),K.In s.heap->(us++ds).length=ps.length->BindsTo s fd ⟨us,[]⟩ (ps.zip (us++ds))
theorem Binds.all{K:Frag}{fd:FuncData}{ps:List Str}(h:∀us:List Value,us.length=ps.length->bindArgs fd ⟨us,[]⟩=pure (ps.zip us)):Binds K fd ps []:=fun s us _ hl=>by
 rw[List.append_nil] at hl ⊢;exact .of_eq (h us hl)
def qu(CX:CXT)(X:Cx)(E:XK):Prop:=∀(pins:List (Addr×Obj)) (σ:St) (H:Hp) (s:Shared) (e:Value) (s':Shared),Inv X pins σ H s->CX X.stack H s E e s'->X.xe e s'
section
variable {X:Cx}{CX:CXT}{k:Nat}{f C:Addr}{fd:FuncData}{ps:List Str}{sp:Sp}{dvs:List V}{ds:List Value}{E:XK}{x m:Str}{p pos apos:Pos}{e o:Expr}{es:List Expr}{ta:TE}{t:TA}
theorem Ew{pins:List (Addr×Obj)}{σ:St}{H:Hp}{s:Shared}{Q:VK}{us:List Value}{vs:List V}(F:FnOk X.prog X.w X.K X.mg X.base CX k f fd ps sp)(hr:Room k X.A)(hb:Binds X.K fd ps ds)(hd:Vals dvs ds)(hx:qu CX X E)
  (I:Inv X pins σ H s) (r:Vals vs us) (h:sp (vs++dvs) H Q E):wpAny (model X.prog X.w) X.A (call (.ref f) us) (EP X pins σ Q) X.xe s:=by
 have r2:Vals (vs++dvs) (us++ds):=r.append hd
 have hl:(us++ds).length=ps.length:=by rw[←r2.length];exact F.len _ _ _ _ h
 refine wpAny_call (codeAny_mono (F.run X.A X.stack s H ⟨us,[]⟩ (us++ds) (vs++dvs) Q E hr I.env0 (hb s us I.kIn hl) r2 h) fun r s' hq=>?_)
 cases r with
 |error e=>exact hx pins σ H s e s' I hq
 |ok fl=>
  cases fl with
  |ret u=>exact I.after hq
  |next=>exact False.elim hq
  |brk=>exact False.elim hq
  |cont=>exact False.elim hq
theorem CL(F:FnOk X.prog X.w X.K X.mg X.base CX k f fd ps sp)(hr:Room k X.A)(hg:Gl X x)(hm:X.mg x=some (.ref f))(hk:PySem.W.keepIn X.K (.ref f)=true)(hb:Binds X.K fd ps ds)(hd:Vals dvs ds)(hx:qu CX X E)
  (ha:PA X (e::es) t) (hdb:(x == ("__debug__" : Str))=false:=by decide) (he:starEach (e::es) X.env=(false,eval e X.env)::starEach es X.env:=by rfl) (hpl:(backTo pos (starEach es X.env)).any (·.1)=false:=by rfl) :
  PE X (.Call (.Name x p) (e::es) [] pos) (xc sp dvs E t):=by
 intro pins s σ H Q I h;refine wpAny_Call_Name_kw (uW I hg hm ?_ hdb);refine PySem.W.callWith_K (h₀:=X.base) I.ok.mod.kin hk (thn (ha pos pins s σ H _ I h) fun us s1 ⟨vs,H1,I1,r,q⟩=>⟨I1.kIn,?_⟩) he hpl;exact Ew F hr hb hd hx I1 r q
structure Mk(K:Frag)(C f:Addr):Prop where
 makes:PySem.W.makesIn K C=true
 init:PySem.W.findIn K (.ref C) "__init__"=some (some (.ref f))
 fn:PySem.W.isFn K (.ref f)=true
 kp:PySem.W.keepIn K (.ref C)=true
end
section
variable {X:Cx}{CX:CXT}{k:Nat}{f C:Addr}{fd:FuncData}{ps ks:List Str}{sp:Sp}{E:XK}{x m:Str}{p pos apos kpos:Pos}{e o:Expr}{es:List Expr}{kws:List Keyword}{te ta:TE}{t tk:TA}{nm:Option Str}
structure KBinds(K:Frag)(fd:FuncData)(ps ks:List Str)(g:List Value->List Value->List Value)(gV:List V->List V->List V):Prop where
 to:∀(s:Shared) (us ws:List Value),K.In s.heap->(g us ws).length=ps.length->BindsTo s fd ⟨us,ks.zip ws⟩ (ps.zip (g us ws))
 rel:∀{vs:List V}{us:List Value}{zs:List V}{ws:List Value},Vals vs us->Vals zs ws->Vals (gV vs zs) (g us ws)
variable {g:List Value->List Value->List Value}{gV:List V->List V->List V}
end
structure FnScope(N P:List Str)(sc:Scope):Prop where
 kind:sc.kind=.function
 co:sc.isCoroutine=false
 gen:sc.isGenerator=false
 nd:N.Nodup
 pre:N.take P.length=P
 par:∀x∈P,sc.names.lookup x=some .local\/sc.names.lookup x=some .cell
 nofree:∀y∈sc.names,y.2≠.free
theorem tB{kindOf:Str->Option NameKind}{x:Str}:∀{binds:List (Str×Value)}{m:Str->Option Value},(∀v,(x,v)∉binds)->bindL kindOf binds m x=m x
 |[],_,_=>rfl
 |(n,v)::r,m,h=>by
  unfold bindL;rw[tB fun w hw=>h w (List.mem_cons_of_mem _ hw)];split
  .have:x≠n:=by rintro rfl;exact h v List.mem_cons_self
   simp[this]
  .rfl
theorem tE{kindOf:Str->Option NameKind}{x:Str}:∀{binds:List (Str×Value)}{m:Str->Option Value},(∀v,(x,v)∉binds)->bindC kindOf binds m x=m x
 |[],_,_=>rfl
 |(n,v)::r,m,h=>by
  unfold bindC;rw[tE fun w hw=>h w (List.mem_cons_of_mem _ hw)];split
  .rfl
  .have:x≠n:=by rintro rfl;exact h v List.mem_cons_self
   simp[this]
theorem tD{kindOf:Str->Option NameKind}{x:Str}{v:Value}:∀{P:List Str}{vs:List Value}{i:Nat}{m:Str->Option Value},P.Nodup->P[i]? = some x->vs[i]? = some v->kindOf x=some .local ->
  bindL kindOf (P.zip vs) m x=some v
 |[],_,_,_,_,h,_,_=>by simp at h
 |_::_,[],_,_,_,_,h,_=>by simp at h
 |p::P,w::vs,0,m,nd,h1,h2,hk=>by
  simp at h1 h2;subst h1;subst h2;show bindL kindOf ((p,w)::P.zip vs) m p=_;unfold bindL;rw[tB fun v hv=>(List.nodup_cons.mp nd).1 (List.of_mem_zip hv).1,if_pos hk];simp
 |p::P,w::vs,i+1,m,nd,h1,h2,hk=>by
  show bindL kindOf ((p,w)::P.zip vs) m x=_;unfold bindL;exact tD (i:=i) (List.nodup_cons.mp nd).2 (by simpa using h1) (by simpa using h2) hk
theorem tF{kindOf:Str->Option NameKind}{x:Str}{v:Value}:∀{P:List Str}{vs:List Value}{i:Nat}{m:Str->Option Value},P.Nodup->P[i]? = some x->vs[i]? = some v->kindOf x≠some .local ->
  bindC kindOf (P.zip vs) m x=some v
 |[],_,_,_,_,h,_,_=>by simp at h
 |_::_,[],_,_,_,_,h,_=>by simp at h
 |p::P,w::vs,0,m,nd,h1,h2,hk=>by
  simp at h1 h2;subst h1;subst h2;show bindC kindOf ((p,w)::P.zip vs) m p=_;unfold bindC;rw[tE fun v hv=>(List.nodup_cons.mp nd).1 (List.of_mem_zip hv).1,if_neg hk];simp
 |p::P,w::vs,i+1,m,nd,h1,h2,hk=>by
  show bindC kindOf ((p,w)::P.zip vs) m x=_;unfold bindC;exact tF (i:=i) (List.nodup_cons.mp nd).2 (by simpa using h1) (by simpa using h2) hk
def start(N:List Str)(vs:List V):St:=vs.map some++List.replicate (N.length-vs.length) none
def eX(CX:CXT)(P:Program)(w:World)(K:Frag)(mg:Str->Option Value)(base:Heap)(N:List Str)(qual:Str)(scope:Scope)(f:Addr)(cd:Value)(A:Around)(outer:List Env)(s:Shared)(H:Hp)(E:XK):Cx where
 prog:=P
 w:=w
 K:=K
 mg:=mg
 base:=base
 A:=A.deeper (envOfC qual scope s.heap.objs.size f cd)
 N:=N
 s₀:=s
 H₀:=H
 env:=envOfC qual scope s.heap.objs.size f cd
 outer:=outer
 stack:=envOfC qual scope s.heap.objs.size f cd::outer
 ex:=[]
 calm:=true
 fn:=fun _=>true
 pn:=[]
 xe:=fun e s'=>wpAny (model P w) (A.deeper (envOfC qual scope s.heap.objs.size f cd)) (leaving (envOfC qual scope s.heap.objs.size f cd) e) (fun _ s''=>CX outer H s E e s'') (fun e' s''=>CX outer H s E e' s'') s'
theorem uo{sc:Scope}{n:Nat}{x:Str}(h:sc.names.lookup x=some .cell):∃c,(cellsFrom n sc.names []).lookup x=some c:=by
 have q:=PySem.W.cellsFrom_some sc.names n [] (.inl h);exact Option.isSome_iff_exists.mp q
theorem AE{CX:CXT}{P:Program}{w:World}{K:Frag}{mg:Str->Option Value}{base:Heap}{N ps:List Str}{qual:Str}{scope:Scope}{f:Addr}{cd:Value}{A:Around}{outer:List Env}{s s1:Shared}{H:Hp}{E:XK}{us:List Value}{vs:List V}
  (S:FnScope N ps scope) (hd:A.handled=none) (e0:Env0 P w K mg base A outer s H) (hl:vs.length=ps.length) (r:Vals vs us)
  (x:InCallC s s.heap.objs.size (bindL (envOfC qual scope s.heap.objs.size f cd).kindOf (ps.zip us) fun _=>none) (cellsFrom (s.heap.objs.size+1) scope.names []) (bindC (envOfC qual scope s.heap.objs.size f cd).kindOf (ps.zip us) fun _=>none) s1) :
  Inv (eX CX P w K mg base N qual scope f cd A outer s H E) [] (start N vs) H s1:=by
 have hpl:ps.length<=N.length:=by have:=congrArg List.length S.pre;rw[List.length_take] at this;omega
 obtain⟨h1,tk,rfl,hk⟩:=x.done;have noA:∀b:Addr,b∉(eX CX P w K mg base N qual scope f cd A outer s H E).ex:=fun b z=>absurd (show b∈([]:List Addr) from z) (by simp)
 refine⟨⟨e0.mod,S.kind,rfl,rfl,Nat.le_refl _,fun y z c h1 h2=>?_,fun y hy=>?_,fun y c _ h=>?_,fun _=>hd,Around.frames_deeper e0.frames,.inr ⟨rfl,rfl⟩,fun b z=>absurd z (noA b),e0.bs,e0.bsz,fun b _ _=>noA b,fun b z=>absurd z (noA b),e0.funs,e0.frf⟩,
  rfl,e0.bare,Un.kept hk,⟨_,x.toInCall.ns,fun i y v h1 h2 h3=>?_⟩,fun y c h=>⟨_,x.cell y c h⟩,e0.hok.fresh (Nat.le_refl _),fun y c h=>?_,fun p hp=>absurd (show p∈([]:List (Addr×Obj)) from hp) (by simp),e0.hok.kept hk,?_⟩
 .exact name_of_addr x.apart (PySem.mem_of_lookup h1) (PySem.mem_of_lookup h2)
 .have hy:scope.names.lookup y=some .cell\/scope.names.lookup y=some .free:=hy
  rcases hy with hy|hy
  .exact uo hy
  .exact absurd rfl (S.nofree _ (PySem.mem_of_lookup hy))
 .exact Nat.le_of_lt (x.above y c (PySem.mem_of_lookup h))
 .have hi:i<vs.length:=by
   unfold start at h2
   by_cases hi:i<vs.length
   .exact hi
   .rw[List.getElem?_append_right (by simpa using hi)] at h2
    rw[List.getElem?_replicate] at h2
    split at h2 <;> cases h2
  have ha:vs[i]? = some v:=by
   unfold start at h2;rw[List.getElem?_append_left (by simpa using hi),List.getElem?_map] at h2
   cases e:vs[i]? with
   |none=>rw[e] at h2;cases h2
   |some a=>rw[e] at h2;cases h2;rfl
  obtain⟨u,hu,rv⟩:=r.get ha
  have hp:ps[i]? = some y:=by
   rw[←S.pre,List.getElem?_take_of_lt (by omega)];exact h1
  have ndP:ps.Nodup:=by rw[←S.pre];exact S.nd.sublist (List.take_sublist _ _)
  refine⟨u,rv,?_⟩
  rcases S.par y (List.mem_of_getElem? hp) with k|k
  .exact .inl ⟨k,tD ndP hp hu k⟩
  .obtain⟨c,e⟩:=uo (n:=s.heap.objs.size+1) k
   refine .inr ⟨.inl k,c,e,?_⟩;have q:=x.cell y c e;rw[tF ndP hp hu (by show scope.names.lookup y≠_;rw[k];decide)] at q;exact q
 .exact e0.hok.fresh (Nat.le_of_lt (x.above y c (PySem.mem_of_lookup h)))
 .unfold start
  show _=N.length;rw[List.length_append,List.length_map,List.length_replicate];omega
theorem G4{CX:CXT}{P:Program}{w:World}{K:Frag}{mg:Str->Option Value}{base:Heap}{k:Nat}{f:Addr}{name qual:Str}{params:Arguments}{body:List Stmt}{scope:Scope}{dV kV doc pm cdv ct oc:Value}{an od:Option Addr}
  {osl:Array (Option Value)}{N ps:List Str}{sp:Sp} (lk:K.lookup f=some ⟨oc,od,.func (PySem.W.fnOf name qual params body scope dV kV doc pm an cdv ct),osl⟩) (hcd:PySem.W.codeIn K cdv qual=true) (S:FnScope N ps scope)
  (len:∀vs H Q E,sp vs H Q E->vs.length=ps.length)
  (hbody:∀(A:Around) (outer:List Env) (s:Shared) (H:Hp) (vs:List V) (Q:VK) (E:XK),Room k (A.deeper (envOfC qual scope s.heap.objs.size f cdv))->sp vs H Q E ->
   ∃t,PSs (eX CX P w K mg base N qual scope f cdv A outer s H E) body t/\t { nx:=fun _ H'=>Q .non H',rt:=Q } (start N vs) H) :
  FnOk P w K mg base CX (k+1) f (PySem.W.fnOf name qual params body scope dV kV doc pm an cdv ct) ps sp:=by
 refine⟨len,fun A outer s H args us vs Q E hr e0 hb r hsp=>?_⟩;have hl:=len _ _ _ _ hsp;have KX:K.In s.heap:=e0.mod.kin.keeps fun b o e=>(e0.bs b o e).1;have lim:s.heap.NoLimit:=e0.mod.nolimit.keeps fun b o e=>(e0.bs b o e).1
 have hkind:∀y∈ps.zip us,scope.names.lookup y.1=some .local\/(scope.names.lookup y.1=some .cell/\((cellsFrom (s.heap.objs.size+1) scope.names []).lookup y.1).isSome=true):=fun⟨n,v⟩ hy=>by
  rcases S.par n (List.of_mem_zip hy).1 with q|q
  .exact .inl q
  .exact .inr ⟨q,PySem.W.cellsFrom_some _ _ _ (.inl q)⟩
 refine codeAny_call_function hr.depth (KX _ _ lk) rfl S.co S.gen rfl (PySem.W.codeRec_of KX hcd) (hb _ _ _ _ ?_);refine wpAny_newFunctionEnv_cells S.kind hkind fun env he s1 x=>?_;subst he;refine⟨lim.keeps x.toInCall.keep,codeAny_func ?_⟩;obtain⟨t,ht,hq⟩:=hbody A outer s H vs Q E (hr.deeper _) hsp;have I:Inv (eX CX P w K mg base N qual scope f cdv A outer s H E) [] (start N vs) H s1:=AE S hr.hd e0 hl r x;refine wpAny_mono (ht [] s1 (start N vs) H _ I hq) (fun fl s' hs=>?_) fun e s' hs=>hs
 have fin:∀{σ':St}{H':Hp}{v:V}{u:Value},Inv (eX CX P w K mg base N qual scope f cdv A outer s H E) [] σ' H' s'->RelV v u->Q v H'->CE outer P w H s Q u s':=
  fun {σ' H' v u} J rv q=>⟨v,H',J.os,J.bare,J.base,J.hok,rv,q⟩
 cases fl with
 |ret u=>
  obtain⟨v,σ',H',J,rv,q⟩:=hs;exact fin J rv q
 |next=>
  obtain⟨σ',H',J,q⟩:=hs;exact fin (v:=V.non) (u:=Value.none) J rfl q
 |brk=>
  obtain⟨_,_,_,q⟩:=hs;exact False.elim q
 |cont=>
  obtain⟨_,_,_,q⟩:=hs;exact False.elim q
section
variable {X:Cx}{x:Str}{p pos:Pos}{e:Expr}{es:List Expr}{t:TA}{id T:String}{r:List V->Hp->VK->Prop}
def tCB(r:List V->Hp->VK->Prop)(t:TA):TE:=fun σ H Q=>t σ H fun vs H1=>r vs H1 Q
theorem tT(hc:CallR X (.builtin id) r)(hg:Gl X x)(hm:X.mg x=none)(hv:bootBuiltins x=some (.builtin id))(ha:PA X (e::es) t)(hn:x≠"__name__":=by decide)(hdb:(x == ("__debug__" : Str))=false:=by decide)
  (he:starEach (e::es) X.env=(false,eval e X.env)::starEach es X.env:=by rfl) (hpl:(backTo pos (starEach es X.env)).any (·.1)=false:=by rfl):PE X (.Call (.Name x p) (e::es) [] pos) (tCB r t):=by
 intro pins s σ H Q I h;refine wpAny_Call_Name_kw (ja I hg hm hv ?_ hn hdb);exact PyProof.Rows.callWith_builtin1 (thn (ha pos pins s σ H _ I h) fun us s1 ⟨vs,H1,I1,r1,q1⟩=>hc pins s1 σ H1 vs us Q I1 r1 q1) he hpl
theorem lu(hc:CallR X (.type T) r)(hg:Gl X x)(hm:X.mg x=none)(hv:bootBuiltins x=some (.type T))(ha:PA X (e::es) t)(hn:x≠"__name__":=by decide)(hdb:(x == ("__debug__" : Str))=false:=by decide)
  (he:starEach (e::es) X.env=(false,eval e X.env)::starEach es X.env:=by rfl) (hpl:(backTo pos (starEach es X.env)).any (·.1)=false:=by rfl):PE X (.Call (.Name x p) (e::es) [] pos) (tCB r t):=by
 intro pins s σ H Q I h;refine wpAny_Call_Name_kw (ja I hg hm hv ?_ hn hdb);exact PyProof.Rows.callWith_type1 (thn (ha pos pins s σ H _ I h) fun us s1 ⟨vs,H1,I1,r1,q1⟩=>hc pins s1 σ H1 vs us Q I1 r1 q1) he hpl
end
end L2
namespace HT
open PySem PyProof.Rows
section
open PySem.SeqAt
open PySem.AutoSeq1 (wpAny_loadPart')
open PySem.MeetsSeq PySem.MeetsSeq2 PySem.MeetsSeq3
end
section
variable {prog:Program}{w:World}{A:Around}{E:Value->Shared->Prop}{s:Shared}
theorem DQ{t b:Addr}{vs ws:List Value}{Q:Value->Shared->Prop}(ht:IsTup s.heap t vs.toArray)(hb:IsTup s.heap b ws.toArray)(hv:vs≠[])
  (h1:ws=[]->Q (.ref t) s) (h2:ws≠[]->Q (.ref s.heap.objs.size) { s with heap:=s.heap.push { cls:=.type "tuple",data:=.seq (vs++ws).toArray } })
  (hsz:vs.length+ws.length<=sizeLine):wpAny (model prog w) A (binaryOp .Add (.ref t) (.ref b)) Q E s:=by
 obtain⟨⟨cls,dd,data,sl⟩,ho,hc,n,hd⟩:=id ht;obtain⟨⟨cls2,dd2,data2,sl2⟩,ho2,hc2,n2,hd2⟩:=id hb;simp only at hc hd hc2 hd2;subst hc hd hc2 hd2
 have e:vs.toArray++ws.toArray=(vs++ws).toArray:=by simp
 by_cases hw:ws=[]
 .exact concat_meets ⟨_,ho,rfl⟩ ⟨_,ho2,rfl⟩ noFill_tuple_add seq_tuple_add PySem.F.slot_tuple_add PySem.F.entry_tuple_add (PySem.F.args_tuple_add_2 _ _)
   (tuple_addW1 t b vs.toArray ws.toArray n n2 dd dd2 sl sl2 (by simpa using hv) (by simp[hw])) ⟨ho,ho2,h1 hw⟩
 .refine concat_meets ⟨_,ho,rfl⟩ ⟨_,ho2,rfl⟩ noFill_tuple_add seq_tuple_add PySem.F.slot_tuple_add PySem.F.entry_tuple_add (PySem.F.args_tuple_add_2 _ _)
   (tuple_addW2 t b vs.toArray ws.toArray n n2 dd dd2 sl sl2 (by simpa using hv) (by simpa using hw) (by rw[List.size_toArray,List.size_toArray];exact hsz)) ⟨ho,ho2,?_⟩
  rw[e];exact h2 hw
def sIx(n d:Nat):Option Int->Nat
 |none=>d
 |some v=>if v<0 then (v+(n:Int)).toNat else min v.toNat n
theorem uD(n d k:Nat):sIx n d (some (k:Int))=min k n:=by
 show (if (k:Int)<0 then ((k:Int)+(n:Int)).toNat else min (k:Int).toNat n)=min k n;rw[if_neg (by omega),Int.toNat_natCast]
theorem Eu(n d:Nat)(hd:d<=n)(o:Option Int):sIx n d o<=n:=by
 cases o with
 |none=>exact hd
 |some v=>
  show (if v<0 then (v+(n:Int)).toNat else min v.toNat n)<=n
  by_cases hv:v<0
  .rw[if_pos hv];omega
  .rw[if_neg hv];exact Nat.min_le_right _ _
theorem vG(v:Int)(n d:Nat):(if v<0 then max (v+(n:Int)) 0 else min v (n:Int))=((sIx n d (some v):Nat):Int):=by
 show (if v<0 then max (v+(n:Int)) 0 else min v (n:Int))=(((if v<0 then (v+(n:Int)).toNat else min v.toNat n):Nat):Int)
 by_cases hv:v<0
 .simp only[if_pos hv];omega
 .simp only[if_neg hv];omega
theorem z8(lo hi:Option Int)(n:Nat):Builtin.Slice.sliceAdjust lo hi 1 (n:Int)=(((sIx n 0 lo:Nat):Int),((sIx n n hi:Nat):Int)):=by
 have h1:¬((1:Int)<0):=by omega
 unfold Builtin.Slice.sliceAdjust;simp only[h1,if_false];refine Prod.ext ?_ ?_
 .cases lo with
  |none=>rfl
  |some v=>exact vG v n 0
 .cases hi with
  |none=>rfl
  |some v=>exact vG v n n
theorem zH(i j:Nat):Builtin.Slice.slicePlaces (i:Int) (j:Int) 1=j-i:=by
 unfold Builtin.Slice.slicePlaces
 have h1:(1:Int)>0:=by omega
 simp only[h1,if_true,Int.ediv_one]
 split <;> omega
theorem rQ{v:Value}{o:Option Int}{Q:Option Int->Shared->Prop}(p:IsPart v o)(h:Q o s):wpAny (model prog w) A (Builtin.Slice.slicePartIndex v) Q E s:=by
 cases p with
 |none=>exact slicePart_none h
 |int i t=>exact slicePart_int h
theorem rq{sl:Addr}{vl vu:Value}{lo hi:Option Int}{n:Nat}{Q:Int×Int×Nat->Shared->Prop}(hs:s.heap.IsSliceOf sl vl vu .none)(pl:IsPart vl lo)(pu:IsPart vu hi)
  (h:Q (((sIx n 0 lo:Nat):Int),1,sIx n n hi-sIx n 0 lo) s):wpAny (model prog w) A (Builtin.Slice.sliceApplied (.ref sl) (pure (n:Int))) Q E s:=by
 obtain⟨os,hos,hcs,hds⟩:=id hs;unfold Builtin.Slice.sliceApplied Builtin.Slice.sliceFields;refine wpAny_bind (wpAny_bind (wpAny_field hos hds (x:=vl) rfl (wpAny_bind (wpAny_field hos hds (x:=vu) rfl (wpAny_bind (wpAny_field hos hds (x:=.none) rfl (wpAny_pure ?_)))))));refine wpAny_bind (slicePart_none ?_);show wpAny _ _ (if ((1:Int) == 0)=true then _ else _) _ _ s;rw[if_neg (by decide)];refine wpAny_bind (rQ pl (wpAny_bind (rQ pu (wpAny_bind (wpAny_pure ?_)))));show wpAny _ _ (match Builtin.Slice.sliceAdjust lo hi 1 (n:Int) with|(lo,hi)=>pure (lo,(1:Int),Builtin.Slice.slicePlaces lo hi 1)) _ _ s;rw[z8 lo hi n];show wpAny _ _ (pure (((sIx n 0 lo:Nat):Int),(1:Int),Builtin.Slice.slicePlaces ((sIx n 0 lo:Nat):Int) ((sIx n n hi:Nat):Int) 1)) _ _ s;rw[zH];exact wpAny_pure h
theorem Bh(xs:Array Value)(i k:Nat):((List.range k).filterMap fun(m:Nat)=>xs[((i:Int)+(m:Int)*1).toNat]?).toArray=((xs.toList.drop i).take k).toArray:=by
 have e:(fun(m:Nat)=>xs[((i:Int)+(m:Int)*1).toNat]?)=fun m=>xs[i+m]?:=by
  funext m
  have:((i:Int)+(m:Int)*1).toNat=i+m:=by omega
  rw[this]
 rw[e];have:=pick_run xs i k;rw[List.filterMap_map] at this;have e2:((fun x=>xs[x]?) ∘ fun x=>i+x)=fun m=>xs[i+m]?:=rfl;rw[e2] at this;rw[this]
theorem yB{t sl:Addr}{items:Array Value}{vl vu:Value}{lo hi:Option Int}{Q:Value->Shared->Prop}(ht:IsTup s.heap t items)(hs:s.heap.IsSliceOf sl vl vu .none)(pl:IsPart vl lo)(pu:IsPart vu hi)
  (hw:¬(sIx items.size 0 lo=0/\sIx items.size items.size hi=items.size))
  (h:Q (.ref s.heap.objs.size) { s with heap:=s.heap.push { cls:=.type "tuple",data:=.seq ((items.toList.drop (sIx items.size 0 lo)).take (sIx items.size items.size hi-sIx items.size 0 lo)).toArray } })
  (hsz:items.size<=sizeLine):wpAny (model prog w) A (getItem (.ref t) (.ref sl)) Q E s:=by
 have htake:sizeOk (.seq ((items.toList.drop (sIx items.size 0 lo)).take (sIx items.size items.size hi-sIx items.size 0 lo)).toArray):=by
  show ((items.toList.drop (sIx items.size 0 lo)).take (sIx items.size items.size hi-sIx items.size 0 lo)).toArray.size<=sizeLine;rw[List.size_toArray,List.length_take,List.length_drop,Array.length_toList];omega
 have hj:sIx items.size items.size hi<=items.size:=Eu _ _ (Nat.le_refl _) hi;obtain⟨os,hos,hcs,hds⟩:=id hs;have hTs:s.TypeIs (.ref sl) "slice":=⟨os,hos,hcs⟩;unfold getItem
 try with_reducible refine wpAny_holding ?_
 first|refine wpAny_bind (wpAny_pure ?_)|skip
 refine wpAny_bind (wpAny_sequenceKey ht.typeIs (by decide) ?_)
 refine wpAny_bind (wpAny_callSpecial?_slot (name:=Str.ofString "__getitem__") ht.typeIs PyProof.Rows.slot_tuple_getitem
  (wpAny_call_entry PyProof.Rows.slot_tuple_getitem ht.typeIs entry_tuple_getitem ?_ (args_tuple_getitem _ _)))
 show wpAny _ _ (Builtin.Tuple.tupleItemsOf (.ref t) >>= _) _ _ s;refine wpAny_bind (tupleItemsOf_ ht ?_);refine wpAny_bind (wpAny_typeOf hTs ?_);rw[if_pos (by decide)];refine wpAny_bind (rq hs pl pu ?_)
 have hno:¬((((sIx items.size 0 lo:Nat):Int) == 0&&(1:Int) == 1&&(sIx items.size items.size hi-sIx items.size 0 lo) == items.size)=true):=by
  intro q;rw[Bool.and_eq_true,Bool.and_eq_true] at q;have q1:((sIx items.size 0 lo:Nat):Int)=0:=eq_of_beq q.1.1;have q2:sIx items.size items.size hi-sIx items.size 0 lo=items.size:=eq_of_beq q.2;exact hw ⟨by omega,by omega⟩
 show wpAny _ _ (if (((sIx items.size 0 lo:Nat):Int) == 0&&(1:Int) == 1&&(sIx items.size items.size hi-sIx items.size 0 lo) == items.size)=true then _ else _) _ _ s;rw[if_neg hno,Bh]
 first
  |exact wpAny_bind (m:=Builtin.Tuple.tupleExact _) (wpAny_newObj_type (wpAny_pure ⟨_,rfl,wpAny_pure h⟩) htake)
  |exact wpAny_bind (m:=Builtin.Tuple.tupleExact _) (wpAny_newObj_type (wpAny_bind (wpAny_pure (wpAny_pure ⟨_,rfl,wpAny_pure h⟩))) htake)
  |exact wpAny_bind (wpAny_bind (m:=Builtin.Tuple.tupleExact _) (wpAny_newObj_type (wpAny_pure (wpAny_pure ⟨_,rfl,wpAny_pure h⟩)) htake))
  |exact wpAny_bind (wpAny_bind (m:=Builtin.Tuple.tupleExact _) (wpAny_newObj_type (wpAny_pure ⟨_,rfl,wpAny_pure h⟩) htake))
end
end HT
namespace L2
open PySem PySem.Spec PyProof.Rows
abbrev TO:=St->Hp->(Option Int->Hp->Prop)->Prop
def PO(X:Cx)(e:Option Expr)(t:TO):Prop:=
 ∀(pins:List (Addr×Obj)) (s:Shared) (σ:St) (H:Hp) (Q:Option Int->Hp->Prop),Inv X pins σ H s->t σ H Q ->
  wpAny (model X.prog X.w) X.A (evalPart e X.env) (fun u s'=>∃o H',Inv X pins σ H' s'/\IsPart u o/\Q o H') X.xe s
def Ck:TO:=fun _ H Q=>Q none H
def F5(t:TE):TO:=fun σ H Q=>t σ H fun x H1=>∃i,x=.int i/\Q (some i) H1
section
variable {X:Cx}{e:Expr}{te:TE}{lo hi:Option Expr}{tl th:TO}{pos p2:Pos}
theorem CH:PO X none Ck:=by
 intro pins s σ H Q I h;rw[evalPart_none];exact wpAny_pure ⟨none,H,I,.none,h⟩
theorem CG(h:PE X e te):PO X (some e) (F5 te):=by
 intro pins s σ H Q I hw;rw[evalPart_some];refine thn (h pins s σ H _ I hw) fun u s1 ⟨x,H1,I1,r1,q1⟩=>?_;obtain⟨i,rfl,q⟩:=q1;obtain⟨t,rfl⟩:=r1;exact⟨some i,H1,I1,.int i t,q⟩
def SlR(X:Cx)(r:V->Option Int->Option Int->Hp->VK->Prop):Prop:=
 ∀(pins:List (Addr×Obj)) (s:Shared) (σ:St) (H:Hp) (x:V) (v vl vu:Value) (lo hi:Option Int) (sl:Addr) (Q:VK),Inv X pins σ H s->RelV x v->s.heap.IsSliceOf sl vl vu .none->IsPart vl lo->IsPart vu hi->r x lo hi H Q ->
  ∃T id,typeLookup (.type T) "__getitem__"=pure (some (.builtin id))/\s.TypeIs v T/\wpAny (model X.prog X.w) X.A (getItem v (.ref sl)) (EP X pins σ Q) X.xe s
theorem SlR.or{r r':V->Option Int->Option Int->Hp->VK->Prop}(h:SlR X r)(h':SlR X r'):SlR X (fun x lo hi H Q=>r x lo hi H Q\/r' x lo hi H Q):=by
 intro pins s σ H x v vl vu lo hi sl Q I rx hs pl pu q
 rcases q with q|q
 .exact h pins s σ H x v vl vu lo hi sl Q I rx hs pl pu q
 .exact h' pins s σ H x v vl vu lo hi sl Q I rx hs pl pu q
def tSl(r:V->Option Int->Option Int->Hp->VK->Prop)(te:TE)(tl th:TO):TE:=fun σ H Q=>te σ H fun x H1=>tl σ H1 fun l H2=>th σ H2 fun u H3=>r x l u H3 Q
theorem Bm{r:V->Option Int->Option Int->Hp->VK->Prop}(hr:SlR X r)(he:PE X e te)(hl:PO X lo tl)(hu:PO X hi th):PE X (.Subscript e (.Slice lo hi none p2) pos) (tSl r te tl th):=by
 intro pins s σ H Q I h;refine Subscript_ (thn (he pins s σ H _ I h) fun v s1 ⟨x,H1,I1,r1,q1⟩=>?_);refine wpAny_Slice (thn (hl pins s1 σ H1 _ I1 q1) fun vl s2 ⟨l,H2,I2,pl,q2⟩=>thn (hu pins s2 σ H2 _ I2 q2) fun vu s3 ⟨u,H3,I3,pu,q3⟩=>?_);rw[evalPart_none];refine wpAny_pure ?_;have I4:Inv X pins σ H3 { s3 with heap:=s3.heap.push { cls:=.type "slice",data:=.fields #[vl,vu,.none] } }:=I3.kept (t':=s3.toks) fun b ob q=>Heap.get?_push_of_some _ q;obtain⟨T,id,hT,ht,hg⟩:=hr pins { s3 with heap:=s3.heap.push { cls:=.type "slice",data:=.fields #[vl,vu,.none] } } σ H3 x v vl vu l u s3.heap.objs.size Q I4 r1 (Heap.IsSliceOf.new ..) pl pu q3;show wpAny (model X.prog X.w) X.A (subscriptTail e (.Slice lo hi none p2) v (.ref s3.heap.objs.size)) (EP X pins σ Q) X.xe { s3 with heap:=s3.heap.push { cls:=.type "slice",data:=.fields #[vl,vu,.none] } };exact tail_any (ops:=[.ref s3.heap.objs.size,v]) ht hT hg (by with_unfolding_all rfl)
def gj(xs:List V)(lo hi:Option Int):List V:=(xs.drop (HT.sIx xs.length 0 lo)).take (HT.sIx xs.length xs.length hi-HT.sIx xs.length 0 lo)
theorem rM(xs:List V)(lo hi:Option Int):(gj xs lo hi).length<=xs.length:=by
 unfold gj;rw[List.length_take,List.length_drop];omega
def HA(K:Frag):V->Option Int->Option Int->Hp->VK->Prop:=fun x lo hi H Q=>∃a xs,x=.ref a/\SqT K H a xs /\
 ¬(HT.sIx xs.length 0 lo=0/\HT.sIx xs.length xs.length hi=xs.length)/\∀p,H p=none->Q (.ref p) (upd H p (.tup (gj xs lo hi)))
theorem Er:SlR X (HA X.K):=by
 intro pins s σ H x v vl vu lo hi sl Q I rx hs pl pu h;obtain⟨a,xs,rfl,hx,hw,q⟩:=h;cases rx;obtain⟨its,r,ht,hz⟩:=I.tuple hx
 have hlen:its.toArray.size=xs.length:=by rw[List.size_toArray];exact r.length.symm
 refine⟨"tuple",_,PyProof.Rows.slot_tuple_getitem.lookup,ht.typeIs,?_⟩;refine HT.yB ht hs pl pu (by rw[hlen];exact hw) ?_ (by rw[hlen];exact hz);rw[hlen];refine⟨.ref s.heap.objs.size,_,I.laid (t':=s.toks) (o:=.tup (gj xs lo hi)) (fun b ob q=>Heap.get?_push_of_some _ q) (Nat.le_refl _) ?_,rfl,q _ (I.hok.fresh (Nat.le_refl _))⟩;exact⟨Nat.le_trans (rM xs lo hi) hz,_,(r.drop (HT.sIx xs.length 0 lo)).take (HT.sIx xs.length xs.length hi-HT.sIx xs.length 0 lo),IsTup.new _ _⟩
def Gf(K:Frag):R2:=fun x y H Q=>∃a b xs ys,x=.ref a/\y=.ref b/\SqT K H a xs/\SqT K H b ys/\xs≠[]/\xs.length+ys.length<=sizeLine /\
 (ys=[]->Q (.ref a) H)/\(ys≠[]->∀p,H p=none->Q (.ref p) (upd H p (.tup (xs++ys))))
theorem Vals.nil_iff{xs:List V}{us:List Value}(r:Vals xs us):us=[]↔xs=[]:=by
 cases r with
 |nil=>simp
 |cons _ _=>simp
theorem CP:OpR X (binaryOp .Add) (Gf X.K):=by
 intro pins s σ H x y v u Q I rx ry h;obtain⟨a,b,xs,ys,rfl,rfl,ha,hb,hx,hz,q1,q2⟩:=h;cases rx;cases ry;obtain⟨its,r1,p1,_⟩:=I.tuple ha;obtain⟨its2,r2,p2,_⟩:=I.tuple hb;refine HT.DQ p1 p2 (fun z=>hx (r1.nil_iff.mp z)) (fun z=>⟨.ref a,H,I,rfl,q1 (r2.nil_iff.mp z)⟩) (fun z=>?_) (by rw[←r1.length,←r2.length];exact hz);refine⟨.ref s.heap.objs.size,_,I.laid (t':=s.toks) (o:=.tup (xs++ys)) (fun b ob q=>Heap.get?_push_of_some _ q) (Nat.le_refl _) ?_,rfl,q2 (fun w=>z (r2.nil_iff.mpr w)) _ (I.hok.fresh (Nat.le_refl _))⟩;exact⟨by rw[List.length_append];exact hz,_,r1.append r2,IsTup.new _ _⟩
end
def ixN(n:Nat)(i:Int):Option Nat:=if 0<=i then (if i<n then some i.toNat else none) else if -(n:Int)<=i then some (i+n).toNat else none
def atI{α:Type}(xs:List α)(i:Int):Option α:=(ixN xs.length i).bind fun j=>xs[j]?
theorem u5{n:Nat}{i:Int}{j:Nat}(h:ixN n i=some j):seqIndex? i n=some j/\j<n/\-(n:Int)<=i/\i<n:=by
 unfold ixN at h
 by_cases h0:0<=i
 .rw[if_pos h0] at h
  by_cases h1:i<n
  .rw[if_pos h1] at h
   have e:i.toNat=j:=Option.some.inj h;exact⟨by rw[seqIndex_of h0 h1,e],by omega,by omega,h1⟩
  .rw[if_neg h1] at h;cases h
 .rw[if_neg h0] at h
  by_cases h1 : -(n:Int)<=i
  .rw[if_pos h1] at h
   have e:(i+n).toNat=j:=Option.some.inj h;exact⟨by rw[seqIndex_neg (by omega) h1,e],by omega,h1,by omega⟩
  .rw[if_neg h1] at h;cases h
theorem p7{α:Type}{xs:List α}{i:Int}{v:α}(h:atI xs i=some v):∃j,seqIndex? i xs.length=some j/\xs[j]? = some v/\j<xs.length/\-(xs.length:Int)<=i/\i<xs.length:=by
 unfold atI at h
 cases e:ixN xs.length i with
 |none=>rw[e] at h;cases h
 |some j=>
  rw[e] at h;obtain⟨h1,h2,h3,h4⟩:=u5 e;exact⟨j,h1,h,h2,h3,h4⟩
theorem DX{α:Type}{xs:List α}{j:Nat}{v:α}(h:xs[j]? = some v):atI xs (j:Int)=some v:=by
 have hj:j<xs.length:=(List.getElem?_eq_some_iff.mp h).1
 have e:ixN xs.length (j:Int)=some j:=by
  unfold ixN;rw[if_pos (by omega),if_pos (by omega)];simp
 unfold atI;rw[e];exact h
def vH(b:Expr):Prop:=∀o i,subscripted b false o i=operate [o,i] (getItem o i)
def IxR(X:Cx)(r:R2):Prop:=
 ∀(value slice:Expr) (pins:List (Addr×Obj)) (s:Shared) (σ:St) (H:Hp) (x y:V) (v u:Value) (Q:VK),Inv X pins σ H s->RelV x v->RelV y u->r x y H Q ->
  subscripted slice false v u=operate [v,u] (getItem v u)->wpAny (model X.prog X.w) X.A (subscriptTail value slice v u) (EP X pins σ Q) X.xe s
def MtR(X:Cx)(id:String)(r:V->List V->Hp->VK->Prop):Prop:=
 ∀(pins:List (Addr×Obj)) (s:Shared) (σ:St) (H:Hp) (x:V) (xs:List V) (v:Value) (us:List Value) (Q:VK),Inv X pins σ H s->RelV x v->Vals xs us->r x xs H Q ->
  wpAny (model X.prog X.w) X.A (call (.builtin id) (v::us)) (EP X pins σ Q) X.xe s
section
variable {X:Cx}{a b:Expr}{ta tb:TE}{pos:Pos}
theorem IxR.or{r r':R2}(h:IxR X r)(h':IxR X r'):IxR X (fun x y H Q=>r x y H Q\/r' x y H Q):=by
 intro value slice pins s σ H x y v u Q I rx ry q hs
 rcases q with q|q
 .exact h value slice pins s σ H x y v u Q I rx ry q hs
 .exact h' value slice pins s σ H x y v u Q I rx ry q hs
theorem MtR.or{id:String}{r r':V->List V->Hp->VK->Prop}(h:MtR X id r)(h':MtR X id r'):MtR X id (fun x xs H Q=>r x xs H Q\/r' x xs H Q):=by
 intro pins s σ H x xs v us Q I rx rs q
 rcases q with q|q
 .exact h pins s σ H x xs v us Q I rx rs q
 .exact h' pins s σ H x xs v us Q I rx rs q
theorem Gq{r:R2}(hr:IxR X r)(ha:PE X a ta)(hb:PE X b tb)(hs:vH b):PE X (.Subscript a b pos) (tOp r ta tb):=by
 intro pins s σ H Q I h;exact Subscript_ (qZ ha hb I h fun v u s2 x y H2 I2 rx ry q=>hr a b pins s2 σ H2 x y v u Q I2 rx ry q (hs _ _))
def yd(K:Frag):R2:=fun x y H Q=>∃p xs i v,x=.ref p/\y=.int i/\SqL K H p xs/\atI xs i=some v/\Q v H
def yb(K:Frag):R2:=fun x y H Q=>∃p xs i v,x=.ref p/\y=.int i/\SqT K H p xs/\atI xs i=some v/\Q v H
def yc:R2:=fun x y H Q=>∃z i c,x=.str z/\y=.int i/\z.length<=sizeLine/\atI z.cps.toList i=some c/\Q (.str ⟨#[c]⟩) H
theorem ix_list:IxR X (yd X.K):=by
 intro value slice pins s σ H x y v u Q I rx ry h hs;obtain⟨p,xs,i,z,rfl,rfl,hq,he,q⟩:=h;cases rx;obtain⟨t,rfl⟩:=ry;obtain⟨its,r,pl,hz⟩:=I.list hq;obtain⟨j,h1,h2,h3,h4,h5⟩:=p7 he;obtain⟨w,ew,rw'⟩:=r.get h2;have hl:=r.length;have hn:=ie;have fin:EP X pins σ Q w s:=⟨z,H,I,rw',q⟩
 by_cases h0:0<=i
 .have hj:i.toNat=j:=by
   rw[seqIndex_of h0 h5] at h1;exact Option.some.inj h1
  exact item_listR pl.isList h0 (by omega) (by rw[hj];simpa using ew) fin hs
 .have hj:(i+(its.toArray.size:Int)).toNat=j:=by
   rw[seqIndex_neg (by omega) h4] at h1;rw[List.size_toArray,←hl];exact Option.some.inj h1
  exact subscriptTail_builtinR (x:=w) pl.isList.typeIs slot_list_getitem.lookup
   (wpAny_getItem_list_neg (Q:=fun r s'=>r=w/\EP X pins σ Q r s') pl.isList (by omega) (by rw[List.size_toArray] <;> omega) (by omega) (by rw[hj];simpa using ew) ⟨rfl,fin⟩) hs
theorem ix_tup:IxR X (yb X.K):=by
 intro value slice pins s σ H x y v u Q I rx ry h hs;obtain⟨p,xs,i,z,rfl,rfl,hq,he,q⟩:=h;cases rx;obtain⟨t,rfl⟩:=ry;obtain⟨its,r,pl,hz⟩:=I.tuple hq;obtain⟨j,h1,h2,h3,h4,h5⟩:=p7 he;obtain⟨w,ew,rw'⟩:=r.get h2;have hl:=r.length;have hn:=ie;have fin:EP X pins σ Q w s:=⟨z,H,I,rw',q⟩
 exact subscriptTail_builtinR (x:=w) pl.typeIs slot_tuple_getitem.lookup
  (getItem_tuple (j:=j) (Q:=fun r s'=>r=w/\EP X pins σ Q r s') pl (by omega) (by omega) (by rw[List.size_toArray,←hl];exact h1) (by simpa using ew) ⟨rfl,fin⟩) hs
theorem Fd:IxR X yc:=by
 intro value slice pins s σ H x y v u Q I rx ry h hs;obtain⟨z,i,c,rfl,rfl,hz,he,q⟩:=h;obtain⟨t,rfl⟩:=rx;obtain⟨t',rfl⟩:=ry;obtain⟨j,h1,h2,h3,h4,h5⟩:=p7 he
 have hl:z.cps.toList.length=z.length:=by simp[Str.length]
 rw[hl] at h1 h4 h5;have hn:=ie
 exact tail_any (typeIs_str s z t) slot_str_getitem.lookup (getItem_str (c:=c) (by
  have e1:decide (i < -(2^63:Int))=false:=decide_eq_false (by omega);have e2:decide (i>=2^63)=false:=decide_eq_false (by omega)
  rw[e1,e2,Bool.or_false]) (by rw[h1];simpa using h2) ⟨.str ⟨#[c]⟩,H,I.tok _,⟨_,rfl⟩,q⟩) hs
def rIx(K:Frag):R2:=fun x y H Q=>yd K x y H Q\/yb K x y H Q\/yc x y H Q
theorem Fe:IxR X (rIx X.K):=ix_list.or (ix_tup.or Fd)
theorem zO(its:List Value)(n j:Nat)(u:Value):Obj.mapSeq (·.setIfInBounds j u) { cls:=.type "list",data:=.seq its.toArray n } = { cls:=.type "list",data:=.seq (its.set j u).toArray n }:=by simp[Obj.mapSeq]
theorem Inv.lst{pins:List (Addr×Obj)}{σ:St}{H:Hp}{s:Shared}{p:Addr}{xs:List V}(I:Inv X pins σ H s)(h:H p=some (.lst xs)) :
  ∃(its:List Value) (n:Nat),Vals xs its/\s.heap.get? p=some { cls:=.type "list",data:=.seq its.toArray n }/\xs.length<=sizeLine:=by
 obtain⟨z,its,n,r,e⟩:=I.hok p _ h;exact⟨its,n,r,e,z⟩
theorem Inv.lstUpd{pins:List (Addr×Obj)}{σ:St}{H:Hp}{s:Shared}{p:Addr}{xs ys:List V}{its its':List Value}{n n':Nat}{f:Obj->Obj}(I:Inv X pins σ H s)(h:H p=some (.lst xs))
  (ho:s.heap.get? p=some { cls:=.type "list",data:=.seq its.toArray n }) (hf:f { cls:=.type "list",data:=.seq its.toArray n } = { cls:=.type "list",data:=.seq its'.toArray n' }) (r:Vals ys its') (hz:ys.length<=sizeLine) (t:Nat) :
  Inv X pins σ (upd H p (.lst ys)) { s with heap:=s.heap.update p f,toks:=t }:=by
 have e:(s.heap.update p f).get? p=some { cls:=.type "list",data:=.seq its'.toArray n' }:=by
  rw[Heap.get?_update_self f ho (by rw[hf] <;> rfl),hf]
 refine I.write (x:=p) (e:=p) (by rw[h];trivial) (.inl rfl) (fun b u hb q=>(Heap.get?_update_other _ _ (Ne.symm hb)).trans q) ⟨_,e⟩ ?_;exact⟨hz,its',n',r,e⟩
def Ge:V->V->V->Hp->(Hp->Prop)->Prop:=fun o i v H Q=>∃p xs k j,o=.ref p/\i=.int k/\H p=some (.lst xs)/\ixN xs.length k=some j/\Q (upd H p (.lst (xs.set j v)))
theorem set_list:yu X Ge:=by
 intro pins s σ H o i v ov iv u Q I ro ri rv h;obtain⟨p,xs,k,j,rfl,rfl,hp,hj,q⟩:=h;cases ro;obtain⟨t,rfl⟩:=ri;obtain⟨its,n,r,ho,hz⟩:=I.lst hp;obtain⟨h1,h2,h3,h4⟩:=u5 hj;have hl:=r.length;have hn:=ie
 have I':Inv X pins σ (upd H p (.lst (xs.set j v))) { s with heap:=s.heap.update p (Obj.mapSeq (·.setIfInBounds j u)) }:=
  I.lstUpd hp ho (zO its n j u) (r.set rv j) (by rw[List.length_set];exact hz) s.toks
 by_cases h0:0<=k
 .have hk:k.toNat=j:=by
   rw[seqIndex_of h0 h4] at h1;exact Option.some.inj h1
  exact PySem.W.ki_setAt ho h0 (by omega) (by rw[List.size_toArray,←hl];exact h4) (by rw[hk];exact⟨_,I',q⟩)
 .have hk:(k+(its.toArray.size:Int)).toNat=j:=by
   rw[seqIndex_neg (by omega) h3] at h1;rw[List.size_toArray,←hl];exact Option.some.inj h1
  exact PySem.W.ki_setBack ho (by omega) (by rw[List.size_toArray,←hl];exact h3) (by omega) (by rw[hk];exact⟨_,I',q⟩)
theorem y0(lo hi:Option Int)(n:Nat):(sliceBounds lo hi none n).1=((HT.sIx n 0 lo:Nat):Int)/\(sliceBounds lo hi none n).2.1=((HT.sIx n n hi:Nat):Int)/\(sliceBounds lo hi none n).2.2=1:=by
 refine⟨?_,?_,rfl⟩
 .cases lo with
  |none=>simp[sliceBounds,HT.sIx]
  |some i=>
   simp only[sliceBounds,HT.sIx,Option.getD_none,show (1:Int)>0 by decide,if_true]
   by_cases h:i<0
   .simp only[h,if_true] <;> omega
   .simp only[h,if_false] <;> omega
 .cases hi with
  |none=>simp[sliceBounds,HT.sIx]
  |some i=>
   simp only[sliceBounds,HT.sIx,Option.getD_none,show (1:Int)>0 by decide,if_true]
   by_cases h:i<0
   .simp only[h,if_true] <;> omega
   .simp only[h,if_false] <;> omega
theorem yO(its:List Value)(lo hi:Option Int):slicePick its.toArray lo hi none=((its.drop (HT.sIx its.length 0 lo)).take (HT.sIx its.length its.length hi-HT.sIx its.length 0 lo)).toArray:=by
 obtain⟨h1,h2,h3⟩:=y0 lo hi its.toArray.size;unfold slicePick;rw[h1,h2,h3]
 simp only[sliceRange_one,pick_run,List.size_toArray] <;> rfl
def HB(K:Frag):V->Option Int->Option Int->Hp->VK->Prop:=fun x lo hi H Q=>∃a xs,x=.ref a/\SqL K H a xs/\∀p,H p=none->Q (.ref p) (upd H p (.lst (gj xs lo hi)))
theorem sl_list:SlR X (HB X.K):=by
 intro pins s σ H x v vl vu lo hi sl Q I rx hs pl pu h;obtain⟨a,xs,rfl,hx,q⟩:=h;cases rx;obtain⟨its,r,ht,hz⟩:=I.list hx;have hlen:=r.length;refine⟨"list",_,slot_list_getitem.lookup,ht.isList.typeIs,?_⟩;refine wpAny_getItem_list_slice ht.isList hs pl pu .none (by simp) ?_ (by rw[List.size_toArray] <;> omega);rw[yO,←hlen];refine⟨.ref s.heap.objs.size,_,I.laid (t':=s.toks) (o:=.lst (gj xs lo hi)) (fun b ob q=>Heap.get?_push_of_some _ q) (Nat.le_refl _) ?_,rfl,q _ (I.hok.fresh (Nat.le_refl _))⟩;exact⟨Nat.le_trans (rM xs lo hi) hz,_,0,(r.drop (HT.sIx xs.length 0 lo)).take (HT.sIx xs.length xs.length hi-HT.sIx xs.length 0 lo),Heap.get?_push_size _ rfl⟩
def ft:V->Bool
 |.non=>true
 |.bl _=>true
 |.int _=>true
 |.str _=>true
 |_=>false
def eqV:V->V->Bool
 |.non,.non=>true
 |.bl a,.bl b=>a == b
 |.bl a,.int b=>(if a then 1 else 0) == b
 |.int a,.bl b=>a == (if b then 1 else 0)
 |.int a,.int b=>a == b
 |.str a,.str b=>a == b
 |_,_=>false
theorem FF{A:Around}{s:Shared}{y x:V}{u v:Value}(ry:RelV y u)(rx:RelV x v)(fy:ft y=true)(fx:ft x=true):SeqAt.EqAt A s u v (eqV y x):=by
 cases y with
 |non=>
  cases ry
  cases x with
  |non=>cases rx;exact SeqAt.EqAt.same _
  |bl b=>cases rx;exact SeqAt.EqAt.none_bool b
  |int b=>obtain⟨t,rfl⟩:=rx;exact SeqAt.EqAt.none_int b t
  |str b=>obtain⟨t,rfl⟩:=rx;exact SeqAt.EqAt.none_str b t
  |_=>exact absurd (show false=true from fx) Bool.false_ne_true
 |bl a=>
  cases ry
  cases x with
  |non=>cases rx;exact SeqAt.EqAt.bool_none a
  |bl b=>cases rx;exact SeqAt.EqAt.bool_bool a b
  |int b=>obtain⟨t,rfl⟩:=rx;exact SeqAt.EqAt.bool_int a b t
  |str b=>obtain⟨t,rfl⟩:=rx;exact SeqAt.EqAt.bool_str a b t
  |_=>exact absurd (show false=true from fx) Bool.false_ne_true
 |int a=>
  obtain⟨t',rfl⟩:=ry
  cases x with
  |non=>cases rx;exact SeqAt.EqAt.int_none a t'
  |bl b=>cases rx;exact SeqAt.EqAt.int_bool a t' b
  |int b=>obtain⟨t,rfl⟩:=rx;exact SeqAt.EqAt.int_int a t' b t
  |str b=>obtain⟨t,rfl⟩:=rx;exact SeqAt.EqAt.int_str a t' b t
  |_=>exact absurd (show false=true from fx) Bool.false_ne_true
 |str a=>
  obtain⟨t',rfl⟩:=ry
  cases x with
  |non=>cases rx;exact SeqAt.EqAt.str_none a t'
  |bl b=>cases rx;exact SeqAt.EqAt.str_bool a t' b
  |int b=>obtain⟨t,rfl⟩:=rx;exact SeqAt.EqAt.str_int a t' b t
  |str b=>obtain⟨t,rfl⟩:=rx;exact SeqAt.EqAt.str_str a t' b t
  |_=>exact absurd (show false=true from fx) Bool.false_ne_true
 |_=>exact absurd (show false=true from fy) Bool.false_ne_true
def eqU(x:V)(u:Value):Bool:=match u with
 |.none=>eqV .non x
 |.bool b=>eqV (.bl b) x
 |.int i _=>eqV (.int i) x
 |.str z _=>eqV (.str z) x
 |_=>false
theorem wI{x y:V}{u:Value}(r:RelV y u)(f:ft y=true):eqU x u=eqV y x:=by
 cases y with
 |non=>cases r;rfl
 |bl b=>cases r;rfl
 |int i=>obtain⟨t,rfl⟩:=r;rfl
 |str z=>obtain⟨t,rfl⟩:=r;rfl
 |_=>exact absurd (show false=true from f) Bool.false_ne_true
theorem j9{x:V}:∀{xs:List V}{us:List Value},Vals xs us->xs.all ft=true->us.any (eqU x)=xs.any fun y=>eqV y x
 |_,_,.nil,_=>rfl
 |y::xs,u::us,.cons r t,f=>by
  rw[List.all_cons,Bool.and_eq_true] at f;rw[List.any_cons,List.any_cons,wI r f.1,j9 t f.2]
theorem jY{A:Around}{s:Shared}{x:V}{v:Value}(rx:RelV x v)(fx:ft x=true):∀{xs:List V}{us:List Value},Vals xs us->xs.all ft=true->∀u∈us,SeqAt.EqAt A s u v (eqU x u)
 |_,_,.nil,_=>fun u hu=>by cases hu
 |y::xs,u::us,.cons r t,f=>fun u' hu=>by
  rw[List.all_cons,Bool.and_eq_true] at f
  rcases List.mem_cons.mp hu with rfl|hu
  .rw[wI r f.1];exact FF r rx f.1 fx
  .exact jY rx fx t f.2 u' hu
def inV(x:V)(xs:List V):Bool:=xs.any fun y=>eqV y x
def rIn(K:Frag)(neg:Bool):R2:=fun x y H Q=>∃p xs,y=.ref p/\(SqL K H p xs\/SqT K H p xs)/\ft x=true/\xs.all ft=true/\Q (.bl (if neg then !inV x xs else inV x xs)) H
theorem sS:OpR X (compareOp .In) (rIn X.K false):=by
 intro pins s σ H x y v u Q I rx ry h;obtain⟨p,xs,rfl,hq,fx,fs,q⟩:=h;cases ry
 rcases hq with hq|hq
 .obtain⟨its,r,pl,hz⟩:=I.list hq
  refine SeqAt.in_listAt (eqU x) pl.isList (fun w hw=>jY rx fx r fs w (by simpa using hw)) ⟨.bl _,H,I,rfl,?_⟩;rw[show its.toArray.any (eqU x)=its.any (eqU x) by simp,j9 r fs];exact q
 .obtain⟨its,r,pl,hz⟩:=I.tuple hq
  refine SeqAt.in_tupleAt (eqU x) pl (fun w hw=>jY rx fx r fs w (by simpa using hw)) ⟨.bl _,H,I,rfl,?_⟩;rw[show its.toArray.any (eqU x)=its.any (eqU x) by simp,j9 r fs];exact q
theorem rE:OpR X (compareOp .NotIn) (rIn X.K true):=by
 intro pins s σ H x y v u Q I rx ry h;obtain⟨p,xs,rfl,hq,fx,fs,q⟩:=h;cases ry
 rcases hq with hq|hq
 .obtain⟨its,r,pl,hz⟩:=I.list hq
  refine SeqAt.notIn_listAt (eqU x) pl.isList (fun w hw=>jY rx fx r fs w (by simpa using hw)) ⟨.bl _,H,I,rfl,?_⟩;rw[show its.toArray.any (eqU x)=its.any (eqU x) by simp,j9 r fs];exact q
 .obtain⟨its,r,pl,hz⟩:=I.tuple hq
  refine SeqAt.notIn_tupleAt (eqU x) pl (fun w hw=>jY rx fx r fs w (by simpa using hw)) ⟨.bl _,H,I,rfl,?_⟩;rw[show its.toArray.any (eqU x)=its.any (eqU x) by simp,j9 r fs];exact q
theorem call_len_seq:CallR X (.builtin "len") (fun xs H Q=>∃p ys,xs=[.ref p]/\(SqL X.K H p ys\/SqT X.K H p ys)/\Q (.int ys.length) H):=by
 intro pins s σ H xs us Q I r h;obtain⟨p,ys,rfl,hq,q⟩:=h;obtain⟨u,rfl,rx⟩:=vals1 r;cases rx;have hn:=ie
 rcases hq with hq|hq
 .obtain⟨its,r',pl,hz⟩:=I.list hq
  have hlen:=r'.length;exact Calls.call_len_list pl.isList (by simp only[List.size_toArray] <;> omega) ⟨.int ys.length,H,I.tok _,⟨s.toks+1,by rw[List.size_toArray,hlen]⟩,q⟩
 .obtain⟨its,r',pl,hz⟩:=I.tuple hq
  have hlen:=r'.length;exact len_tuple pl (by simp only[List.size_toArray] <;> omega) ⟨.int ys.length,H,I.tok _,⟨s.toks+1,by rw[List.size_toArray,hlen]⟩,q⟩
theorem call_len_str:CallR X (.builtin "len") (fun xs H Q=>∃z,xs=[.str z]/\z.length<=sizeLine/\Q (.int z.length) H):=by
 intro pins s σ H xs us Q I r h;obtain⟨z,rfl,hz,q⟩:=h;obtain⟨u,rfl,t,rfl⟩:=vals1 r;have hn:=ie;exact len_str (by omega) ⟨.int z.length,H,I.tok _,⟨_,rfl⟩,q⟩
theorem CallR.or{f:Value}{r r':List V->Hp->VK->Prop}(h:CallR X f r)(h':CallR X f r'):CallR X f (fun xs H Q=>r xs H Q\/r' xs H Q):=by
 intro pins s σ H xs us Q I rs q
 rcases q with q|q
 .exact h pins s σ H xs us Q I rs q
 .exact h' pins s σ H xs us Q I rs q
theorem zh:CallR X (.type "list") (fun xs H Q=>∃p ys,xs=[.ref p]/\(SqL X.K H p ys\/SqT X.K H p ys)/\∀l,H l=none->Q (.ref l) (upd H l (.lst ys))):=by
 intro pins s σ H xs us Q I r h;obtain⟨p,ys,rfl,hq,q⟩:=h;obtain⟨u,rfl,rx⟩:=vals1 r;cases rx
 have fin:∀(its:List Value),Vals ys its->ys.length<=sizeLine->∀(h':Heap) (c':Nat),(∀b o',s.heap.get? b=some o'->h'.get? b=some o') ->
   h'.get? s.heap.objs.size=some { cls:=.type "list",dict:=none,data:=.seq its.toArray c',slots:=#[] }->EP X pins σ Q (.ref s.heap.objs.size) { s with heap:=h' }:=fun its r' hz h' c' kp e=>
  ⟨.ref s.heap.objs.size,_,I.laid (t':=s.toks) kp (Nat.le_refl _) (show ObjOk X.prog X.w _ h' _ (.lst ys) from⟨hz,its,c',r',e⟩),rfl,q _ (I.hok.fresh (Nat.le_refl _))⟩
 rcases hq with hq|hq
 .obtain⟨its,r',pl,hz⟩:=I.list hq
  have hlen:=r'.length;obtain⟨o,ho,hc,n,hd⟩:=pl.isList;exact call_list_seq p (.inl rfl) ho hc hd (fun h' c' kp e=>fin its r' hz h' c' kp e) (by simp only[List.size_toArray] <;> omega)
 .obtain⟨its,r',pl,hz⟩:=I.tuple hq
  have hlen:=r'.length;obtain⟨o,ho,hc,n,hd⟩:=pl;exact call_list_seq p (.inr rfl) ho hc hd (fun h' c' kp e=>fin its r' hz h' c' kp e) (by simp only[List.size_toArray] <;> omega)
theorem yY:CallR X (.type "tuple") (fun xs H Q=>∃p ys,xs=[.ref p]/\((SqL X.K H p ys/\∀l,H l=none->Q (.ref l) (upd H l (.tup ys)))\/(SqT X.K H p ys/\Q (.ref p) H))):=by
 intro pins s σ H xs us Q I r h;obtain⟨p,ys,rfl,h⟩:=h;obtain⟨u,rfl,rx⟩:=vals1 r;cases rx
 rcases h with⟨hq,q⟩|⟨hq,q⟩
 .obtain⟨its,r',pl,hz⟩:=I.list hq
  have hlen:=r'.length;refine call_tuple_list pl.isList (fun h' kp=>?_) (by simp only[List.size_toArray] <;> omega);have I1:Inv X pins σ H { s with heap:=h' }:=I.kept (t':=s.toks) kp
  have I2:Inv X pins σ (upd H h'.objs.size (.tup ys)) { s with heap:=h'.push { cls:=.type "tuple",data:=.seq its.toArray } }:=
   I1.laid (t':=s.toks) (fun b o e=>Heap.get?_push_of_some _ e) (Nat.le_refl _) (show ObjOk X.prog X.w _ _ _ (.tup ys) from⟨hz,its,r',IsTup.new _ _⟩)
  exact⟨.ref h'.objs.size,_,I2,rfl,q _ (I1.hok.fresh (Nat.le_refl _))⟩
 .obtain⟨its,r',pl,hz⟩:=I.tuple hq
  exact call_tuple_same pl ⟨.ref p,H,I,rfl,q⟩
def tyV(K:Frag)(T:String)(x:V)(H:Hp):Prop:=match x with
 |.str _=>T="str"
 |.int _=>T="int"
 |.ref p=>(T="list"/\∃xs,SqL K H p xs)\/(T="tuple"/\∃o,K.lookup p=some o/\o.cls=.type "tuple"/\o.dict=none) \/
   (T="dict"/\((∃kvs,H p=some (.dK kvs))\/∃kvs,H p=some (.dT kvs)))\/(T="set"/\∃S n,H p=some (.set S n))
 |_=>False
theorem Ee{pins:List (Addr×Obj)}{σ:St}{H:Hp}{s:Shared}{T:String}{x:V}{v:Value}(I:Inv X pins σ H s)(r:RelV x v)(ty:tyV X.K T x H) :
  s.TypeIs v T/\∀a,v=.ref a->∃ob,s.heap.get? a=some ob/\ob.dict=none:=by
 cases x with
 |str z=>
  obtain⟨t,rfl⟩:=r;cases (show T="str" from ty);exact⟨typeIs_str s z t,fun _ e=>nomatch e⟩
 |int i=>
  obtain⟨t,rfl⟩:=r;cases (show T="int" from ty);exact⟨typeIs_int s i t,fun _ e=>nomatch e⟩
 |ref p=>
  cases r
  rcases ty with⟨rfl,xs,hq⟩|⟨rfl,o,hk,hc,hd⟩|⟨rfl,hk⟩|⟨rfl,S,n,hk⟩
  .obtain⟨its,_,pl,_⟩:=I.list hq
   refine⟨pl.isList.typeIs,fun a e=>?_⟩;cases e;obtain⟨o,n,e,c,hd,_⟩:=pl;exact⟨o,e,hd⟩
  .refine⟨⟨o,I.kIn p o hk,hc⟩,fun a e=>?_⟩
   cases e;exact⟨o,I.kIn _ o hk,hd⟩
  .have z:∃o,s.heap.get? p=some o/\o.ExactDict:=by
    rcases hk with⟨kvs,hk⟩|⟨kvs,hk⟩
    .obtain⟨_,_,_,_,o,_,_,e,ex,_⟩:=I.hok p _ hk
     exact⟨o,e,ex⟩
    .obtain⟨_,_,_,_,o,_,_,e,ex,_⟩:=I.hok p _ hk
     exact⟨o,e,ex⟩
   obtain⟨o,e,ex⟩:=z;refine⟨⟨o,e,ex.1⟩,fun a e2=>?_⟩;cases e2;exact⟨o,e,ex.2.1⟩
  .obtain⟨o,_,_,_,e,ex,_⟩:=I.hok p _ hk
   refine⟨⟨o,e,ex.1⟩,fun a e2=>?_⟩;cases e2;exact⟨o,e,ex.2.1⟩
 |_=>exact False.elim ty
def tBM(K:Frag)(T:String)(r:V->List V->Hp->VK->Prop)(to:TE)(t:TA):TE:=fun σ H Q=>to σ H fun x H1=>tyV K T x H1/\t σ H1 fun xs H2=>r x xs H2 Q
variable {o e:Expr}{es:List Expr}{to:TE}{t:TA}{name:Str}{apos cpos:Pos}{T id:String}{r:V->List V->Hp->VK->Prop}
theorem kq(pa:PlainAttrs T)(slot:Slot T name id)(hty:typeOf (.builtin id)=pure (.type "method_descriptor"))(hm:MtR X id r)(ho:PE X o to)(ha:PA X (e::es) t)
  (hbase:attributeBase o name X.env (eval o X.env)=eval o X.env:=by rfl)
  (hfew:((backTo cpos (starEach (e::es) X.env)).all (fun x=>!x.1)&&(backToKw cpos (keywordEach [] X.env)).all (fun x=>x.1.isSome)
   && decide ((e::es).length+([]:List Keyword).length+(if ([]:List Keyword).isEmpty then 0 else 1)<30))=true:=by rfl)
  (hline:(apos.endLine == cpos.line)=true:=by rfl) (hs:starEach (e::es) X.env=(false,eval e X.env)::starEach es X.env:=by rfl) (hplain:(backTo cpos (starEach es X.env)).any (·.1)=false:=by rfl) :
  PE X (.Call (.Attribute o name apos) (e::es) [] cpos) (tBM X.K T r to t):=by
 intro pins s σ H Q I h;refine wpAny_Call_method_late hbase hfew hline rfl (thn (ho pins s σ H _ I h) fun v s1 ⟨x,H1,I1,r1,ty,q1⟩=>?_);obtain⟨h1,h2⟩:=Ee I1 r1 ty;refine⟨T,id,pa,slot,hty,h1,h2,?_⟩;have hA:=ha cpos pins s1 σ H1 _ I1 q1;rw[hs] at hA ⊢;refine Calls.callWith_builtin (by show (false||(backTo cpos (starEach es X.env)).any (·.1))=false;rw[hplain] <;> rfl) (Calls.evalArgs_plain ?_);exact thn hA fun us s2 ⟨vs,H2,I2,r2,q2⟩=>hm pins s2 σ H2 x vs v us Q I2 r1 r2 q2
end
def MtM(X:Cx)(id:String)(r:V->List V->Hp->VK->Prop):Prop:=
 ∀(pins:List (Addr×Obj)) (s:Shared) (σ:St) (H:Hp) (x:V) (xs:List V) (v:Value) (us:List Value) (Q:VK),Inv X pins σ H s->RelV x v->Vals xs us->r x xs H Q ->
  wpAny (model X.prog X.w) X.A (call (.builtin id) (v::us)) (EP X pins σ Q) X.xe s
theorem Vals.one:∀{x:V}{us:List Value},Vals [x] us->∃u,us=[u]/\RelV x u
 |_,_,.cons r .nil=>⟨_,rfl,r⟩
theorem Vals.rep{xs:List V}{us:List Value}(h:Vals xs us):∀k:Nat,Vals (List.replicate k xs).flatten (List.replicate k us).flatten
 |0=>.nil
 |k+1=>by
  rw[List.replicate_succ,List.replicate_succ,List.flatten_cons,List.flatten_cons];exact Vals.append h (Vals.rep h k)
theorem foldl_rep(its:List Value):∀(k:Nat) (acc:List Value),
  List.foldl (fun x1 x2=>x1++x2) acc.toArray (List.replicate k its.toArray)=(acc++(List.replicate k its).flatten).toArray
 |0,acc=>by simp
 |k+1,acc=>by
  have e:acc.toArray++its.toArray=(acc++its).toArray:=by simp
  have e2:(acc++its)++(List.replicate k its).flatten=acc++(List.replicate (k+1) its).flatten:=by
   rw[List.replicate_succ,List.flatten_cons,List.append_assoc]
  rw[←e2,←foldl_rep its k (acc++its),←e,List.replicate_succ,List.foldl_cons]
section
variable {X:Cx}{pins:List (Addr×Obj)}{σ:St}{H:Hp}{s:Shared}{l b:Addr}{xs ys zs:List V}
theorem Inv.lset{its its':List Value}{n:Nat}{f:Array Value->Array Value}{t':Nat}(I:Inv X pins σ H s)(hH:H l=some (.lst xs))
  (e:s.heap.get? l=some { cls:=.type "list",data:=.seq its.toArray n }) (hf:f its.toArray=its'.toArray) (hv:Vals ys its') (hz:ys.length<=sizeLine) :
  Inv X pins σ (upd H l (.lst ys)) { s with heap:=s.heap.update l (Obj.mapSeq f),toks:=t' }:=by
 have q:=PySem.IsL.update e f;rw[hf] at q;refine I.write (x:=l) (e:=l) (by rw[hH];exact trivial) (.inl rfl) (fun b' u hb hu=>(Heap.get?_update_other s.heap (Obj.mapSeq f) (Ne.symm hb)).trans hu) ⟨_,q⟩ ?_;exact⟨hz,its',_,hv,q⟩
theorem Inv.lnew{its:List Value}{t':Nat}(I:Inv X pins σ H s)(hv:Vals ys its)(hz:ys.length<=sizeLine) :
  Inv X pins σ (upd H s.heap.objs.size (.lst ys)) { s with heap:=s.heap.push { cls:=.type "list",data:=.seq its.toArray },toks:=t' }:=I.laid (fun _ _ q=>Heap.get?_push_of_some _ q) (Nat.le_refl _) ⟨hz,its,0,hv,Heap.get?_push_size _ rfl⟩
theorem Inv.fresh(I:Inv X pins σ H s):H s.heap.objs.size=none:=I.hok.fresh (Nat.le_refl _)
theorem Inv.lstM(I:Inv X pins σ H s)(hH:H l=some (.lst xs)):xs.length<=sizeLine/\∃(its:List Value) (n:Nat),Vals xs its/\xs.length=its.length/\s.heap.get? l=some { cls:=.type "list",data:=.seq its.toArray n }:=by
 obtain⟨z,its,n,r,e⟩:=I.hok l _ hH;exact⟨z,its,n,r,r.length,e⟩
theorem Bv{n:Nat}(h:n<=sizeLine):Builtin.List.listTooLong n=false:=by
 unfold Builtin.List.listTooLong;exact decide_eq_false (by omega)
end
section
variable {X:Cx}
def Ct:V->List V->Hp->VK->Prop:=fun x vs H Q=>∃l xs y,x=.ref l/\vs=[y]/\H l=some (.lst xs)/\xs.length<sizeLine/\Q .non (upd H l (.lst (xs++[y])))
theorem Ao:MtM X "list.append" Ct:=by
 intro pins s σ H x vs v us Q I rx rv h;obtain⟨l,xs,y,rfl,rfl,hH,hz,q⟩:=h;cases rx;obtain⟨u,rfl,ru⟩:=rv.one;obtain⟨z,its,n,r,hl,e⟩:=I.lstM hH;refine call_meets F.slot_list_append ⟨_,e,rfl⟩ F.entry_list_append (F.args_list_append_2 _ _) (PySem.list_append l its.toArray n u (by rw[List.size_toArray];omega)) ⟨e,?_⟩;refine⟨.non,_,I.lset (its':=its++[u]) hH e (by simp) (r.append (.cons ru .nil)) ?_,rfl,q⟩;rw[List.length_append,List.length_singleton];omega
theorem len_rep{α:Type}(xs:List α)(k:Nat):(List.replicate k xs).flatten.length=k*xs.length:=by
 induction k with
 |zero=>simp
 |succ k ih=>rw[List.replicate_succ,List.flatten_cons,List.length_append,ih,Nat.succ_mul,Nat.add_comm]
end
section
variable {prog:Program}{w:World}{A:Around}{E:Value->Shared->Prop}{s:Shared}
end
section
variable {X:Cx}
end
section
variable {κ:Type}[DecidableEq κ]
def bK(kvs:List (κ×V))(k:κ):Option V:=(kvs.find? fun kv=>decide (kv.1=k)).map (·.2)
def putK(kvs:List (κ×V))(k:κ)(v:V):List (κ×V):=if (kvs.any fun kv=>decide (kv.1=k))=true then kvs.map (fun kv=>if kv.1=k then (kv.1,v) else kv) else kvs++[(k,v)]
theorem oH{p:κ×V}{r:List (κ×V)}{k:κ}(e:p.1=k):bK (p::r) k=some p.2:=by simp[bK,List.find?_cons,e]
theorem oI{p:κ×V}{r:List (κ×V)}{k:κ}(e:¬p.1=k):bK (p::r) k=bK r k:=by simp[bK,List.find?_cons,e]
theorem oJ(k:κ):∀kvs:List (κ×V),(kvs.any fun kv=>decide (kv.1=k))=(bK kvs k).isSome
 |[]=>rfl
 |p::r=>by
  rw[List.any_cons]
  by_cases e:p.1=k
  .simp only[oH e,decide_eq_true e,Bool.true_or,Option.isSome_some]
  .rw[oI e,decide_eq_false e,Bool.false_or];exact oJ k r
theorem nW(kvs:List (κ×V))(k:κ)(v:V):(putK kvs k v).length<=kvs.length+1:=by
 unfold putK;split
 .rw[List.length_map];omega
 .rw[List.length_append,List.length_cons,List.length_nil];omega
theorem Bc{kvs:List (κ×V)}{k:κ}(v:V)(h:bK kvs k=none):putK kvs k v=kvs++[(k,v)]:=by
 unfold putK;rw[oJ,h];exact if_neg (by decide)
theorem RelO.isSome_eq{o:Option V}{u:Option Value}(r:RelO o u):o.isSome=u.isSome:=by
 cases o with
 |none=>cases u with
  |none=>rfl
  |some _=>exact(show False from r).elim
 |some _=>cases u with
  |none=>exact(show False from r).elim
  |some _=>rfl
theorem RelO.getD{o:Option V}{u:Option Value}{d:V}{d':Value}(r:RelO o u)(rd:RelV d d'):RelV (o.getD d) (u.getD d'):=by
 cases o with
 |none=>cases u with
  |none=>exact rd
  |some _=>exact(show False from r).elim
 |some _=>cases u with
  |none=>exact(show False from r).elim
  |some _=>exact r
theorem KV.val{kvs:List (κ×V)}{vs:List (κ×Value)}(r:KV kvs vs)(k:κ):RelO (bK kvs k) (valueAt vs k):=by
 unfold KV at r
 induction r with
 |nil=>exact True.intro
 |@cons p q ps qs h t ih=>
  obtain⟨h1,h2⟩:=h
  by_cases e:p.1=k
  .have e':q.1=k:=h1.symm.trans e
   have b:valueAt (q::qs) k=some q.2:=by simp[valueAt,List.find?_cons,e']
   rw[oH e,b];exact h2
  .have e':¬q.1=k:=fun z=>e (h1.trans z)
   have b:valueAt (q::qs) k=valueAt qs k:=by simp[valueAt,List.find?_cons,e']
   rw[oI e,b];exact ih
theorem KV.any{kvs:List (κ×V)}{vs:List (κ×Value)}(r:KV kvs vs)(k:κ):(kvs.any fun kv=>decide (kv.1=k))=vs.any fun kv=>decide (kv.1=k):=by
 unfold KV at r
 induction r with
 |nil=>rfl
 |cons h t ih=>rw[List.any_cons,List.any_cons,ih,h.1]
theorem KV.repl{kvs:List (κ×V)}{vs:List (κ×Value)}(r:KV kvs vs)(k:κ){y:V}{u:Value}(ry:RelV y u) :
  KV (kvs.map fun kv=>if kv.1=k then (kv.1,y) else kv) (vs.map fun kv=>if kv.1=k then (kv.1,u) else kv):=by
 unfold KV at r ⊢
 induction r with
 |nil=>exact .nil
 |@cons p q ps qs h t ih=>
  rw[List.map_cons,List.map_cons];refine .cons ?_ ih;obtain⟨h1,h2⟩:=h
  by_cases e:p.1=k
  .rw[if_pos e,if_pos (h1.symm.trans e)];exact⟨h1,ry⟩
  .rw[if_neg e,if_neg (fun z=>e (h1.trans z))];exact⟨h1,h2⟩
theorem KV.put{kvs:List (κ×V)}{vs:List (κ×Value)}(r:KV kvs vs)(k:κ){y:V}{u:Value}(ry:RelV y u):KV (putK kvs k y) (stored vs k u):=by
 unfold putK stored;rw[r.any k]
 by_cases e:(vs.any fun kv=>decide (kv.1=k))=true
 .rw[if_pos e,if_pos e];exact r.repl k ry
 .rw[if_neg e,if_neg e];exact Paired.snoc r ⟨rfl,ry⟩
theorem KV.keys{kvs:List (κ×V)}{vs:List (κ×Value)}(r:KV kvs vs):kvs.map (·.1)=vs.map (·.1):=by
 unfold KV at r
 induction r with
 |nil=>rfl
 |cons h t ih=>rw[List.map_cons,List.map_cons,ih,h.1]
theorem KV.length{kvs:List (κ×V)}{vs:List (κ×Value)}(r:KV kvs vs):kvs.length=vs.length:=Paired.length r
end
theorem iC{P:Program}{w:World}{k:Key}{u:Value}(r:RelV (kV k) u):(bz P w).is k u=true:=by
 cases k with
 |inl i=>obtain⟨t,e⟩:=(show ∃t,u=Value.int i t from r);subst e;exact zj P w i t
 |inr x=>obtain⟨t,e⟩:=(show ∃t,u=Value.str x t from r);subst e;exact zi P w x t
theorem sV{P:Program}{w:World}:∀{ks:List Key}{us:List Value},Vals (ks.map kV) us->ItemsAre (bz P w) ks us
 |[],_,r=>by rw[List.map_nil] at r;cases r;exact .nil
 |k::ks,_,r=>by
  rw[List.map_cons] at r
  cases r with
  |cons h t=>exact .cons (iC h) (sV t)
abbrev KT(H:Hp):List (List Key×V)->List (List Key×Addr×Value)->Prop:=Paired fun p q=>p.1=q.1/\H q.2.1=some (.tup (p.1.map kV))/\RelV p.2 q.2.2
theorem KT.val{H:Hp}{kvs:List (List Key×V)}{xs:List (List Key×Addr×Value)}(r:KT H kvs xs)(k:List Key):RelO (bK kvs k) ((atKey xs k).map (·.2)):=by
 induction r with
 |nil=>exact True.intro
 |@cons p q ps qs h t ih=>
  obtain⟨h1,_,h2⟩:=h
  by_cases e:p.1=k
  .have e':q.1=k:=h1.symm.trans e
   have b:atKey (q::qs) k=some q.2:=by simp[atKey,List.find?_cons,e']
   rw[oH e,b];exact h2
  .have e':¬q.1=k:=fun z=>e (h1.trans z)
   have b:atKey (q::qs) k=atKey qs k:=by simp[atKey,List.find?_cons,e']
   rw[oI e,b];exact ih
theorem KT.repl{H:Hp}{kvs:List (List Key×V)}{xs:List (List Key×Addr×Value)}(r:KT H kvs xs)(k:List Key){y:V}{u:Value}(ry:RelV y u) :
  KT H (kvs.map fun kv=>if kv.1=k then (kv.1,y) else kv) (xs.map (putAt k u)):=by
 induction r with
 |nil=>exact .nil
 |@cons p q ps qs h t ih=>
  rw[List.map_cons,List.map_cons];refine .cons ?_ ih;obtain⟨h1,h2,h3⟩:=h;unfold putAt
  by_cases e:p.1=k
  .rw[if_pos e,if_pos (h1.symm.trans e)];exact⟨h1,h2,ry⟩
  .rw[if_neg e,if_neg (fun z=>e (h1.trans z))];exact⟨h1,h2,h3⟩
theorem KT.put{H:Hp}{kvs:List (List Key×V)}{xs:List (List Key×Addr×Value)}(r:KT H kvs xs)(k:List Key){b:Addr}{y:V}{u:Value}(hb:H b=some (.tup (k.map kV)))(ry:RelV y u) :
  KT H (putK kvs k y) (storedH xs k b u):=by
 have e:(kvs.any fun kv=>decide (kv.1=k))=(atKey xs k).isSome:=by
  rw[oJ,(r.val k).isSome_eq,Option.isSome_map]
 unfold putK storedH;rw[e]
 by_cases q:(atKey xs k).isSome=true
 .rw[if_pos q,if_pos q];exact r.repl k ry
 .rw[if_neg q,if_neg q];exact Paired.snoc r ⟨rfl,hb,ry⟩
theorem KT.keeps{H H':Hp}{kvs:List (List Key×V)}{xs:List (List Key×Addr×Value)}(r:KT H kvs xs)(ht:∀b ys,H b=some (.tup ys)->H' b=some (.tup ys)):KT H' kvs xs:=Paired.mapP r fun _ _ z=>⟨z.1,ht _ _ z.2.1,z.2.2⟩
section
variable {P:Program}{w:World}{H:Hp}{h:Heap}{a:Addr}
theorem xi{u:HO}(ok:HOk P w H h)(e:Rd H a u):ObjOk P w H h a u:=e.ok ok
theorem dJ{kvs:List (Key×V)}(ok:HOk P w H h)(e:Rd H a (.dK kvs)):kvs.length<=sizeLine/\(a == sysModules)=false/\∃vs,KV kvs vs/\h.DictOf (bz P w) a vs:=show ObjOk P w H h a (.dK kvs) from xi ok e
theorem G9{kvs:List (Key×V)}(ok:HOk P w H h)(e:H a=some (.dK kvs)):kvs.length<=sizeLine/\(a == sysModules)=false/\∃vs,KV kvs vs/\h.DictOf (bz P w) a vs:=dJ ok (.inl e)
theorem jb{ks:List Key}(ok:HOk P w H h)(e:H a=some (.tup (ks.map kV))):(tupleKind (bz P w)).is h ks a:=by
 obtain⟨_,its,r,o,h1,h2,n,h3⟩:=(show ObjOk P w H h a (.tup (ks.map kV)) from ok a _ e);exact⟨o,its.toArray,n,h1,h2,h3,by simpa using sV r⟩
theorem iE{kvs:List (List Key×V)}(ok:HOk P w H h)(e:Rd H a (.dT kvs)):kvs.length<=sizeLine/\(a == sysModules)=false /\
  ∃xs,KT H kvs xs/\h.DictOfH (tupleKind (bz P w)) a xs:=by
 obtain⟨z,y,xs,r,o,es,ep,h1,h2,h3,h4,h5⟩:=(show ObjOk P w H h a (.dT kvs) from xi ok e);refine⟨z,y,xs,r,o,es,ep,h1,h2,h3,h4,fun x hx=>?_,h5⟩
 have all:∀{l:List (List Key×V)}{m:List (List Key×Addr×Value)},KT H l m->∀x∈m,(tupleKind (bz P w)).is h x.1 x.2.1:=by
  intro l m q
  induction q with
  |nil=>intro x hx;exact nomatch hx
  |@cons p q ps qs hq t ih=>
   intro x hx
   rcases List.mem_cons.mp hx with e|hx
   .subst e
    exact jb ok (by rw[←hq.1];exact hq.2.1)
   .exact ih x hx
 exact all r x hx
theorem G8{kvs:List (List Key×V)}(ok:HOk P w H h)(e:H a=some (.dT kvs)):kvs.length<=sizeLine/\(a == sysModules)=false /\
  ∃xs,KT H kvs xs/\h.DictOfH (tupleKind (bz P w)) a xs:=iE ok (.inl e)
end
def DGet(H:Hp)(a:Addr)(y:V)(r:Option V):Prop:=(∃kvs k,Rd H a (.dK kvs)/\y=kV k/\r=bK kvs k)\/∃kvs k b,Rd H a (.dT kvs)/\y=.ref b/\H b=some (.tup (k.map kV))/\r=bK kvs k
def DPut(H:Hp)(a:Addr)(y v:V)(H':Hp):Prop:=
 (∃kvs k,H a=some (.dK kvs)/\y=kV k/\kvs.length<sizeLine/\H'=upd H a (.dK (putK kvs k v))) \/
 ∃kvs k b,H a=some (.dT kvs)/\y=.ref b/\H b=some (.tup (k.map kV))/\kvs.length<sizeLine/\H'=upd H a (.dT (putK kvs k v))
theorem DPut.k{H:Hp}{a:Addr}{kvs:List (Key×V)}{k:Key}{v:V}(e:H a=some (.dK kvs))(hl:kvs.length<sizeLine):DPut H a (kV k) v (upd H a (.dK (putK kvs k v))):=.inl ⟨kvs,k,e,rfl,hl,rfl⟩
section
variable {X:Cx}{pins:List (Addr×Obj)}{σ:St}{H:Hp}{s:Shared}{a:Addr}{y v:V}{u r:Value}{o:Option V}{A:Around}{E:Value->Shared->Prop}
theorem Inv.big(I:Inv X pins σ H s):sysModules<s.heap.objs.size:=by
 have h:mainGlobals<s.heap.objs.size:=(I.mod.glob.keeps I.bk).lt;exact Nat.lt_trans (by decide) h
theorem AV{Q:Value->Shared->Prop}(hu:A.units+1<cLine)(I:Inv X pins σ H s)(g:DGet H a y (some v))(ry:RelV y u)(h:∀w' s',Inv X pins σ H s'->RelV v w'->Q w' s') :
  wpAny (model X.prog X.w) A (getItem (.ref a) u) Q E s:=by
 rcases g with⟨kvs,k,e,ey,l⟩|⟨kvs,k,b,e,ey,eb,l⟩
 .subst ey
  obtain⟨z,hd,vs,rel,dd⟩:=dJ I.hok e;obtain⟨w',hw,rw'⟩:=RelO.some_of (v:=v) (o:=valueAt vs k) (by rw[l];exact rel.val k);exact wpAny_getItem_of (iC ry) dd.mapOf hw (h w' _ (I.tok _) rw')
 .subst ey
  cases (show u=Value.ref b from ry);obtain⟨z,hd,xs,rel,dd⟩:=iE I.hok e;obtain⟨w',hw,rw'⟩:=RelO.some_of (v:=v) (o:=(atKey xs k).map (·.2)) (by rw[l];exact rel.val k);obtain⟨p,hp,hp2⟩:=Option.map_eq_some_iff.mp hw;refine wpAny_getItem_heap (tupleKind_room_in1 hu) (jb I.hok eb) dd hp ?_;rw[hp2];exact h w' _ (I.tok _) rw'
theorem HM{Q:Value->Shared->Prop}(hu:A.units+1<cLine)(I:Inv X pins σ H s)(g:DGet H a y o)(ry:RelV y u)(h:∀s',Inv X pins σ H s'->Q (.bool o.isSome) s') :
  wpAny (model X.prog X.w) A (compareOp .In u (.ref a)) Q E s:=by
 rcases g with⟨kvs,k,e,ey,l⟩|⟨kvs,k,b,e,ey,eb,l⟩
 .subst ey
  obtain⟨z,hd,vs,rel,dd⟩:=dJ I.hok e;refine wpAny_in_of (iC ry) hd dd.mapOf ?_;rw[←(rel.val k).isSome_eq,←l];exact h _ (I.tok _)
 .subst ey
  cases (show u=Value.ref b from ry);obtain⟨z,hd,xs,rel,dd⟩:=iE I.hok e;refine wpAny_in_heap (tupleKind_room_in1 hu) (jb I.hok eb) hd dd ?_;have q:=(rel.val k).isSome_eq;rw[Option.isSome_map] at q;rw[←q,←l];exact h _ (I.tok _)
theorem DL{Q:Value->Shared->Prop}(hu:A.units+1<cLine)(I:Inv X pins σ H s)(g:DGet H a y o)(ry:RelV y u)(h:∀s',Inv X pins σ H s'->Q (.bool (!o.isSome)) s') :
  wpAny (model X.prog X.w) A (compareOp .NotIn u (.ref a)) Q E s:=by
 rcases g with⟨kvs,k,e,ey,l⟩|⟨kvs,k,b,e,ey,eb,l⟩
 .subst ey
  obtain⟨z,hd,vs,rel,dd⟩:=dJ I.hok e;refine wpAny_notIn_of (iC ry) hd dd.mapOf ?_;rw[←(rel.val k).isSome_eq,←l];exact h _ (I.tok _)
 .subst ey
  cases (show u=Value.ref b from ry);obtain⟨z,hd,xs,rel,dd⟩:=iE I.hok e;refine wpAny_notIn_heap (tupleKind_room_in1 hu) (jb I.hok eb) hd dd ?_;have q:=(rel.val k).isSome_eq;rw[Option.isSome_map] at q;rw[←q,←l];exact h _ (I.tok _)
theorem vD{h':Heap}{t':Nat}{ob:HO}(I:Inv X pins σ H s)(mu:Mut (H a))(hs:Heap.SameBut a s.heap h')(he:∃q,h'.get? a=some q)(new:ObjOk X.prog X.w (upd H a ob) h' a ob) :
  Inv X pins σ (upd H a ob) { s with heap:=h',toks:=t' }:=I.write (x:=a) (e:=a) mu (.inl rfl) (fun b q hb z=>(hs.2 b hb).trans z) he new
theorem qp{P:Program}{w:World}{H':Hp}{h':Heap}{kvs:List (Key×V)}{vs:List (Key×Value)}(z:kvs.length<=sizeLine)(hd:(a == sysModules)=false)(rel:KV kvs vs)(dd:h'.DictOf (bz P w) a vs) :
  ObjOk P w H' h' a (.dK kvs):=⟨z,hd,vs,rel,dd⟩
theorem AU{H':Hp}{Q:Unit->Shared->Prop}(hu:A.units+1<cLine)(I:Inv X pins σ H s)(g:DPut H a y v H')(ry:RelV y u)(rv:RelV v r)(h:∀s',Inv X pins σ H' s'->Q () s') :
  wpAny (model X.prog X.w) A (setItem (.ref a) u r) Q E s:=by
 rcases g with⟨kvs,k,e,ey,l,eH⟩|⟨kvs,k,b,e,ey,eb,l,eH⟩
 .subst ey eH
  obtain⟨z,hd,vs,rel,dd⟩:=G9 I.hok e
  have hz:vs.length<=sizeLine:=by rw[←rel.length];exact z
  have hl:(putK kvs k v).length<=sizeLine:=by have:=nW kvs k v;omega
  refine wpAny_setItem_pairs (hsz:=hz) (iC ry) dd fun h' dd' hs=>h _ ?_
  have he:∃q,h'.get? a=some q:=let ⟨q,_,_,hq,_⟩:=dd';⟨q,hq⟩
  exact vD I (by rw[e];exact True.intro) hs he (qp hl hd (rel.put k rv) dd')
 .subst ey eH
  cases (show u=Value.ref b from ry);obtain⟨z,hd,xs,rel,dd⟩:=G8 I.hok e
  have hz:xs.length<=sizeLine:=by rw[←Paired.length rel];exact z
  have hl:(putK kvs k v).length<=sizeLine:=by have:=nW kvs k v;omega
  refine wpAny_setItem_heap (hsz:=hz) (tupleKind_room_in1 hu) (jb I.hok eb) dd fun h' dd' hs=>h _ ?_;obtain⟨q,es,ep,hq,h2,h3,h4,_,h5⟩:=dd';refine vD I (by rw[e];exact True.intro) hs ⟨q,hq⟩ ⟨hl,hd,_,(rel.put k eb rv).keeps fun c ys ec=>?_,q,es,ep,hq,h2,h3,h4,h5⟩;rw[aS (GH ec e (fun z=>nomatch z))];exact ec
end
section
variable {X:Cx}{pins:List (Addr×Obj)}{σ:St}{H:Hp}{s:Shared}{a:Addr}{kvs:List (Key×V)}{k:Key}{u:Value}{A:Around}{E:Value->Shared->Prop}
theorem Hg{Q:Value->Shared->Prop}(I:Inv X pins σ H s)(e:Rd H a (.dK kvs))(h:∀t s',Inv X pins σ H s'->Q (.int kvs.length t) s'):wpAny (model X.prog X.w) A (call (.builtin "len") [.ref a]) Q E s:=by
 obtain⟨z,hd,vs,rel,dd⟩:=dJ I.hok e;refine call_len_dict hd dd (by rw[←rel.length];rw[sizeLine_eq] at z;omega) ?_;rw[←rel.length];exact h _ _ (I.tok _)
end
theorem rL{X:Cx}{pins:List (Addr×Obj)}{σ:St}{H:Hp}{s:Shared}{a:Addr}{y:V}{o:Option V}(I:Inv X pins σ H s)(g:DGet H a y o):s.TypeIs (.ref a) "dict":=by
 rcases g with⟨kvs,k,e,_,_⟩|⟨kvs,k,b,e,_,_,_⟩
 .obtain⟨_,_,vs,_,dd⟩:=dJ I.hok e
  exact dd.typeIs
 .obtain⟨_,_,xs,_,dd⟩:=iE I.hok e
  exact dd.typeIs
def Gc(td ty tv:TE):TS:=fun D σ H=>tv σ H fun v H1=>td σ H1 fun x H2=>ty σ H2 fun y H3=>∃a H4,x=.ref a/\DPut H3 a y v H4/\D.nx σ H4
section
variable {X:Cx}{o i e value:Expr}{pos pos' tpos:Pos}{td ty tv:TE}
theorem CF(hu:X.A.units+1<cLine)(ho:PE X o td)(hi:PE X i ty)(hv:PE X value tv)(hs:swapsWith value (some (.Subscript o i pos')) pos.line X.env=pure false) :
  PS X (.Assign [.Subscript o i pos'] value pos) (Gc td ty tv):=by
 intro pins s σ H D I h;refine wpAny_Assign_Subscript (thn (hv pins s σ H _ I h) fun r s1 ⟨v,H1,I1,rv,q1⟩=>thn (ho pins s1 σ H1 _ I1 q1) fun u s2 ⟨x,H2,I2,rx,q2⟩=>thn (hi pins s2 σ H2 _ I2 q2) fun iv s3 ⟨y,H3,I3,ry,a,H4,ex,g,q3⟩=>?_) hs;subst ex;obtain rfl:u=Value.ref a:=rx;exact AU hu I3 g ry rv fun s4 I4=>⟨σ,H4,I4,q3⟩
end
theorem BV{P:Program}{w:World}{H:Hp}(h:Heap)(hb:sysModules<h.objs.size):ObjOk P w H (h.push { cls:=.type "dict",data:=.dict #[] }) h.objs.size (.dK []):=⟨Nat.zero_le _,beq_eq_false_iff_ne.mpr (Ne.symm (Nat.ne_of_lt hb)),[],.nil,Heap.DictOf.new h⟩
def El:TE:=fun _ H Q=>∀p,H p=none->Q (.ref p) (upd H p (.dK []))
section
variable {X:Cx}{pos:Pos}
theorem Bo:PE X (.Dict [] [] pos) El:=fun pins s σ H Q I h=>
 wpAny_Dict_empty ⟨.ref s.heap.objs.size,_,I.laid (a:=s.heap.objs.size) (o:=.dK []) (t':=s.toks) (fun _ _ q=>Heap.get?_push_of_some _ q) (Nat.le_refl _) (BV s.heap I.big),rfl,h _ (I.hok.fresh (Nat.le_refl _))⟩
end
def qd:List (TE×TE)->St->Hp->(List (V×V)->Hp->Prop)->Prop
 |[],_,H,Q=>Q [] H
 |(tk,tv)::r,σ,H,Q=>tk σ H fun x H1=>tv σ H1 fun y H2=>qd r σ H2 fun ps H3=>Q ((x,y)::ps) H3
abbrev VV:List (V×V)->List (Value×Value)->Prop:=Paired fun p q=>RelV p.1 q.1/\RelV p.2 q.2
def PPs(X:Cx)(pos:Pos)(keys:List (Option Expr))(values:List Expr)(trs:List (TE×TE)):Prop:=
 ∀(pins:List (Addr×Obj)) (s:Shared) (σ:St) (H:Hp) (Q:List (V×V)->Hp->Prop),Inv X pins σ H s->qd trs σ H Q ->
  wpAny (model X.prog X.w) X.A (evalPairs (pairTrees keys values X.env pos)) (fun vs s'=>∃ps H',Inv X pins σ H' s'/\VV ps vs/\Q ps H') X.xe s
def fh(kvs more:List (Key×V)):List (Key×V):=more.foldl (fun acc kv=>putK acc kv.1 kv.2) kvs
theorem KV.merge:∀{more:List (Key×V)}{rs:List (Key×Value)}{kvs:List (Key×V)}{vs:List (Key×Value)},KV more rs->KV kvs vs->KV (fh kvs more) (merged vs rs):=by
 intro more rs kvs vs r;unfold KV at r
 induction r generalizing kvs vs with
 |nil=>intro q;exact q
 |@cons p q ps qs h t ih=>
  intro r0
  have e:KV (putK kvs p.1 p.2) (stored vs q.1 q.2):=by
   have:=r0.put p.1 h.2;rw[←h.1];exact this
  exact ih e
theorem rD:∀(more kvs:List (Key×V)),(fh kvs more).length<=kvs.length+more.length
 |[],kvs=>by show kvs.length<=kvs.length+0;omega
 |p::r,kvs=>by
  have h1:=rD r (putK kvs p.1 p.2);have h2:=nW kvs p.1 p.2;show (fh (putK kvs p.1 p.2) r).length<=_;rw[List.length_cons];omega
structure M1(X:Cx)(o:Expr)(m:Str)(apos:Pos)(e:Expr)(cpos:Pos):Prop where
 base:attributeBase o m X.env (eval o X.env)=eval o X.env
 few:((backTo cpos (starEach [e] X.env)).all (fun x=>!x.1)&&(backToKw cpos (keywordEach [] X.env)).all (fun x=>x.1.isSome)
  && decide (([e]:List Expr).length+([]:List Keyword).length+(if ([]:List Keyword).isEmpty then 0 else 1)<30))=true
 line:(apos.endLine == cpos.line)=true
 trees:backTo cpos (starEach [e] X.env)=[(false,eval e X.env)]
structure M2(X:Cx)(o:Expr)(m:Str)(apos:Pos)(e f:Expr)(cpos:Pos):Prop where
 base:attributeBase o m X.env (eval o X.env)=eval o X.env
 few:((backTo cpos (starEach [e,f] X.env)).all (fun x=>!x.1)&&(backToKw cpos (keywordEach [] X.env)).all (fun x=>x.1.isSome)
  && decide (([e,f]:List Expr).length+([]:List Keyword).length+(if ([]:List Keyword).isEmpty then 0 else 1)<30))=true
 line:(apos.endLine == cpos.line)=true
 trees:backTo cpos (starEach [e,f] X.env)=[(false,eval e X.env),(false,eval f X.env)]
def IsD(H:Hp)(a:Addr):Prop:=(∃kvs,Rd H a (.dK kvs))\/∃kvs,Rd H a (.dT kvs)
theorem Fm{X:Cx}{pins:List (Addr×Obj)}{σ:St}{H:Hp}{s:Shared}{a:Addr}(I:Inv X pins σ H s)(d:IsD H a) :
  s.TypeIs (.ref a) "dict"/\(∀b,Value.ref a=.ref b->∃ob,s.heap.get? b=some ob/\ob.dict=none)/\(a == sysModules)=false:=by
 rcases d with⟨kvs,e⟩|⟨kvs,e⟩
 .obtain⟨_,hd,vs,_,dd⟩:=dJ I.hok e
  refine⟨dd.typeIs,fun b q=>?_,hd⟩;cases q;obtain⟨ob,_,_,h1,h2,_⟩:=dd;exact⟨ob,h1,h2.2.1⟩
 .obtain⟨_,hd,xs,_,dd⟩:=iE I.hok e
  refine⟨dd.typeIs,fun b q=>?_,hd⟩;cases q;obtain⟨ob,_,_,h1,h2,_⟩:=dd;exact⟨ob,h1,h2.2.1⟩
section
variable {X:Cx}{pins:List (Addr×Obj)}{σ:St}{H:Hp}{s:Shared}{a:Addr}{y d:V}{u r:Value}{o:Option V}{A:Around}{E:Value->Shared->Prop}
theorem FK{Q:Value->Shared->Prop}(hu:A.units+1<cLine)(I:Inv X pins σ H s)(g:DGet H a y o)(ry:RelV y u)(rd:RelV d r)(h:∀w' s',Inv X pins σ H s'->RelV (o.getD d) w'->Q w' s') :
  wpAny (model X.prog X.w) A (call (.builtin "dict.get") [.ref a,u,r]) Q E s:=by
 rcases g with⟨kvs,k,e,ey,l⟩|⟨kvs,k,b,e,ey,eb,l⟩
 .subst ey
  obtain⟨z,hd,vs,rel,dd⟩:=dJ I.hok e;refine call_meetsIn PySem.F.slot_dict_get dd.typeIs PySem.F.entry_dict_get (PySem.F.args_dict_get_3 _ _ _) (meets_dict_get_default (bz X.prog X.w) a (iC ry) hd r) ⟨_,dd.mapOf,h _ _ (I.tok _) ?_⟩;rw[l];exact(rel.val k).getD rd
 .subst ey
  cases (show u=Value.ref b from ry);obtain⟨z,hd,xs,rel,dd⟩:=iE I.hok e;refine call_meetsIn PySem.F.slot_dict_get dd.typeIs PySem.F.entry_dict_get (PySem.F.args_dict_get_3 _ _ _) (meetsH_dict_get_default (tupleKind (bz X.prog X.w)) a b hd r) ⟨tupleKind_room_in1 hu,k,xs,jb I.hok eb,dd,h _ _ (I.tok _) ?_⟩;rw[l];exact(rel.val k).getD rd
end
def Em(td ty tx:TE):TE:=fun σ H Q=>td σ H fun x H1=>∃a,x=.ref a/\IsD H1 a/\ty σ H1 fun y H2=>tx σ H2 fun z H3=>∃o,DGet H3 a y o/\Q (o.getD z) H3
section
variable {X:Cx}{o e f:Expr}{apos cpos:Pos}{td ty tx:TE}
theorem Bp(hu:X.A.units+1<cLine)(ho:PE X o td)(he:PE X e ty)(hf:PE X f tx)(m:M2 X o "get" apos e f cpos):PE X (.Call (.Attribute o "get" apos) [e,f] [] cpos) (Em td ty tx):=by
 intro pins s σ H Q I h;refine wpAny_Call_method m.base m.few m.line PySem.F.plainAttrs_dict PySem.F.slot_dict_get PySem.F.type_dict_get (thn (ho pins s σ H _ I h) fun u s1 ⟨x,H1,I1,rx,a,ex,d,q1⟩=>?_);subst ex;obtain rfl:u=Value.ref a:=rx;obtain⟨t1,t2,_⟩:=Fm I1 d;refine⟨t1,t2,?_⟩;rw[m.trees]
 refine Calls.callWith_builtin rfl (Calls.evalArgs_plain (Calls.spliced_cons (thn (he pins s1 σ H1 _ I1 q1) fun iv s2 ⟨y,H2,I2,ry,q2⟩=>
  Calls.spliced_cons (thn (hf pins s2 σ H2 _ I2 q2) fun fv s3 ⟨z,H3,I3,rz,ov,g,q3⟩=>Calls.spliced_nil ?_))))
 exact FK hu I3 g ry rz fun w' s4 I4 rw'=>⟨_,H3,I4,rw',q3⟩
end
section
variable {X:Cx}{pins:List (Addr×Obj)}{σ:St}{H:Hp}{s:Shared}{a:Addr}{kvs:List (Key×V)}{A:Around}{E:Value->Shared->Prop}
theorem B0{Q:Value->Shared->Prop}(I:Inv X pins σ H s)(e:Rd H a (.dK kvs))(h:∀p s',H p=none->Inv X pins σ (upd H p (.dK kvs)) s'->Q (.ref p) s'):wpAny (model X.prog X.w) A (call (.type "dict") [.ref a]) Q E s:=by
 obtain⟨z,hd,vs,rel,dd⟩:=dJ I.hok e;refine kt_call_dict hd dd (by rw[←rel.length];exact z) fun h' dd' hs=>?_;refine h _ _ (I.hok.fresh (Nat.le_refl _)) (I.laid (a:=s.heap.objs.size) (o:=.dK kvs) (t':=s.toks) (fun b q hq=>?_) (Nat.le_refl _) (qp z (beq_eq_false_iff_ne.mpr (Ne.symm (Nat.ne_of_lt I.big))) rel dd'));exact(hs.2 b (Nat.ne_of_lt (Heap.lt_size hq))).trans (Heap.get?_push_of_some _ hq)
end
section
variable {X:Cx}{pins:List (Addr×Obj)}{σ:St}{H:Hp}{s:Shared}{a:Addr}{y:V}{u:Value}{A:Around}{E:Value->Shared->Prop}
end
end L2
namespace Att
open PySem PySem.W PySem.Calls PyProof.Rows
theorem yG{P:Params}{h:Heap}:∀(ns:List Int) (vs:List Value),WellAll P h vs (ns.map WData.int)->IntsAre vs ns:=by
 intro ns
 induction ns with
 |nil=>
  intro vs w;rw[List.map_nil] at w;cases w;exact .nil
 |cons n ns ih=>
  intro vs w;rw[List.map_cons] at w
  cases w with
  |cons a b=>
   cases a;exact .cons _ _ (ih _ b)
theorem Ad{l:OpenLaw}{n:Nat}(hn:l.most=some n){P:Params}{h:Heap}{args:List WData}{vals:List Value}
  (hpre:l.row.toRowW.claim.pre args=true) (hwl:WellAll P h vals args) :
  ∃a vs ns,vals=[Value.ref a]/\args=[WData.list (ns.map WData.int)]/\h.get? a=some { cls:=.type "list",data:=.seq vs.toArray }/\IntsAre vs ns/\ns.length<=n:=by
 have hsh:WShape.hasAll [] args [.list .int]=true:=(pre_splitW hpre).1;have hc:l.pre.holds [] { args:=args } = true:=(pre_splitW hpre).2;obtain⟨d,r,rfl,h1,h2⟩:=hasAllW_cons hsh;obtain rfl:=hasAllW_nil h2;obtain⟨xs,rfl,h3⟩:=hasW_list h1;obtain⟨ns,rfl⟩:=items_int h3
 have hlen:ns.length<=n:=by
  unfold OpenLaw.pre at hc
  have h4:(WTm.not (.lt (.lit (.int (n:Int))) (.len (.arg 0)))).holds [] { args:=[.list (ns.map .int)] } = true:=by
   have h4:=(holds_andW hc).1;rw[hn] at h4;exact h4
  have h5:=condW_of h4 (w_not (w_lt w_lit (w_len_list (w_arg rfl))));rw[List.length_map] at h5;refine Nat.le_of_not_lt fun q=>?_
  have q':(n:Int)<((ns.length:Nat):Int):=by omega
  first
   |(rw[decide_eq_true q'] at h5;exact absurd h5 (by decide))
   |(simp at h5;omega)
 cases hwl with
 |cons w1 w2=>
  cases w2
  cases w1 with
  |list ho hall=>exact⟨_,_,ns,rfl,rfl,ho,yG ns _ hall,hlen⟩
theorem Af(l:OpenLaw)(args:List WData):l.row.toRowW.claim.post args (.bool true) args=true:=
 postW_of (r:=l.row.toRowW) (X:=(true == true))
  (show WShape.has [] (.bool true) .bool=true by first|rfl|decide|simp[WShape.has,WShape.arms,WShape.armsAll])
  (show (WTm.eq .res (.lit (.bool true))).value [] { args:=args,res:=some (.bool true),after:=args } = some (.bool (true == true)) from w_eq_bool (w_res rfl) w_lit) rfl
theorem zA{l:OpenLaw}{n:Nat}{q:Program}{loose:List Str}{XP:(Str->Option Value)->Heap->Prop}{YP:World->Heap->Prop}{d:DefRec}
  (hn:l.most=some n) (hdf:d.params.defaults=[])
  (call:∀(w:World) (s₀ s₁:Shared) (mg mb:Str->Option Value) (fa:Addr) (o:Obj) (pm cd doc:Value) (a:Addr) (vs:List Value) (ns:List Int),
   Ground q loose [] XP w s₀ mg mb s₁.heap->YP w s₁.heap ->
   s₁.heap.get? fa=some o->o.data=.func (docDef d.name d.params d.body d.scope pm cd doc)->s₁.heap.CodeRec cd d.name->mg d.name=some (.ref fa) ->
   s₁.heap.get? a=some { cls:=.type "list",data:=.seq vs.toArray }->IntsAre vs ns->ns.length<=n->s₁.gens = #[] ->
   codeAny (model l.prog w) callerA (.call (.ref fa) ⟨[.ref a],[]⟩) (fun r s'=>r=.ok (.ret (.bool true))/\OldK s₁.heap s'.heap/\s'.os=s₁.os/\AllBare s'.gens) s₁) :
  WalkO q loose XP YP l.row.toRowW d [] (fun f vs=>PySem.call f vs):=by
 intro w s₀ s₁ mg mb G Y fa o pm cd doc dV kV ho hd hcd hD hmg hg args vals as hpre hlay hrd hwl hlo;obtain rfl:dV=.none:=Dflts.none hD hdf;obtain rfl:kV=.none:=Dflts.noKw hD;obtain⟨a,vs,ns,rfl,rfl,hobj,hints,hlen⟩:=Ad hn hpre hwl;refine enter_call (codeAny_mono (call w s₀ s₁ mg mb fa o pm cd doc a vs ns G Y ho (fd_plain hd) hcd hmg hobj hints hlen hg) fun r s' hq=>?_);obtain⟨rfl,h2,h3,h4⟩:=hq;exact⟨.inl ⟨.bool true,.bool true,[],rfl,fun _=>rfl,.bool true,Af l _,fun _=>⟨List.Pairwise.nil,fun _ hm=>(nomatch hm)⟩⟩,h2,h3,h4⟩
section
variable {prog:Program}{w:World}{A:Around}{E:Value->Shared->Prop}{s:Shared}{K:Frag}
end
end Att
namespace L2
open PySem PySem.Spec PyProof.Rows
theorem sD:∀{vs:List Value}{ns:List Int},IntsAre vs ns->Vals (ns.map V.int) vs
 |_,_,.nil=>.nil
 |_,_,.cons n t h=>.cons ⟨t,rfl⟩ (sD h)
def rm(H:Hp):Prop:=∀b,H b=none\/∃o xs,H b=some (.frz o (.lst xs))
theorem BE{P:Program}{w:World}{K:Frag}{mg mb:Str->Option Value}{CX:CXT}{k:Nat}{fa a:Addr}{fd:FuncData}{x:Str}{sp:Sp}{s₁:Shared}{vs:List Value}{ns:List Int}
  (KX:K.In s₁.heap) (hns:s₁.heap.Ns mainGlobals mg) (hb:s₁.heap.Ns builtinsNs mb) (hbb:∀x:Str,x≠"__name__"->mb x=bootBuiltins x) (hlim:s₁.heap.NoLimit) (hg:s₁.gens = #[])
  (ha:s₁.heap.get? a=some { cls:=.type "list",data:=.seq vs.toArray }) (hi:IntsAre vs ns) (hl:ns.length<=sizeLine) (hr:Room k callerA)
  (F:∀base:Heap,K.In base->base.Ns mainGlobals mg->FnOk P w K mg base CX k fa fd [x] sp) (hbind:∀(s:Shared) (u:Value),BindsTo s fd ⟨[u],[]⟩ [(x,u)])
  (hsp:∀H:Hp,rm H->SqL K H a (ns.map V.int)->sp [.ref a] H (fun v _=>v=.bl true) fun _ _ _=>False)
  (hCX:∀H e s',CX [] H s₁ (fun _ _ _=>False) e s'->False) :
  codeAny (model P w) callerA (.call (.ref fa) ⟨[.ref a],[]⟩) (fun r s'=>r=.ok (.ret (.bool true))/\OldK s₁.heap s'.heap/\s'.os=s₁.os/\AllBare s'.gens) s₁:=by
 have rv:=sD hi;have lenV:=hi.length
 have core:∀H:Hp,rm H->SqL K H a (ns.map V.int)->HOk P w H s₁.heap->(∀b,H b≠none->b=a)->(H a≠none->K.lookup a=none) ->
   codeAny (model P w) callerA (.call (.ref fa) ⟨[.ref a],[]⟩) (fun r s'=>r=.ok (.ret (.bool true))/\OldK s₁.heap s'.heap/\s'.os=s₁.os/\AllBare s'.gens) s₁:=by
  intro H hO hS hok hA hK;have base_of:∀{b:Addr}{o:Obj},s₁.heap.get? b=some o->H b=none->(gf s₁.heap H).get? b=some o:=fun e n=>BH e n
  have noA:∀{b:Addr}{o:Obj}{es:Array DictEntry}{ep:Nat},s₁.heap.get? b=some o->o.data=.dict es ep->H b=none:=fun {b o es ep} e d=>by
   cases q:H b with
   |none=>rfl
   |some u=>
    have e':b=a:=hA b (by rw[q];simp);subst e';rw[ha] at e;cases e;have d':Data.seq vs.toArray _=Data.dict es ep:=d;cases d'
  have nsK:∀{b:Addr}{m:Str->Option Value},s₁.heap.Ns b m->(gf s₁.heap H).Ns b m:=fun {b m} ⟨o,es,ep,e,d,r⟩=>⟨o,es,ep,base_of e (noA e d),d,r⟩
  have hKb:K.In (gf s₁.heap H):=fun b o e=>base_of (KX b o e) (by
   cases q:H b with
   |none=>rfl
   |some u=>
    have e':b=a:=hA b (by rw[q];simp);subst e'
    rw[hK (by rw[q];simp)] at e;cases e)
  have hM:Mod K mg (gf s₁.heap H):=⟨hKb,nsK hns,⟨mb,nsK hb,hbb⟩,let ⟨mc,h1,h2⟩:=hlim;⟨mc,nsK h1,h2⟩⟩;have e0:Env0 P w K mg (gf s₁.heap H) callerA [] s₁ H:=⟨rfl,hM,fun b o e=>CQ e,Nat.le_of_eq (AG _ _),trivial,fun b hb=>absurd (show b∈([]:List Addr) from hb) (by simp),hok,.of_eq hg⟩;refine codeAny_mono ((F _ hKb (nsK hns)).run callerA [] s₁ H ⟨[.ref a],[]⟩ [.ref a] [.ref a] _ _ hr e0 (hbind s₁ (.ref a)) (.cons rfl .nil) (hsp H hO hS)) fun r s' h=>?_
  cases r with
  |error e=>exact(hCX H e s' h).elim
  |ok fl=>
   cases fl with
   |next=>exact False.elim h
   |brk=>exact False.elim h
   |cont=>exact False.elim h
   |ret u=>
    obtain⟨v,H',os,bare,un,hok',r',q⟩:=h;have q':v=.bl true:=q;subst q';obtain rfl:u=Value.bool true:=r';refine⟨rfl,OldK.of_keep fun b o e=>?_,os,bare⟩
    cases q:H b with
    |none=>exact un.keep b o e q (by intro z;exact absurd (show b∈([]:List Addr) from z) (by simp)) (by simp)
    |some u=>
     rcases hO b with z|⟨ob,xs,z⟩
     .rw[q] at z;cases z
     .have z2:=un.frzs b ob _ z
      obtain⟨e1,_⟩:=hok b _ z;obtain⟨e2,_⟩:=hok' b _ z2;rw[e] at e1;cases e1;exact e2
 cases hk:K.lookup a with
 |some o=>
  have e:=KX a o hk;rw[ha] at e;cases e;refine core (fun _=>none) (fun _=>.inl rfl) (.inr ⟨_,vs.toArray,_,hk,rfl,rfl,rfl,by rw[List.size_toArray,lenV];exact hl,by simpa using rv⟩) (fun b u z=>by have z':(none:Option HO)=some u:=z;cases z') (fun b z=>absurd rfl z) fun z=>absurd rfl z
 |none=>
  refine core (fun b=>if b=a then some (.frz { cls:=.type "list",data:=.seq vs.toArray } (.lst (ns.map V.int))) else none) (fun b=>?_) (.inl (.inr ⟨{ cls:=.type "list",data:=.seq vs.toArray },if_pos rfl⟩)) (fun b u z=>?_) (fun b z=>?_) fun _=>hk
  .by_cases hb:b=a
   .exact .inr ⟨_,_,if_pos hb⟩
   .exact .inl (if_neg hb)
  .by_cases hb:b=a
   .have z':=(if_pos hb).symm.trans z
    cases z';subst hb;exact⟨ha,by rw[List.length_map];exact hl,vs,_,rv,ha⟩
   .have z':=(if_neg hb).symm.trans z
    cases z'
  .by_cases hb:b=a
   .exact hb
   .exact absurd (if_neg hb) z
theorem Cg{l:PySem.W.OpenLaw}{n k:Nat}{q:Program}{loose:List Str}{XP:(Str->Option Value)->Heap->Prop}{YP:World->Heap->Prop}{d:DefRec}{K:Params->Frag}{CX:World->CXT}{sp:World->Sp}{x:Str}
  (hn:l.most=some n) (hn2:n<=sizeLine) (hdf:d.params.defaults=[]) (hr:Room k callerA)
  (hY:∀(w:World) (h:Heap),YP w h->(K w.params).In h)
  (F:∀(w:World) (mg:Str->Option Value) (fa:Addr) (h:Heap),(K w.params).In h->h.Ns mainGlobals mg->mg d.name=some (.ref fa) ->
   ∃fd:FuncData,(∀(s:Shared) (u:Value),BindsTo s fd ⟨[u],[]⟩ [(x,u)]) /\
    ∀base:Heap,(K w.params).In base->base.Ns mainGlobals mg->FnOk l.prog w (K w.params) mg base (CX w) k fa fd [x] (sp w))
  (hsp:∀(w:World) (H:Hp) (a:Addr) (ns:List Int),ns.length<=n->rm H->SqL (K w.params) H a (ns.map V.int)->sp w [.ref a] H (fun v _=>v=.bl true) fun _ _ _=>False)
  (hCX:∀(w:World) (H:Hp) (s:Shared) (e:Value) (s':Shared),CX w [] H s (fun _ _ _=>False) e s'->False) :
  PySem.W.WalkO q loose XP YP l.row.toRowW d [] (fun f vs=>PySem.call f vs):=by
 refine Att.zA hn hdf fun w s₀ s₁ mg mb fa o pm cd doc a vs ns G Y ho hd hcd hmg hobj hints hlen hg=>?_;have KX:=hY w _ Y;obtain⟨fd,hb,hF⟩:=F w mg fa _ KX G.T.g hmg;exact BE KX G.T.g G.T.b G.T.builtins G.T.nolimit hg hobj hints (Nat.le_trans hlen hn2) hr hF hb (fun H hO hS=>hsp w H a ns hlen hO hS) fun H e s'=>hCX w H s₁ e s'
def dF(s:Stmt):Arguments:=match s with
 |.FunctionDef _ a _ _ _ _ _ _ _ _=>a
 |_=>{ posonlyargs:=[],args:=[],vararg:=none,kwonlyargs:=[],kw_defaults:=[],kwarg:=none,defaults:=[] }
def cx(s:Stmt):List Stmt:=match s with
 |.FunctionDef _ _ b _ _ _ _ _ _ _=>b
 |_=>[]
def bf(s:Stmt):Scope:=match s with
 |.FunctionDef _ _ _ _ _ _ sc _ _ _=>sc
 |_=>{ kind:=.function,names:=[],isGenerator:=false,isCoroutine:=false }
abbrev CX0:CXT:=fun _ _ _ _ _ _=>False
abbrev E0:XK:=fun _ _ _=>False
theorem Gu{X:Cx}:qu CX0 X E0:=fun _ _ _ _ _ _ _ h=>h.elim
structure Fun(K:Frag)(x qual:Str)(st:Stmt)(f:Addr)(fd:FuncData):Prop where
 ex:∃(oc:Value) (od:Option Addr) (kV doc pm:Value) (an:Option Addr) (cdv ct:Value) (osl:Array (Option Value)),
  fd=PySem.W.fnOf x qual (dF st) (cx st) (bf st) .none kV doc pm an cdv ct/\K.lookup f=some ⟨oc,od,.func fd,osl⟩/\PySem.W.codeIn K cdv qual=true
 kp:PySem.W.keepIn K (.ref f)=true
section
variable {P:Program}{w:World}{K:Frag}{mg:Str->Option Value}{base:Heap}
theorem Fun.ok{x qual:Str}{st:Stmt}{f:Addr}{fd:FuncData}{N ps:List Str}{k:Nat}{sp:Sp}(F:Fun K x qual st f fd)(S:FnScope N ps (bf st))(len:∀vs H Q E,sp vs H Q E->vs.length=ps.length)
  (hbody:∀(cdv:Value) (A:Around) (outer:List Env) (s:Shared) (H:Hp) (vs:List V) (Q:VK) (E:XK),Room k (A.deeper (envOfC qual (bf st) s.heap.objs.size f cdv))->sp vs H Q E ->
   ∃t,PSs (eX CX0 P w K mg base N qual (bf st) f cdv A outer s H E).nox (cx st) t/\t { nx:=fun _ H'=>Q .non H',rt:=Q } (start N vs) H):FnOk P w K mg base CX0 (k+1) f fd ps sp:=by
 obtain⟨oc,od,kV,doc,pm,an,cdv,ct,osl,rfl,lk,hcd⟩:=F.ex;refine G4 lk hcd S len fun A outer s H vs Q E hr hsp=>?_;obtain⟨t,h,q⟩:=hbody cdv A outer s H vs Q E hr hsp;exact⟨t,h.nox,q⟩
theorem Fun.binds{x qual:Str}{st:Stmt}{f:Addr}{fd:FuncData}{ps:List Str}(F:Fun K x qual st f fd)
  (h:∀(kV doc pm:Value) (an:Option Addr) (cdv ct:Value) (us:List Value),us.length=ps.length->bindArgs (PySem.W.fnOf x qual (dF st) (cx st) (bf st) .none kV doc pm an cdv ct) ⟨us,[]⟩=pure (ps.zip us)):Binds K fd ps []:=by
 obtain⟨oc,od,kV,doc,pm,an,cdv,ct,osl,rfl,lk,hcd⟩:=F.ex;exact .all (h kV doc pm an cdv ct)
theorem wC{x qual:Str}{st:Stmt}{f:Addr}{oc:Value}{od an:Option Addr}{osl:Array (Option Value)}{kV doc pm cdv ct:Value}(l:K.lookup f=some ⟨oc,od,.func (PySem.W.fnOf x qual (dF st) (cx st) (bf st) .none kV doc pm an cdv ct),osl⟩)
  (c:PySem.W.codeIn K cdv qual=true) (k:PySem.W.keepIn K (.ref f)=true):Fun K x qual st f (PySem.W.fnOf x qual (dF st) (cx st) (bf st) .none kV doc pm an cdv ct):=⟨⟨oc,od,kV,doc,pm,an,cdv,ct,osl,rfl,l,c⟩,k⟩
end
section
variable {X:Cx}
theorem pv(i:Nat){x:Str}{pos:Pos}(hN:X.N[i]? = some x:=by rfl)(hv:Vis X.env.scope x:=by first|exact Or.inl rfl|exact Or.inr (Or.inl rfl)|exact Or.inr (Or.inr rfl))(hd:(x == ("__debug__" : Str))=false:=by decide)
  (hcd:(x == ("__classdict__" : Str))=false:=by decide):PE X (.Name x pos) (xZ i):=EF hN hv hd hcd
end
theorem gb{A B:Prop}(h:B):if false=true then A else B:=by
 rw[if_neg Bool.false_ne_true];exact h
theorem f9{A B:Prop}(h:A):if true=true then A else B:=by
 rw[if_pos rfl];exact h
end L2
set_option maxHeartbeats 4000000
namespace K1
open PySem
def has(signs x:Str):Bool:=x.cps.toList.all fun c=>decide (c∈signs.cps.toList)
def LET:Str:="abcdefghijklmnopqrstuvwxyz"
def TXT:Str:="abcdefghijklmnopqrstuvwxyz0123456789-"
def single:PyData->Bool
 |.int i=>decide ((if i<0 then -i else i)<=10^18)
 |.str x=>decide (x.length<=20)&&has TXT x
 |_=>false
def aN:Nat->PyData->Bool
 |0,.tuple _=>false
 |n+1,.tuple ds=>decide (ds.length<=8)&&ds.all (aN n)
 |_,d=>single d
def aJ:Nat->PyData->Int
 |n+1,.tuple ds=>1+(ds.map (aJ n)).sum
 |_,_=>1
def lsz:Nat->PyData->Int
 |n+1,.tuple ds=>if ds.length>8 then 100 else 1+(ds.map (lsz n)).sum
 |_,d=>if single d=true then 1 else 100
def isName:PyData->Bool
 |.str x=>decide (1<=x.length)&&decide (x.length<=8)&&has LET x
 |_=>false
def aF(d:PyData):Bool:=aN 4 d&&decide (aJ 4 d<=40)
theorem vO{α:Type}(f:α->Int)(h:∀a,1<=f a):∀l:List α,(l.length:Int)<=(l.map f).sum
 |[]=>by simp
 |a::r=>by
  have:=vO f h r;have:=h a;simp only[List.map_cons,List.sum_cons,List.length_cons];omega
def tdp:Nat->PyData->Bool
 |0,.tuple _=>false
 |n+1,.tuple ds=>ds.all (tdp n)
 |_,_=>true
theorem tw:∀(n:Nat) (d:PyData),aN n d=true->tdp n d=true
 |0,d,h=>by cases d <;> first|rfl|cases h
 |n+1,d,h=>by
  cases d with
  |tuple ds=>
   have e:aN (n+1) (.tuple ds)=(decide (ds.length<=8)&&ds.all (aN n)):=rfl;rw[e,Bool.and_eq_true] at h;show ds.all (tdp n)=true;exact List.all_eq_true.mpr fun x hx=>tw n x (List.all_eq_true.mp h.2 x hx)
  |_=>rfl
def dw(best:Int):List Int->Int
 |[]=>best
 |n::r=>dw (if n>best then n else best) r
def cC(d:Int):List Int->Int
 |[]=>d
 |n::r=>dw n r
def aX:Nat->PyData->Int
 |n+1,.tuple ds=>1+cC 0 (ds.map (aX n))
 |_,_=>0
def xt(acc:Int):List Int->Int
 |[]=>acc
 |n::r=>xt (if 1+n>acc then 1+n else acc) r
def ldp:Nat->PyData->Int
 |n+1,.tuple ds=>xt 1 (ds.map (ldp n))
 |_,_=>0
theorem rY:∀(l:List Int) (b:Int),b<=dw b l
 |[],b=>Int.le_refl b
 |n::r,b=>by
  show b<=dw (if n>b then n else b) r;have:=rY r (if n>b then n else b)
  split at this <;> (rename_i h;simp only[h,if_true,if_false] <;> omega)
theorem uS(l:List Int)(h:∀n∈l,0<=n):0<=cC 0 l:=by
 cases l with
 |nil=>exact Int.le_refl 0
 |cons n r=>exact Int.le_trans (h n List.mem_cons_self) (rY r n)
theorem uh:∀(n:Nat) (d:PyData),0<=aX n d
 |0,d=>by cases d <;> exact Int.le_refl 0
 |n+1,d=>by
  cases d with
  |tuple ds=>
   show 0<=1+cC 0 (ds.map (aX n))
   have:=uS (ds.map (aX n)) fun x hx=>by
    obtain⟨y,_,rfl⟩:=List.mem_map.mp hx;exact uh n y
   omega
  |_=>exact Int.le_refl 0
end K1
namespace L2
open PySem
def cv(env:Env):List (Str×NameKind)->List (Str×Addr)->List (Str×Addr)
 |[],acc=>acc
 |(n,k)::r,acc=>cv env r (if (k == .free)=true then (n,(env.cells.lookup n).getD 0)::acc else acc)
theorem oE{env:Env}:∀(l:List (Str×NameKind)) (acc:List (Str×Addr)),(∀x∈l,x.2=.free->∃c,env.cells.lookup x.1=some c) ->
  (forIn l acc (fun x r=>match x with
   | (name,kind)=>if (kind == NameKind.free)=true then (do
     let c ←cellOf env name
     pure (ForInStep.yield ((name,c)::r))) else pure (ForInStep.yield r)):Sem (List (Str×Addr)))=pure (cv env l acc)
 |[],acc,_=>rfl
 |(n,k)::r,acc,h=>by
  rw[List.forIn_cons];have hr:∀x∈r,x.2=.free->∃c,env.cells.lookup x.1=some c:=fun x hx=>h x (List.mem_cons_of_mem _ hx)
  cases hk:(k == NameKind.free) with
  |false=>
   have ih:=oE r acc hr
   have e:cv env ((n,k)::r) acc=cv env r acc:=by simp[cv,hk]
   rw[e];dsimp only;rw[if_neg (by rw[hk];exact Bool.false_ne_true)];exact ih
  |true=>
   obtain⟨c,hc⟩:=h (n,k) List.mem_cons_self (by simpa using hk);have ih:=oE r ((n,c)::acc) hr;have hc':env.cells.lookup n=some c:=hc
   have e:cv env ((n,k)::r) acc=cv env r ((n,c)::acc):=by simp[cv,hk,hc']
   have e2:cellOf env n=pure c:=by unfold cellOf;rw[hc']
   rw[e];dsimp only;rw[if_pos hk,e2];exact ih
theorem so{scope:Scope}{env:Env}(h:∀x∈scope.names,x.2=.free->∃c,env.cells.lookup x.1=some c):closureFor scope env=pure (cv env scope.names []):=by
 have q:=oE (env:=env) scope.names [] h;unfold closureFor;exact congrArg (fun t=>t >>= fun z=>pure z) q
theorem rN{env:Env}:∀(l:List (Str×NameKind)) (acc:List (Str×Addr)) (x:Str) (c:Addr),(∀y d,acc.lookup y=some d->env.cells.lookup y=some d) ->
  (∀y∈l,y.2=.free->∃c,env.cells.lookup y.1=some c)->(cv env l acc).lookup x=some c->env.cells.lookup x=some c
 |[],acc,x,c,ha,_,e=>ha x c e
 |(n,k)::r,acc,x,c,ha,h,e=>by
  have hr:∀x∈r,x.2=.free->∃c,env.cells.lookup x.1=some c:=fun x hx=>h x (List.mem_cons_of_mem _ hx);refine rN r _ x c ?_ hr e;intro y d q
  cases hk:(k == NameKind.free) with
  |false=>rw[hk,if_neg Bool.false_ne_true] at q;exact ha y d q
  |true=>
   rw[hk,if_pos rfl] at q;obtain⟨c',hc⟩:=h (n,k) List.mem_cons_self (by simpa using hk);have hc':env.cells.lookup n=some c':=hc;rw[List.lookup_cons] at q
   by_cases z:y=n
   .subst z
    simp[hc'] at q;rw[hc',q]
   .have z':(y == n)=false:=beq_eq_false_iff_ne.mpr z
    rw[z'] at q;exact ha y d q
theorem su{env:Env}:∀(l:List (Str×NameKind)) (acc:List (Str×Addr)) (x:Str),(acc.lookup x).isSome=true->((cv env l acc).lookup x).isSome=true
 |[],_,_,h=>h
 |(n,k)::r,acc,x,h=>by
  refine su r _ x ?_
  cases hk:(k == NameKind.free) with
  |false=>rw[if_neg Bool.false_ne_true];exact h
  |true=>
   rw[if_pos rfl,List.lookup_cons]
   cases z:(x == n) with
   |true=>rfl
   |false=>exact h
theorem sr{env:Env}:∀(l:List (Str×NameKind)) (acc:List (Str×Addr)) (x:Str),(x,NameKind.free)∈l->((cv env l acc).lookup x).isSome=true
 |[],_,_,h=>absurd h (by simp)
 |(n,k)::r,acc,x,h=>by
  rcases List.mem_cons.mp h with e|e
  .cases e
   refine su r _ _ ?_;rw[if_pos (by decide),List.lookup_cons];simp
  .exact sr r _ x e
open PySem PySem.Spec PyProof.Rows
structure CS(osc:Scope)(N:List Str)(x:Str)(scope:Scope)(N':List Str):Prop where
 kind:scope.kind=.function
 nocell:∀y∈scope.names,y.2≠.cell
 names:∀y∈scope.names,y.2=.local->scope.names.lookup y.1=some .local
 hx:scope.names.lookup x=some .local
 only:∀y∈scope.names,y.2=.local->y.1=x\/y.1=".0"
 free:∀y∈scope.names,y.2=.free->osc.names.lookup y.1=some .cell\/osc.names.lookup y.1=some .free
 nd:(x::N').Nodup
 n0:(".0" : Str)∉N'
 len:N'.length=N.length
 rel:∀p∈N'.zip N,p.1=p.2\/∀q∈scope.names,q.1≠p.1
theorem CS.at{osc:Scope}{N N':List Str}{x:Str}{scope:Scope}(S:CS osc N x scope N'){j:Nat}{y:Str}(h:N'[j]? = some y):N[j]? = some y\/∀q∈scope.names,q.1≠y:=by
 have hl:j<N'.length:=(List.getElem?_eq_some_iff.mp h).1
 have hl2:j<N.length:=by rw[←S.len];exact hl
 have m:(N'.zip N)[j]? = some (y,N[j]):=by
  rw[List.getElem?_zip_eq_some];exact⟨h,List.getElem?_eq_getElem hl2⟩
 rcases S.rel _ (List.mem_of_getElem? m) with z|z
 .left
  rw[List.getElem?_eq_getElem hl2];exact congrArg some z.symm
 .exact .inr z
theorem tZ{c:Str×NameKind->Bool}:∀{names:List (Str×NameKind)}{y:Str}{k':NameKind},
  (names.map fun p=>if (p.2 == NameKind.free&&c p)=true then (p.1,NameKind.cell) else (p.1,p.2)).lookup y=some k'->∃k,(y,k)∈names/\(k'=k\/(k=.free/\k'=.cell))
 |[],_,_,h=>by simp at h
 |(n,k)::r,y,k',h=>by
  rw[List.map_cons] at h
  by_cases hy:y=n
  .subst hy
   cases hc:(k == NameKind.free&&c (y,k)) with
   |false=>
    simp only[hc,Bool.false_eq_true,if_false,List.lookup_cons,beq_self_eq_true] at h;cases h;exact⟨k,List.mem_cons_self,.inl rfl⟩
   |true=>
    simp only[hc,if_true,List.lookup_cons,beq_self_eq_true] at h;cases h
    have e:k=.free:=by
     have:=(Bool.and_eq_true _ _).mp hc;simpa using this.1
    exact⟨k,List.mem_cons_self,.inr ⟨e,rfl⟩⟩
  .have hb:(y == n)=false:=beq_eq_false_iff_ne.mpr hy
   have h':(r.map fun p=>if (p.2 == NameKind.free&&c p)=true then (p.1,NameKind.cell) else (p.1,p.2)).lookup y=some k':=by
    cases hc:(k == NameKind.free&&c (n,k)) with
    |false=>simp only[hc,Bool.false_eq_true,if_false,List.lookup_cons,hb] at h;exact h
    |true=>simp only[hc,if_true,List.lookup_cons,hb] at h;exact h
   obtain⟨k2,m,e⟩:=tZ h';exact⟨k2,List.mem_cons_of_mem _ m,e⟩
theorem nU{scope:Scope}{env:Env}{y:Str}{k':NameKind}(h:(relabel scope env).names.lookup y=some k'):∃k,(y,k)∈scope.names/\(k'=k\/(k=.free/\k'=.cell)):=by
 refine tZ (c:=fun p=>env.scope.kind == .function&&env.kindOf p.1 == some .cell) ?_;rw[←h];unfold relabel
 congr 1
 refine List.map_congr_left fun p _=>?_;obtain⟨n,k⟩:=p;simp only[Bool.and_assoc]
abbrev bT(X:Cx)(x:Str)(scope:Scope)(C:Addr)(s0:Shared)(H0:Hp)(ex:List Addr)(N':List Str):Cx where
 prog:=X.prog
 w:=X.w
 K:=X.K
 mg:=X.mg
 base:=X.base
 A:=X.A
 N:=x::N'
 s₀:=s0
 H₀:=H0
 env:=compEnvC scope (cv X.env scope.names []) C X.env
 outer:=X.stack
 stack:=X.stack
 ex:=ex
 fn:=fun _=>false
 calm:=X.calm
 pn:=[]
 xe:=fun _ _=>False
section
variable {X:Cx}{pins:List (Addr×Obj)}{σ:St}{H:Hp}{s:Shared}{x:Str}{scope:Scope}{N':List Str}
theorem oW(I:Inv X pins σ H s)(S:CS X.env.scope X.N x scope N'):∀y∈scope.names,y.2=.free->∃c,X.env.cells.lookup y.1=some c:=fun y hy e=>
 I.ok.has y.1 (S.free y hy e)
theorem tq(I:Inv X pins σ H s)(S:CS X.env.scope X.N x scope N'){y:Str}{c:Addr}(e:(cv X.env scope.names []).lookup y=some c):X.env.cells.lookup y=some c:=rN scope.names [] y c (fun _ _ z=>by simp at z) (oW I S) e
theorem um(I:Inv X pins σ H s)(S:CS X.env.scope X.N x scope N'){y:Str}(e:(y,NameKind.free)∈scope.names):∃c,(cv X.env scope.names []).lookup y=some c/\X.env.cells.lookup y=some c:=by
 obtain⟨c,hc⟩:=Option.isSome_iff_exists.mp (sr (env:=X.env) scope.names [] y e);exact⟨c,hc,tq I S hc⟩
theorem sm{fp:List Addr}{h':Heap}{m:Str->Option Value}{tk:Nat}{oD oC:Obj}(I:Inv X pins σ H s)(S:CS X.env.scope X.N x scope N')(hf:∀b∈fp,dq X pins H b)(ho:∀b∈fp,∃o,s.heap.get? b=some o)
  (hns:h'.Ns (s.heap.push oD).objs.size m) (hsb:Heap.SameBut (s.heap.push oD).objs.size ((s.heap.push oD).push oC) h') :
  Inv (bT X x scope (s.heap.push oD).objs.size { s with heap:=s.heap.push oD } H (s.heap.objs.size::fp) N') [] (none::σ) H { s with heap:=h',toks:=tk }:=by
 have I3:Inv X pins σ H { s with heap:=s.heap.push oD,toks:=s.toks }:=I.kept fun b o e=>Heap.get?_push_of_some _ e;have hC:(s.heap.push oD).objs.size=s.heap.objs.size+1:=Heap.size_push ..
 have up3:∀b o,(s.heap.push oD).get? b=some o->h'.get? b=some o:=fun b o e=>
  (hsb.2 b (Nat.ne_of_lt (Heap.lt_size e))).trans (Heap.get?_push_of_some _ e)
 have up:∀b o,s.heap.get? b=some o->h'.get? b=some o:=fun b o e=>up3 b o (Heap.get?_push_of_some _ e);have cl:=fun {y c} e=>tq (y:=y) (c:=c) I S e
 have clt:∀y c,X.env.cells.lookup y=some c->c<s.heap.objs.size:=fun y c e=>let ⟨v,q⟩:=I.cell y c e;q.lt
 have inner:∀{y:Str}{k':NameKind},(relabel scope X.env).names.lookup y=some k'->(k'=.cell\/k'=.free)->(y,NameKind.free)∈scope.names:=fun {y k'} e hk=>by
  obtain⟨k,mem,r⟩:=nU e
  rcases r with r|⟨r,_⟩
  .rcases hk with z|z
   .exact absurd (r.symm.trans z) (S.nocell _ mem)
   .rw[←r.symm.trans z];exact mem
  .rw[←r];exact mem
 have ok:(bT X x scope (s.heap.push oD).objs.size { s with heap:=s.heap.push oD } H (s.heap.objs.size::fp) N').Ok:=by
  refine⟨I.ok.mod,S.kind,I.ok.glob,I.ok.blt,Nat.le_refl _,fun y z c e1 e2=>I.ok.inj y z c (cl e1) (cl e2),fun y hk=>?_,fun y c e=>(nomatch e),I.ok.hd,I.ok.frames,.inl rfl,fun b hb=>?_,fun b o e=>?_,
   Nat.le_trans (Nat.le_trans I.ok.bsz I.sz) (by show s.heap.objs.size<=(s.heap.push oD).objs.size;omega),fun b o e hb=>?_,fun b hb z=>?_,I3.stack,I.stkFree⟩
  .have mem:(y,NameKind.free)∈scope.names:=by
    rcases hk with z|z
    .exact inner z (.inl rfl)
    .exact inner z (.inr rfl)
   obtain⟨c,hc,_⟩:=um I S mem;exact⟨c,hc⟩
  .rcases List.mem_cons.mp hb with e|e
   .subst e
    exact⟨by show s.heap.objs.size≠(s.heap.push oD).objs.size;omega,fun y c e=>Nat.ne_of_lt (clt y c (cl e))⟩
   .obtain⟨o,q⟩:=ho b e
    have q2:=Heap.lt_size q;exact⟨by show b≠(s.heap.push oD).objs.size;rw[hC];exact Nat.ne_of_lt (Nat.lt_succ_of_lt q2),fun y c e'=>(hf b e).2.2.2.2.1 y c (cl e')⟩
  .exact⟨Heap.get?_push_of_some _ (I.bs b o e).1,(I.bs b o e).2⟩
  .rcases List.mem_cons.mp hb with z|z
   .have q2:=Heap.lt_size (I.bs b o e).1
    rw[z] at q2;exact Nat.lt_irrefl _ q2
   .rcases(hf b z).2.2.2.1 with q|q
    .exact I.ok.noex b o e q
    .have q2:=Heap.lt_size (I.ok.bs b o e).1
     exact Nat.lt_irrefl _ (Nat.lt_of_lt_of_le q2 q)
  .have z':=I.stkSub b z
   rcases List.mem_cons.mp hb with e|e
   .subst e
    rcases List.mem_cons.mp z' with q|q
    .have q2:=I.lt
     rw[←q] at q2;exact Nat.lt_irrefl _ q2
    .exact I.nofs (Nat.le_refl _) q
   .rcases List.mem_cons.mp z' with q|q
    .exact(hf b e).2.1 q
    .exact(hf b e).2.2.1 q
 obtain⟨mo,hno,hlo⟩:=I.loc;refine⟨ok,rfl,I.bare,Un.kept up3,⟨m,hns,fun i y v e1 e2 e3=>?_⟩,fun y c e=>?_,I.hok.fresh (by show s.heap.objs.size<=(s.heap.push oD).objs.size;omega),fun y c e=>I.freeC y c (cl e),fun p hp=>absurd hp (by simp),I.hok.kept up,?_⟩
 .cases i with
  |zero=>simp at e2
  |succ j=>
   have e1n:N'[j]? = some y:=by simpa using e1
   have vis:∃k,(y,k)∈scope.names:=by
    rcases(show Vis (relabel scope X.env) y from e3) with z|z|z <;> exact let ⟨k,mem,_⟩:=nU z;⟨k,mem⟩
   have e1':X.N[j]? = some y:=by
    rcases S.at e1n with z|z
    .exact z
    .obtain⟨k,mem⟩:=vis
     exact absurd rfl (z _ mem)
   have e2':σ[j]? = some (some v):=by simpa using e2
   have yx:y≠x:=fun z=>by
    have nd:=S.nd;rw[List.nodup_cons] at nd;refine nd.1 ?_;rw[←z];exact List.mem_of_getElem? e1n
   have kin:((relabel scope X.env).names.lookup y=some .cell\/(relabel scope X.env).names.lookup y=some .free):=by
    rcases(show Vis (relabel scope X.env) y from e3) with z|z|z
    .obtain⟨k,mem,r⟩:=nU z
     rcases r with r|⟨_,r⟩
     .rcases S.only _ mem r.symm with z2|z2
      .exact absurd z2 yx
      .exact absurd (List.mem_of_getElem? e1n) (by rw[show y=(".0" : Str) from z2];exact S.n0)
     .cases r
    .exact .inl z
    .exact .inr z
   have mem:(y,NameKind.free)∈scope.names:=by
    rcases kin with z|z
    .exact inner z (.inl rfl)
    .exact inner z (.inr rfl)
   have vo:Vis X.env.scope y:=by
    rcases S.free _ mem rfl with z|z
    .exact .inr (.inl z)
    .exact .inr (.inr z)
   obtain⟨u,ru,lk⟩:=hlo j y v e1' e2' vo;refine⟨u,ru,.inr ⟨kin,?_⟩⟩;obtain⟨c,hc,hc'⟩:=um I S mem;refine⟨c,hc,?_⟩
   rcases lk with⟨z,_⟩|⟨_,c2,z2,q⟩
   .exfalso
    have z':X.env.scope.names.lookup y=some .local:=z
    rcases S.free _ mem rfl with r|r <;> (rw[z'] at r;cases r)
   .rw[hc'] at z2
    cases z2;obtain⟨o,q1,q2⟩:=q;exact⟨o,up _ _ q1,q2⟩
 .obtain⟨v,o,q1,q2⟩:=I.cell y c (cl e)
  exact⟨v,o,up _ _ q1,q2⟩
 .have:=I.len
  simp[this,S.len]
theorem sk{fp:List Addr}{σ':St}{pins':List (Addr×Obj)}{H1:Hp}{s1:Shared}{h':Heap}{C:Addr}{oD:Obj}{ys:List V}(I:Inv X pins σ H s)(hf:∀b∈fp,dq X pins H b)
  (hCd:C=(s.heap.push oD).objs.size) (J:Inv (bT X x scope C { s with heap:=s.heap.push oD } H (s.heap.objs.size::fp) N') pins' σ' H1 s1) (hsb:Heap.SameBut C s1.heap h') (hD0:H1 s.heap.objs.size=none)
  (new:∃its n,Vals ys its/\s1.heap.get? s.heap.objs.size=some { cls:=.type "list",data:=.seq its.toArray n }) (hz:ys.length<=sizeLine) :
  Inv X pins σ (upd H1 s.heap.objs.size (.lst ys)) { s1 with heap:=h' }:=by
 have hC:C=s.heap.objs.size+1:=by rw[hCd];exact Heap.size_push ..
 have nD:∀b o,s.heap.get? b=some o->b≠s.heap.objs.size:=fun b o e=>Nat.ne_of_lt (Heap.lt_size e)
 have nC:∀b o,s.heap.get? b=some o->b≠C:=fun b o e=>by rw[hC];exact Nat.ne_of_lt (Nat.lt_succ_of_lt (Heap.lt_size e))
 have up:∀b o,s.heap.get? b=some o->(s.heap.push oD).get? b=some o:=fun b o e=>Heap.get?_push_of_some _ e;have nx:∀b,b∉fp->b≠s.heap.objs.size->b∉s.heap.objs.size::fp:=fun b h1 h2 z=>(List.mem_cons.mp z).elim h2 h1
 have hDC:s.heap.objs.size≠C:=by rw[hC];exact Nat.ne_of_lt (Nat.lt_succ_self _)
 have tr:∀b u,H1 b=some u->b≠s.heap.objs.size:=fun b u e z=>by rw[z,hD0] at e;cases e
 have trC:∀b u,H1 b=some u->b≠C:=fun b u e z=>by
  have:=J.free;rw[z] at e;have q:H1 C=none:=J.free;rw[q] at e;cases e
 obtain⟨its,n,rv,eD⟩:=new;have B:Un (frs X.stack) (s.heap.objs.size::fp) H H1 (s.heap.push oD) s1.heap:=J.base;refine I.call' (s':={ s1 with heap:=h' }) (ch:=fp) J.os ⟨fun b o e q h1 h2=>?_,fun b o e q h1 h2=>?_,fun b o e q h2=>?_,fun b o e h2=>?_,fun b xs e=>?_,fun b o u e=>?_,fun b ps e=>?_⟩ (fun b u e=>?_) J.bare fun b hb=>?_
 .exact(hsb.2 b (nC b o e)).trans (B.keep b o (up b o e) q h1 (nx b h2 (nD b o e)))
 .obtain⟨sl,z⟩:=B.slot b o (up b o e) q h1 (nx b h2 (nD b o e))
  exact⟨sl,(hsb.2 b (nC b o e)).trans z⟩
 .rw[aS (nD b o e)]
  exact B.free b o (up b o e) q (nx b h2 (nD b o e))
 .obtain⟨o',z⟩:=B.there b o (up b o e) (nx b h2 (nD b o e))
  exact⟨o',(hsb.2 b (nC b o e)).trans z⟩
 .have z:=B.tups b xs e
  rw[aS (tr b _ z)];exact z
 .have z:=B.frzs b o u e
  rw[aS (tr b _ z)];exact z
 .obtain⟨more,z⟩:=B.tbls b ps e
  exact⟨more,by rw[aS (tr b _ z)];exact z⟩
 .by_cases hb:b=s.heap.objs.size
  .subst hb
   rw[bx] at e;cases e;exact⟨hz,its,n,rv,(hsb.2 _ hDC).trans eD⟩
  .rw[aS hb] at e
   refine(J.hok b u e).stay (fun c v hc q=>(hsb.2 c ?_).trans q) (fun c q=>by rw[aS (tr c _ q)];exact q) fun c xs q=>by rw[aS (tr c _ q)];exact q
   rcases hc with z|z
   .rw[z];exact trC b u e
   .exact trC c _ z
 .obtain⟨_,f1,_,f3,f4,f5⟩:=hf b hb
  exact⟨f3,f1,f4,f5⟩
end
def PTs(X:Cx)(ifs:List Expr)(t:TT):Prop:=
 ∀(pins:List (Addr×Obj)) (s:Shared) (σ:St) (H:Hp) (Q:Bool->Hp->Prop) (E:Value->Shared->Prop),Inv X pins σ H s->t σ H Q ->
  wpAny (model X.prog X.w) X.A (forIn ifs true fun c r=>if r=true then do
   let ok ←isTrue c X.env (eval c X.env)
   pure (ForInStep.yield ok) else pure (ForInStep.yield r)) (TP X pins σ Q) E s
theorem Cz{X:Cx}:PTs X [] (fun _ H Q=>Q true H):=fun _ _ _ H _ _ I h=>wpAny_tests_nil ⟨H,I,h⟩
theorem Cy{X:Cx}{c:Expr}{t:TT}(hx:X.xe=fun _ _=>False)(h:PT X c t):PTs X [c] t:=fun pins s σ H Q _ I q=>
 wpAny_tests_one (wpAny_mono (h pins s σ H Q I q) (fun _ _ z=>z) fun e s' z=>by rw[hx] at z;exact z.elim)
def nr(σ:St)(J:It)(tt:TT)(te:TE)(W:Nat->Nat->List V->Hp->Prop)(D:List V->Hp->Prop):Prop:=∀i m ys H,W i m ys H ->
 (J.stop i H/\ys.length<=sizeLine/\D ys H)\/(J.go i H/\ys.length<sizeLine/\∃N:List V->Hp->Prop,(∀ys' H',N ys' H'->∃m',m' < m/\W (i+1) m' ys' H')/\∀v H',J.yld i H v H'->tt (some v::σ) H' fun b H2=>
  if b=true then te (some v::σ) H2 fun y H3=>N (ys++[y]) H3 else N ys H2)
section
variable {X:Cx}{pins:List (Addr×Obj)}{σ:St}{H:Hp}{s:Shared}{x:Str}{scope:Scope}{N':List Str}
theorem tm{fp:List Addr}{it C:Addr}{tn:Nat->Heap->Prop}{J:It}{oD:Obj}{elt iter:Expr}{ifs:List Expr}{px pos:Pos}{te:TE}{tt:TT}{W:Nat->Nat->List V->Hp->Prop}{Dn:List V->Hp->Prop}
  {R:Result->Shared->Prop}{σ':St}{s4:Shared}{m0:Nat} (hcalm:X.calm=true) (S:CS X.env.scope X.N x scope N') (hf:∀b∈fp,dq X pins H b) (ho:∀b∈fp,∃o,s.heap.get? b=some o) (hCd:C=(s.heap.push oD).objs.size)
  (T:Turn X.prog X.w X.K (.Name x px) J fp it tn) (I4:Inv (bT X x scope C { s with heap:=s.heap.push oD } H (s.heap.objs.size::fp) N') [] (none::σ) H s4) (st4:tn 0 s4.heap) (hD4:s4.heap.get? s.heap.objs.size=some { cls:=.type "list",data:=.seq #[] 0 })
  (hDn:H s.heap.objs.size=none) (hte:PE (bT X x scope C { s with heap:=s.heap.push oD } H (s.heap.objs.size::fp) N') elt te) (htt:PTs (bT X x scope C { s with heap:=s.heap.push oD } H (s.heap.objs.size::fp) N') ifs tt)
  (w0:W 0 m0 [] H) (turn:nr σ J tt te W Dn)
  (hR:∀s1 H1 σ1 ys its n,Inv (bT X x scope C { s with heap:=s.heap.push oD } H (s.heap.objs.size::fp) N') [] σ1 H1 s1->H1 s.heap.objs.size=none->Vals ys its->s1.heap.get? s.heap.objs.size=some { cls:=.type "list",data:=.seq its.toArray n }->ys.length<=sizeLine->Dn ys H1->R (.ok .next) s1) :
  codeAny (model X.prog X.w) X.A (.compLoop (.ListComp elt [⟨.Name x px,iter,ifs,0⟩] scope pos) 0 (.ref it) (.ref s.heap.objs.size) (compEnvC scope (cv X.env scope.names []) C X.env)) R s4:=by
 have hC:C=s.heap.objs.size+1:=by rw[hCd];exact Heap.size_push ..
 generalize hX:bT X x scope C { s with heap:=s.heap.push oD } H (s.heap.objs.size::fp) N'=X' at *
 have xP:X'.prog=X.prog:=by rw[←hX]
 have xW:X'.w=X.w:=by rw[←hX]
 have xK:X'.K=X.K:=by rw[←hX]
 have xA:X'.A=X.A:=by rw[←hX]
 have xE:X'.env=compEnvC scope (cv X.env scope.names []) C X.env:=by rw[←hX]
 have xC:X'.calm=true:=by rw[←hX];exact hcalm
 have xex:X'.ex=s.heap.objs.size::fp:=by rw[←hX]
 have xpn:X'.pn=[]:=by rw[←hX]
 have xxe:X'.xe=fun _ _=>False:=by rw[←hX]
 have xN:X'.N=x::N':=by rw[←hX]
 have xL:X'.env.locals=C:=by rw[xE];rfl
 have xloc:X'.env.scope.names.lookup x=some .local:=by rw[xE];exact lookup_relabel_local S.hx
 have lt:∀b∈fp,b<s.heap.objs.size:=fun b hb=>let ⟨_,e⟩:=ho b hb;Heap.lt_size e
 have fpk:∀{pl:List (Addr×Obj)}{H':Hp},(∀p∈pl,p.1=s.heap.objs.size)->(∀b∈fp,H' b=none)->∀b∈fp,dq X' pl H' b:=fun {pl H'} hp hn b hb=>by
  have okk:=I4.ok
  have hm:b∈X'.ex:=by rw[xex];exact List.mem_cons_of_mem _ hb
  refine⟨hn b hb,(okk.exf b hm).1,okk.exfs b hm,.inl hm,(okk.exf b hm).2,fun p hpl z=>?_⟩;rw[xpn] at hpl;have q1:=hp p (by simpa using hpl);have q2:=lt b hb;rw[←z,q1] at q2;exact Nat.lt_irrefl _ q2
 have dok:∀{pl:List (Addr×Obj)}{H':Hp},(∀p∈pl,p.1∈fp)->H' s.heap.objs.size=none->dq X' pl H' s.heap.objs.size:=fun {pl H'} hp hn=>by
  have okk:=I4.ok
  have hm:s.heap.objs.size∈X'.ex:=by rw[xex];exact List.mem_cons_self
  refine⟨hn,(okk.exf _ hm).1,okk.exfs _ hm,.inl hm,(okk.exf _ hm).2,fun p hpl z=>?_⟩;rw[xpn] at hpl;have q2:=lt p.1 (hp p (by simpa using hpl));rw[z] at q2;exact Nat.lt_irrefl _ q2
 refine codeAny_compLoop_tests (I:=fun m s'=>∃i σx H' ys its n,Inv X' [] (σx::σ) H' s'/\tn i s'.heap/\(∀b∈fp,H' b=none)/\H' s.heap.objs.size=none/\Vals ys its/\s'.heap.get? s.heap.objs.size=some { cls:=.type "list",data:=.seq its.toArray n }/\W i m ys H') ?_ m0
  ⟨0,none,H,[],[],0,I4,st4,fun b hb=>(hf b hb).1,hDn,.nil,hD4,w0⟩
 rintro m s5 ⟨i,σx,H5,ys,its,n,I5,st5,fr5,d5,rv,e5,w5⟩
 have I5d:Inv X' ([]++gB [s.heap.objs.size] s5.heap) (σx::σ) H5 s5:=I5.pinned (fun b hb=>by
   have e:b=s.heap.objs.size:=by simpa using hb
   rw[e];exact dok (fun p hp=>absurd hp (by simp)) d5) fun b hb=>by
   have e:b=s.heap.objs.size:=by simpa using hb
   rw[e];exact⟨_,e5,fun v z=>by cases z⟩
 have pD:([]++gB [s.heap.objs.size] s5.heap:List (Addr×Obj))=[(s.heap.objs.size,{ cls:=.type "list",data:=.seq its.toArray n })]:=by
  simp[gB,e5]
 rw[pD] at I5d
 have p1:∀p∈[(s.heap.objs.size,({ cls:=.type "list",data:=.seq its.toArray n }:Obj))],p.1=s.heap.objs.size:=fun p hp=>by
  have e:p=(s.heap.objs.size,{ cls:=.type "list",data:=.seq its.toArray n }):=by simpa using hp
  rw[e]
 have hsz:its.length=ys.length:=rv.length.symm
 rcases turn i m ys H5 w5 with⟨stop,hz,dn⟩|⟨go,hz,N,hN,step⟩
 .have q:=T.done X' xP xW xK xC i _ s5 (σx::σ) H5 (notedBy (model X.prog X.w) X.A (compEnvC scope (cv X.env scope.names []) C X.env) fun e s'=>R (.error e) s') I5d (fpk p1 fr5) st5 stop
  rw[xA] at q;refine wpAny_mono q (fun r s6 z=>?_) fun _ _ z=>z;obtain⟨rfl,I6⟩:=z;refine hR s6 H5 (σx::σ) ys its n ?_ d5 rv (I6.pin _ (List.mem_append_right _ (List.mem_singleton.mpr rfl))).1 hz dn;exact I6.pins_of fun p hp=>absurd hp (by simp)
 .have q:=T.item X' xP xW xK xC i _ s5 (σx::σ) H5 (notedBy (model X.prog X.w) X.A (compEnvC scope (cv X.env scope.names []) C X.env) fun e s'=>R (.error e) s') I5d (fpk p1 fr5) st5 go
  rw[xA] at q;refine wpAny_mono q (fun r s6 z=>?_) fun _ _ z=>z;obtain⟨u,rfl,z⟩:=z;dsimp only;have z':wpAny (model X.prog X.w) X.A (pure ()) _ _ s6:=z;refine wpAny_bind (m:=pure ()) (f:=fun _=>assign (.Name x px) (compEnvC scope (cv X.env scope.names []) C X.env) u) (wpAny_mono z' (fun _ s7 z=>?_) fun _ _ z=>z);obtain⟨v,H7,I7,rv7,y7,st7,fr7⟩:=z;have I7p:=I7.pinned (fpk p1 fr7) (T.obj _ _ st7);rw[←xE]
  have nd:X'.N.Nodup:=by rw[xN];exact S.nd
  have hi0:X'.N[0]? = some x:=by rw[xN];rfl
  refine wpAny_assign_Name (oK (E:=notedBy (model X.prog X.w) X.A X'.env fun e s'=>R (.error e) s') (i:=0) I7p nd hi0 (.inl xloc) rv7 (fun s8 I8=>?_) (.inr xloc));have I8':Inv X' _ (some v::σ) H7 s8:=I8;have t8:=htt _ s8 (some v::σ) H7 _ (notedBy (model X.prog X.w) X.A X'.env fun e s'=>R (.error e) s') I8' (step v H7 y7);rw[xP,xW,xA] at t8;refine wpAny_mono t8 (fun ok s9 z=>?_) fun _ _ z=>z;obtain⟨H9,I9,q9⟩:=z
  have back:∀{s':Shared}{H':Hp}{σ2:St},Inv X' ([(s.heap.objs.size,({ cls:=.type "list",data:=.seq its.toArray n }:Obj))]++gB fp s7.heap) σ2 H' s' ->
    tn (i+1) s'.heap/\(∀b∈fp,H' b=none)/\H' s.heap.objs.size=none/\s'.heap.get? s.heap.objs.size=some { cls:=.type "list",data:=.seq its.toArray n }/\Inv X' [] σ2 H' s':=fun {s' H' σ2} I'=>by
   refine⟨T.keep _ _ _ st7 fun b hb o e=>(I'.pin (b,o) (List.mem_append_right _ (List.mem_append_right _ (k7 hb e)))).1,fun b hb=>?_,?_,?_,I'.pins_of fun p hp=>absurd hp (by simp)⟩
   .obtain⟨o,e,_⟩:=T.obj _ _ st7 b hb
    exact(I'.pin (b,o) (List.mem_append_right _ (List.mem_append_right _ (k7 hb e)))).2.1
   .exact(I'.pin (s.heap.objs.size,_) (List.mem_append_right _ (List.mem_append_left _ (List.mem_singleton.mpr rfl)))).2.1
   .exact(I'.pin (s.heap.objs.size,_) (List.mem_append_right _ (List.mem_append_left _ (List.mem_singleton.mpr rfl)))).1
  cases ok with
  |false=>
   simp only[Bool.false_eq_true,if_false] at q9 ⊢;obtain⟨m',hm,w9⟩:=hN _ _ q9;obtain⟨a1,a2,a3,a4,a5⟩:=back I9;exact⟨m',hm,i+1,some v,H9,ys,its,n,a5,a1,a2,a3,rv,a4,w9⟩
  |true=>
   simp only[if_true] at q9 ⊢;have t9:=hte _ s9 (some v::σ) H9 _ I9 q9;rw[xP,xW,xA,xxe] at t9;refine wpAny_mono t9 (fun u2 s10 z=>?_) fun _ _ z=>z.elim;obtain⟨y,H10,I10,r10,q10⟩:=z;obtain⟨m',hm,w10⟩:=hN _ _ q10;obtain⟨a1,a2,a3,a4,a5⟩:=back I10;refine wpAny_list_append_plain ⟨n,a4⟩ (fun h' pl sb=>?_) (by rw[List.size_toArray];omega);obtain⟨n',e'⟩:=pl;have D0:=dok (pl:=[]) (fun p hp=>absurd hp (by simp)) a3;refine⟨m',hm,i+1,some v,H10,ys++[y],its++[u2],n',a5.turned (t':=s10.toks) (fun b o hb e=>(sb.2 b hb).trans e) D0.1 D0.2.1 D0.2.2.2.1 D0.2.2.2.2.1 D0.2.2.2.2.2,?_,a2,a3,rv.append (.cons r10 .nil),by simpa using e',w10⟩;exact T.keep _ _ _ a1 fun b hb o e=>(sb.2 b (Nat.ne_of_lt (lt b hb))).trans e
end
section
variable {X:Cx}{x:Str}{scope:Scope}{N':List Str}{elt iter:Expr}{ifs:List Expr}{px pos:Pos}{wi:TI}{te:TE}{tt:TT}
def xb(wi:TI)(tt:TT)(te:TE):TE:=fun σ H Q=>wi σ H fun J H1=>∃W:Nat->Nat->List V->Hp->Prop,(∃m,W 0 m [] H1)/\nr σ J tt te W fun ys H=>∀p,H p=none->Q (.ref p) (upd H p (.lst ys))
theorem CJ(hc:X.calm=true)(S:CS X.env.scope X.N x scope N')(hi:PI X (.Name x px) iter wi)(he:∀C s0 H0 ex,PE (bT X x scope C s0 H0 ex N') elt te)
  (ht:∀C s0 H0 ex,PTs (bT X x scope C s0 H0 ex N') ifs tt) (hs:∀v,foldedSetIterable iter X.env v=pure v:=by intro _;rfl):PE X (.ListComp elt [⟨.Name x px,iter,ifs,0⟩] scope pos) (xb wi tt te):=by
 intro pins s σ H Q I h;rw[eval_ListComp];refine wpAny_comprehension_free (use:=none) rfl hs (so (oW I S)) S.kind S.names (thn (hi pins s σ H _ I h) fun v s1 h1=>thn h1 fun itv s2 h2=>?_);obtain⟨it,fp,tn,J,H2,rfl,I2,T,st2,f2,W,⟨m0,w0⟩,turn⟩:=h2
 have ho:∀b∈fp,∃o,s2.heap.get? b=some o:=fun b hb=>let ⟨o,e,_⟩:=T.obj _ _ st2 b hb;⟨o,e⟩
 refine wpAny_newObj_type (wpAny_newFunctionEnv S.nocell (by intro y hy;simp at hy) (fun h' hns hsb=>?_) S.kind);have I4:=sm (x:=x) (scope:=scope) (tk:=s2.toks+([]:List (Str×Value)).length) I2 S f2 ho hns hsb
 have up3:∀b o,(s2.heap.push { cls:=.type "list",dict:=none,data:=.seq ([]:List Value).toArray }).get? b=some o->h'.get? b=some o:=fun b o e=>
  (hsb.2 b (Nat.ne_of_lt (Heap.lt_size e))).trans (Heap.get?_push_of_some _ e)
 have st4:tn 0 h':=T.keep _ _ _ st2 fun b _ o e=>up3 b o (Heap.get?_push_of_some _ e)
 have loop:=tm (elt:=elt) (iter:=iter) (ifs:=ifs) (pos:=pos) (R:=compPost (model X.prog X.w) X.A X.xe none (EP X pins σ Q) (.ref s2.heap.objs.size) (s2.heap.push { cls:=.type "list",dict:=none,data:=.seq ([]:List Value).toArray }).objs.size) (σ':=σ)
  hc S f2 ho rfl T I4 st4 (up3 _ _ (Heap.get?_push_size _ rfl)) (I2.hok.fresh (Nat.le_refl _)) (he _ _ _ _) (ht _ _ _ _) w0 turn fun s5 H5 σ5 ys its n J5 d5 rv e5 hz dn=>by
   obtain⟨m,hn,_⟩:=J5.loc;exact⟨m,hn,fun h'' sb=>⟨.ref s2.heap.objs.size,_,sk I2 f2 rfl J5 sb d5 ⟨its,n,rv,e5⟩ hz,rfl,dn _ d5⟩⟩
 exact codeAny_compStart_list loop (T.self X.A 0 _ _ _ st4 loop)
def Gd(i:Nat)(wi:TI)(tt:TT)(te:TE):TS:=fun D σ H=>wi σ H fun J H1=>∃W:Nat->Nat->List V->Hp->Prop,(∃m,W 0 m [] H1)/\nr σ J tt te W fun ys H=>∀p,H p=none->D.nx (σ.set i (some (.ref p))) (upd H p (.lst ys))
theorem CD{i:Nat}{y:Str}{py spos:Pos}(hc:X.calm=true)(S:CS X.env.scope X.N x scope N')(hN:X.N.Nodup)(hi':X.N[i]? = some y)(hy:Loc X.env.scope y)(hf':X.fn y=true\/X.env.scope.names.lookup y=some .local)
  (hi:PI X (.Name x px) iter wi) (he:∀C s0 H0 ex,PE (bT X x scope C s0 H0 ex N') elt te)
  (ht:∀C s0 H0 ex,PTs (bT X x scope C s0 H0 ex N') ifs tt) (hsw:swapsWith (.ListComp elt [⟨.Name x px,iter,ifs,0⟩] scope pos) (some (.Name y py)) spos.line X.env=pure true) (hs:∀v,foldedSetIterable iter X.env v=pure v:=by intro _;rfl) :
  PS X (.Assign [.Name y py] (.ListComp elt [⟨.Name x px,iter,ifs,0⟩] scope pos) spos) (Gd i wi tt te):=by
 intro pins s σ H D I h;rw[exec_Assign_Name_used _ _ _ _ hsw];refine wpAny_bind (wpAny_standAt (wpAny_bind ?_));show wpAny _ _ (do let _ ←comprehension (.ListComp elt [⟨.Name x px,iter,ifs,0⟩] scope pos) scope X.env _ (newList []) false (eval iter X.env) (some (assign (.Name y py) X.env))) _ _ s;refine wpAny_bind (wpAny_mono (wpAny_comprehension_free (use:=some (assign (.Name y py) X.env)) (Q:=fun _ s'=>SP X pins D .next s') rfl hs (so (oW I S)) S.kind S.names (thn (hi pins s σ H _ I h) fun v s1 h1=>thn h1 fun itv s2 h2=>?_)) (fun _ _ q=>wpAny_pure (wpAny_pure q)) fun _ _ q=>q);obtain⟨it,fp,tn,J,H2,rfl,I2,T,st2,f2,W,⟨m0,w0⟩,turn⟩:=h2
 have ho:∀b∈fp,∃o,s2.heap.get? b=some o:=fun b hb=>let ⟨o,e,_⟩:=T.obj _ _ st2 b hb;⟨o,e⟩
 refine wpAny_newObj_type (wpAny_newFunctionEnv S.nocell (by intro y hy;simp at hy) (fun h' hns hsb=>?_) S.kind);have I4:=sm (x:=x) (scope:=scope) (tk:=s2.toks+([]:List (Str×Value)).length) I2 S f2 ho hns hsb
 have up3:∀b o,(s2.heap.push { cls:=.type "list",dict:=none,data:=.seq ([]:List Value).toArray }).get? b=some o->h'.get? b=some o:=fun b o e=>
  (hsb.2 b (Nat.ne_of_lt (Heap.lt_size e))).trans (Heap.get?_push_of_some _ e)
 have st4:tn 0 h':=T.keep _ _ _ st2 fun b _ o e=>up3 b o (Heap.get?_push_of_some _ e)
 have hCs:s2.heap.objs.size<=(s2.heap.push { cls:=.type "list",dict:=none,data:=.seq ([]:List Value).toArray }).objs.size:=by rw[Heap.size_push];omega
 have hDC:(s2.heap.push { cls:=.type "list",dict:=none,data:=.seq ([]:List Value).toArray }).objs.size≠s2.heap.objs.size:=by rw[Heap.size_push];omega
 have loop:=tm (elt:=elt) (iter:=iter) (ifs:=ifs) (pos:=pos) (R:=compPost (model X.prog X.w) X.A X.xe (some (assign (.Name y py) X.env)) (fun _ s'=>SP X pins D .next s') (.ref s2.heap.objs.size) (s2.heap.push { cls:=.type "list",dict:=none,data:=.seq ([]:List Value).toArray }).objs.size) (σ':=σ)
  hc S f2 ho rfl T I4 st4 (up3 _ _ (Heap.get?_push_size _ rfl)) (I2.hok.fresh (Nat.le_refl _)) (he _ _ _ _) (ht _ _ _ _) w0 turn fun s5 H5 σ5 ys its n J5 d5 rv e5 hz dn=>by
   have J6:=sk I2 f2 rfl J5 (Heap.SameBut.refl _ _) d5 ⟨its,n,rv,e5⟩ hz;obtain⟨m,hn,_⟩:=J5.loc;refine wpAny_assign_Name (sJ (u:=.ref s2.heap.objs.size) J6 hN hi' hy (show RelV (.ref s2.heap.objs.size) _ from rfl) (fun s7 I7 ⟨a,sb,ha⟩=>?_) hf')
   have hCa:(s2.heap.push { cls:=.type "list",dict:=none,data:=.seq ([]:List Value).toArray }).objs.size≠a:=by
    rcases ha with z|z
    .rw[z]
     exact Nat.ne_of_gt (Nat.lt_of_lt_of_le I2.lt hCs)
    .obtain⟨v,q⟩:=I2.cell _ _ z
     exact Nat.ne_of_gt (Nat.lt_of_lt_of_le q.lt hCs)
   have hn5:H5 (s2.heap.push { cls:=.type "list",dict:=none,data:=.seq ([]:List Value).toArray }).objs.size=none:=J5.free;have fk:=I2.fpOk (b:=(s2.heap.push { cls:=.type "list",dict:=none,data:=.seq ([]:List Value).toArray }).objs.size) (H':=upd H5 s2.heap.objs.size (.lst ys)) hCs (by rw[aS hDC];exact hn5);refine⟨m,hn.sameBut sb hCa,fun h'' sb2=>⟨_,_,I7.turned (t':=s7.toks) (fun b o hb e=>(sb2.2 b hb).trans e) fk.1 fk.2.1 fk.2.2.2.1 fk.2.2.2.2.1 fk.2.2.2.2.2,dn _ d5⟩⟩
 exact codeAny_compStart_list loop (T.self X.A 0 _ _ _ st4 loop)
end
section
variable {σ:St}{tt:TT}{te:TE}
end
def Its(z:Str):It:=⟨fun i _=>i<z.cps.size,fun i H v H'=>H'=H/\∃c,z.cps[i]? = some c/\v=.str ⟨#[c]⟩,fun i _=>z.cps.size<=i⟩
theorem tI{P:Program}{w:World}{K:Frag}{tg:Expr}(z:Str)(t:Tok)(ty:String)(it:Addr)(hty:ty="str_ascii_iterator"\/ty="str_iterator") :
  Turn P w K tg (Its z) [it] it (fun i h=>h.IsStrIter it ty z t i) where
 mem:=by simp
 obj:=fun i h st b hb=>by
  have e:b=it:=by simpa using hb
  subst e;obtain⟨o,e,c,d⟩:=st;exact⟨o,e,fun v q=>by rw[d] at q;cases q⟩
 keep:=fun i h h' st k=>let ⟨o,e,r⟩:=st;⟨o,k it (by simp) o e,r⟩
 item:=by
  intro X hP hw hK hc i pins s σ H E I hf st hg;subst hP hw hK;have hi:i<z.cps.size:=hg;obtain⟨f0,f1,f2,f3,f4,f5⟩:=hf it (by simp)
  have fin:∀h',h'.IsStrIter it ty z t (i+1)->Heap.SameBut it s.heap h'->∃u,(some (Value.str ⟨#[z.cps[i]]⟩ s.toks):Option Value)=some u /\
    wpAny (model X.prog X.w) X.A (letOwnedTupleGo tg (.ref it) u) (fun _ s2=>∃x H',Inv X pins σ H' s2/\RelV x u/\(Its z).yld i H x H'/\s2.heap.IsStrIter it ty z t (i+1)/\∀b∈[it],H' b=none) E { s with heap:=h',toks:=s.toks+1 }:=fun h' st' sb=>by
   have I1:Inv X pins σ H { s with heap:=h',toks:=s.toks+1 }:=I.turned (fun b o hb e=>(sb.2 b hb).trans e) f0 f1 f3 f4 f5;obtain⟨o,e,c,d⟩:=id st';refine⟨_,rfl,kG (s:={ s with heap:=h',toks:=s.toks+1 }) (n:=ty) e c d ?_ ⟨.str ⟨#[z.cps[i]]⟩,H,I1,⟨_,rfl⟩,⟨rfl,z.cps[i],by simp[hi],rfl⟩,st',fun b hb=>(hf b hb).1⟩⟩
   rcases hty with e|e <;> (rw[e];decide)
  rcases hty with e|e
  .subst e
   exact wpAny_pyNext_ascii_item st (c:=z.cps[i]) (by simp[hi]) fin
  .subst e
   exact wpAny_pyNext_wide_item st (c:=z.cps[i]) (by simp[hi]) fin
 done:=by
  intro X hP hw hK hc i pins s σ H E I hf st hg;subst hP hw hK;have hi:z.cps.size<=i:=hg;obtain⟨f0,f1,f2,f3,f4,f5⟩:=hf it (by simp);have fin:∀h',Heap.ExtBut it s.heap h'->(none:Option Value)=none/\Inv X pins σ H { s with heap:=h' }:=fun h' eb=>⟨rfl,I.turned (t':=s.toks) (fun b o hb e=>eb b o hb e) f0 f1 f3 f4 f5⟩
  rcases hty with e|e
  .subst e
   exact wpAny_pyNext_ascii_end (I.ok.hd hc) st (by simp;omega) fin
  .subst e
   exact wpAny_pyNext_wide_end (I.ok.hd hc) st (by simp;omega) fin
 self:=fun _ _ _ _ _ st h=>by
  rcases hty with e|e
  .subst e
   exact wpAny_pyIter_striter_ascii st h
  .subst e
   exact wpAny_pyIter_striter_wide st h
section
variable {X:Cx}{tg:Expr}
end
theorem all_range(bs:List Bool)(n:Nat)(hn:n=bs.length):(List.range n).all (fun i=>bs.getD i false)=bs.all id:=by
 subst hn;rw[Bool.eq_iff_iff,List.all_eq_true,List.all_eq_true];constructor
 .intro h b hb
  obtain⟨i,hi,rfl⟩:=List.getElem_of_mem hb;have:=h i (List.mem_range.mpr hi);simpa[List.getD,hi] using this
 .intro h i hi
  have hi':=List.mem_range.mp hi;have:=h bs[i] (List.getElem_mem hi');simpa[List.getD,hi'] using this
theorem rW:∀(ns:List Int) (k:Nat),k<=ns.length->preSum (fun i=>ns.getD i 0) k=(ns.take k).sum
 |ns,0,_=>by simp[preSum]
 |ns,k+1,h=>by
  have hk:k<ns.length:=h;have ih:=rW ns k (Nat.le_of_lt hk)
  have e:(ns.take (k+1)).sum=(ns.take k).sum+ns.getD k 0:=by
   rw[List.take_add_one,List.sum_append];simp[List.getD,hk]
  rw[e,←ih];rfl
section
variable {X:Cx}
theorem B5(hc:X.calm=true):CallR X (.builtin "all") (fun xs H Q=>∃(p:Addr) (bs:List Bool),xs=[.ref p]/\SqL X.K H p (bs.map V.bl)/\Q (.bl (bs.all id)) H):=by
 intro pins s σ H xs us Q I r h;obtain⟨p,bs,rfl,hq,q⟩:=h;obtain⟨u,rfl,ru⟩:=vals1 r;cases ru;obtain⟨its,rv,pl,hz⟩:=I.list hq
 have hlen:its.length=bs.length:=by have:=rv.length;simpa using this.symm
 have hlt:p<s.heap.objs.size:=by
  obtain⟨o,n,e,_⟩:=pl;exact Heap.lt_size e
 refine call_all_walk (wpAny_pyIter_list pl.isList ?_);refine⟨s.heap.objs.size,_,_,_,_,_,fun i=>bs.getD i false,rfl,Walks.list (A:=X.A.in1) (I.ok.hd hc) _ p (Nat.ne_of_lt hlt) its.toArray,⟨⟨_,Heap.get?_push_size _ rfl,rfl,rfl⟩,?_⟩,fun i v s' Q' E' hv hQ'=>?_,fun h' tk hk=>?_⟩
 .obtain⟨o,n,e,r⟩:=pl.isList
  exact⟨o,Heap.get?_push_of_some _ n,e,r⟩
 .have hi:i<its.length:=by
   have:=(Array.getElem?_eq_some_iff.mp hv).1;simpa using this
  have hi2:i<bs.length:=by omega
  obtain⟨u,hu,ru⟩:=rv.get (i:=i) (x:=.bl bs[i]) (by simp[hi2])
  have e:v=u:=by
   have hv':its[i]? = some v:=by simpa using hv
   rw[hu] at hv';exact(Option.some.inj hv').symm
  subst e;cases (show v=Value.bool bs[i] from ru);refine wpAny_truthy_bool ?_
  have e:bs[i]=bs.getD i false:=by simp[List.getD,hi2]
  rw[e];exact hQ'
 .have e:(List.range its.toArray.size).all (fun i=>bs.getD i false)=bs.all id:=all_range bs _ (by simpa using hlen)
  rw[e];exact⟨.bl _,H,I.kept (t':=tk) fun b o q=>hk b o (by simp;exact Nat.ne_of_lt (Heap.lt_size q)) (Heap.get?_push_of_some _ q),rfl,q⟩
theorem u9{ns:List Int}{its:List Value}(rv:Vals (ns.map V.int) its){i:Nat}{v:Value}(hv:its.toArray[i]? = some v):∃t,v=.int (ns.getD i 0) t:=by
 have hlen:its.length=ns.length:=by have:=rv.length;simpa using this.symm
 have hi:i<its.length:=by
  have:=(Array.getElem?_eq_some_iff.mp hv).1;simpa using this
 have hi2:i<ns.length:=by omega
 obtain⟨u,hu,ru⟩:=rv.get (i:=i) (x:=.int ns[i]) (by simp[hi2])
 have e:v=u:=by
  have hv':its[i]? = some v:=by simpa using hv
  rw[hu] at hv';exact(Option.some.inj hv').symm
 subst e;obtain⟨t,e⟩:=(show ∃t,v=Value.int ns[i] t from ru);refine⟨t,?_⟩;rw[e];simp[List.getD,hi2]
theorem B3(hc:X.calm=true):CallR X (.builtin "sum") (fun xs H Q=>∃(p:Addr) (ns:List Int),xs=[.ref p]/\SqL X.K H p (ns.map V.int)/\Q (.int ns.sum) H):=by
 intro pins s σ H xs us Q I r h;obtain⟨p,ns,rfl,hq,q⟩:=h;obtain⟨u,rfl,ru⟩:=vals1 r;cases ru;obtain⟨its,rv,pl,hz⟩:=I.list hq
 have hlen:its.length=ns.length:=by have:=rv.length;simpa using this.symm
 have hlt:p<s.heap.objs.size:=by
  obtain⟨o,n,e,_⟩:=pl;exact Heap.lt_size e
 refine call_sum_walkG (wpAny_pyIter_list pl.isList ?_);refine⟨s.heap.objs.size,_,_,_,_,_,fun i=>ns.getD i 0,rfl,Walks.list (A:=X.A.in1) (I.ok.hd hc) _ p (Nat.ne_of_lt hlt) its.toArray,⟨⟨_,Heap.get?_push_size _ rfl,rfl,rfl⟩,?_⟩,fun b hb=>?_,fun i v hv=>u9 rv hv,fun h' tk t' hk=>?_⟩
 .obtain⟨o,n,e,r⟩:=pl.isList
  exact⟨o,Heap.get?_push_of_some _ n,e,r⟩
 .rw[Heap.size_push]
  rcases(by simpa using hb:b=s.heap.objs.size\/b=p) with e|e
  .rw[e];exact Nat.lt_succ_self _
  .rw[e];exact Nat.lt_succ_of_lt hlt
 .have e:preSum (fun i=>ns.getD i 0) its.toArray.size=ns.sum:=by
   rw[rW ns _ (by simp;omega)];rw[List.take_of_length_le (by simp;omega)]
  rw[e];exact⟨.int _,H,I.kept (t':=tk) fun b o q=>hk b o (by simp;exact Nat.ne_of_lt (Heap.lt_size q)) (Heap.get?_push_of_some _ q),⟨t',rfl⟩,q⟩
end
open K1 (dw cC)
theorem C2{prog:Program}{w:World}{A:Around}{E:Value->Shared->Prop}{s:Shared}{Q:Value->Shared->Prop}{a b:Int}{t u:Tok}(h:Q (.bool (decide (a>b))) s):wpAny (model prog w) A (richCompare .Gt (.int a t) (.int b u)) Q E s:=
 CmpOf.ints_gt (P:=fun i v=>v=if i=0 then Value.int a t else Value.int b u) (fun i=>if i=0 then a else b) (fun i v hv=>by
  by_cases hi:i=0
  .exact⟨t,by rw[hv,if_pos hi,if_pos hi]⟩
  .exact⟨u,by rw[hv,if_neg hi,if_neg hi]⟩) 0 1 _ _ s Q E rfl rfl h
section
variable {prog:Program}{w:World}{A:Around}{R:Result->Shared->Prop}{it S:Addr}{fp wr:List Addr}{P:Nat->Value->Prop}{St:Nat->Heap->Prop}{ns:List Int}{kw:List (Str×Value)}
theorem Ap(W:Walks prog w A.in1 it fp wr ns.length P St)(hval:∀i v,P i v->∃t,v=.int (ns.getD i 0) t)(hSf:S∉fp) :
  ∀(k j:Nat) (s:Shared) (best:Int) (tb:Tok) (c:Nat),ns.length-j=k->j<=ns.length->St j s.heap ->
   s.heap.get? S=some { cls:=.type "list",dict:=none,data:=.seq #[.int best tb,.int best tb] c,slots:=#[] } ->
   (∀h' tk t',(∀b o,b∉wr->b≠S->s.heap.get? b=some o->h'.get? b=some o)->R (.ok (.ret (.int (dw best (ns.drop j)) t'))) { s with heap:=h',toks:=tk }) ->
   codeAny (model prog w) A (.builtin "max.loop" ⟨[.ref it,.none,.ref S],kw⟩) R s:=by
 have sw:S∉wr:=fun h=>hSf (W.sub _ h)
 have nm:(toString "max"++toString ".loop" : String)="max.loop":=by decide
 intro k
 induction k with
 |zero=>
  intro j s best tb c hk hj st hS hR
  have ej:j=ns.length:=by omega
  refine codeAny_builtin F.entry_max_loop ?_;rw[Around.under_plainId F.plain_max_loop _];show wpAny (model prog w) A.in1 (seqItems? (.ref S) >>= _) _ _ s;refine wpAny_bind (wpAny_seqItems hS rfl ?_);show wpAny (model prog w) A.in1 (tryCatch (pyNext (.ref it)) _ >>= _) _ _ s;refine wpAny_bind (wpAny_tryCatch (W.done s _ _ (ej ▸ st) fun h' tk kk=>?_));have hS2:=kk S _ sw hS;show wpAny (model prog w) A.in1 (updateSeq S (fun _=>#[]) >>= _) _ _ _;refine wpAny_bind ?_;refine wpAny_updateSeq hS2 rfl (wpAny_bind (wpAny_letGo (wpAny_pure ?_)));have q:=hR (h'.update S (Obj.mapSeq fun _=>#[])) tk tb fun b o h1 h2 e=>(Heap.get?_update_other _ _ (Ne.symm h2)).trans (kk b o h1 e);rw[List.drop_eq_nil_of_le (Nat.le_of_eq ej.symm)] at q;exact q
 |succ k ih=>
  intro j s best tb c hk hj st hS hR
  have hlt:j<ns.length:=by omega
  have ed:ns.drop j=ns.getD j 0::ns.drop (j+1):=by
   rw[List.drop_eq_getElem_cons hlt];simp[List.getD,hlt]
  refine codeAny_builtin F.entry_max_loop ?_;rw[Around.under_plainId F.plain_max_loop _];show wpAny (model prog w) A.in1 (seqItems? (.ref S) >>= _) _ _ s;refine wpAny_bind (wpAny_seqItems hS rfl ?_);show wpAny (model prog w) A.in1 (tryCatch (pyNext (.ref it)) _ >>= _) _ _ s;refine wpAny_bind (wpAny_tryCatch (W.item j s _ _ hlt st fun v h' tk hP st2 kk=>?_));obtain⟨t,rfl⟩:=hval j v hP;have hS2:=kk S _ sw hS;show wpAny (model prog w) A.in1 (tryCatch (holding [Value.int (ns.getD j 0) t,Value.int (ns.getD j 0) t] (richCompare .Gt (Value.int (ns.getD j 0) t) (Value.int best tb) >>= _)) _ >>= _) _ _ _;refine wpAny_bind (wpAny_tryCatch (wpAny_holding (wpAny_bind (C2 ?_))));refine wpAny_bind (wpAny_holding (wpAny_truthy_bool ?_));refine wpAny_bind (wpAny_letGo (wpAny_pure ?_))
  by_cases hb:ns.getD j 0>best
  .rw[decide_eq_true hb]
   simp only[if_true];refine wpAny_bind ?_;refine wpAny_updateSeq hS2 rfl (wpAny_bind (wpAny_letGo ?_));rw[nm];refine wpAny_pure ⟨plainId_quiet F.plain_max_loop _,ih (j+1) _ (ns.getD j 0) t _ (by omega) hlt (W.frame _ _ _ st2 fun b hbf o e=>?_) (Heap.get?_update_self _ hS2 rfl) fun h2 tk2 t2 k2=>?_⟩
   .exact(Heap.get?_update_other _ _ (fun z:S=b=>hSf (by rw[z];exact hbf))).trans e
   .have q:=hR h2 tk2 t2 fun b o h1 h3 e=>k2 b o h1 h3 ((Heap.get?_update_other _ _ (Ne.symm h3)).trans (kk b o h1 e))
    rw[ed,dw,if_pos hb] at q;exact q
  .rw[decide_eq_false hb]
   simp only[Bool.false_eq_true,if_false];refine wpAny_bind (wpAny_letGo ?_);rw[nm];refine wpAny_pure ⟨plainId_quiet F.plain_max_loop _,ih (j+1) _ best tb c (by omega) hlt st2 hS2 fun h2 tk2 t2 k2=>?_⟩;have q:=hR h2 tk2 t2 fun b o h1 h3 e=>k2 b o h1 h3 (kk b o h1 e);rw[ed,dw,if_neg hb] at q;exact q
theorem zN(W:Walks prog w A.in1 it fp wr ns.length P St)(hval:∀i v,P i v->∃t,v=.int (ns.getD i 0) t)(hSf:S∉fp){s:Shared}{c:Nat}{d:Int}{td:Tok}(st:St 0 s.heap)
  (hS:s.heap.get? S=some { cls:=.type "list",dict:=none,data:=.seq #[] c,slots:=#[] })
  (hR:∀h' tk t',(∀b o,b∉wr->b≠S->s.heap.get? b=some o->h'.get? b=some o)->R (.ok (.ret (.int (cC d ns) t'))) { s with heap:=h',toks:=tk }) :
  codeAny (model prog w) A (.builtin "max.loop" ⟨[.ref it,.none,.ref S],[(Str.ofString "default",.int d td)]⟩) R s:=by
 have sw:S∉wr:=fun h=>hSf (W.sub _ h)
 have nm:(toString "max"++toString ".loop" : String)="max.loop":=by decide
 refine codeAny_builtin F.entry_max_loop ?_;rw[Around.under_plainId F.plain_max_loop _];show wpAny (model prog w) A.in1 (seqItems? (.ref S) >>= _) _ _ s;refine wpAny_bind (wpAny_seqItems hS rfl ?_);show wpAny (model prog w) A.in1 (tryCatch (pyNext (.ref it)) _ >>= _) _ _ s
 cases hn:ns with
 |nil=>
  have e0:ns.length=0:=by rw[hn];rfl
  refine wpAny_bind (wpAny_tryCatch (W.done s _ _ (by rw[e0];exact st) fun h' tk kk=>?_));refine wpAny_bind (wpAny_rule (wpAny_pure ?_));have q:=hR h' tk td fun b o h1 _ e=>kk b o h1 e;rw[hn] at q;exact q
 |cons n0 r0=>
  have e0:0<ns.length:=by rw[hn];exact Nat.succ_pos _
  refine wpAny_bind (wpAny_tryCatch (W.item 0 s _ _ e0 st fun v h' tk hP st2 kk=>?_));obtain⟨t,rfl⟩:=hval 0 v hP;have hS2:=kk S _ sw hS;show wpAny (model prog w) A.in1 (updateSeq S (fun _=>#[Value.int (ns.getD 0 0) t,Value.int (ns.getD 0 0) t]) >>= _) _ _ _;refine wpAny_bind ?_;refine wpAny_updateSeq hS2 rfl ?_;rw[nm];refine wpAny_pure ⟨plainId_quiet F.plain_max_loop _,Ap W hval hSf _ 1 _ (ns.getD 0 0) t _ rfl e0 (W.frame _ _ _ st2 fun b hbf o e=>?_) (Heap.get?_update_self _ hS2 rfl) fun h2 tk2 t2 k2=>?_⟩
  .exact(Heap.get?_update_other _ _ (fun z:S=b=>hSf (by rw[z];exact hbf))).trans e
  .have q:=hR h2 tk2 t2 fun b o h1 h3 e=>k2 b o h1 h3 ((Heap.get?_update_other _ _ (Ne.symm h3)).trans (kk b o h1 e))
   rw[hn] at q ⊢;exact q
end
theorem yZ(a v:Value):argsOk "max" ⟨[a],[(Str.ofString "default",v)]⟩:=by unfold argsOk;kernel_rfl
section
variable {X:Cx}
theorem A9(hc:X.calm=true){pins:List (Addr×Obj)}{s:Shared}{σ:St}{H:Hp}{p:Addr}{ns:List Int}{d:Int}{td:Tok}{Q:VK}(I:Inv X pins σ H s)(hq:SqL X.K H p (ns.map V.int))(q:Q (.int (cC d ns)) H) :
  wpAny (model X.prog X.w) X.A (call (.builtin "max") [.ref p] [(Str.ofString "default",.int d td)]) (EP X pins σ Q) X.xe s:=by
 obtain⟨its,rv,pl,hz⟩:=I.list hq
 have hlen:its.length=ns.length:=by have:=rv.length;simpa using this.symm
 have hlt:p<s.heap.objs.size:=by
  obtain⟨o,n,e,_⟩:=pl;exact Heap.lt_size e
 have nm:(toString "max"++toString ".loop" : String)="max.loop":=by decide
 refine kmk_tree PySem.F.kind_max PySem.F.plain_max PySem.F.entry_max (yZ _ _) ?_;show wpAny (model X.prog X.w) X.A.in1 (Builtin.Builtins.bindParams "max" ["key","default"] 0 ⟨[],[(Str.ofString "default",Value.int d td)]⟩ >>= _) _ _ s;refine wpAny_bind (wpAny_of_eq (show Builtin.Builtins.bindParams "max" ["key","default"] 0 ⟨[],[(Str.ofString "default",Value.int d td)]⟩=pure [none,some (.int d td)] from rfl) ?_);refine wpAny_bind (wpAny_pure ?_);refine wpAny_bind (wpAny_pyIter_list pl.isList ?_);refine wpAny_bind (wpAny_newObj_type ?_);rw[nm];have W:=Walks.list (prog:=X.prog) (w:=X.w) (A:=X.A.in1) (I.ok.hd hc) s.heap.objs.size p (Nat.ne_of_lt hlt) its.toArray
 have en:its.toArray.size=ns.length:=by simpa using hlen
 rw[en] at W;have hS:(s.heap.push { cls:=.type "list_iterator",data:=.fields #[.ref p,.int 0 0] }).objs.size=s.heap.objs.size+1:=Heap.size_push ..
 have nS:(s.heap.push { cls:=.type "list_iterator",data:=.fields #[.ref p,.int 0 0] }).objs.size∉[s.heap.objs.size,p]:=fun hm=>by
  rw[hS] at hm
  rcases List.mem_cons.mp hm with e|e
  .exact Nat.succ_ne_self _ e
  .rw[←List.mem_singleton.mp e] at hlt
   exact absurd hlt (Nat.not_lt_of_le (Nat.le_succ _))
 refine wpAny_pure ⟨plainId_quiet PySem.F.plain_max_loop _,zN W (fun i v hv=>u9 rv hv) nS ⟨⟨_,Heap.get?_push_of_some _ (Heap.get?_push_size _ rfl),rfl,rfl⟩,?_⟩ (Heap.get?_push_size _ rfl) fun h' tk t' hk=>?_⟩
 .obtain⟨o,n,e,r⟩:=pl.isList
  exact⟨o,Heap.get?_push_of_some _ (Heap.get?_push_of_some _ n),e,r⟩
 .exact⟨.int _,H,I.kept (t':=tk) fun b o z=>hk b o (by simp;exact Nat.ne_of_lt (Heap.lt_size z)) (by rw[hS];exact Nat.ne_of_lt (Nat.lt_succ_of_lt (Heap.lt_size z))) (Heap.get?_push_of_some _ (Heap.get?_push_of_some _ z)),⟨t',rfl⟩,q⟩
def F8(K:Frag)(te td:TE):TE:=fun σ H Q=>te σ H fun x H1=>∃x',[x]=[x']/\td σ H1 fun y H2=>∃p ns d,x'=.ref p/\y=.int d/\SqL K H2 p (ns.map V.int)/\Q (.int (cC d ns)) H2
end
section
variable {X:Cx}{e ed:Expr}{te td:TE}{p pos kpos:Pos}
theorem CI(hc:X.calm=true)(hg:Gl X "max")(hm:X.mg "max"=none)(ha:PE X e te)(hd:PE X ed td)(hs:starEach [e] X.env=(false,eval e X.env)::starEach [] X.env:=by rfl)
  (h1:backTo pos (starEach [e] X.env)=(false,eval e X.env)::backTo pos (starEach [] X.env):=by rfl)
  (h2:(backTo pos (starEach [e] X.env)).any (·.1)=false:=by rfl) (h3:(backToKw pos (keywordEach [⟨some "default",ed,kpos⟩] X.env)).all (·.1.isSome)=true:=by rfl)
  (h4:(backToKw pos (keywordEach [⟨some "default",ed,kpos⟩] X.env)).any (·.1.isNone)=false:=by rfl) (h5:(backToKw pos (keywordEach [⟨some "default",ed,kpos⟩] X.env)).filterMap (·.1)=[Str.ofString "default"]:=by rfl) :
  PE X (.Call (.Name "max" p) [e] [⟨some "default",ed,kpos⟩] pos) (F8 X.K te td):=by
 intro pins s σ H Q I h;refine wpAny_Call_Name_kw (ja I hg hm boot_max ?_ (by decide) (by decide));refine PyProof.Rows.callWith_kw (thn ((cW ha dG hs) pos pins s σ H (fun vs H1=>∃x,vs=[x]/\td σ H1 fun y H2=>∃p ns d,x=.ref p/\y=.int d/\SqL X.K H2 p (ns.map V.int)/\Q (.int (cC d ns)) H2) I ?_) fun us s1 ⟨vs,H1,I1,r,x,ex,q⟩=>?_) h1 h2 h3 h4
 .exact h
 .subst ex
  obtain⟨u,rfl,ru⟩:=vals1 r;refine PyProof.Rows.kws_cons (thn (hd pins s1 σ H1 _ I1 q) fun v s2 ⟨y,H2,I2,r2,q2⟩=>PyProof.Rows.kws_nil ?_);obtain⟨p,ns,d,rfl,rfl,hq,q⟩:=q2;cases ru;obtain⟨t,rfl⟩:=r2;rw[h5];exact A9 hc I2 hq q
end
section
variable {X:Cx}
theorem Aj:OpR X (compareOp .IsNot) (fun x y H Q=>∃b c,x=.bl b/\y=.bl c/\Q (.bl (b != c)) H):=by
 intro pins s σ H x y v u Q I rx ry h;obtain⟨b,c,rfl,rfl,q⟩:=h;cases rx;cases ry;exact isnot_bool ⟨.bl (b != c),H,I,rfl,q⟩
theorem op_catG:OpR X (binaryOp .Add) (fun x y H Q=>∃a b xs ys,x=.ref a/\y=.ref b/\SqT X.K H a xs/\SqT X.K H b ys/\xs.length+ys.length<=sizeLine /\
  (xs=[]->Q (.ref b) H)/\(xs≠[]->ys=[]->Q (.ref a) H)/\(xs≠[]->ys≠[]->∀p,H p=none->Q (.ref p) (upd H p (.tup (xs++ys))))):=by
 intro pins s σ H x y v u Q I rx ry h;obtain⟨a,b,xs,ys,rfl,rfl,ha,hb,hz,q0,q1,q2⟩:=h
 by_cases hx:xs=[]
 .cases rx
  cases ry;obtain⟨its,r1,p1,_⟩:=I.tuple ha;obtain⟨its2,r2,p2,_⟩:=I.tuple hb;have hv:its=[]:=r1.nil_iff.mpr hx;obtain⟨⟨cls,dd,data,sl⟩,ho,hc,n,hd⟩:=id p1;obtain⟨⟨cls2,dd2,data2,sl2⟩,ho2,hc2,n2,hd2⟩:=id p2;simp only at hc hd hc2 hd2;subst hc hd hc2 hd2
  exact concat_meets ⟨_,ho,rfl⟩ ⟨_,ho2,rfl⟩ noFill_tuple_add seq_tuple_add PySem.F.slot_tuple_add PySem.F.entry_tuple_add (PySem.F.args_tuple_add_2 _ _)
   (tuple_addW0 a b its.toArray its2.toArray n n2 dd dd2 sl sl2 (by simp[hv])) ⟨ho,ho2,⟨.ref b,H,I,rfl,q0 hx⟩⟩
 .exact CP pins s σ H _ _ v u Q I rx ry ⟨a,b,xs,ys,rfl,rfl,ha,hb,hx,hz,q1 hx,q2 hx⟩
theorem Es:SlR X (fun x lo hi H Q=>∃z:Str,x=.str z/\z.length<=sizeLine/\Q (.str (Txt.slice z lo hi)) H):=by
 intro pins s σ H x v vl vu lo hi sl Q I rx hs pl pu h;obtain⟨z,rfl,hz,q⟩:=h;obtain⟨t,rfl⟩:=rx
 have fin:∀l u:Option (Int×Tok),l.map (·.1)=lo->u.map (·.1)=hi->s.heap.IsSlice sl l u none->wpAny (model X.prog X.w) X.A (getItem (.str z t) (.ref sl)) (EP X pins σ Q) X.xe s:=fun l u el eu h=>by
  refine wpAny_getItem_str_slice h rfl ?_;refine post_val_or_made (fun _=>?_) fun t' k=>?_
  .have:=sliceIndices_le (l.map (·.1)) (u.map (·.1)) z.length
   have e:=List.length_filterMap_le (fun i=>z.cps[i]?) (slicePicked z l u none);show ((slicePicked z l u none).filterMap (z.cps[·]?)).toArray.size<=sizeLine;rw[List.size_toArray];unfold slicePicked at e ⊢;simp only[Option.map_none,Option.getD_none] at e ⊢;omega
  .refine⟨.str (Txt.slice z lo hi),H,I.tok _,⟨t',?_⟩,q⟩
   rw[←el,←eu];rfl
 refine⟨"str",_,PySem.F.slot_str_getitem.lookup,typeIs_str s z t,?_⟩
 cases pl with
 |none=>
  cases pu with
  |none=>exact fin none none rfl rfl hs
  |int j u=>exact fin none (some (j,u)) rfl rfl hs
 |int i u=>
  cases pu with
  |none=>exact fin (some (i,u)) none rfl rfl hs
  |int j u'=>exact fin (some (i,u)) (some (j,u')) rfl rfl hs
theorem Ac{z:Str}{lo hi:Option Int}{c:Nat}(h:c∈(Txt.slice z lo hi).cps.toList):c∈z.cps.toList:=by
 unfold Txt.slice at h;split at h
 .exact h
 .obtain⟨i,_,hi⟩:=List.mem_filterMap.mp (by simpa using h)
  have:=Array.mem_of_getElem? hi;simpa using this
theorem op_mulS:OpR X (binaryOp .Mult) (fun x y H Q=>∃z k,x=.str z/\y=.int k/\0<=k/\k<=2000/\z.length<=1000/\Q (.str (Txt.mul z k)) H):=by
 intro pins s σ H x y v u Q I rx ry h;obtain⟨z,k,rfl,rfl,h1,h2,h3,q⟩:=h;obtain⟨t,rfl⟩:=rx;obtain⟨t',rfl⟩:=ry;have hm:z.length*k.toNat<=1000*2000:=Nat.mul_le_mul h3 (by omega);refine SB.mul ⟨?_,fun g1 g2=>?_,fun g1 g2=>?_⟩ fun t' k'=>⟨.str _,H,I.tok _,⟨t',rfl⟩,q⟩
 .simp;omega
 .have hk:1<=k:=by simp at g1;omega
  have e1:(1000:Int)<=(2^63-1) / k:=by
   rw[Int.le_ediv_iff_mul_le (by omega)];omega
  omega
 .unfold Builtin.Str.tooLong
  simp[sizeLine];omega
end
theorem rP{ys:List Str}:∀{us:List Value},Vals (ys.map V.str) us->StrsAre us ys:=by
 induction ys with
 |nil=>intro us r;rw[List.map_nil] at r;cases r;exact .nil
 |cons y ys ih=>
  intro us r;rw[List.map_cons] at r
  cases r with
  |cons r1 r2=>
   obtain⟨t,e⟩:=r1;subst e;exact .cons y t (ih r2)
section
variable {X:Cx}
end
structure Fn(P:Program)(w:World)(K:Frag)(mg:Str->Option Value)(base:Heap)(name:Str)(ps:List Str)(k:Nat)(sp:Sp):Prop where
 ex:∃f fd,FnOk P w K mg base CX0 k f fd ps sp/\Binds K fd ps []/\PySem.W.keepIn K (.ref f)=true/\mg name=some (.ref f)
section
variable {X:Cx}{name:Str}{ps:List Str}{k:Nat}{sp:Sp}{e:Expr}{es:List Expr}{t:TA}{p pos:Pos}
theorem ko(F:Fn X.prog X.w X.K X.mg X.base name ps k sp)(hr:Room k X.A)(hg:Gl X name)(ha:PA X (e::es) t)(hdb:(name == ("__debug__" : Str))=false:=by decide)
  (he:starEach (e::es) X.env=(false,eval e X.env)::starEach es X.env:=by rfl) (hpl:(backTo pos (starEach es X.env)).any (·.1)=false:=by rfl):PE X (.Call (.Name name p) (e::es) [] pos) (xc sp [] E0 t):=by
 obtain⟨f,fd,h1,h2,h3,h4⟩:=F.ex;exact CL h1 hr hg h4 h3 h2 .nil Gu ha hdb he hpl
end
theorem Bq{X:Cx}{x:Str}{scope osc:Scope}{N N':List Str}{elt iter:Expr}{ifs:List Expr}{px pos:Pos}{wi:TI}{te:TE}{tt:TT}(S:CS osc N x scope N')(hi:PI X (.Name x px) iter wi)
  (he:∀C s0 H0 ex,PE (bT X x scope C s0 H0 ex N') elt te) (ht:∀C s0 H0 ex,PTs (bT X x scope C s0 H0 ex N') ifs tt) (hc:X.calm=true:=by rfl) (hs:X.env.scope=osc:=by rfl) (hN:X.N=N:=by rfl)
  (hf:∀v,foldedSetIterable iter X.env v=pure v:=by intro _;rfl):PE X (.ListComp elt [⟨.Name x px,iter,ifs,0⟩] scope pos) (xb wi tt te):=by
 subst hs hN;exact CJ hc S hi he ht hf
end L2
namespace D
open PySem PySem.Spec PyProof.Rows L2
inductive Gh(P:Hp->Prop):Hp->Prop where
 |done {H:Hp}:P H->Gh P H
 |frz {H:Hp}{a:Addr}{kvs:List (Key×V)}:H a=some (.dK kvs)->(∀o,Gh P (upd H a (.frz o (.dK kvs))))->Gh P H
theorem Gh.imp{P P':Hp->Prop}{H:Hp}(g:Gh P H)(i:∀H,P H->P' H):Gh P' H:=by
 induction g with
 |done h=>exact .done (i _ h)
 |frz e _ ih=>exact .frz e ih
section
variable {X:Cx}{pins:List (Addr×Obj)}{σ:L2.St}{H:Hp}{s:Shared}
theorem u7(I:Inv X pins σ H s){a:Addr}{kvs:List (Key×V)}(e:H a=some (.dK kvs)):∃o,Inv X pins σ (upd H a (.frz o (.dK kvs))) s:=by
 obtain⟨z,y,vs,kv,o,es,ep,eo,r⟩:=I.hok a _ e
 have U:∀{b:Addr}{u:HO},H b=some u->(∀ks,u≠.dK ks)->upd H a (.frz o (.dK kvs)) b=some u:=fun {b u} q n=>by
  rw[aS (fun z=>by subst z;rw[e] at q;cases q;exact n _ rfl)];exact q
 have hok:HOk X.prog X.w (upd H a (.frz o (.dK kvs))) s.heap:=fun b u q=>by
  by_cases hb:b=a
  .subst hb
   rw[bx] at q;cases q;exact⟨eo,(I.hok b _ e).stay (fun _ _ _ q=>q) (fun c q=>U q (fun _ z=>nomatch z)) fun c xs q=>U q (fun _ z=>nomatch z)⟩
  .rw[aS hb] at q
   exact(I.hok b u q).stay (fun _ _ _ q=>q) (fun c q=>U q (fun _ z=>nomatch z)) fun c xs q=>U q (fun _ z=>nomatch z)
 exact⟨o,I.un (h':=s.heap) (t':=s.toks) ⟨fun b ob q n _ _=>q,fun b ob q n _ _=>⟨_,q⟩,fun b ob q n _=>by rw[aS (fun z=>by subst z;rw[e] at n;cases n)];exact n,fun b ob q _=>⟨_,q⟩,fun b xs q=>U q (fun _ z=>nomatch z),
  fun b ob u q=>U q (fun _ z=>nomatch z),fun b ps q=>⟨#[],by rw[U q (fun _ z=>nomatch z)];simp⟩⟩ hok⟩
theorem Gh.ok{P:Hp->Prop}(g:Gh P H)(I:Inv X pins σ H s):∃H',Inv X pins σ H' s/\P H':=by
 induction g with
 |done h=>exact⟨_,I,h⟩
 |frz e _ ih=>
  obtain⟨o,I'⟩:=u7 I e;exact ih o I'
end
section
variable {X:Cx}
theorem Gk{st:Stmt}{t:TS}(h:PS X st t):PS X st (fun D σ H=>Gh (t D σ) H):=fun pins s σ H D I q=>by
 obtain⟨H',I',q'⟩:=q.ok I;exact h pins s σ H' D I' q'
theorem EC{st:List Stmt}{t:TS}(h:PSs X st t):PSs X st (fun D σ H=>Gh (t D σ) H):=fun pins s σ H D I q=>by
 obtain⟨H',I',q'⟩:=q.ok I;exact h pins s σ H' D I' q'
theorem Gr{e:Expr}{t:TE}(h:PE X e t):PE X e (fun σ H Q=>t σ H fun v H1=>Gh (Q v) H1):=fun pins s σ H Q I q=>
 thn (h pins s σ H _ I q) fun u s' ⟨v,H',I',r,q'⟩=>by
  obtain⟨H2,I2,q2⟩:=q'.ok I';exact⟨v,H2,I2,r,q2⟩
end
def gL(o:Obj):Nat:=match o.data with
 |.dict _ ep=>ep
 |_=>0
def Itd(a:Addr)(o:Obj)(kvs:List (Key×V)):It:=⟨fun i H=>H a=some (.frz o (.dK kvs))/\i<kvs.length,fun i H x H'=>H'=H/\∃k v,kvs[i]? = some (k,v)/\x=kV k,fun i H=>H a=some (.frz o (.dK kvs))/\i=kvs.length⟩
theorem gY{P:Program}{w:World}{H:Hp}{h:Heap}{a:Addr}{o:Obj}{kvs:List (Key×V)}(ok:HOk P w H h)(e:H a=some (.frz o (.dK kvs))):kvs.length<=sizeLine/\(a == sysModules)=false/\∃vs,KV kvs vs/\h.DictAt (bz P w) a vs (gL o):=by
 obtain⟨e1,z,y,vs,kv,o',es,ep,e2,ed,dd,r⟩:=ok a _ e;rw[e1] at e2;cases e2;refine⟨z,y,vs,kv,o,es,e1,ed,?_,r⟩;unfold gL;rw[dd]
theorem keyV{P:Program}{w:World}{k:Key}{v:Value}(e:(bz P w).is k v=true):RelV (kV k) v:=by
 rcases dQ (show eN k v=true from e) with⟨i,t,rfl,rfl⟩|⟨x,t,rfl,rfl⟩
 .exact⟨t,rfl⟩
 .exact⟨t,rfl⟩
theorem GU{kvs:List (Key×V)}{vs:List (Key×Value)}(r:KV kvs vs){i:Nat}{k:Key}{x:Value}(e:vs[i]? = some (k,x)):∃v,kvs[i]? = some (k,v):=by
 have h:=r.keys
 have h1:(vs.map (·.1))[i]? = some k:=by rw[List.getElem?_map,e];rfl
 rw[←h,List.getElem?_map] at h1
 cases q:kvs[i]? with
 |none=>rw[q] at h1;cases h1
 |some p=>
  rw[q] at h1;cases h1;exact⟨p.2,rfl⟩
theorem Ab{P:Program}{w:World}{K:Frag}{tg:Expr}(a it:Addr)(o:Obj)(kvs:List (Key×V)):Turn P w K tg (Itd a o kvs) [it] it (fun i h=>h.IsKeyIter it a i kvs.length (gL o)) where
 mem:=by simp
 obj:=fun i h st b hb=>by
  have e:b=it:=by simpa using hb
  subst e;obtain⟨o,e,c,d⟩:=st;exact⟨o,e,fun v z=>by rw[d] at z;cases z⟩
 keep:=fun i h h' st k=>st.at fun o e=>k it (by simp) o e
 item:=by
  intro X hP hw hK hc i pins s σ H E I hf st hg;subst hP hw hK;obtain⟨hg1,hg2⟩:=hg;obtain⟨z,y,vs,kv,dd⟩:=gY I.hok hg1;obtain⟨f0,f1,f2,f3,f4,f5⟩:=hf it (by simp);have hl:=kv.length
  have ne:a≠it:=fun q=>by rw[q,f0] at hg1;cases hg1
  have W:=Walks.dictKeys (prog:=X.prog) (w:=X.w) (knd:=bz X.prog X.w) (I.ok.hd hc) it a ne vs (gL o);refine W.item i s _ _ (by omega) ⟨by rw[←hl];exact st,dd⟩ fun v h' tk hv st' kk=>?_;obtain⟨k,x,h1,h2⟩:=hv;have I1:Inv X pins σ H { s with heap:=h',toks:=tk }:=I.turned (fun b o hb e=>kk b o (by simpa using hb) e) f0 f1 f3 f4 f5
  have st1:h'.IsKeyIter it a (i+1) kvs.length (gL o):=by rw[hl];exact st'.1
  obtain⟨o1,e1,c1,d1⟩:=id st1;obtain⟨v0,h3⟩:=GU kv h1;exact⟨v,rfl,kG (s:={ s with heap:=h',toks:=tk }) e1 c1 d1 (by decide) ⟨kV k,H,I1,keyV h2,⟨rfl,k,v0,h3,rfl⟩,st1,fun b hb=>(hf b hb).1⟩⟩
 done:=by
  intro X hP hw hK hc i pins s σ H E I hf st hg;subst hP hw hK;obtain⟨hg1,hg2⟩:=hg;obtain⟨z,y,vs,kv,dd⟩:=gY I.hok hg1;obtain⟨f0,f1,f2,f3,f4,f5⟩:=hf it (by simp);have hl:=kv.length
  have ne:a≠it:=fun q=>by rw[q,f0] at hg1;cases hg1
  have W:=Walks.dictKeys (prog:=X.prog) (w:=X.w) (knd:=bz X.prog X.w) (I.ok.hd hc) it a ne vs (gL o);refine W.done s _ _ ⟨by rw[←hl,←hg2];rw[←hg2] at st;exact st,dd⟩ fun h' tk kk=>⟨rfl,I.turned (fun b o hb e=>kk b o (by simpa using hb) e) f0 f1 f3 f4 f5⟩
 self:=fun _ _ _ _ _ st h=>wpAny_pyIter_keyiter st h
inductive W where
 |d (x:PyData)|tp (i:Nat)|loc (x:PyData)
abbrev Tp:=List (List PyData)
abbrev Rho:=List (Option W)
noncomputable def bnd{α β:Type}(o:Option (α×Tp))(k:α->Tp->Option β):Option β:=match o with
 |some (a,T)=>k a T
 |none=>none
theorem aM{α β:Type}{o:Option (α×Tp)}{k:α->Tp->Option β}{b:β}(h:bnd o k=some b):∃a T,o=some (a,T)/\k a T=some b:=by
 cases o with
 |none=>cases h
 |some p=>exact⟨p.1,p.2,rfl,h⟩
theorem FM{α β:Type}{a:α}{T:Tp}{k:α->Tp->Option β}:bnd (some (a,T)) k=k a T:=rfl
def f6:Key->PyData
 |.inl i=>.int i
 |.inr x=>.str x
def TupAt(K:Frag)(O:Addr->Prop)(H:Hp)(a:Addr)(vs:List V):Prop:=(¬O a/\Rd H a (.tup vs))\/SqT K (fun _=>none) a vs
def LstAt(K:Frag)(O:Addr->Prop)(H:Hp)(a:Addr)(vs:List V):Prop:=(¬O a/\Rd H a (.lst vs))\/SqL K (fun _=>none) a vs
theorem En{K:Frag}{H:Hp}{a:Addr}{vs:List V}(h:SqT K (fun _=>none) a vs):SqT K H a vs:=by
 rcases h with(h|⟨o,h⟩)|h
 .cases h
 .cases h
 .exact .inr h
theorem Eo{K:Frag}{H:Hp}{a:Addr}{vs:List V}(h:SqL K (fun _=>none) a vs):SqL K H a vs:=by
 rcases h with(h|⟨o,h⟩)|h
 .cases h
 .cases h
 .exact .inr h
theorem TupAt.sq{K:Frag}{O:Addr->Prop}{H:Hp}{a:Addr}{vs:List V}(h:TupAt K O H a vs):SqT K H a vs:=by
 rcases h with h|h
 .exact .inl h.2
 .exact En h
theorem LstAt.sq{K:Frag}{O:Addr->Prop}{H:Hp}{a:Addr}{vs:List V}(h:LstAt K O H a vs):SqL K H a vs:=by
 rcases h with h|h
 .exact .inl h.2
 .exact Eo h
mutual
inductive Rep(K:Frag)(O:Addr->Prop)(H:Hp):V->PyData->Prop where
 |non:Rep K O H .non .none
 |bl (b:Bool):Rep K O H (.bl b) (.bool b)
 |int (i:Int):Rep K O H (.int i) (.int i)
 |str (x:Str):Rep K O H (.str x) (.str x)
 |tup {a:Addr}{vs:List V}{ds:List PyData}:TupAt K O H a vs->Reps K O H vs ds->Rep K O H (.ref a) (.tuple ds)
 |lst {a:Addr}{vs:List V}{ds:List PyData}:LstAt K O H a vs->Reps K O H vs ds->Rep K O H (.ref a) (.list ds)
 |dct {a:Addr}{o:Obj}{kvs:List (Key×V)}{ds:List (PyData×PyData)}:¬O a->H a=some (.frz o (.dK kvs))->RepK K O H kvs ds->Rep K O H (.ref a) (.dict ds)
inductive Reps(K:Frag)(O:Addr->Prop)(H:Hp):List V->List PyData->Prop where
 |nil:Reps K O H [] []
 |cons {v:V}{d:PyData}{vs:List V}{ds:List PyData}:Rep K O H v d->Reps K O H vs ds->Reps K O H (v::vs) (d::ds)
inductive RepK(K:Frag)(O:Addr->Prop)(H:Hp):List (Key×V)->List (PyData×PyData)->Prop where
 |nil:RepK K O H [] []
 |cons {k:Key}{v:V}{d:PyData}{kvs:List (Key×V)}{ds:List (PyData×PyData)}:Rep K O H v d->RepK K O H kvs ds->RepK K O H ((k,v)::kvs) ((f6 k,d)::ds)
end
def Le(O:Addr->Prop)(H:Hp)(O':Addr->Prop)(H':Hp):Prop:=∀a o,¬O a->H a=some o->¬O' a/\H' a=some o
theorem Le.trans{O O1 O2:Addr->Prop}{H H1 H2:Hp}(h:Le O H O1 H1)(g:Le O1 H1 O2 H2):Le O H O2 H2:=fun a o n e=>let ⟨n1,e1⟩:=h a o n e;g a o n1 e1
theorem TupAt.mono{K:Frag}{O O':Addr->Prop}{H H':Hp}(h:Le O H O' H'){a:Addr}{vs:List V}(t:TupAt K O H a vs):TupAt K O' H' a vs:=by
 rcases t with⟨n,t|⟨o,t⟩⟩|t
 .exact .inl ⟨(h _ _ n t).1,.inl (h _ _ n t).2⟩
 .exact .inl ⟨(h _ _ n t).1,.inr ⟨o,(h _ _ n t).2⟩⟩
 .exact .inr t
theorem LstAt.mono{K:Frag}{O O':Addr->Prop}{H H':Hp}(h:Le O H O' H'){a:Addr}{vs:List V}(t:LstAt K O H a vs):LstAt K O' H' a vs:=by
 rcases t with⟨n,t|⟨o,t⟩⟩|t
 .exact .inl ⟨(h _ _ n t).1,.inl (h _ _ n t).2⟩
 .exact .inl ⟨(h _ _ n t).1,.inr ⟨o,(h _ _ n t).2⟩⟩
 .exact .inr t
mutual
theorem Rep.mono{K:Frag}{O O':Addr->Prop}{H H':Hp}(e:Le O H O' H'):∀{v:V}{d:PyData},Rep K O H v d->Rep K O' H' v d
 |_,_,.non=>.non
 |_,_,.bl b=>.bl b
 |_,_,.int i=>.int i
 |_,_,.str x=>.str x
 |_,_,.tup t r=>.tup (t.mono e) (Reps.mono e r)
 |_,_,.lst t r=>.lst (t.mono e) (Reps.mono e r)
 |_,_,.dct n h r=>.dct (e _ _ n h).1 (e _ _ n h).2 (RepK.mono e r)
theorem Reps.mono{K:Frag}{O O':Addr->Prop}{H H':Hp}(e:Le O H O' H'):∀{vs:List V}{ds:List PyData},Reps K O H vs ds->Reps K O' H' vs ds
 |_,_,.nil=>.nil
 |_,_,.cons r t=>.cons (Rep.mono e r) (Reps.mono e t)
theorem RepK.mono{K:Frag}{O O':Addr->Prop}{H H':Hp}(e:Le O H O' H'):∀{vs:List (Key×V)}{ds:List (PyData×PyData)},RepK K O H vs ds->RepK K O' H' vs ds
 |_,_,.nil=>.nil
 |_,_,.cons r t=>.cons (Rep.mono e r) (RepK.mono e t)
end
section
variable {K:Frag}{O:Addr->Prop}{H:Hp}
theorem Reps.length:∀{vs:List V}{ds:List PyData},Reps K O H vs ds->vs.length=ds.length
 |_,_,.nil=>rfl
 |_,_,.cons _ t=>congrArg (· + 1) (Reps.length t)
theorem Reps.get:∀{vs:List V}{ds:List PyData}{i:Nat}{v:V},Reps K O H vs ds->vs[i]? = some v->∃d,ds[i]? = some d/\Rep K O H v d
 |_,_,_,_,.nil,e=>by simp at e
 |_,_,0,_,.cons r _,e=>by simp at e;subst e;exact⟨_,rfl,r⟩
 |_,_,i+1,v,.cons _ t,e=>by
  obtain⟨d,h1,h2⟩:=Reps.get (i:=i) (v:=v) t (by simpa using e);exact⟨d,by simpa using h1,h2⟩
theorem Reps.getD:∀{vs:List V}{ds:List PyData}{i:Nat}{d:PyData},Reps K O H vs ds->ds[i]? = some d->∃v,vs[i]? = some v/\Rep K O H v d
 |_,_,_,_,.nil,e=>by simp at e
 |_,_,0,_,.cons r _,e=>by simp at e;subst e;exact⟨_,rfl,r⟩
 |_,_,i+1,v,.cons _ t,e=>by
  obtain⟨d,h1,h2⟩:=Reps.getD (i:=i) (d:=v) t (by simpa using e);exact⟨d,by simpa using h1,h2⟩
theorem Reps.set{v:V}{d:PyData}(r:Rep K O H v d):∀{vs:List V}{ds:List PyData} (i:Nat),Reps K O H vs ds->Reps K O H (vs.set i v) (ds.set i d)
 |_,_,_,.nil=>.nil
 |_,_,0,.cons _ t=>.cons r t
 |_,_,i+1,.cons q t=>.cons q (Reps.set r i t)
theorem Reps.append{ws:List V}{es:List PyData}:∀{vs:List V}{ds:List PyData},Reps K O H vs ds->Reps K O H ws es->Reps K O H (vs++ws) (ds++es)
 |_,_,.nil,r=>r
 |_,_,.cons q t,r=>.cons q (Reps.append t r)
theorem Reps.take:∀{vs:List V}{ds:List PyData} (n:Nat),Reps K O H vs ds->Reps K O H (vs.take n) (ds.take n)
 |_,_,0,_=>.nil
 |_,_,_+1,.nil=>.nil
 |_,_,n+1,.cons r t=>.cons r (Reps.take n t)
theorem Reps.drop:∀{vs:List V}{ds:List PyData} (n:Nat),Reps K O H vs ds->Reps K O H (vs.drop n) (ds.drop n)
 |_,_,0,r=>r
 |_,_,_+1,.nil=>.nil
 |_,_,n+1,.cons _ t=>Reps.drop n t
theorem Reps.rep{vs:List V}{ds:List PyData}(r:Reps K O H vs ds):∀n:Nat,Reps K O H (List.replicate n vs).flatten (List.replicate n ds).flatten
 |0=>.nil
 |n+1=>by
  rw[List.replicate_succ,List.replicate_succ,List.flatten_cons,List.flatten_cons];exact r.append (r.rep n)
end
def SameX(ts:List Addr)(H H':Hp):Prop:=∀b o,b∉ts->H b=some o->H' b=some o
theorem SameX.refl(ts:List Addr)(H:Hp):SameX ts H H:=fun _ _ _ h=>h
theorem SameX.trans{ts:List Addr}{H H1 H2:Hp}(a:SameX ts H H1)(b:SameX ts H1 H2):SameX ts H H2:=fun c o n h=>b c o n (a c o n h)
theorem SameX.new{ts:List Addr}{H:Hp}{p:Addr}(h:H p=none)(o:HO):SameX ts H (upd H p o):=fun b u _ q=>by rw[aS (dv q h)];exact q
def Mut(o:Option HO):Prop:=(∃vs,o=some (.lst vs))\/(∃kvs,o=some (.dK kvs))\/∃C dx fs,o=some (.ins C dx fs)
theorem Mut.ex{o:Option HO}(h:Mut o):∃u,o=some u:=by rcases h with⟨vs,e⟩|⟨vs,e⟩|⟨C,dx,fs,e⟩ <;> exact⟨_,e⟩
theorem Mut.to{o o':Option HO}(h:Mut o)(k:∀u,o=some u->o'=some u):Mut o':=by
 rcases h with⟨vs,e⟩|⟨vs,e⟩|⟨C,dx,fs,e⟩
 .exact .inl ⟨vs,k _ e⟩
 .exact .inr (.inl ⟨vs,k _ e⟩)
 .exact .inr (.inr ⟨C,dx,fs,k _ e⟩)
def Hm(C:Addr):PyData:=.dict [(.none,.int (C:Int))]
def isO:List PyData->Bool
 |.dict [(.none,_)]::_=>true
 |_=>false
def pairF(p:Str×PyData):PyData:=.tuple [.str p.1,p.2]
inductive RepF(K:Frag)(O:Addr->Prop)(H:Hp):List (Str×V)->List (Str×PyData)->Prop where
 |nil:RepF K O H [] []
 |cons {n:Str}{v:V}{d:PyData}{vs:List (Str×V)}{ds:List (Str×PyData)}:Rep K O H v d->RepF K O H vs ds->RepF K O H ((n,v)::vs) ((n,d)::ds)
theorem RepF.mono{K:Frag}{O O':Addr->Prop}{H H':Hp}(e:Le O H O' H'){vs:List (Str×V)}{ds:List (Str×PyData)}(r:RepF K O H vs ds):RepF K O' H' vs ds:=by
 induction r with
 |nil=>exact .nil
 |cons r _ ih=>exact .cons (Rep.mono e r) ih
def RowAt(K:Frag)(O:Addr->Prop)(H:Hp)(a:Addr)(xs:List PyData):Prop:=(isO xs=false/\∃vs,H a=some (.lst vs)/\Reps K O H vs xs)\/∃C dx fs fd,H a=some (.ins C dx fs)/\xs=Hm C::fd.map pairF/\RepF K O H fs fd
theorem RowAt.mono{K:Frag}{O O':Addr->Prop}{H H':Hp}{a:Addr}{xs:List PyData}(h:RowAt K O H a xs)(k:∀o,H a=some o->H' a=some o)(l:Le O H O' H'):RowAt K O' H' a xs:=by
 rcases h with⟨n,vs,h1,h2⟩|⟨C,dx,fs,fd,h1,h2,h3⟩
 .exact .inl ⟨n,vs,k _ h1,h2.mono l⟩
 .exact .inr ⟨C,dx,fs,fd,k _ h1,h2,h3.mono l⟩
theorem RowAt.lst{K:Frag}{O:Addr->Prop}{H:Hp}{a:Addr}{xs:List PyData}(h:RowAt K O H a xs)(n:isO xs=false):∃vs,H a=some (.lst vs)/\Reps K O H vs xs:=by
 rcases h with⟨_,h⟩|⟨C,dx,fs,fd,h1,h2,h3⟩
 .exact h
 .rw[h2] at n
  cases n
theorem Cs{K:Frag}{O:Addr->Prop}{H:Hp}{v:V}{y:PyData}(h:Rep K O H v (.dict [(.none,y)])):False:=by
 cases h with
 |dct _ _ r=>
  generalize hl:[(PyData.none,y)]=l at r
  cases r with
  |nil=>cases hl
  |@cons k _ _ _ _ _ _=>
   injection hl with h1 _
   injection h1 with h1 _
   rcases k with i|x
   .cases h1
   .cases h1
theorem Reps.notO{K:Frag}{O:Addr->Prop}{H:Hp}{vs:List V}{xs:List PyData}(r:Reps K O H vs xs):isO xs=false:=by
 cases r with
 |nil=>rfl
 |cons h _=>
  rename_i d _ _ _;unfold isO;split
  .rename_i e
   cases e;exact(Cs h).elim
  .rfl
structure HC(K:Frag)(O:Addr->Prop)(ts:List Addr)(H:Hp)(T:Tp):Prop where
 own:∀b∈ts,O b
 trk:∀b,O b->Mut (H b)
 nd:ts.Nodup
 len:ts.length=T.length
 tape:∀(i:Nat) (a:Addr) (xs:List PyData),ts[i]? = some a->T[i]? = some xs->RowAt K O H a xs
section
variable {K:Frag}{O:Addr->Prop}{ts:List Addr}{H H':Hp}{T:Tp}
theorem HC.le(c:HC K O ts H T)(s:SameX ts H H'):Le O H O H':=fun a o n e=>⟨n,s a o (fun z=>n (c.own a z)) e⟩
theorem HC.step(c:HC K O ts H T)(s:SameX ts H H')(t:∀b∈ts,H' b=H b):HC K O ts H' T where
 own:=c.own
 trk:=fun b hb=>by
  by_cases z:b∈ts
  .rw[t b z];exact c.trk b hb
  .exact(c.trk b hb).to fun u e=>s b _ z e
 nd:=c.nd
 len:=c.len
 tape:=fun i a xs e1 e2=>by
  exact(c.tape i a xs e1 e2).mono (fun o h1=>by rw[t a (List.mem_of_getElem? e1)];exact h1) (c.le s)
theorem HC.fresh(c:HC K O ts H T){p:Addr}(h:H p=none):¬O p:=fun z=>by
 obtain⟨u,e⟩:=(c.trk p z).ex;rw[h] at e;cases e
theorem HC.new(c:HC K O ts H T){p:Addr}(h:H p=none)(o:HO):HC K O ts (upd H p o) T:=c.step (.new h o) fun b hb=>aS fun z=>c.fresh h (z ▸ c.own b hb)
theorem HC.leNew(c:HC K O ts H T){p:Addr}(h:H p=none)(o:HO):Le O H O (upd H p o):=c.le (.new h o)
theorem HC.newT(c:HC K O ts H T){p:Addr}(h:H p=none){vs:List V}{ds:List PyData}(r:Reps K O H vs ds):Rep K O (upd H p (.tup vs)) (.ref p) (.tuple ds):=.tup (.inl ⟨c.fresh h,.inl bx⟩) (r.mono (c.leNew h _))
theorem HC.newL(c:HC K O ts H T){p:Addr}(h:H p=none){vs:List V}{ds:List PyData}(r:Reps K O H vs ds):Rep K O (upd H p (.lst vs)) (.ref p) (.list ds):=.lst (.inl ⟨c.fresh h,.inl bx⟩) (r.mono (c.leNew h _))
end
inductive Vw(K:Frag)(O:Addr->Prop)(H:Hp):V->PyData->Prop where
 |rep {v:V}{x:PyData}:Rep K O H v x->Vw K O H v x
 |raw {a:Addr}{vs:List V}{xs:List PyData}:H a=some (.lst vs)->Reps K O H vs xs->Vw K O H (.ref a) (.list xs)
 |rawD {a:Addr}{kvs:List (Key×V)}{ds:List (PyData×PyData)}:H a=some (.dK kvs)->RepK K O H kvs ds->Vw K O H (.ref a) (.dict ds)
section
variable {K:Frag}{O:Addr->Prop}{H:Hp}{v:V}
theorem Vw.int{i:Int}(h:Vw K O H v (.int i)):v=.int i:=by cases h with|rep h=>cases h;rfl
theorem Vw.str{x:Str}(h:Vw K O H v (.str x)):v=.str x:=by cases h with|rep h=>cases h;rfl
theorem Vw.bl{b:Bool}(h:Vw K O H v (.bool b)):v=.bl b:=by cases h with|rep h=>cases h;rfl
theorem Vw.non(h:Vw K O H v .none):v=.non:=by cases h with|rep h=>cases h;rfl
theorem Vw.tup{ds:List PyData}(h:Vw K O H v (.tuple ds)):∃a vs,v=.ref a/\TupAt K O H a vs/\Reps K O H vs ds:=by cases h with|rep h=>cases h with|tup t r=>exact⟨_,_,rfl,t,r⟩
theorem Vw.tupR{ds:List PyData}(h:Vw K O H v (.tuple ds)):Rep K O H v (.tuple ds):=by cases h with|rep h=>exact h
theorem Vw.lst{ds:List PyData}(h:Vw K O H v (.list ds)):∃a vs,v=.ref a/\SqL K H a vs/\Reps K O H vs ds:=by
 cases h with
 |rep h=>cases h with|lst t r=>exact⟨_,_,rfl,t.sq,r⟩
 |raw h r=>exact⟨_,_,rfl,SqL.of h,r⟩
theorem Vw.dct{ds:List (PyData×PyData)}(h:Vw K O H v (.dict ds)):∃a kvs,v=.ref a/\Rd H a (.dK kvs)/\RepK K O H kvs ds:=by
 cases h with
 |rep h=>cases h with|dct n t r=>exact⟨_,_,rfl,.inr ⟨_,t⟩,r⟩
 |rawD t r=>exact⟨_,_,rfl,.inl t,r⟩
end
def OwnAt(K:Frag)(O:Addr->Prop)(H:Hp)(a:Addr):PyData->Prop
 |.list xs=>∃vs,H a=some (.lst vs)/\Reps K O H vs xs
 |.dict ds=>∃kvs,H a=some (.dK kvs)/\RepK K O H kvs ds
 |_=>False
theorem OwnAt.mono{K:Frag}{O O':Addr->Prop}{H H':Hp}{a:Addr}{x:PyData}(h:OwnAt K O H a x)(k:∀o,H a=some o->H' a=some o)(l:Le O H O' H'):OwnAt K O' H' a x:=by
 cases x with
 |list xs=>obtain⟨vs,h1,h2⟩:=h;exact⟨vs,k _ h1,h2.mono l⟩
 |dict ds=>obtain⟨vs,h1,h2⟩:=h;exact⟨vs,k _ h1,h2.mono l⟩
 |_=>cases h
theorem OwnAt.some{K:Frag}{O:Addr->Prop}{H:Hp}{a:Addr}{x:PyData}(h:OwnAt K O H a x):∃o,H a=some o:=by
 cases x with
 |list xs=>obtain⟨vs,h1,h2⟩:=h;exact⟨_,h1⟩
 |dict ds=>obtain⟨vs,h1,h2⟩:=h;exact⟨_,h1⟩
 |_=>cases h
def RepW(K:Frag)(O:Addr->Prop)(ts:List Addr)(H:Hp)(v:V):W->Prop
 |.d x=>Rep K O H v x
 |.tp i=>∃a,ts[i]? = some a/\v=.ref a
 |.loc x=>∃a,v=.ref a/\O a/\a∉ts/\OwnAt K O H a x
def jy(xs:List PyData):Option PyData:=if isO xs=true then none else some (.list xs)
noncomputable def view(T:Tp):W->Option PyData
 |.d x=>some x
 |.tp i=>(T[i]?).bind jy
 |.loc (.list xs)=>some (.list xs)
 |.loc (.dict ds)=>some (.dict ds)
 |.loc _=>none
noncomputable def views(T:Tp):List W->Option (List PyData)
 |[]=>some []
 |w::r=>match view T w with
  | some x=>(match views T r with
   |some xs=>some (x::xs)
   | none=>none)
  |none=>none
def fY(K:Frag)(O:Addr->Prop)(ts:List Addr)(H:Hp):List V->List W->Prop:=Paired fun v w=>RepW K O ts H v w
def Vws(K:Frag)(O:Addr->Prop)(H:Hp):List V->List PyData->Prop:=Paired fun v x=>Vw K O H v x
def RelE(K:Frag)(O:Addr->Prop)(ts:List Addr)(H:Hp)(σ:L2.St)(ρ:Rho):Prop:=∀(i:Nat) (w:W),ρ[i]? = some (some w)->∃v,σ[i]? = some (some v)/\RepW K O ts H v w
section
variable {K:Frag}{O:Addr->Prop}{ts:List Addr}{H H':Hp}{T:Tp}{v:V}{w:W}
theorem RepW.mono(r:RepW K O ts H v w)(c:HC K O ts H T)(s:SameX ts H H'):RepW K O ts H' v w:=by
 cases w with
 |d x=>exact Rep.mono (c.le s) r
 |tp i=>exact r
 |loc xs=>
  obtain⟨a,e,h1,h2,h3⟩:=r;exact⟨a,e,h1,h2,h3.mono (fun o q=>s _ _ h2 q) (c.le s)⟩
theorem RelE.mono{σ:L2.St}{ρ:Rho}(r:RelE K O ts H σ ρ)(c:HC K O ts H T)(s:SameX ts H H'):RelE K O ts H' σ ρ:=fun i w e=>
 let ⟨v,h1,h2⟩:=r i w e;⟨v,h1,h2.mono c s⟩
theorem HC.view(c:HC K O ts H T){x:PyData}(r:RepW K O ts H v w)(e:view T w=some x):Vw K O H v x:=by
 cases w with
 |d y=>cases e;exact .rep r
 |tp i=>
  obtain⟨a,h1,rfl⟩:=r;have e':(T[i]?).bind jy=some x:=e
  cases ht:T[i]? with
  |none=>rw[ht] at e';cases e'
  |some xs=>
   rw[ht] at e';have e2:(if isO xs=true then none else some (PyData.list xs))=some x:=e';split at e2
   .cases e2
   .rename_i hn
    cases e2;obtain⟨vs,h2,h3⟩:=(c.tape i a xs h1 ht).lst (by simpa using hn);exact .raw h2 h3
 |loc xs=>
  obtain⟨a,rfl,_,_,h3⟩:=r
  cases xs with
  |list xs=>cases e;obtain⟨vs,h1,h2⟩:=h3;exact .raw h1 h2
  |dict ds=>cases e;obtain⟨vs,h1,h2⟩:=h3;exact .rawD h1 h2
  |_=>cases h3
theorem HC.views(c:HC K O ts H T):∀{vs:List V}{ws:List W}{xs:List PyData},fY K O ts H vs ws->views T ws=some xs->Vws K O H vs xs
 |_,[],xs,.nil,e=>by cases e;exact .nil
 |_,w::r,xs,.cons h t,e=>by
  unfold D.views at e;split at e
  .rename_i x h1
   split at e
   .rename_i ys h2
    cases e;exact .cons (c.view h h1) (HC.views c t h2)
   .cases e
  .cases e
end
def noStar:Expr->Bool
 |.Starred _ _=>false
 |_=>true
theorem a9{e:Expr}{es:List Expr}{env:Env}(h:noStar e=true):starEach (e::es) env=(false,eval e env)::starEach es env:=by cases e <;> first|rfl|cases h
theorem lE{e:Expr}{env:Env}(h:noStar e=true):starEach [e] env=[(false,eval e env)]:=a9 h
theorem bW{env:Env}{pos:Pos}:∀{es:List Expr},es.all noStar=true->(backTo pos (starEach es env)).any (·.1)=false
 |[],_=>rfl
 |e::r,h=>by
  rw[List.all_cons,Bool.and_eq_true] at h;rw[a9 h.1];show (false||(backTo pos (starEach r env)).any (·.1))=false;rw[bW h.2];rfl
theorem sL{e:Expr}{es:List Expr}{env:Env}{pos:Pos}(h:noStar e=true):backTo pos (starEach (e::es) env)=(false,eval e env)::backTo pos (starEach es env):=by
 rw[a9 h];rfl
theorem nH{e:Expr}{env:Env}{cpos:Pos}(h:noStar e=true):((backTo cpos (starEach [e] env)).all (fun x=>!x.1)&&(backToKw cpos (keywordEach [] env)).all (fun x=>x.1.isSome)
   && decide (([e]:List Expr).length+([]:List Keyword).length+(if ([]:List Keyword).isEmpty then 0 else 1)<30))=true:=by
 rw[lE h];rfl
abbrev FE:=Rho->Tp->Option (W×Tp)
abbrev FT:=Rho->Tp->Option (Bool×Tp)
abbrev FA:=Rho->Tp->Option (List W×Tp)
inductive LiftP(K:Frag)(f:FE)(σ:L2.St)(H:Hp)(Q:VK):Prop where
 |mk (O:Addr->Prop) (ts:List Addr) (ρ:Rho) (T:Tp) (w:W) (T':Tp) (hc:HC K O ts H T) (re:RelE K O ts H σ ρ) (e:f ρ T=some (w,T')) (q:∀v H',SameX ts H H'->HC K O ts H' T'->RepW K O ts H' v w->Q v H'):LiftP K f σ H Q
def lift(K:Frag)(f:FE):TE:=fun σ H Q=>LiftP K f σ H Q
inductive LiftTP(K:Frag)(f:FT)(σ:L2.St)(H:Hp)(Q:Bool->Hp->Prop):Prop where
 |mk (O:Addr->Prop) (ts:List Addr) (ρ:Rho) (T:Tp) (b:Bool) (T':Tp) (hc:HC K O ts H T) (re:RelE K O ts H σ ρ) (e:f ρ T=some (b,T')) (q:∀H',SameX ts H H'->HC K O ts H' T'->Q b H'):LiftTP K f σ H Q
def liftT(K:Frag)(f:FT):TT:=fun σ H Q=>LiftTP K f σ H Q
inductive LiftAP(K:Frag)(f:FA)(σ:L2.St)(H:Hp)(Q:List V->Hp->Prop):Prop where
 |mk (O:Addr->Prop) (ts:List Addr) (ρ:Rho) (T:Tp) (ws:List W) (T':Tp) (hc:HC K O ts H T) (re:RelE K O ts H σ ρ) (e:f ρ T=some (ws,T')) (q:∀vs H',SameX ts H H'->HC K O ts H' T'->fY K O ts H' vs ws->Q vs H'):LiftAP K f σ H Q
def xu(K:Frag)(f:FA):TA:=fun σ H Q=>LiftAP K f σ H Q
structure DE(X:Cx)(e:Expr)(f:FE):Prop where
 pe:PE X e (lift X.K f)
structure DT(X:Cx)(e:Expr)(f:FT):Prop where
 pe:PT X e (liftT X.K f)
structure DW(X:Cx)(e:Expr)(f:FT):Prop where
 pe:PW X e (liftT X.K f)
structure DA(X:Cx)(es:List Expr)(f:FA):Prop where
 pe:PA X es (xu X.K f)
theorem bu{X:Cx}{e:Expr}{t t':TE}(h:PE X e t)(i:∀σ H Q,t' σ H Q->t σ H Q):PE X e t':=fun pins s σ H Q I q=>h pins s σ H Q I (i σ H Q q)
theorem mD{X:Cx}{e:Expr}{t t':TT}(h:PT X e t)(i:∀σ H Q,t' σ H Q->t σ H Q):PT X e t':=fun pins s σ H Q I q=>h pins s σ H Q I (i σ H Q q)
theorem vQ{X:Cx}{e:Expr}{t t':TT}(h:PW X e t)(i:∀σ H Q,t' σ H Q->t σ H Q):PW X e t':=fun wh pins s σ H Q I q=>h wh pins s σ H Q I (i σ H Q q)
theorem vV{X:Cx}{e:List Expr}{t t':TA}(h:PA X e t)(i:∀σ H Q,t' σ H Q->t σ H Q):PA X e t':=fun po pins s σ H Q I q=>h po pins s σ H Q I (i σ H Q q)
def aa(i:Nat):FE:=fun ρ T=>match ρ[i]? with
 |some (some w)=>some (w,T)
 |_=>none
noncomputable def fC(x:PyData):FE:=fun _ T=>some (.d x,T)
section
variable {X:Cx}{pos:Pos}
theorem ag(i:Nat){x:Str}(hN:X.N[i]? = some x:=by rfl)(hv:Vis X.env.scope x:=by first|exact Or.inl rfl|exact Or.inr (Or.inl rfl)|exact Or.inr (Or.inr rfl))(hd:(x == ("__debug__" : Str))=false:=by decide)
  (hcd:(x == ("__classdict__" : Str))=false:=by decide):DE X (.Name x pos) (aa i):=by
 refine⟨?_⟩;refine bu (pv i hN hv hd hcd) fun σ H Q=>?_;rintro⟨O,ts,ρ,T,w,T',hc,re,e,q⟩;unfold aa at e;split at e
 .rename_i w' he
  cases e;obtain⟨v,h1,h2⟩:=re i _ he;exact⟨v,h1,q v H (.refl _ _) hc h2⟩
 .cases e
theorem ig{x:PyData}{v:V}(h:∀O H,Rep X.K O H v x):∀σ H Q,lift X.K (fC x) σ H Q->tC v σ H Q:=by
 rintro σ H Q ⟨O,ts,ρ,T,w,T',hc,re,e,q⟩;cases e;exact q v H (.refl _ _) hc (h O H)
theorem aj{i j}:DE X (.Constant (.int i) j pos) (fC (.int i)):=⟨bu EL (ig fun _ _=>.int i)⟩
theorem eQ{i j}:DE X (.Constant (.bool i) j pos) (fC (.bool i)):=⟨bu Gs (ig fun _ _=>.bl i)⟩
theorem aB{i j}:DE X (.Constant (.str i) j pos) (fC (.str i)):=⟨bu EH (ig fun _ _=>.str i)⟩
theorem kj{j}:DE X (.Constant .none j pos) (fC .none):=⟨bu EK (ig fun _ _=>.non)⟩
theorem j2{x:Str}{i:Int}(hg:Gl X x)(hm:∃t,X.mg x=some (.int i t))(hd:(x == ("__debug__" : Str))=false:=by decide):DE X (.Name x pos) (fC (.int i)):=by
 refine⟨?_⟩;obtain⟨t,hm⟩:=hm;exact bu (pG (v:=.int i) hg hm ⟨t,rfl⟩ hd) (ig fun _ _=>.int i)
theorem uj{x:Str}{i:Str}(hg:Gl X x)(hm:∃t,X.mg x=some (.str i t))(hd:(x == ("__debug__" : Str))=false:=by decide):DE X (.Name x pos) (fC (.str i)):=by
 refine⟨?_⟩;obtain⟨t,hm⟩:=hm;exact bu (pG (v:=.str i) hg hm ⟨t,rfl⟩ hd) (ig fun _ _=>.str i)
end
def op1(g:PyData->Option PyData)(T:Tp)(w:W):Option (W×Tp):=match view T w with
 |some x=>match g x with
  |some d=>some (.d d,T)
  |none=>none
 |none=>none
def op2(g:PyData->PyData->Option PyData)(T:Tp)(w1 w2:W):Option (W×Tp):=match view T w1,view T w2 with
 |some x,some y=>match g x y with
  |some d=>some (.d d,T)
  |none=>none
 |_,_=>none
theorem qi{g:PyData->Option PyData}{T T':Tp}{w1 w:W}(e:op1 g T w1=some (w,T')):∃x d,view T w1=some x/\g x=some d/\w=.d d/\T'=T:=by
 unfold op1 at e;split at e
 .rename_i x h1
  split at e
  .rename_i d h3
   cases e;exact⟨x,d,h1,h3,rfl,rfl⟩
  .cases e
 .cases e
theorem i8{g:PyData->PyData->Option PyData}{T T':Tp}{w1 w2 w:W}(e:op2 g T w1 w2=some (w,T')):∃x y d,view T w1=some x/\view T w2=some y/\g x y=some d/\w=.d d/\T'=T:=by
 unfold op2 at e;split at e
 .rename_i x y h1 h2
  split at e
  .rename_i d h3
   cases e;exact⟨x,y,d,h1,h2,h3,rfl,rfl⟩
  .cases e
 .cases e
def af(g:PyData->PyData->Option PyData)(fa fb:FE):FE:=fun ρ T=>bnd (fa ρ T) fun w1 T1=>bnd (fb ρ T1) fun w2 T2=>op2 g T2 w1 w2
def fUn(g:PyData->Option PyData)(fa:FE):FE:=fun ρ T=>bnd (fa ρ T) fun w1 T1=>op1 g T1 w1
def gN(K:Frag)(r:R2)(g:PyData->PyData->Option PyData):Prop:=∀(O:Addr->Prop) (ts:List Addr) (H:Hp) (T:Tp) (v1 v2:V) (x y d:PyData) (Q:VK),HC K O ts H T->Vw K O H v1 x->Vw K O H v2 y->g x y=some d ->
 (∀v H',SameX ts H H'->HC K O ts H' T->Rep K O H' v d->Q v H')->r v1 v2 H Q
def HR(K:Frag)(r:V->Hp->VK->Prop)(g:PyData->Option PyData):Prop:=∀(O:Addr->Prop) (ts:List Addr) (H:Hp) (T:Tp) (v1:V) (x d:PyData) (Q:VK),HC K O ts H T->Vw K O H v1 x->g x=some d ->
 (∀v H',SameX ts H H'->HC K O ts H' T->Rep K O H' v d->Q v H')->r v1 H Q
def OpD(X:Cx)(f:Value->Value->Sem Value)(g:PyData->PyData->Option PyData):Prop:=∃r,OpR X f r/\gN X.K r g
def IxD(X:Cx)(g:PyData->PyData->Option PyData):Prop:=∃r,IxR X r/\gN X.K r g
theorem mi{K:Frag}{r:R2}{g:PyData->PyData->Option PyData}{fa fb:FE}(snd:gN K r g){σ:L2.St}{H:Hp}{Q:VK}(h:lift K (af g fa fb) σ H Q):tOp r (lift K fa) (lift K fb) σ H Q:=by
 obtain⟨O,ts,ρ,T,w,T',hc,re,e,q⟩:=h;obtain⟨w1,T1,e1,e⟩:=aM e;obtain⟨w2,T2,e2,e⟩:=aM e;obtain⟨x,y,d,h1,h2,h3,rfl,rfl⟩:=i8 e;refine⟨O,ts,ρ,T,w1,T1,hc,re,e1,fun v1 H1 s1 hc1 r1=>?_⟩;refine⟨O,ts,ρ,T1,w2,T',hc1,re.mono hc s1,e2,fun v2 H2 s2 hc2 r2=>?_⟩;exact snd O ts H2 T' v1 v2 x y d Q hc2 (hc2.view (r1.mono hc1 s2) h1) (hc2.view r2 h2) h3 fun v H' s3 hc3 r3=>q v H' (s1.trans (s2.trans s3)) hc3 r3
noncomputable def asB:W->Option Bool
 |.d (.bool b)=>some b
 |_=>none
theorem kl{w:W}{b:Bool}(h:asB w=some b):w=.d (.bool b):=by
 unfold asB at h;split at h
 .cases h;rfl
 .cases h
def ax(f:FE):FT:=fun ρ T=>bnd (f ρ T) fun w T1=>match asB w with
 |some b=>some (b,T1)
 |none=>none
theorem uy{K:Frag}{f:FE}{σ:L2.St}{H:Hp}{Q:Bool->Hp->Prop}(h:liftT K (ax f) σ H Q):lift K f σ H fun x H'=>∃k,x=.bl k/\Q k H':=by
 obtain⟨O,ts,ρ,T,w,T',hc,re,e,q⟩:=h;obtain⟨w1,T1,e1,e⟩:=aM e;refine⟨O,ts,ρ,T,w1,T1,hc,re,e1,fun v1 H1 s1 hc1 r1=>?_⟩;split at e
 .rename_i b hb
  cases e;have hw:=kl hb;subst hw;cases (show Rep K O H1 v1 _ from r1);exact⟨_,rfl,q H1 s1 hc1⟩
 .cases e
section
variable {X:Cx}{pos:Pos}{a b c:Expr}{fa fb fc:FE}{g g':PyData->PyData->Option PyData}
theorem aR{op:Operator}(ho:OpD X (binaryOp op) g)(ha:DE X a fa)(hb:DE X b fb):DE X (.BinOp a op b pos) (af g fa fb):=by
 refine⟨?_⟩;obtain⟨r,hr,snd⟩:=ho;exact bu (xj hr ha.pe hb.pe) fun σ H Q=>mi snd
theorem de{op:CmpOp}(ho:OpD X (compareOp op) g)(ha:DE X a fa)(hb:DE X b fb)(hm:behindInMarks op b=false:=by first|exact vX _|with_unfolding_all rfl):DE X (.Compare a [op] [b] pos) (af g fa fb):=by
 refine⟨?_⟩;obtain⟨r,hr,snd⟩:=ho;exact bu (CK hr ha.pe hb.pe hm) fun σ H Q=>mi snd
theorem aG{op:CmpOp}(ho:OpD X (compareOp op) g)(ha:DE X a fa)(hb:DE X b fb)(hm:behindInMarks op b=false:=by first|exact vX _|with_unfolding_all rfl):DT X (.Compare a [op] [b] pos) (ax (af g fa fb)):=by
 refine⟨?_⟩;obtain⟨r,hr,snd⟩:=ho;exact mD (CA hr ha.pe hb.pe hm) fun σ H Q h=>mi snd (uy h)
theorem ao(ho:IxD X g)(ha:DE X a fa)(hb:DE X b fb)(hs:vH b:=by exact fun _ _=>rfl):DE X (.Subscript a b pos) (af g fa fb):=by
 refine⟨?_⟩;obtain⟨r,hr,snd⟩:=ho;exact bu (Gq hr ha.pe hb.pe hs) fun σ H Q=>mi snd
def gC(g g':PyData->PyData->Option PyData)(fa fb fc:FE):FE:=fun ρ T=>bnd (fa ρ T) fun w1 T1=>bnd (fb ρ T1) fun w2 T2=>bnd (op2 g T2 w1 w2) fun w T3=>match asB w with
 |some b=>if b=true then bnd (fc ρ T3) fun w3 T4=>op2 g' T4 w2 w3 else some (.d (.bool false),T3)
 |none=>none
theorem tu{K:Frag}{r r':R2}(snd:gN K r g)(snd':gN K r' g'){σ:L2.St}{H:Hp}{Q:VK}(h:lift K (gC g g' fa fb fc) σ H Q):qe r r' (lift K fa) (lift K fb) (lift K fc) σ H Q:=by
 obtain⟨O,ts,ρ,T,w,T',hc,re,e,q⟩:=h;obtain⟨w1,T1,e1,e⟩:=aM e;obtain⟨w2,T2,e2,e⟩:=aM e;obtain⟨wz,T3,e3,ez⟩:=aM e;obtain⟨x,y,d,h1,h2,h3,rfl,rfl⟩:=i8 e3;clear e;refine⟨O,ts,ρ,T,w1,T1,hc,re,e1,fun v1 H1 s1 hc1 r1=>?_⟩;refine⟨O,ts,ρ,T1,w2,T3,hc1,re.mono hc s1,e2,fun v2 H2 s2 hc2 r2=>?_⟩;refine snd O ts H2 T3 v1 v2 x y d _ hc2 (hc2.view (r1.mono hc1 s2) h1) (hc2.view r2 h2) h3 fun v H3 s3 hc3 r3=>?_;split at ez
 .rename_i b hb
  have hd:=kl hb
  injection hd with hd
  subst hd;cases r3
  cases b with
  |true=>
   rw[if_pos rfl] at ez;refine⟨true,rfl,f9 ?_⟩;obtain⟨w3,T4,e4,e5⟩:=aM ez;obtain⟨x',y',d',h1',h2',h3',rfl,rfl⟩:=i8 e5;refine⟨O,ts,ρ,T3,w3,T',hc3,(re.mono hc (s1.trans (s2.trans s3))),e4,fun v3 H4 s4 hc4 r4=>?_⟩;exact snd' O ts H4 T' v2 v3 x' y' d' Q hc4 (hc4.view (r2.mono hc2 (s3.trans s4)) h1') (hc4.view r4 h2') h3' fun v H' s5 hc5 r5=>q v H' (s1.trans (s2.trans (s3.trans (s4.trans s5)))) hc5 r5
  |false=>
   rw[if_neg Bool.false_ne_true] at ez;cases ez;exact⟨false,rfl,gb (q _ H3 (s1.trans (s2.trans s3)) hc3 (.bl false))⟩
 .cases ez
theorem BZ{op op':CmpOp}(ho:OpD X (compareOp op) g)(ho':OpD X (compareOp op') g')(ha:DE X a fa)(hb:DE X b fb)(hc:DE X c fc)
  (hm:lastMarks [op,op'] [b,c]=false:=by with_unfolding_all rfl):DE X (.Compare a [op,op'] [b,c] pos) (gC g g' fa fb fc):=by
 refine⟨?_⟩;obtain⟨r,hr,snd⟩:=ho;obtain⟨r',hr',snd'⟩:=ho';exact bu (Br hr hr' ha.pe hb.pe hc.pe hm) fun σ H Q=>tu snd snd'
theorem pb{op op':CmpOp}(ho:OpD X (compareOp op) g)(ho':OpD X (compareOp op') g')(ha:DE X a fa)(hb:DE X b fb)(hc:DE X c fc)
  (hm:lastMarks [op,op'] [b,c]=false:=by with_unfolding_all rfl):DT X (.Compare a [op,op'] [b,c] pos) (ax (gC g g' fa fb fc)):=by
 refine⟨?_⟩;obtain⟨r,hr,snd⟩:=ho;obtain⟨r',hr',snd'⟩:=ho';exact mD (Bf hr hr' ha.pe hb.pe hc.pe hm) fun σ H Q h=>tu snd snd' (uy h)
def nB:PyData->Option Bool
 |.none=>some false
 |.bool b=>some b
 |.int i=>some (i != 0)
 |.str y=>if y.length<=sizeLine then some ((y.length:Int) != 0) else none
 |.list xs=>some (!xs.isEmpty)
 |.tuple xs=>some (!xs.isEmpty)
 |.dict _=>none
def nE(T:Tp)(w:W):Option (Bool×Tp):=match view T w with
 |some x=>match nB x with
  |some b=>some (b,T)
  |none=>none
 |none=>none
def bg(f:FE):FT:=fun ρ T=>bnd (f ρ T) fun w T1=>nE T1 w
theorem rT{K:Frag}{O:Addr->Prop}{H:Hp}{vs:List V}{ds:List PyData}(r:Reps K O H vs ds):vs.isEmpty=ds.isEmpty:=by cases r <;> rfl
theorem Ej{K:Frag}{O:Addr->Prop}{H:Hp}{v:V}{x:PyData}{b:Bool}(h:Vw K O H v x)(e:nB x=some b):rf K v H b:=by
 cases x with
 |none=>cases h.non;cases e;rfl
 |bool c=>cases h.bl;cases e;rfl
 |int i=>cases h.int;cases e;rfl
 |str y=>
  cases h.str;have e':(if y.length<=sizeLine then some ((y.length:Int) != 0) else none)=some b:=e;split at e'
  .rename_i hl
   cases e';exact⟨hl,rfl⟩
  .cases e'
 |list xs=>
  obtain⟨a,vs,rfl,h1,h2⟩:=h.lst;cases e;exact .inl ⟨vs,h1,by rw[rT h2]⟩
 |tuple xs=>
  obtain⟨a,vs,rfl,h1,h2⟩:=h.tup;cases e;exact .inr (.inl ⟨vs,h1.sq,by rw[rT h2]⟩)
 |dict kvs=>
  cases e
theorem bv(ha:DE X a fa)(he:∀whole,isTrue a X.env whole=(do let v ←whole;standAt a.pos;holding [v] (truthy v)):=by intro _;rfl):DT X a (bg fa):=by
 refine⟨?_⟩;refine mD (Be ha.pe he) fun σ H Q=>?_;rintro⟨O,ts,ρ,T,b,T',hc,re,e,q⟩;obtain⟨w1,T1,e1,e⟩:=aM e;refine⟨O,ts,ρ,T,w1,T1,hc,re,e1,fun v1 H1 s1 hc1 r1=>?_⟩;unfold nE at e;split at e
 .rename_i x h1
  split at e
  .rename_i k h2
   cases e;exact⟨b,Ej (hc1.view r1 h1) h2,q H1 s1 hc1⟩
  .cases e
 .cases e
def cz(f g:FT):FT:=fun ρ T=>bnd (f ρ T) fun b T1=>if b=true then g ρ T1 else some (false,T1)
def bU(f g:FT):FT:=fun ρ T=>bnd (f ρ T) fun b T1=>if b=true then some (true,T1) else g ρ T1
def bX(f:FT):FT:=fun ρ T=>bnd (f ρ T) fun b T1=>some (!b,T1)
variable {ta tb:FT}{rest:List Expr}
theorem bQ{f:FT}(h:DW X a f):DT X a f:=⟨PW.pt h.pe⟩
theorem eL(ha:DT X a ta):DW X (.BoolOp .And [a] pos) ta:=⟨Cu ha.pe⟩
theorem c9(ha:DT X a ta):DW X (.BoolOp .Or [a] pos) ta:=⟨Ez ha.pe⟩
theorem dZ(ha:DT X a ta)(hb:DW X (.BoolOp .And (b::rest) pos) tb):DW X (.BoolOp .And (a::b::rest) pos) (cz ta tb):=by
 refine⟨?_⟩;refine vQ (EA ha.pe hb.pe) fun σ H Q=>?_;rintro⟨O,ts,ρ,T,b,T',hc,re,e,q⟩;obtain⟨b1,T1,e1,e⟩:=aM e;refine⟨O,ts,ρ,T,b1,T1,hc,re,e1,fun H1 s1 hc1=>?_⟩
 cases b1 with
 |true=>exact f9 ⟨O,ts,ρ,T1,b,T',hc1,re.mono hc s1,by simpa using e,fun H2 s2 hc2=>q H2 (s1.trans s2) hc2⟩
 |false=>
  have e':some (false,T1)=some (b,T'):=by simpa using e
  cases e';exact gb (q H1 s1 hc1)
theorem cU(ha:DT X a ta)(hb:DW X (.BoolOp .Or (b::rest) pos) tb):DW X (.BoolOp .Or (a::b::rest) pos) (bU ta tb):=by
 refine⟨?_⟩;refine vQ (Gi ha.pe hb.pe) fun σ H Q=>?_;rintro⟨O,ts,ρ,T,b,T',hc,re,e,q⟩;obtain⟨b1,T1,e1,e⟩:=aM e;refine⟨O,ts,ρ,T,b1,T1,hc,re,e1,fun H1 s1 hc1=>?_⟩
 cases b1 with
 |false=>exact gb ⟨O,ts,ρ,T1,b,T',hc1,re.mono hc s1,by simpa using e,fun H2 s2 hc2=>q H2 (s1.trans s2) hc2⟩
 |true=>
  have e':some (true,T1)=some (b,T'):=by simpa using e
  cases e';exact f9 (q H1 s1 hc1)
theorem cR(ha:DT X a ta):DT X (.UnaryOp .Not a pos) (bX ta):=by
 refine⟨?_⟩;refine mD (EB ha.pe) fun σ H Q=>?_;rintro⟨O,ts,ρ,T,b,T',hc,re,e,q⟩;obtain⟨b1,T1,e1,e⟩:=aM e;cases e;exact⟨O,ts,ρ,T,b1,T',hc,re,e1,fun H1 s1 hc1=>q H1 s1 hc1⟩
def fX(f g:FE):FE:=fun ρ T=>bnd (f ρ T) fun w T1=>match asB w with
 |some b=>if b=true then g ρ T1 else some (.d (.bool false),T1)
 |none=>none
def nI(f g:FE):FE:=fun ρ T=>bnd (f ρ T) fun w T1=>match asB w with
 |some b=>if b=true then some (.d (.bool true),T1) else g ρ T1
 |none=>none
def qL(f:FE):FE:=fun ρ T=>bnd (f ρ T) fun w T1=>match asB w with
 |some b=>some (.d (.bool (!b)),T1)
 |none=>none
theorem jh{op}(h:DE X a fa):DE X (.BoolOp op [a] pos) fa:=⟨EI h.pe⟩
theorem iq(ha:DE X a fa)(hb:DE X (.BoolOp .And (b::rest) pos) fb):DE X (.BoolOp .And (a::b::rest) pos) (fX fa fb):=by
 refine⟨?_⟩;refine bu (EM ha.pe hb.pe) fun σ H Q=>?_;rintro⟨O,ts,ρ,T,w,T',hc,re,e,q⟩;obtain⟨w1,T1,e1,e⟩:=aM e;refine⟨O,ts,ρ,T,w1,T1,hc,re,e1,fun v1 H1 s1 hc1 r1=>?_⟩;split at e
 .rename_i b hb
  have hw:=kl hb;subst hw;cases (show Rep X.K O H1 v1 _ from r1)
  cases b with
  |true=>exact⟨_,rfl,f9 ⟨O,ts,ρ,T1,w,T',hc1,re.mono hc s1,by simpa using e,fun v H2 s2 hc2 r2=>q v H2 (s1.trans s2) hc2 r2⟩⟩
  |false=>
   rw[if_neg Bool.false_ne_true] at e;cases e;exact⟨_,rfl,gb (q _ H1 s1 hc1 (.bl false))⟩
 .cases e
theorem Hc(ha:DE X a fa)(hb:DE X (.BoolOp .Or (b::rest) pos) fb):DE X (.BoolOp .Or (a::b::rest) pos) (nI fa fb):=by
 refine⟨?_⟩;refine bu (Gn ha.pe hb.pe) fun σ H Q=>?_;rintro⟨O,ts,ρ,T,w,T',hc,re,e,q⟩;obtain⟨w1,T1,e1,e⟩:=aM e;refine⟨O,ts,ρ,T,w1,T1,hc,re,e1,fun v1 H1 s1 hc1 r1=>?_⟩;split at e
 .rename_i b hb
  have hw:=kl hb;subst hw;cases (show Rep X.K O H1 v1 _ from r1)
  cases b with
  |false=>exact⟨_,rfl,gb ⟨O,ts,ρ,T1,w,T',hc1,re.mono hc s1,by simpa using e,fun v H2 s2 hc2 r2=>q v H2 (s1.trans s2) hc2 r2⟩⟩
  |true=>
   rw[if_pos rfl] at e;cases e;exact⟨_,rfl,f9 (q _ H1 s1 hc1 (.bl true))⟩
 .cases e
theorem FJ(ha:DE X a fa):DE X (.UnaryOp .Not a pos) (qL fa):=by
 refine⟨?_⟩;refine bu (EJ ha.pe) fun σ H Q=>?_;rintro⟨O,ts,ρ,T,w,T',hc,re,e,q⟩;obtain⟨w1,T1,e1,e⟩:=aM e;refine⟨O,ts,ρ,T,w1,T1,hc,re,e1,fun v1 H1 s1 hc1 r1=>?_⟩;split at e
 .rename_i b hb
  have hw:=kl hb;subst hw;cases (show Rep X.K O H1 v1 _ from r1);cases e;exact⟨_,rfl,q _ H1 s1 hc1 (.bl _)⟩
 .cases e
def b9(c:FT)(f g:FE):FE:=fun ρ T=>bnd (c ρ T) fun b T1=>if b=true then f ρ T1 else g ρ T1
theorem cY(hc:DT X c ta)(ha:DE X a fa)(hb:DE X b fb):DE X (.IfExp c a b pos) (b9 ta fa fb):=by
 refine⟨?_⟩;refine bu (Bn hc.pe ha.pe hb.pe) fun σ H Q=>?_;rintro⟨O,ts,ρ,T,w,T',hc,re,e,q⟩;obtain⟨b1,T1,e1,e⟩:=aM e;refine⟨O,ts,ρ,T,b1,T1,hc,re,e1,fun H1 s1 hc1=>?_⟩
 cases b1 with
 |true=>exact f9 ⟨O,ts,ρ,T1,w,T',hc1,re.mono hc s1,by simpa using e,fun v H2 s2 hc2 r2=>q v H2 (s1.trans s2) hc2 r2⟩
 |false=>exact gb ⟨O,ts,ρ,T1,w,T',hc1,re.mono hc s1,by simpa using e,fun v H2 s2 hc2 r2=>q v H2 (s1.trans s2) hc2 r2⟩
theorem Hb{op:UnaryOp}{r:V->Hp->VK->Prop}{g1:PyData->Option PyData}(hr:UnR X (unaryOp op) r)(snd:HR X.K r g1)(ha:DE X a fa):DE X (.UnaryOp op a pos) (fUn g1 fa):=by
 refine⟨?_⟩;refine bu (Gm hr ha.pe) fun σ H Q=>?_;rintro⟨O,ts,ρ,T,w,T',hc,re,e,q⟩;obtain⟨w1,T1,e1,e⟩:=aM e;obtain⟨x,d,h1,h3,rfl,rfl⟩:=qi e;refine⟨O,ts,ρ,T,w1,T',hc,re,e1,fun v1 H1 s1 hc1 r1=>?_⟩;exact snd O ts H1 T' v1 x d Q hc1 (hc1.view r1 h1) h3 fun v H' s3 hc3 r3=>q v H' (s1.trans s3) hc3 r3
end
def ah:FA:=fun _ T=>some ([],T)
def ae(f:FE)(g:FA):FA:=fun ρ T=>bnd (f ρ T) fun w T1=>bnd (g ρ T1) fun ws T2=>some (w::ws,T2)
def dM:List W->Option (List PyData)
 |[]=>some []
 |.d x::r=>match dM r with
  |some xs=>some (x::xs)
  |none=>none
 |_::_=>none
theorem j3{K:Frag}{O:Addr->Prop}{ts:List Addr}{H:Hp}:∀{vs:List V}{ws:List W}{xs:List PyData},fY K O ts H vs ws->dM ws=some xs->Reps K O H vs xs
 |_,[],_,.nil,e=>by cases e;exact .nil
 |_,.d x::r,xs,.cons h t,e=>by
  unfold dM at e;split at e
  .rename_i ys h2
   cases e;exact .cons h (j3 t h2)
  .cases e
 |_,.tp _::_,_,.cons _ _,e=>by cases e
 |_,.loc _::_,_,.cons _ _,e=>by cases e
def az(mk:List PyData->PyData)(f:FA):FE:=fun ρ T=>bnd (f ρ T) fun ws T1=>match dM ws with
 |some xs=>if xs.length<=1000 then some (.d (mk xs),T1) else none
 |none=>none
theorem lW{n:Nat}(h:n<=1000):n<=sizeLine:=Nat.le_trans h (by decide)
def fD(X:Cx)(f:Value)(g:List PyData->Option PyData):Prop:=∃r,CallR X f r/\∀(O:Addr->Prop) (ts:List Addr) (H:Hp) (T:Tp) (vs:List V) (xs:List PyData) (d:PyData) (Q:VK),HC X.K O ts H T->Vws X.K O H vs xs->g xs=some d ->
 (∀v H',SameX ts H H'->HC X.K O ts H' T->Rep X.K O H' v d->Q v H')->r vs H Q
def fCB(g:List PyData->Option PyData)(f:FA):FE:=fun ρ T=>bnd (f ρ T) fun ws T1=>match views T1 ws with
 |some xs=>match g xs with
  |some d=>some (.d d,T1)
  |none=>none
 |none=>none
section
variable {X:Cx}{pos p:Pos}{e:Expr}{es:List Expr}{f:FE}{g:FA}
theorem ar:DA X [] ah:=by
 refine⟨?_⟩;refine vV dG fun σ H Q=>?_;rintro⟨O,ts,ρ,T,w,T',hc,re,e,q⟩;cases e;exact q [] H (.refl _ _) hc .nil
theorem ai(ha:DE X e f)(hr:DA X es g)(hs:starEach (e::es) X.env=(false,eval e X.env)::starEach es X.env:=by exact a9 rfl):DA X (e::es) (ae f g):=by
 refine⟨?_⟩;refine vV (cW ha.pe hr.pe hs) fun σ H Q=>?_;rintro⟨O,ts,ρ,T,w,T',hc,re,e,q⟩;obtain⟨w1,T1,e1,e⟩:=aM e;obtain⟨ws,T2,e2,e⟩:=aM e;cases e;refine⟨O,ts,ρ,T,w1,T1,hc,re,e1,fun v1 H1 s1 hc1 r1=>?_⟩;exact⟨O,ts,ρ,T1,ws,_,hc1,re.mono hc s1,e2,fun vs H2 s2 hc2 r2=>q _ H2 (s1.trans s2) hc2 (.cons (r1.mono hc1 s2) r2)⟩
theorem uA{mk:List PyData->PyData}{g:FA}{ρ:Rho}{T T':Tp}{w:W}(e:az mk g ρ T=some (w,T')):∃ws xs,g ρ T=some (ws,T')/\dM ws=some xs/\xs.length<=1000/\w=.d (mk xs):=by
 obtain⟨ws,T1,e1,e⟩:=aM e;split at e
 .rename_i xs h1
  split at e
  .rename_i h2
   cases e;exact⟨ws,xs,e1,h1,h2,rfl⟩
  .cases e
 .cases e
theorem aH{x1}(h:DA X es g):DE X (.Tuple es x1 pos) (az .tuple g):=by
 refine⟨?_⟩;refine bu (EG h.pe) fun σ H Q=>?_;rintro⟨O,ts,ρ,T,w,T',hc,re,e,q⟩;obtain⟨ws,xs,e1,h1,h2,rfl⟩:=uA e;refine⟨O,ts,ρ,T,ws,T',hc,re,e1,fun vs H1 s1 hc1 r1=>?_⟩;have rs:=j3 r1 h1;refine⟨lW (by rw[rs.length];exact h2),fun p hp=>?_⟩;exact q _ _ (s1.trans (.new hp _)) (hc1.new hp _) (hc1.newT hp rs)
theorem cH(h:DA X es g):DE X (.List es pos) (az .list g):=by
 refine⟨?_⟩;refine bu (qh h.pe) fun σ H Q=>?_;rintro⟨O,ts,ρ,T,w,T',hc,re,e,q⟩;obtain⟨ws,xs,e1,h1,h2,rfl⟩:=uA e;refine⟨O,ts,ρ,T,ws,T',hc,re,e1,fun vs H1 s1 hc1 r1=>?_⟩;have rs:=j3 r1 h1;refine⟨lW (by rw[rs.length];exact h2),fun p hp=>?_⟩;exact q _ _ (s1.trans (.new hp _)) (hc1.new hp _) (hc1.newL hp rs)
theorem wR{K:Frag}{r:List V->Hp->VK->Prop}{gg:List PyData->Option PyData}(snd:∀(O:Addr->Prop) (ts:List Addr) (H:Hp) (T:Tp) (vs:List V) (xs:List PyData) (d:PyData) (Q:VK),HC K O ts H T->Vws K O H vs xs->gg xs=some d ->
  (∀v H',SameX ts H H'->HC K O ts H' T->Rep K O H' v d->Q v H')->r vs H Q) {σ:L2.St}{H:Hp}{Q:VK} (h:lift K (fCB gg g) σ H Q):tCB r (xu K g) σ H Q:=by
 obtain⟨O,ts,ρ,T,w,T',hc,re,e,q⟩:=h;obtain⟨ws,T1,e1,e⟩:=aM e;refine⟨O,ts,ρ,T,ws,T1,hc,re,e1,fun vs H1 s1 hc1 r1=>?_⟩;split at e
 .rename_i xs h1
  split at e
  .rename_i d h2
   cases e;exact snd O ts H1 T' vs xs d Q hc1 (hc1.views r1 h1) h2 fun v H' s3 hc3 r3=>q v H' (s1.trans s3) hc3 r3
  .cases e
 .cases e
theorem br{x:Str}{id:String}{gg:List PyData->Option PyData}(hc:fD X (.builtin id) gg)(hg:Gl X x)(hm:X.mg x=none)(hv:bootBuiltins x=some (.builtin id))(ha:DA X (e::es) g)(hn:x≠"__name__":=by decide)(hdb:(x == ("__debug__" : Str))=false:=by decide)
  (he:starEach (e::es) X.env=(false,eval e X.env)::starEach es X.env:=by exact a9 rfl) (hpl:(backTo pos (starEach es X.env)).any (·.1)=false:=by exact bW rfl):DE X (.Call (.Name x p) (e::es) [] pos) (fCB gg g):=by
 refine⟨?_⟩;obtain⟨r,hr,snd⟩:=hc;exact bu (tT hr hg hm hv ha.pe hn hdb he hpl) fun σ H Q h=>wR snd h
theorem cc{x:Str}{id:String}{gg:List PyData->Option PyData}(hc:fD X (.type id) gg)(hg:Gl X x)(hm:X.mg x=none)(hv:bootBuiltins x=some (.type id))(ha:DA X (e::es) g)(hn:x≠"__name__":=by decide)(hdb:(x == ("__debug__" : Str))=false:=by decide)
  (he:starEach (e::es) X.env=(false,eval e X.env)::starEach es X.env:=by exact a9 rfl) (hpl:(backTo pos (starEach es X.env)).any (·.1)=false:=by exact bW rfl):DE X (.Call (.Name x p) (e::es) [] pos) (fCB gg g):=by
 refine⟨?_⟩;obtain⟨r,hr,snd⟩:=hc;exact bu (lu hr hg hm hv ha.pe hn hdb he hpl) fun σ H Q h=>wR snd h
end
abbrev FI:=Rho->Tp->Option (List PyData×Tp)
def HG(K:Frag)(tl:TE):TI:=fun σ H R=>tl σ H fun x H1=>(∃a xs,x=.ref a/\SqL K H1 a xs/\(xs.length<=sizeLine->R (Itl K a) H1))\/(∃a xs,x=.ref a/\SqT K H1 a xs/\(xs.length<=sizeLine->R (Itt K a) H1))\/(∃z,x=.str z/\R (Its z) H1)\/∃a o kvs,x=.ref a/\H1 a=some (.frz o (.dK kvs))/\(kvs.length<=sizeLine->R (Itd a o kvs) H1)
theorem ED{X:Cx}{tg l:Expr}{tl:TE}(hl:PE X l tl):PI X tg l (HG X.K tl):=by
 intro pins s σ H R I h;refine thn (hl pins s σ H _ I h) fun v s1 ⟨x,H1,I1,r1,q1⟩=>?_
 have fk:∀b∈[s1.heap.objs.size],dq X pins H1 b:=fun b hb=>by
  have e:b=s1.heap.objs.size:=by simpa using hb
  subst e;exact I1.fpOk (Nat.le_refl _) (I1.hok.fresh (Nat.le_refl _))
 rcases q1 with⟨a,xs,e,hq,q⟩|⟨a,xs,e,hq,q⟩|⟨z,e,q⟩|⟨a,o,kvs,e,hq,q⟩
 .subst e
  cases r1;obtain⟨its,rv,p,hz⟩:=I1.list hq;refine wpAny_pyIter_list p.isList ?_;exact⟨s1.heap.objs.size,[s1.heap.objs.size],_,_,H1,rfl,I1.kept (t':=s1.toks) fun b o e=>Heap.get?_push_of_some _ e,Aa a _,⟨_,Heap.get?_push_size _ rfl,rfl,rfl⟩,fk,q hz⟩
 .subst e
  cases r1;obtain⟨its,rv,p,hz⟩:=I1.tuple hq;refine wpAny_pyIter_tuple (show s1.heap.IsTuple a its.toArray from p) ?_;exact⟨s1.heap.objs.size,[s1.heap.objs.size],_,_,H1,rfl,I1.kept (t':=s1.toks) fun b o e=>Heap.get?_push_of_some _ e,zB a _,⟨_,Heap.get?_push_size _ rfl,rfl,rfl⟩,fk,q hz⟩
 .subst e
  obtain⟨t,rfl⟩:=r1
  cases ha:z.cps.all (· < 128) with
  |false=>
   refine wpAny_pyIter_wide ha ?_;exact⟨s1.heap.objs.size,[s1.heap.objs.size],_,_,H1,rfl,I1.kept (t':=s1.toks) fun b o e=>Heap.get?_push_of_some _ e,tI z t "str_iterator" _ (.inr rfl),⟨_,Heap.get?_push_size _ rfl,rfl,rfl⟩,fk,q⟩
  |true=>
   refine wpAny_pyIter_ascii ha ?_;exact⟨s1.heap.objs.size,[s1.heap.objs.size],_,_,H1,rfl,I1.kept (t':=s1.toks) fun b o e=>Heap.get?_push_of_some _ e,tI z t "str_ascii_iterator" _ (.inl rfl),⟨_,Heap.get?_push_size _ rfl,rfl,rfl⟩,fk,q⟩
 .subst e
  cases r1;obtain⟨z,y,vs,kv,dd⟩:=gY I1.hok hq;refine wpAny_pyIter_dict y dd ?_;exact⟨s1.heap.objs.size,[s1.heap.objs.size],_,_,H1,rfl,I1.kept (t':=s1.toks) fun b o e=>Heap.get?_push_of_some _ e,Ab a _ o kvs,⟨_,Heap.get?_push_size _ rfl,rfl,by rw[kv.length];rfl⟩,fk,q z⟩
def ItOk(K:Frag)(O:Addr->Prop)(H1:Hp)(J:It)(ds:List PyData):Prop:=∀O' H',Le O H1 O' H'->(∀i,i<ds.length->J.go i H')/\J.stop ds.length H'/\∀i v H'',J.yld i H' v H''->i<ds.length->H''=H'/\∃d,ds[i]? = some d/\Rep K O' H' v d
inductive LiftIP(K:Frag)(f:FI)(σ:L2.St)(H:Hp)(R:It->Hp->Prop):Prop where
 |mk (O:Addr->Prop) (ts:List Addr) (ρ:Rho) (T:Tp) (ds:List PyData) (T':Tp) (hc:HC K O ts H T) (re:RelE K O ts H σ ρ) (e:f ρ T=some (ds,T')) (q:∀J H1,SameX ts H H1->HC K O ts H1 T'->ItOk K O H1 J ds->ds.length<=sizeLine->R J H1):LiftIP K f σ H R
def qG(K:Frag)(f:FI):TI:=fun σ H R=>LiftIP K f σ H R
structure DI(X:Cx)(tg e:Expr)(f:FI):Prop where
 pe:PI X tg e (qG X.K f)
theorem vU{X:Cx}{tg e:Expr}{t t':TI}(h:PI X tg e t)(i:∀σ H Q,t' σ H Q->t σ H Q):PI X tg e t':=fun pins s σ H Q I q=>h pins s σ H Q I (i σ H Q q)
def signs(z:Str):List PyData:=z.cps.toList.map fun c=>.str ⟨#[c]⟩
def ik:PyData->Option (List PyData)
 |.list xs=>some xs
 |.tuple xs=>some xs
 |.str z=>if z.length<=sizeLine then some (signs z) else none
 |.dict ds=>some (ds.map (·.1))
 |_=>none
def bc(f:FE):FI:=fun ρ T=>bnd (f ρ T) fun w T1=>match w with
 |.d x=>match ik x with
  |some xs=>some (xs,T1)
  |none=>none
 |_=>none
theorem ItOk.lst{K:Frag}{O:Addr->Prop}{H1:Hp}{a:Addr}{vs:List V}{ds:List PyData}(h:LstAt K O H1 a vs)(r:Reps K O H1 vs ds):ItOk K O H1 (Itl K a) ds:=fun O' H' le=>by
 have sq:=(h.mono le).sq;have hl:=r.length;refine⟨fun i hi=>⟨vs,vs[i]'(by omega),sq,by simp⟩,⟨vs,sq,by omega⟩,fun i v H'' y hi=>?_⟩;obtain⟨e,y⟩:=y;obtain⟨d,h1,h2⟩:=r.get (y vs sq);exact⟨e,d,h1,h2.mono le⟩
theorem ItOk.tup{K:Frag}{O:Addr->Prop}{H1:Hp}{a:Addr}{vs:List V}{ds:List PyData}(h:TupAt K O H1 a vs)(r:Reps K O H1 vs ds):ItOk K O H1 (Itt K a) ds:=fun O' H' le=>by
 have sq:=(h.mono le).sq;have hl:=r.length;refine⟨fun i hi=>⟨vs,vs[i]'(by omega),sq,by simp⟩,⟨vs,sq,by omega⟩,fun i v H'' y hi=>?_⟩;obtain⟨e,y⟩:=y;obtain⟨d,h1,h2⟩:=r.get (y vs sq);exact⟨e,d,h1,h2.mono le⟩
theorem ItOk.str{K:Frag}{O:Addr->Prop}{H1:Hp}{z:Str}:ItOk K O H1 (Its z) (signs z):=fun O' H' le=>by
 have hl:(signs z).length=z.cps.size:=by simp[signs]
 refine⟨fun i hi=>by rw[hl] at hi;exact hi,by rw[hl];exact Nat.le_refl _,fun i v H'' y hi=>?_⟩;obtain⟨e,c,hc,y⟩:=y;subst y;refine⟨e,.str ⟨#[c]⟩,?_,.str _⟩;unfold signs;rw[List.getElem?_map]
 have:z.cps.toList[i]? = some c:=by simpa using hc
 rw[this];rfl
theorem lm{K:Frag}{O:Addr->Prop}{H:Hp}:∀{kvs:List (Key×V)}{ds:List (PyData×PyData)},RepK K O H kvs ds->kvs.length=ds.length
 |_,_,.nil=>rfl
 |_,_,.cons _ t=>congrArg (· + 1) (lm t)
theorem tQ{K:Frag}{O:Addr->Prop}{H:Hp}:∀{kvs:List (Key×V)}{ds:List (PyData×PyData)}{i:Nat}{k:Key}{v:V},RepK K O H kvs ds->kvs[i]? = some (k,v)->(ds.map (·.1))[i]? = some (f6 k)
 |_,_,_,_,_,.nil,e=>by simp at e
 |_,_,0,_,_,.cons r _,e=>by simp at e;obtain⟨rfl,rfl⟩:=e;rfl
 |_,_,i+1,k,v,.cons _ t,e=>by
  have:=tQ (i:=i) t (by simpa using e);simpa using this
theorem uG{K:Frag}{O:Addr->Prop}{H:Hp}(k:Key):Rep K O H (kV k) (f6 k):=by
 cases k with
 |inl i=>exact .int i
 |inr x=>exact .str x
theorem ItOk.dct{K:Frag}{O:Addr->Prop}{H1:Hp}{a:Addr}{o:Obj}{kvs:List (Key×V)}{ds:List (PyData×PyData)}(n:¬O a)(h:H1 a=some (.frz o (.dK kvs)))(r:RepK K O H1 kvs ds):ItOk K O H1 (Itd a o kvs) (ds.map (·.1)):=fun O' H' le=>by
 have h':=(le a _ n h).2;have hl:=lm r;refine⟨fun i hi=>⟨h',by simp at hi;omega⟩,⟨h',by simp[hl]⟩,fun i v H'' y hi=>?_⟩;obtain⟨e,k,v0,y1,y2⟩:=y;subst y2;exact⟨e,_,tQ r y1,uG k⟩
theorem bO{X:Cx}{tg e:Expr}{f:FE}(h:DE X e f):DI X tg e (bc f):=by
 refine⟨?_⟩;refine vU (ED h.pe) fun σ H R=>?_;rintro⟨O,ts,ρ,T,ds,T',hc,re,e,q⟩;obtain⟨w1,T1,e1,e⟩:=aM e;refine⟨O,ts,ρ,T,w1,T1,hc,re,e1,fun v1 H1 s1 hc1 r1=>?_⟩;split at e
 .rename_i x
  split at e
  .rename_i xs h1
   cases e;have rr:Rep X.K O H1 v1 x:=r1
   cases x with
   |list ys=>
    cases h1
    cases rr with
    |lst t r=>exact .inl ⟨_,_,rfl,t.sq,fun hz=>q _ H1 s1 hc1 (.lst t r) (by rw[←r.length];exact hz)⟩
   |tuple ys=>
    cases h1
    cases rr with
    |tup t r=>exact .inr (.inl ⟨_,_,rfl,t.sq,fun hz=>q _ H1 s1 hc1 (.tup t r) (by rw[←r.length];exact hz)⟩)
   |str z=>
    have h1':(if z.length<=sizeLine then some (signs z) else none)=some _:=h1;split at h1'
    .rename_i hz
     cases h1';cases rr;exact .inr (.inr (.inl ⟨z,rfl,q _ H1 s1 hc1 .str (by rw[show (signs z).length=z.cps.size by simp[signs]];exact hz)⟩))
    .cases h1'
   |dict ys=>
    cases h1
    cases rr with
    |dct n t r=>exact .inr (.inr (.inr ⟨_,_,_,rfl,t,fun hz=>q _ H1 s1 hc1 (.dct n t r) (by rw[List.length_map,←lm r];exact hz)⟩))
   |_=>cases h1
  .cases e
 .cases e
def cI(lo:Int)(n:Nat):List PyData:=(List.range n).map fun(i:Nat)=>.int (lo+(i:Int))
theorem ItOk.rng{K:Frag}{O:Addr->Prop}{H1:Hp}{lo:Int}{n:Nat}:ItOk K O H1 (Itr lo n) (cI lo n):=fun O' H' le=>by
 have hl:(cI lo n).length=n:=by simp[cI]
 refine⟨fun i hi=>by rw[hl] at hi;exact hi,by rw[hl];exact Nat.le_refl _,fun i v H'' y hi=>?_⟩;obtain⟨e,y⟩:=y;subst y;rw[hl] at hi;exact⟨e,.int (lo+i),by simp[cI,hi],.int _⟩
def fq(j:Int):Bool:=decide (-1000000<=j/\j<=16777216)
theorem rng_ok{j:Int}(h:fq j=true) : -(2^62)<=j/\j<2^62/\j.toNat<=sizeLine:=by
 have h':=of_decide_eq_true h
 have e:sizeLine=16777216:=by decide
 omega
def d6(f:FE):FI:=fun ρ T=>bnd (f ρ T) fun w T1=>match w with
 |.d (.int j)=>if fq j=true then some (cI 0 j.toNat,T1) else none
 |_=>none
theorem l9{X:Cx}{tg a:Expr}{f:FE}{p pos:Pos}(hg:Gl X "range")(hm:X.mg "range"=none)(ha:DE X a f)(hs:starEach [a] X.env=[(false,eval a X.env)]:=by exact lE rfl):DI X tg (.Call (.Name "range" p) [a] [] pos) (d6 f):=by
 refine⟨?_⟩;refine vU (Ag (ta:=qx (lift X.K f) qT) hg hm (cW ha.pe dG (by rw[hs];rfl)) hs) fun σ H R=>?_;rintro⟨O,ts,ρ,T,ds,T',hc,re,e,q⟩;obtain⟨w1,T1,e1,e⟩:=aM e;refine⟨O,ts,ρ,T,w1,T1,hc,re,e1,fun v1 H1 s1 hc1 r1=>?_⟩;split at e
 .rename_i j
  split at e
  .rename_i h1
   cases e;cases (show Rep X.K O H1 v1 _ from r1);obtain⟨b1,b2,b3⟩:=rng_ok h1;exact⟨j,rfl,b1,b2,q _ H1 s1 hc1 .rng (by simpa[cI] using b3)⟩
  .cases e
 .cases e
def bC(c:FT)(e:FE)(ρ:Rho):List PyData->Tp->Option (List PyData×Tp)
 |[],T=>some ([],T)
 |d::r,T=>bnd (c (some (.d d)::ρ) T) fun b T1=>if b=true then bnd (e (some (.d d)::ρ) T1) fun w T2=>match w with
   |.d y=>bnd (bC c e ρ r T2) fun ys T3=>some (y::ys,T3)
   |_=>none
  else bC c e ρ r T1
def bJ(it:FI)(c:FT)(e:FE):FE:=fun ρ T=>bnd (it ρ T) fun ds T1=>bnd (bC c e ρ ds T1) fun ys T2=>some (.d (.list ys),T2)
def bG:FT:=fun _ T=>some (true,T)
theorem RelE.cons{K:Frag}{O:Addr->Prop}{ts:List Addr}{H:Hp}{σ:L2.St}{ρ:Rho}{v:V}{d:PyData}(re:RelE K O ts H σ ρ)(r:Rep K O H v d):RelE K O ts H (some v::σ) (some (.d d)::ρ):=fun i w e=>by
 cases i with
 |zero=>cases e;exact⟨v,rfl,r⟩
 |succ i=>
  obtain⟨u,h1,h2⟩:=re i w (by simpa using e);exact⟨u,by simpa using h1,h2⟩
theorem vF{K:Frag}{O:Addr->Prop}{ts:List Addr}{H1:Hp}{σ:L2.St}{ρ:Rho}{J:It}{c:FT}{e:FE}{ds ys:List PyData}{T1 T2:Tp}{Dn:List V->Hp->Prop}(hc:HC K O ts H1 T1)(re:RelE K O ts H1 σ ρ)(ok:ItOk K O H1 J ds)(hz:ds.length<=sizeLine)
  (ee:bC c e ρ ds T1=some (ys,T2)) (q:∀vs H',SameX ts H1 H'->HC K O ts H' T2->Reps K O H' vs ys->Dn vs H') :
  ∃W:Nat->Nat->List V->Hp->Prop,(∃m,W 0 m [] H1)/\nr σ J (liftT K c) (lift K e) W Dn:=by
 refine⟨fun i m vs H'=>m=ds.length-i/\i<=ds.length/\vs.length<=i/\∃T dn rs,SameX ts H1 H'/\HC K O ts H' T/\Reps K O H' vs dn/\bC c e ρ (ds.drop i) T=some (rs,T2)/\ys=dn++rs,⟨_,rfl,Nat.zero_le _,Nat.le_refl _,T1,[],ys,.refl _ _,hc,.nil,ee,rfl⟩,?_⟩;rintro i m vs H' ⟨rfl,hi,hv,T,dn,rs,s1,hc1,rv,ec,ey⟩;obtain⟨k1,k2,k3⟩:=ok O H' (hc.le s1)
 by_cases hlt:i<ds.length
 .refine .inr ⟨k1 i hlt,by omega,fun vs' H2=>i+1<=ds.length/\vs'.length<=i+1/\∃T dn rs,SameX ts H1 H2/\HC K O ts H2 T/\Reps K O H2 vs' dn/\bC c e ρ (ds.drop (i+1)) T=some (rs,T2)/\ys=dn++rs,fun vs' H2 n=>⟨ds.length-(i+1),by omega,rfl,n⟩,fun v H2 y=>?_⟩
  obtain⟨e2,d,hd,rd⟩:=k3 i v H2 y hlt;subst e2
  have hdr:ds.drop i=d::ds.drop (i+1):=by
   rw[List.drop_eq_getElem_cons hlt];have:=(List.getElem?_eq_some_iff.mp hd).2;rw[this]
  rw[hdr] at ec;obtain⟨b,T3,e3,ec⟩:=aM ec;refine⟨O,ts,some (.d d)::ρ,T,b,T3,hc1,(re.mono hc s1).cons rd,e3,fun H3 s3 hc3=>?_⟩
  cases b with
  |false=>
   rw[if_neg Bool.false_ne_true] at ec;exact gb ⟨hlt,by omega,T3,dn,rs,s1.trans s3,hc3,rv.mono (hc1.le s3),ec,ey⟩
  |true=>
   rw[if_pos rfl] at ec;obtain⟨w,T4,e4,ec⟩:=aM ec;refine f9 ⟨O,ts,some (.d d)::ρ,T3,w,T4,hc3,((re.mono hc s1).cons rd).mono hc1 s3,e4,fun u H4 s4 hc4 r4=>?_⟩;split at ec
   .rename_i y
    obtain⟨zs,T5,e5,ec⟩:=aM ec;cases ec;refine⟨hlt,by simp;omega,T4,dn++[y],zs,s1.trans (s3.trans s4),hc4,(rv.mono (hc1.le (s3.trans s4))).append (.cons r4 .nil),e5,by rw[ey];simp⟩
   .cases ec
 .have e:i=ds.length:=by omega
  subst e;rw[List.drop_eq_nil_of_le (Nat.le_refl _)] at ec;cases ec;rw[List.append_nil] at ey;subst ey;exact .inl ⟨k2,by omega,q vs H' s1 hc1 rv⟩
structure DTs(X:Cx)(es:List Expr)(f:FT):Prop where
 pe:PTs X es (liftT X.K f)
theorem vp{X:Cx}:DTs X [] bG:=⟨fun pins s σ H Q E I h=>by
 refine Cz pins s σ H Q E I ?_;obtain⟨O,ts,ρ,T,w,T',hc,re,e,q⟩:=h;cases e
 exact q H (.refl _ _) hc⟩
theorem DD{X:Cx}{c:Expr}{f:FT}(hx:X.xe=fun _ _=>False)(h:DT X c f):DTs X [c] f:=⟨Cy hx h.pe⟩
theorem DK{X:Cx}{x:Str}{scope osc:Scope}{N N':List Str}{elt iter:Expr}{ifs:List Expr}{px pos:Pos}{it:FI}{c:FT}{f:FE}(S:CS osc N x scope N')(hi:DI X (.Name x px) iter it)
  (he:∀C s0 H0 ex,DE (bT X x scope C s0 H0 ex N') elt f) (ht:∀C s0 H0 ex,DTs (bT X x scope C s0 H0 ex N') ifs c) (hc:X.calm=true:=by rfl) (hs:X.env.scope=osc:=by rfl) (hN:X.N=N:=by rfl)
  (hf:∀v,foldedSetIterable iter X.env v=pure v:=by intro _;rfl):DE X (.ListComp elt [⟨.Name x px,iter,ifs,0⟩] scope pos) (bJ it c f):=by
 refine⟨?_⟩;refine bu (Bq (wi:=qG X.K it) (tt:=liftT X.K c) (te:=lift X.K f) S hi.pe (fun C s0 H0 ex=>(he C s0 H0 ex).pe) (fun C s0 H0 ex=>(ht C s0 H0 ex).pe) hc hs hN hf) fun σ H Q=>?_;rintro⟨O,ts,ρ,T,w,T',hc,re,e,q⟩;obtain⟨ds,T1,e1,e⟩:=aM e;obtain⟨ys,T2,e2,e⟩:=aM e;cases e;refine⟨O,ts,ρ,T,ds,T1,hc,re,e1,fun J H1 s1 hc1 ok hz=>?_⟩;exact vF hc1 (re.mono hc s1) ok hz e2 fun vs H' s2 hc2 r2 p hp=>q _ _ (s1.trans (s2.trans (.new hp _))) (hc2.new hp _) (hc2.newL hp r2)
inductive Fl where
 |nx|rt (x:PyData)|ro (x:PyData)|bk|ct
abbrev FS:=Rho->Tp->Option ((Fl×Rho)×Tp)
structure RS(K:Frag)(O₀:Addr->Prop)(H₀:Hp)(F:List ((Addr->Prop)×Hp))(ts:List Addr)(O:Addr->Prop)(H:Hp)(σ:L2.St)(ρ:Rho)(T:Tp):Prop where
 hc:HC K O ts H T
 re:RelE K O ts H σ ρ
 sub:∀b,O₀ b->O b
 ots:∀b∈ts,O₀ b
 same:SameX ts H₀ H
 fresh:∀(i:Nat) (xs:PyData) (a:Addr),ρ[i]? = some (some (.loc xs))->σ[i]? = some (some (.ref a))->H₀ a=none/\¬O₀ a
 dist:∀(i j:Nat) (xs ys:PyData) (v:V),ρ[i]? = some (some (.loc xs))->ρ[j]? = some (some (.loc ys))->σ[i]? = some (some v)->σ[j]? = some (some v)->i=j
 frs:∀f∈F,Le f.1 f.2 O H
 len:σ.length=ρ.length
def OwnV(K:Frag)(O A:Addr->Prop)(H:Hp)(v:V):PyData->Prop
 |.tuple [x,y]=>∃p a b,v=.ref p/\a≠b/\(∀c,A c↔c=a\/c=b)/\¬O p/\H p=some (.tup [.ref a,.ref b])/\OwnAt K O H a x/\OwnAt K O H b y
 |.none=>v=.non/\∀c,¬A c
 |x=>∃a,v=.ref a/\(∀c,A c↔c=a)/\OwnAt K O H a x
theorem OwnV.mono{K:Frag}{O O' A:Addr->Prop}{H:Hp}{v:V}{x:PyData}(le:Le O H O' H)(h:OwnV K O A H v x):OwnV K O' A H v x:=by
 unfold OwnV at h ⊢;split at h
 .obtain⟨p,a,b,e1,e2,e3,np,hp,oa,ob⟩:=h
  exact⟨p,a,b,e1,e2,e3,(le p _ np hp).1,hp,oa.mono (fun _ h=>h) le,ob.mono (fun _ h=>h) le⟩
 .exact h
 .obtain⟨a,e,hA,oa⟩:=h
  exact⟨a,e,hA,oa.mono (fun _ h=>h) le⟩
def xS(K:Frag)(O₀:Addr->Prop)(H₀:Hp)(F:List ((Addr->Prop)×Hp))(ts:List Addr)(D:Ends)(ρ':Rho)(T':Tp):Fl->Prop
 |.nx=>∀O' σ' H',RS K O₀ H₀ F ts O' H' σ' ρ' T'->D.nx σ' H'
 |.bk=>∀O' σ' H',RS K O₀ H₀ F ts O' H' σ' ρ' T'->D.bk σ' H'
 |.ct=>∀O' σ' H',RS K O₀ H₀ F ts O' H' σ' ρ' T'->D.ct σ' H'
 |.rt x=>∀v H',SameX ts H₀ H'->HC K O₀ ts H' T'->Rep K O₀ H' v x->D.rt v H'
 |.ro x=>∀(A:Addr->Prop) v H',SameX ts H₀ H'->(∀b,A b->H₀ b=none/\¬O₀ b)->HC K (fun b=>O₀ b\/A b) ts H' T'->OwnV K (fun b=>O₀ b\/A b) A H' v x->D.rt v H'
inductive LiftSP(K:Frag)(f:FS)(D:Ends)(σ:L2.St)(H:Hp):Prop where
 |mk (O₀:Addr->Prop) (H₀:Hp) (F:List ((Addr->Prop)×Hp)) (ts:List Addr) (O:Addr->Prop) (ρ:Rho) (T:Tp) (fl:Fl) (ρ':Rho) (T':Tp) (rs:RS K O₀ H₀ F ts O H σ ρ T) (e:f ρ T=some ((fl,ρ'),T')) (q:xS K O₀ H₀ F ts D ρ' T' fl):LiftSP K f D σ H
def qF(K:Frag)(f:FS):TS:=fun D σ H=>LiftSP K f D σ H
structure DS(X:Cx)(s:Stmt)(f:FS):Prop where
 pe:PS X s (qF X.K f)
structure DSs(X:Cx)(s:List Stmt)(f:FS):Prop where
 pe:PSs X s (qF X.K f)
theorem bZ{X:Cx}{e:Stmt}{t t':TS}(h:PS X e t)(i:∀D σ H,t' D σ H->t D σ H):PS X e t':=fun pins s σ H D I q=>h pins s σ H D I (i D σ H q)
theorem lT{X:Cx}{e:List Stmt}{t t':TS}(h:PSs X e t)(i:∀D σ H,t' D σ H->t D σ H):PSs X e t':=fun pins s σ H D I q=>h pins s σ H D I (i D σ H q)
section
variable {K:Frag}{O₀:Addr->Prop}{H₀:Hp}{F:List ((Addr->Prop)×Hp)}{ts:List Addr}{O:Addr->Prop}{H H1:Hp}{σ:L2.St}{ρ:Rho}{T T1:Tp}
theorem RS.step(r:RS K O₀ H₀ F ts O H σ ρ T)(s:SameX ts H H1)(c:HC K O ts H1 T1):RS K O₀ H₀ F ts O H1 σ ρ T1 where
 hc:=c
 re:=r.re.mono r.hc s
 sub:=r.sub
 ots:=r.ots
 same:=r.same.trans s
 fresh:=r.fresh
 dist:=r.dist
 frs:=fun f hf=>(r.frs f hf).trans (r.hc.le s)
 len:=r.len
theorem dW{i j:Nat}{w:W}{xs:PyData}(hw:∀ys,w≠.loc ys)(e:(ρ.set i (some w))[j]? = some (some (.loc xs))):j≠i/\ρ[j]? = some (some (.loc xs)):=by
 by_cases z:i=j
 .subst z
  rw[List.getElem?_set_self'] at e
  cases h:ρ[i]? with
  |none=>rw[h] at e;cases e
  |some u=>
   rw[h] at e;have e':some (some w)=some (some (W.loc xs)):=e;cases e';exact absurd rfl (hw xs)
 .rw[List.getElem?_set_ne z] at e
  exact⟨fun q=>z q.symm,e⟩
theorem RS.set{i:Nat}{v:V}{w:W}(r:RS K O₀ H₀ F ts O H σ ρ T)(rw':RepW K O ts H v w)(hw:∀ys,w≠.loc ys):RS K O₀ H₀ F ts O H (σ.set i (some v)) (ρ.set i (some w)) T where
 hc:=r.hc
 re:=fun j u e=>by
  by_cases z:i=j
  .subst z
   have hl:i<ρ.length:=by
    have:=(List.getElem?_eq_some_iff.mp e).1;simpa using this
   rw[List.getElem?_set_self hl] at e;cases e;exact⟨v,by rw[List.getElem?_set_self (by rw[r.len];exact hl)],rw'⟩
  .rw[List.getElem?_set_ne z] at e
   obtain⟨x,h1,h2⟩:=r.re j u e;exact⟨x,by rw[List.getElem?_set_ne z];exact h1,h2⟩
 sub:=r.sub
 ots:=r.ots
 same:=r.same
 fresh:=fun j xs a e1 e2=>by
  obtain⟨n,e⟩:=dW hw e1;rw[List.getElem?_set_ne (Ne.symm n)] at e2;exact r.fresh j xs a e e2
 dist:=fun j k xs ys u e1 e2 e3 e4=>by
  obtain⟨n1,e1⟩:=dW hw e1;obtain⟨n2,e2⟩:=dW hw e2;rw[List.getElem?_set_ne (Ne.symm n1)] at e3;rw[List.getElem?_set_ne (Ne.symm n2)] at e4;exact r.dist j k xs ys u e1 e2 e3 e4
 frs:=r.frs
 len:=by simp[r.len]
theorem RS.ownO{i:Nat}{p:Addr}{o:HO}{xs:PyData}(r:RS K O₀ H₀ F ts O H σ ρ T)(hp:H p=none)(hm:Mut (some o))(rv:Le O H (fun b=>O b\/b=p) (upd H p o)->OwnAt K (fun b=>O b\/b=p) (upd H p o) p xs):RS K O₀ H₀ F ts (fun b=>O b\/b=p) (upd H p o) (σ.set i (some (.ref p))) (ρ.set i (some (.loc xs))) T:=by
 have le:Le O H (fun b=>O b\/b=p) (upd H p o):=fun a o n e=>by
  have z:a≠p:=dv e hp;exact⟨fun q=>q.elim n z,by rw[aS z];exact e⟩
 have h0:∀{G:Hp},SameX ts G H->p∉ts->G p=none:=fun {G} s nt=>by
  cases e:G p with
  |none=>rfl
  |some o=>rw[s p o nt e] at hp;cases hp
 have nO:=r.hc.fresh hp;have nt:p∉ts:=fun z=>nO (r.hc.own p z)
 have old:∀{j:Nat}{v:V}{w:W},σ[j]? = some (some v)->RepW K O ts H v w->RepW K (fun b=>O b\/b=p) ts (upd H p o) v w:=fun {j v w} e q=>by
  cases w with
  |d x=>exact Rep.mono le q
  |tp k=>exact q
  |loc ys=>
   obtain⟨a,e1,h1,h2,h3⟩:=q;exact⟨a,e1,.inl h1,h2,h3.mono (fun o' q=>by rw[aS (dv q hp)];exact q) le⟩
 have notp:∀{j:Nat}{ys:PyData},ρ[j]? = some (some (.loc ys))->σ[j]? = some (some (.ref p))->False:=fun {j ys} e1 e2=>by
  obtain⟨v,h1,a,ea,h2,h3,h4⟩:=r.re j _ e1;rw[e2] at h1;cases h1;cases ea;obtain⟨o',h5⟩:=h4.some;rw[hp] at h5;cases h5
 refine⟨⟨fun b hb=>.inl (r.hc.own b hb),fun b hb=>?_,r.hc.nd,r.hc.len,fun j a ys e1 e2=>?_⟩,fun j w e=>?_,fun b hb=>.inl (r.sub b hb),r.ots,r.same.trans (.new hp _),fun j ys a e1 e2=>?_,fun j k ys zs v e1 e2 e3 e4=>?_,fun f hf=>(r.frs f hf).trans le,by simp[r.len]⟩
 .by_cases z:b=p
  .subst z;rw[bx];exact hm
  .rw[aS z]
   exact r.hc.trk b (hb.resolve_right z)
 .exact(r.hc.tape j a ys e1 e2).mono (fun o' h1=>by rw[aS (dv h1 hp)];exact h1) le
 .by_cases z:i=j
  .subst z
   have hl:i<ρ.length:=by
    have:=(List.getElem?_eq_some_iff.mp e).1;simpa using this
   rw[List.getElem?_set_self hl] at e;cases e;exact⟨.ref p,by rw[List.getElem?_set_self (by rw[r.len];exact hl)],p,rfl,.inr rfl,nt,rv le⟩
  .rw[List.getElem?_set_ne z] at e
   obtain⟨x,h1,h2⟩:=r.re j w e;exact⟨x,by rw[List.getElem?_set_ne z];exact h1,old h1 h2⟩
 .by_cases z:i=j
  .subst z
   have hl:i<ρ.length:=by
    have:=(List.getElem?_eq_some_iff.mp e1).1;simpa using this
   rw[List.getElem?_set_self (by rw[r.len];exact hl)] at e2;cases e2;exact⟨h0 r.same nt,fun q=>nO (r.sub _ q)⟩
  .rw[List.getElem?_set_ne z] at e1 e2
   exact r.fresh j ys a e1 e2
 .by_cases z:i=j
  .by_cases z':i=k
   .rw[←z,←z']
   .exfalso
    subst z
    have hl:i<ρ.length:=by
     have:=(List.getElem?_eq_some_iff.mp e1).1;simpa using this
    rw[List.getElem?_set_self (by rw[r.len];exact hl)] at e3;cases e3;rw[List.getElem?_set_ne z'] at e2 e4;exact notp e2 e4
  .by_cases z':i=k
   .exfalso
    subst z'
    have hl:i<ρ.length:=by
     have:=(List.getElem?_eq_some_iff.mp e2).1;simpa using this
    rw[List.getElem?_set_self (by rw[r.len];exact hl)] at e4;cases e4;rw[List.getElem?_set_ne z] at e1 e3;exact notp e1 e3
   .rw[List.getElem?_set_ne z] at e1 e3
    rw[List.getElem?_set_ne z'] at e2 e4;exact r.dist j k ys zs v e1 e2 e3 e4
theorem RS.own{i:Nat}{p:Addr}{vs:List V}{xs:List PyData}(r:RS K O₀ H₀ F ts O H σ ρ T)(hp:H p=none)(rv:Reps K O H vs xs):RS K O₀ H₀ F ts (fun b=>O b\/b=p) (upd H p (.lst vs)) (σ.set i (some (.ref p))) (ρ.set i (some (.loc (.list xs)))) T:=r.ownO hp (.inl ⟨_,rfl⟩) fun le=>⟨vs,bx,rv.mono le⟩
theorem RS.putO{i:Nat}{a:Addr}{o:HO}{xs ys:PyData}(r:RS K O₀ H₀ F ts O H σ ρ T)(e1:ρ[i]? = some (some (.loc xs)))(e2:σ[i]? = some (some (.ref a)))(hm:Mut (some o))(rv:Le O H O (upd H a o)->OwnAt K O (upd H a o) a ys):RS K O₀ H₀ F ts O (upd H a o) σ (ρ.set i (some (.loc ys))) T:=by
 obtain⟨v,z1,a',ea,oa,nt,ha⟩:=r.re i _ e1;rw[e2] at z1;cases z1;cases ea;have hl:i<ρ.length:=(List.getElem?_eq_some_iff.mp e1).1;obtain⟨f1,f2⟩:=r.fresh i xs a e1 e2;have le:Le O H O (upd H a o):=fun b o n e=>⟨n,by rw[aS (show b≠a from fun z=>n (by rw[z];exact oa))];exact e⟩
 have back:∀{j:Nat}{zs:PyData},(ρ.set i (some (W.loc ys)))[j]? = some (some (.loc zs))->∃ws,ρ[j]? = some (some (.loc ws)):=fun {j zs} e=>by
  by_cases z:i=j
  .subst z;exact⟨xs,e1⟩
  .rw[List.getElem?_set_ne z] at e;exact⟨zs,e⟩
 refine⟨⟨r.hc.own,fun b hb=>?_,r.hc.nd,r.hc.len,fun j b zs q1 q2=>?_⟩,fun j w e=>?_,r.sub,r.ots,fun b o n e=>?_,fun j zs b q1 q2=>?_,fun j k zs zs' v q1 q2 q3 q4=>?_,fun f hf=>(r.frs f hf).trans le,by simp[r.len]⟩
 .by_cases z:b=a
  .subst z;rw[bx];exact hm
  .rw[aS z];exact r.hc.trk b hb
 .exact(r.hc.tape j b zs q1 q2).mono (fun o' h1=>by rw[aS (show b≠a from fun z=>nt (by rw[←z];exact List.mem_of_getElem? q1))];exact h1) le
 .by_cases z:i=j
  .subst z
   rw[List.getElem?_set_self hl] at e;cases e;exact⟨.ref a,e2,a,rfl,oa,nt,rv le⟩
  .rw[List.getElem?_set_ne z] at e
   obtain⟨x,h1,h2⟩:=r.re j w e;refine⟨x,h1,?_⟩
   cases w with
   |d x=>exact Rep.mono le h2
   |tp k=>exact h2
   |loc zs=>
    obtain⟨b,eb,k1,k2,k3⟩:=h2;have n:b≠a:=fun q=>z (r.dist i j xs zs (.ref a) e1 e e2 (by rw[h1,eb,q]));exact⟨b,eb,k1,k2,k3.mono (fun o' q=>by rw[aS n];exact q) le⟩
 .have:=r.same b o n e
  rw[aS (show b≠a from fun z=>by rw[z,f1] at e;cases e)];exact this
 .obtain⟨ws,q⟩:=back q1
  exact r.fresh j ws b q q2
 .obtain⟨ws,q⟩:=back q1
  obtain⟨ws',q'⟩:=back q2;exact r.dist j k ws ws' v q q' q3 q4
theorem RS.put{i:Nat}{a:Addr}{vs us:List V}{xs ys:List PyData}(r:RS K O₀ H₀ F ts O H σ ρ T)(e1:ρ[i]? = some (some (.loc (.list xs))))(e2:σ[i]? = some (some (.ref a)))(rv:Reps K O H vs ys):RS K O₀ H₀ F ts O (upd H a (.lst vs)) σ (ρ.set i (some (.loc (.list ys)))) T:=r.putO e1 e2 (.inl ⟨_,rfl⟩) fun le=>⟨vs,bx,rv.mono le⟩
theorem RS.tapeO{n:Nat}{a:Addr}{o:HO}{ys:List PyData}(r:RS K O₀ H₀ F ts O H σ ρ T)(e:ts[n]? = some a)(hm:Mut (some o))(rv:Le O H O (upd H a o)->RowAt K O (upd H a o) a ys):RS K O₀ H₀ F ts O (upd H a o) σ ρ (T.set n ys):=by
 have am:a∈ts:=List.mem_of_getElem? e;have le:Le O H O (upd H a o):=fun b o' k q=>⟨k,by rw[aS (show b≠a from fun z=>k (by rw[z];exact r.hc.own a am))];exact q⟩
 have sx:SameX ts H (upd H a o):=fun b o' k q=>by rw[aS (show b≠a from fun z=>k (by rw[z];exact am))];exact q
 refine⟨⟨r.hc.own,fun b hb=>?_,r.hc.nd,by simp[r.hc.len],fun j b zs q1 q2=>?_⟩,r.re.mono r.hc sx,r.sub,r.ots,r.same.trans sx,r.fresh,r.dist,fun f hf=>(r.frs f hf).trans le,r.len⟩
 .by_cases z:b=a
  .subst z;rw[bx];exact hm
  .rw[aS z];exact r.hc.trk b hb
 .by_cases z:n=j
  .subst z
   rw[e] at q1;cases q1
   have hl:n<T.length:=by
    have:=(List.getElem?_eq_some_iff.mp e).1;rw[←r.hc.len];exact this
   rw[List.getElem?_set_self hl] at q2;cases q2;exact rv le
  .rw[List.getElem?_set_ne z] at q2
   refine(r.hc.tape j b zs q1 q2).mono (fun o' h1=>?_) le
   have nb:b≠a:=fun q=>by
    rw[q] at q1;exact z ((List.getElem?_inj (List.getElem?_eq_some_iff.mp e).1 r.hc.nd).mp (e.trans q1.symm))
   rw[aS nb];exact h1
theorem RS.tape{n:Nat}{a:Addr}{vs:List V}{ys:List PyData}(r:RS K O₀ H₀ F ts O H σ ρ T)(e:ts[n]? = some a)(rv:Reps K O H vs ys):RS K O₀ H₀ F ts O (upd H a (.lst vs)) σ ρ (T.set n ys):=r.tapeO e (.inl ⟨_,rfl⟩) fun le=>.inl ⟨rv.notO,vs,bx,rv.mono le⟩
def jC:W->W
 |.loc x=>.d x
 |w=>w
def bV(ρ:Rho):Rho:=ρ.map (Option.map jC)
theorem RS.frzH(r:RS K O₀ H₀ F ts O H σ ρ T):HC K O₀ ts H T:=by
 have le:Le O H O₀ H:=fun a o n e=>⟨fun z=>n (r.sub a z),e⟩;exact⟨r.ots,fun b hb=>r.hc.trk b (r.sub b hb),r.hc.nd,r.hc.len,fun i a xs e1 e2=>(r.hc.tape i a xs e1 e2).mono (fun _ h=>h) le⟩
def yv(ρ:Rho):Prop:=∀(i:Nat) (ds:List (PyData×PyData)),ρ[i]?≠some (some (.loc (.dict ds)))
theorem RS.frz(r:RS K O₀ H₀ F ts O H σ ρ T)(nd:yv ρ):HC K O₀ ts H T/\RelE K O₀ ts H σ (bV ρ):=by
 have le:Le O H O₀ H:=fun a o n e=>⟨fun z=>n (r.sub a z),e⟩;refine⟨r.frzH,fun i w e=>?_⟩;unfold bV at e;rw[List.getElem?_map] at e
 cases hu:ρ[i]? with
 |none=>rw[hu] at e;cases e
 |some u=>
  cases u with
  |none=>rw[hu] at e;cases e
  |some u=>
   rw[hu] at e;cases e;obtain⟨v,h1,h2⟩:=r.re i u hu;refine⟨v,h1,?_⟩
   cases u with
   |d x=>exact Rep.mono le h2
   |tp k=>exact h2
   |loc xs=>
    obtain⟨a,rfl,k1,k2,k3⟩:=h2
    cases xs with
    |list xs=>obtain⟨vs,k3,k4⟩:=k3;exact .lst (.inl ⟨(r.fresh i _ a hu h1).2,.inl k3⟩) (k4.mono le)
    |dict xs=>exact absurd hu (nd i xs)
    |_=>cases k3
theorem RS.frzD{i:Nat}{ds:List (PyData×PyData)}(r:RS K O₀ H₀ F ts O H σ ρ T)(h1:ρ[i]? = some (some (.loc (.dict ds)))):∃a kvs,H a=some (.dK kvs)/\∀o,RS K O₀ H₀ F ts (fun b=>O b/\b≠a) (upd H a (.frz o (.dK kvs))) σ (ρ.set i (some (.d (.dict ds)))) T:=by
 obtain⟨v,k1,a,rfl,k2,k3,kvs,k4,k5⟩:=r.re i _ h1;refine⟨a,kvs,k4,fun o=>?_⟩;have hl:i<ρ.length:=(List.getElem?_eq_some_iff.mp h1).1;have U:∀{b:Addr},b≠a->upd H a (.frz o (.dK kvs)) b=H b:=fun n=>aS n;have le:Le O H (fun b=>O b/\b≠a) (upd H a (.frz o (.dK kvs))):=fun b u n e=>⟨fun z=>n z.1,by rw[U (show b≠a from fun z=>n (by rw[z];exact k2))];exact e⟩;have fr:=r.fresh i _ a h1 k1
 have hw:∀ys,W.d (.dict ds)≠.loc ys:=fun _ z=>nomatch z
 refine⟨⟨fun b hb=>⟨r.hc.own b hb,fun z=>k3 (z ▸ hb)⟩,fun b hb=>by rw[U hb.2];exact r.hc.trk b hb.1,r.hc.nd,r.hc.len,fun j b ys e1 e2=>?_⟩,fun j w e=>?_,fun b hb=>⟨r.sub b hb,fun z=>fr.2 (z ▸ hb)⟩,r.ots,fun b u n e=>?_,fun j ys b e1 e2=>?_,fun j k ys zs v e1 e2 e3 e4=>?_,fun f hf=>(r.frs f hf).trans le,by simp[r.len]⟩
 .exact(r.hc.tape j b ys e1 e2).mono (fun _ h=>by rw[U (show b≠a from fun z=>k3 (by rw[←z];exact List.mem_of_getElem? e1))];exact h) le
 .by_cases z:i=j
  .subst z
   rw[List.getElem?_set_self hl] at e;cases e;exact⟨.ref a,k1,.dct (fun z=>z.2 rfl) bx (k5.mono le)⟩
  .rw[List.getElem?_set_ne z] at e
   obtain⟨x,q1,q2⟩:=r.re j w e;refine⟨x,q1,?_⟩
   cases w with
   |d y=>exact Rep.mono le q2
   |tp k=>exact q2
   |loc ys=>
    obtain⟨b,eb,m1,m2,m3⟩:=q2;have nb:b≠a:=fun q=>z (r.dist i j _ ys (.ref a) h1 e k1 (by rw[q1,eb,q]));exact⟨b,eb,⟨m1,nb⟩,m2,m3.mono (fun _ q=>by rw[U nb];exact q) le⟩
 .rw[U (show b≠a from fun z=>by rw[z,fr.1] at e;cases e)]
  exact r.same b u n e
 .obtain⟨n,e⟩:=dW hw e1
  exact r.fresh j ys b e e2
 .obtain⟨n1,e1⟩:=dW hw e1
  obtain⟨n2,e2⟩:=dW hw e2;exact r.dist j k ys zs v e1 e2 e3 e4
theorem BN{i:Nat}{x:PyData}(h:ρ[i]? = some (some (.loc x))):bV (ρ.set i (some (.d x)))=bV ρ:=by
 apply List.ext_getElem?;intro j;unfold bV;rw[List.getElem?_map,List.getElem?_map]
 by_cases z:i=j
 .subst z
  rw[List.getElem?_set_self (List.getElem?_eq_some_iff.mp h).1,h];rfl
 .rw[List.getElem?_set_ne z]
theorem RS.frzN(R:Rho):∀(k:Nat) {O:Addr->Prop}{H:Hp}{ρ:Rho},RS K O₀ H₀ F ts O H σ ρ T->(∀j ds,k<=j->ρ[j]?≠some (some (.loc (.dict ds))))->bV ρ=R ->
  Gh (fun H'=>∃O' ρ',RS K O₀ H₀ F ts O' H' σ ρ' T/\yv ρ'/\bV ρ'=R) H
 |0,O,H,ρ,r,n,e=>.done ⟨O,ρ,r,fun j ds=>n j ds (Nat.zero_le _),e⟩
 |k+1,O,H,ρ,r,n,e=>by
  by_cases h:∃ds,ρ[k]? = some (some (.loc (.dict ds)))
  .obtain⟨ds,h⟩:=h
   obtain⟨a,kvs,e1,f⟩:=r.frzD h;refine .frz e1 fun o=>RS.frzN R k (f o) (fun j es hj=>?_) (by rw[BN h];exact e)
   by_cases z:k=j
   .subst z
    rw[List.getElem?_set_self (List.getElem?_eq_some_iff.mp h).1];intro q;cases q
   .rw[List.getElem?_set_ne z]
    exact n j es (by omega)
  .refine RS.frzN R k r (fun j ds hj=>?_) e
   by_cases z:k=j
   .subst z
    exact fun q=>h ⟨ds,q⟩
   .exact n j ds (by omega)
theorem RS.frzG(r:RS K O₀ H₀ F ts O H σ ρ T):Gh (fun H'=>SameX ts H₀ H'/\HC K O₀ ts H' T/\RelE K O₀ ts H' σ (bV ρ)) H:=(RS.frzN (bV ρ) ρ.length r (fun j ds hj=>by rw[List.getElem?_eq_none hj];exact fun z=>nomatch z) rfl).imp fun H' ⟨O',ρ',r',n,e⟩=>⟨r'.same,by rw[←e];exact r'.frz n⟩
end
def aD:FS:=fun ρ T=>some ((.nx,ρ),T)
def ak(f g:FS):FS:=fun ρ T=>bnd (f ρ T) fun p T1=>match p with
 |(.nx,ρ1)=>g ρ1 T1
 |(fl,ρ1)=>some ((fl,ρ1),T1)
def aE(i:Nat)(f:FE):FS:=fun ρ T=>bnd (f ρ T) fun w T1=>match w with
 |.d x=>some ((.nx,ρ.set i (some (.d x))),T1)
 |.tp k=>some ((.nx,ρ.set i (some (.tp k))),T1)
 |.loc _=>none
def dj(i:Nat)(g:FA):FS:=fun ρ T=>bnd (g ρ T) fun ws T1=>match dM ws with
 |some xs=>if xs.length<=1000 then some ((.nx,ρ.set i (some (.loc (.list xs)))),T1) else none
 |none=>none
def dO(i:Nat)(f:FE):FS:=fun ρ T=>bnd (f ρ T) fun w T1=>match w with
 | .d x=>(match ρ[i]? with
  |some (some (.loc (.list xs)))=>if xs.length<sizeLine then some ((.nx,ρ.set i (some (.loc (.list (xs++[x]))))),T1) else none
  | _=>none)
 |_=>none
def kQ(fo fk fe:FE):FS:=fun ρ T=>bnd (fe ρ T) fun w T1=>bnd (fo ρ T1) fun o T2=>bnd (fk ρ T2) fun k T3=>match w,o,k with
 |.d x,.tp n,.d (.int i)=>match T3[n]? with
  |some xs=>if isO xs=true then none else match ixN xs.length i with
   |some j=>some ((.nx,ρ),T3.set n (xs.set j x))
   |none=>none
  |none=>none
 |_,_,_=>none
def fIf(c:FT)(f g:FS):FS:=fun ρ T=>bnd (c ρ T) fun b T1=>if b=true then f ρ T1 else g ρ T1
def ay(f:FE):FS:=fun ρ T=>bnd (f (bV ρ) T) fun w T1=>match w with
 |.d x=>some ((.rt x,ρ),T1)
 |_=>none
def forL(i:Nat)(body:FS):List PyData->FS
 |[]=>aD
 |d::r=>fun ρ T=>bnd (body (ρ.set i (some (.d d))) T) fun p T1=>match p with
  |(.nx,ρ1)=>forL i body r ρ1 T1
  |(.ct,ρ1)=>forL i body r ρ1 T1
  |(.bk,ρ1)=>some ((.nx,ρ1),T1)
  |(.rt x,ρ1)=>some ((.rt x,ρ1),T1)
  |(.ro x,ρ1)=>some ((.ro x,ρ1),T1)
def bD(i:Nat)(it:FI)(body:FS):FS:=fun ρ T=>bnd (it ρ T) fun ds T1=>forL i body ds ρ T1
def bS(c:FT)(body:FS):Nat->FS
 |0=>fun _ _=>none
 |n+1=>fun ρ T=>bnd (c ρ T) fun b T1=>if b=true then bnd (body ρ T1) fun p T2=>match p with
   |(.nx,ρ1)=>bS c body n ρ1 T2
   |(.ct,ρ1)=>bS c body n ρ1 T2
   |(.bk,ρ1)=>some ((.nx,ρ1),T2)
   |(.rt x,ρ1)=>some ((.rt x,ρ1),T2)
   |(.ro x,ρ1)=>some ((.ro x,ρ1),T2)
  else some ((.nx,ρ),T1)
section
variable {X:Cx}{pos:Pos}{st:Stmt}{rest:List Stmt}{f g:FS}{e:Expr}{fe:FE}{c:FT}
theorem aK:DSs X [] aD:=by
 refine⟨?_⟩;refine lT CC fun D σ H=>?_;rintro⟨O₀,H₀,F,ts,O,ρ,T,fl,ρ',T',rs,e,q⟩;cases e;exact q O σ H rs
theorem au(h1:DS X st f)(h2:DSs X rest g):DSs X (st::rest) (ak f g):=by
 refine⟨?_⟩;refine lT (tS h1.pe h2.pe) fun D σ H=>?_;rintro⟨O₀,H₀,F,ts,O,ρ,T,fl,ρ',T',rs,e,q⟩;obtain⟨⟨fl1,ρ1⟩,T1,e1,e⟩:=aM e;refine⟨O₀,H₀,F,ts,O,ρ,T,fl1,ρ1,T1,rs,e1,?_⟩
 cases fl1 with
 |nx=>exact fun O' σ' H' rs'=>⟨O₀,H₀,F,ts,O',ρ1,T1,fl,ρ',T',rs',e,q⟩
 |rt x=>cases e;exact q
 |ro x=>cases e;exact q
 |bk=>cases e;exact q
 |ct=>cases e;exact q
theorem av(h1:DS X st f):DSs X [st] f:=⟨CB h1.pe⟩
theorem aQ{i:Nat}{x:Str}{pos':Pos}(hN:X.N.Nodup)(he:DE X e fe)(hi:X.N[i]? = some x:=by rfl)(hx:Loc X.env.scope x:=by first|exact Or.inl rfl|exact Or.inr rfl)(hs:swapsWith e (some (.Name x pos')) pos.line X.env=pure false:=by rfl)
  (hf:X.fn x=true\/X.env.scope.names.lookup x=some .local:=by first|exact .inl rfl|exact .inr rfl|assumption):DS X (.Assign [.Name x pos'] e pos) (aE i fe):=by
 refine⟨?_⟩;refine bZ (ia hN hi hx he.pe hs hf) fun D σ H=>?_;rintro⟨O₀,H₀,F,ts,O,ρ,T,fl,ρ',T',rs,e,q⟩;obtain⟨w,T1,e1,e⟩:=aM e;refine⟨O,ts,ρ,T,w,T1,rs.hc,rs.re,e1,fun v H1 s1 hc1 r1=>?_⟩
 cases w with
 |d x=>cases e;exact q O _ _ ((rs.step s1 hc1).set r1 fun _ z=>nomatch z)
 |tp k=>cases e;exact q O _ _ ((rs.step s1 hc1).set r1 fun _ z=>nomatch z)
 |loc xs=>cases e
theorem DG{i:Nat}{x y:Str}{scope osc:Scope}{N N':List Str}{elt iter:Expr}{ifs:List Expr}{px py spos:Pos}{it:FI}{c:FT}{f:FE}(S:CS osc N x scope N')(hN:X.N.Nodup)(hi:DI X (.Name x px) iter it)
  (he:∀C s0 H0 ex,DE (bT X x scope C s0 H0 ex N') elt f) (ht:∀C s0 H0 ex,DTs (bT X x scope C s0 H0 ex N') ifs c) (hi':X.N[i]? = some y:=by rfl) (hy:Loc X.env.scope y:=by first|exact Or.inl rfl|exact Or.inr rfl)
  (hf':X.fn y=true\/X.env.scope.names.lookup y=some .local:=by first|exact .inl rfl|exact .inr rfl|assumption) (hc:X.calm=true:=by rfl) (hs:X.env.scope=osc:=by rfl) (hN':X.N=N:=by rfl)
  (hsw:swapsWith (.ListComp elt [⟨.Name x px,iter,ifs,0⟩] scope pos) (some (.Name y py)) spos.line X.env=pure true:=by rfl) (hf:∀v,foldedSetIterable iter X.env v=pure v:=by intro _;rfl) :
  DS X (.Assign [.Name y py] (.ListComp elt [⟨.Name x px,iter,ifs,0⟩] scope pos) spos) (aE i (bJ it c f)):=by
 refine⟨?_⟩;subst hs hN';refine bZ (CD (wi:=qG X.K it) (tt:=liftT X.K c) (te:=lift X.K f) hc S hN hi' hy hf' hi.pe (fun C s0 H0 ex=>(he C s0 H0 ex).pe) (fun C s0 H0 ex=>(ht C s0 H0 ex).pe) hsw hf) fun D σ H=>?_;rintro⟨O₀,H₀,F,ts,O,ρ,T,fl,ρ',T',rs,e,q⟩;obtain⟨w,T1,e1,e⟩:=aM e;obtain⟨ds,T2,e2,e1⟩:=aM e1;obtain⟨ys,T3,e3,e1⟩:=aM e1;cases e1;cases e;refine⟨O,ts,ρ,T,ds,T2,rs.hc,rs.re,e2,fun J H1 s1 hc1 ok hz=>?_⟩;exact vF hc1 (rs.re.mono rs.hc s1) ok hz e3 fun vs H' s2 hc2 r2 p hp=>q O _ _ ((rs.step (s1.trans (s2.trans (.new hp _))) (hc2.new hp _)).set (hc2.newL hp r2) fun _ z=>nomatch z)
theorem hJ{i:Nat}{x:Str}{pos':Pos}{es:List Expr}{lpos:Pos}{g:FA}(hN:X.N.Nodup)(he:DA X es g)(hi:X.N[i]? = some x:=by rfl)(hx:Loc X.env.scope x:=by first|exact Or.inl rfl|exact Or.inr rfl)
  (hs:swapsWith (.List es lpos) (some (.Name x pos')) pos.line X.env=pure false:=by rfl) (hf:X.fn x=true\/X.env.scope.names.lookup x=some .local:=by first|exact .inl rfl|exact .inr rfl|assumption):DS X (.Assign [.Name x pos'] (.List es lpos) pos) (dj i g):=by
 refine⟨?_⟩;refine bZ (ia hN hi hx (qh he.pe) hs hf) fun D σ H=>?_;rintro⟨O₀,H₀,F,ts,O,ρ,T,fl,ρ',T',rs,e,q⟩;obtain⟨ws,T1,e1,e⟩:=aM e;refine⟨O,ts,ρ,T,ws,T1,rs.hc,rs.re,e1,fun vs H1 s1 hc1 r1=>?_⟩;split at e
 .rename_i xs h1
  split at e
  .rename_i h2
   cases e;have rv:=j3 r1 h1;exact⟨lW (by rw[rv.length];exact h2),fun p hp=>q _ _ _ ((rs.step s1 hc1).own hp rv)⟩
  .cases e
 .cases e
theorem aI{ce:Expr}{a b:List Stmt}(hc:DT X ce c)(ha:DSs X a f)(hb:DSs X b g):DS X (.If ce a b pos) (fIf c f g):=by
 refine⟨?_⟩;refine bZ (Gj hc.pe ha.pe hb.pe) fun D σ H=>?_;rintro⟨O₀,H₀,F,ts,O,ρ,T,fl,ρ',T',rs,e,q⟩;obtain⟨b1,T1,e1,e⟩:=aM e;refine⟨O,ts,ρ,T,b1,T1,rs.hc,rs.re,e1,fun H1 s1 hc1=>?_⟩
 cases b1 with
 |true=>exact f9 ⟨O₀,H₀,F,ts,O,ρ,T1,fl,ρ',T',rs.step s1 hc1,by simpa using e,q⟩
 |false=>exact gb ⟨O₀,H₀,F,ts,O,ρ,T1,fl,ρ',T',rs.step s1 hc1,by simpa using e,q⟩
theorem aC(he:DE X e fe):DS X (.Return (some e) pos) (ay fe):=by
 refine⟨?_⟩;refine bZ (Gk (vR he.pe)) fun D σ H=>?_;rintro⟨O₀,H₀,F,ts,O,ρ,T,fl,ρ',T',rs,e,q⟩;obtain⟨w,T1,e1,e⟩:=aM e;refine rs.frzG.imp fun H0 ⟨same,c0,re0⟩=>?_;refine⟨O₀,ts,bV ρ,T,w,T1,c0,re0,e1,fun v H1 s1 hc1 r1=>?_⟩
 cases w with
 |d x=>cases e;exact q v H1 (same.trans s1) hc1 r1
 |tp k=>cases e
 |loc xs=>cases e
theorem jg{i:Nat}{x:Str}{p apos:Pos}(he:DE X e fe)(hN:X.N[i]? = some x:=by rfl)(hv:Vis X.env.scope x:=by first|exact Or.inl rfl|exact Or.inr (Or.inl rfl)|exact Or.inr (Or.inr rfl))(hd:(x == ("__debug__" : Str))=false:=by decide)
  (hcd:(x == ("__classdict__" : Str))=false:=by decide) {cpos:Pos}
  (hbase:attributeBase (.Name x p) "append" X.env (eval (.Name x p) X.env)=eval (.Name x p) X.env:=by rfl)
  (hfew:((backTo cpos (starEach [e] X.env)).all (fun x=>!x.1)&&(backToKw cpos (keywordEach [] X.env)).all (fun x=>x.1.isSome)
   && decide (([e]:List Expr).length+([]:List Keyword).length+(if ([]:List Keyword).isEmpty then 0 else 1)<30))=true:=by exact nH rfl)
  (hline:(apos.endLine == cpos.line)=true:=by rfl) (hse:starEach [e] X.env=(false,eval e X.env)::starEach [] X.env:=by exact a9 rfl) (hplain:(backTo cpos (starEach [] X.env)).any (·.1)=false:=by exact bW rfl)
  (hs:swapsWith (.Call (.Attribute (.Name x p) "append" apos) [e] [] cpos) none pos.line X.env=pure false:=by rfl) :
  DS X (.Expr (.Call (.Attribute (.Name x p) "append" apos) [e] [] cpos) pos) (dO i fe):=by
 refine⟨?_⟩;refine bZ (pF (kq PySem.F.plainAttrs_list PySem.F.slot_list_append PySem.F.type_list_append Ao (pv i hN hv hd hcd) (cW he.pe dG hse) hbase hfew hline hse hplain) hs) fun D σ H=>?_;rintro⟨O₀,H₀,F,ts,O,ρ,T,fl,ρ',T',rs,e,q⟩;obtain⟨w,T1,e1,e⟩:=aM e;split at e
 .rename_i x0
  split at e
  .rename_i xs h1
   split at e
   .rename_i h2
    cases e;obtain⟨v,k1,a,rfl,k2,k3,vs,k4,k5⟩:=rs.re i _ h1;refine⟨_,k1,.inl ⟨rfl,vs,SqL.of k4⟩,O,ts,ρ,T,_,_,rs.hc,rs.re,e1,fun u H1 s1 hc1 r1=>?_⟩;have rs1:=rs.step s1 hc1;exact⟨a,vs,u,rfl,rfl,s1 _ _ k3 k4,by rw[k5.length];exact h2,q O _ _ (rs1.put (us:=[]) h1 k1 ((k5.mono (rs.hc.le s1)).append (.cons r1 .nil)))⟩
   .cases e
  .cases e
 .cases e
theorem wL{o k:Expr}{fo fk:FE}{tpos:Pos}(ho:DE X o fo)(hk:DE X k fk)(he:DE X e fe)(ha:∀v,assign (.Subscript o k tpos) X.env v=(do
   let ov ←holding [v] (eval o X.env)
   let iv ←holding [v,ov] (eval k X.env)
   standAt tpos
   holding [v,ov,iv] (setItem ov iv v)
   release [v,ov,iv] []):=by intro _;rfl)
  (hs:swapsWithSole [.Subscript o k tpos] e pos.line X.env=pure false:=by rfl) (hw:swappedStores [.Subscript o k tpos] e X.env=pure none:=by rfl)
  (h1:(assignEach [.Subscript o k tpos] X.env).map (·.2)=[assign (.Subscript o k tpos) X.env]:=by rfl):DS X (.Assign [.Subscript o k tpos] e pos) (kQ fo fk fe):=by
 refine⟨?_⟩;refine bZ (vS he.pe (EE ho.pe hk.pe set_list ha) hs hw h1) fun D σ H=>?_;rintro⟨O₀,H₀,F,ts,O,ρ,T,fl,ρ',T',rs,e,q⟩;obtain⟨w,T1,e1,e⟩:=aM e;obtain⟨wo,T2,e2,e⟩:=aM e;obtain⟨wk,T3,e3,e⟩:=aM e;refine⟨O,ts,ρ,T,w,T1,rs.hc,rs.re,e1,fun v H1 s1 hc1 r1=>?_⟩;have rs1:=rs.step s1 hc1;refine⟨O,ts,ρ,T1,wo,T2,hc1,rs1.re,e2,fun vo H2 s2 hc2 r2=>?_⟩;have rs2:=rs1.step s2 hc2;refine⟨O,ts,ρ,T2,wk,T3,hc2,rs2.re,e3,fun vk H3 s3 hc3 r3=>?_⟩;have rs3:=rs2.step s3 hc3;split at e
 .split at e
  .rename_i xs h1
   split at e
   .cases e
   .rename_i hn
    split at e
    .rename_i j h2
     cases e;obtain⟨a,k1,rfl⟩:=r2;cases (show Rep X.K O H3 vk (.int _) from r3);obtain⟨vs,k2,k3⟩:=(hc3.tape _ a xs k1 h1).lst (by simpa using hn);refine⟨a,vs,_,j,rfl,rfl,k2,by rw[k3.length];exact h2,q O _ _ (rs3.tape k1 (Reps.set ?_ j k3))⟩;exact Rep.mono ((hc1.le s2).trans (hc2.le s3)) r1
    .cases e
  .cases e
 .cases e
end
section
variable {K:Frag}{O₀:Addr->Prop}{H₀:Hp}{F:List ((Addr->Prop)×Hp)}{ts:List Addr}{O:Addr->Prop}{H H1:Hp}{σ:L2.St}{ρ:Rho}{T T1:Tp}
theorem RS.less{f:(Addr->Prop)×Hp}(r:RS K O₀ H₀ (f::F) ts O H σ ρ T):RS K O₀ H₀ F ts O H σ ρ T:=⟨r.hc,r.re,r.sub,r.ots,r.same,r.fresh,r.dist,fun f hf=>r.frs f (List.mem_cons_of_mem _ hf),r.len⟩
theorem RS.more(r:RS K O₀ H₀ F ts O H σ ρ T):RS K O₀ H₀ ((O,H)::F) ts O H σ ρ T:=⟨r.hc,r.re,r.sub,r.ots,r.same,r.fresh,r.dist,fun f hf=>by
 rcases List.mem_cons.mp hf with z|z
 .subst z;exact fun a o n e=>⟨n,e⟩
 .exact r.frs f z,r.len⟩
def frzAt(i:Nat)(ρ:Rho):Rho:=match ρ[i]? with
 |some (some (.loc x))=>ρ.set i (some (.d x))
 |_=>ρ
theorem RS.frzAt(i:Nat)(r:RS K O₀ H₀ F ts O H σ ρ T):Gh (fun H'=>∃O',RS K O₀ H₀ F ts O' H' σ (frzAt i ρ) T) H:=by
 unfold D.frzAt;split
 .rename_i xs h1
  by_cases hd:∃ds,xs=.dict ds
  .obtain⟨ds,rfl⟩:=hd
   obtain⟨a,kvs,e1,f⟩:=r.frzD h1;exact .frz e1 fun o=>.done ⟨_,f o⟩
  refine .done ?_;obtain⟨v,k1,a,rfl,k2,k3,k4⟩:=r.re i _ h1;have hl:i<ρ.length:=(List.getElem?_eq_some_iff.mp h1).1;have le:Le O H (fun b=>O b/\b≠a) H:=fun b o n e=>⟨fun z=>n z.1,e⟩;have fr:=r.fresh i xs a h1 k1
  have hw:∀ys,W.d xs≠.loc ys:=fun _ z=>nomatch z
  refine⟨fun b=>O b/\b≠a,⟨fun b hb=>⟨r.hc.own b hb,fun z=>k3 (z ▸ hb)⟩,fun b hb=>r.hc.trk b hb.1,r.hc.nd,r.hc.len,fun j b ys e1 e2=>?_⟩,fun j w e=>?_,fun b hb=>⟨r.sub b hb,fun z=>fr.2 (z ▸ hb)⟩,r.ots,r.same,fun j ys b e1 e2=>?_,fun j k ys zs v e1 e2 e3 e4=>?_,fun f hf=>(r.frs f hf).trans le,by simp[r.len]⟩
  .exact(r.hc.tape j b ys e1 e2).mono (fun _ h=>h) le
  .by_cases z:i=j
   .subst z
    rw[List.getElem?_set_self hl] at e;cases e;refine⟨.ref a,k1,?_⟩
    cases xs with
    |list xs=>obtain⟨vs,k4,k5⟩:=k4;exact .lst (.inl ⟨fun z=>z.2 rfl,.inl k4⟩) (k5.mono le)
    |dict xs=>exact absurd ⟨xs,rfl⟩ hd
    |_=>cases k4
   .rw[List.getElem?_set_ne z] at e
    obtain⟨x,q1,q2⟩:=r.re j w e;refine⟨x,q1,?_⟩
    cases w with
    |d y=>exact Rep.mono le q2
    |tp k=>exact q2
    |loc ys=>
     obtain⟨b,eb,m1,m2,m3⟩:=q2;refine⟨b,eb,⟨m1,fun q=>z (r.dist i j xs ys (.ref a) h1 e k1 (by rw[q1,eb,q]))⟩,m2,m3.mono (fun _ q=>q) le⟩
  .obtain⟨n,e⟩:=dW hw e1
   exact r.fresh j ys b e e2
  .obtain⟨n1,e1⟩:=dW hw e1
   obtain⟨n2,e2⟩:=dW hw e2;exact r.dist j k ys zs v e1 e2 e3 e4
 .exact .done ⟨O,r⟩
end
def nJ(i:Nat)(f:FS):FS:=fun ρ T=>f (frzAt i ρ) T
section
variable {X:Cx}{pos:Pos}{st:Stmt}{rest:List Stmt}{f g:FS}{e:Expr}{fe:FE}{c:FT}
theorem DF(i:Nat)(h:DSs X rest f):DSs X rest (nJ i f):=by
 refine⟨?_⟩;refine lT (EC h.pe) fun D σ H=>?_;rintro⟨O₀,H₀,F,ts,O,ρ,T,fl,ρ',T',rs,e,q⟩;exact(rs.frzAt i).imp fun H' ⟨O',rs'⟩=>⟨O₀,H₀,F,ts,O',_,T,fl,ρ',T',rs',e,q⟩
theorem dH{i:Nat}{x:Str}{iter:Expr}{body:List Stmt}{tpos:Pos}{it:FI}(hN:X.N.Nodup)(hi:DI X (.Name x tpos) iter it)(hb:DSs X body f)(hix:X.N[i]? = some x:=by rfl)(hx:Loc X.env.scope x:=by first|exact Or.inl rfl|exact Or.inr rfl)
  (hf:X.fn x=true\/X.env.scope.names.lookup x=some .local:=by first|exact .inl rfl|exact .inr rfl|assumption) (hp:PassesOwn (model X.prog X.w) X.A X.env X.xe:=by exact PassesOwn.never) (hc:X.calm=true:=by rfl)
  (hs:∀x,foldedSetIterable iter X.env x=pure x:=by intro _;rfl):DS X (.For (.Name x tpos) iter body [] pos) (bD i it f):=by
 refine⟨?_⟩;refine bZ (mE hp hc hi.pe (fQ hN hix hx hf) hb.pe hs) fun D σ H=>?_;rintro⟨O₀,H₀,F,ts,O,ρ,T,fl,ρ',T',rs,e,q⟩;obtain⟨ds,T1,e1,e⟩:=aM e;refine⟨O,ts,ρ,T,ds,T1,rs.hc,rs.re,e1,fun J H1 s1 hc1 ok hz=>?_⟩;refine⟨fun k m σ H=>m=ds.length-k/\k<=ds.length/\∃O' ρk Tk,RS X.K O₀ H₀ ((O,H1)::F) ts O' H σ ρk Tk/\forL i f (ds.drop k) ρk Tk=some ((fl,ρ'),T'),⟨_,rfl,Nat.zero_le _,O,ρ,T1,(rs.step s1 hc1).more,e⟩,?_⟩;rintro k m σ2 H2 ⟨rfl,hk,O',ρk,Tk,rs2,ek⟩;obtain⟨k1,k2,k3⟩:=ok O' H2 (rs2.frs _ List.mem_cons_self)
 by_cases hlt:k<ds.length
 .refine .inr ⟨k1 k hlt,fun σ3 H3=>∃O' ρk Tk,RS X.K O₀ H₀ ((O,H1)::F) ts O' H3 σ3 ρk Tk/\forL i f (ds.drop (k+1)) ρk Tk=some ((fl,ρ'),T'),fun σ3 H3 n=>⟨ds.length-(k+1),by omega,rfl,hlt,n⟩,fun v H3 y=>?_⟩
  obtain⟨e2,d,hd,rd⟩:=k3 k v H3 y hlt;subst e2
  have hdr:ds.drop k=d::ds.drop (k+1):=by
   rw[List.drop_eq_getElem_cons hlt];have:=(List.getElem?_eq_some_iff.mp hd).2;rw[this]
  rw[hdr] at ek;obtain⟨⟨fl1,ρ1⟩,T3,e3,ek⟩:=aM ek;refine⟨O₀,H₀,(O,H1)::F,ts,O',_,Tk,fl1,ρ1,T3,rs2.set (i:=i) (w:=.d d) rd (fun _ z=>nomatch z),e3,?_⟩
  cases fl1 with
  |nx=>exact fun O3 σ3 H3 rs3=>⟨O3,ρ1,T3,rs3,ek⟩
  |ct=>exact fun O3 σ3 H3 rs3=>⟨O3,ρ1,T3,rs3,ek⟩
  |bk=>
   cases ek;exact fun O3 σ3 H3 rs3=>q O3 σ3 H3 rs3.less
  |rt x=>
   cases ek;exact q
  |ro x=>
   cases ek;exact q
 .have e:k=ds.length:=by omega
  subst e;rw[List.drop_eq_nil_of_le (Nat.le_refl _)] at ek;cases ek;exact .inl ⟨k2,q O' σ2 H2 rs2.less⟩
theorem lJ{ce:Expr}{body:List Stmt}(n:Nat)(hc:DT X ce c)(hb:DSs X body f)(hp:PassesOwn (model X.prog X.w) X.A X.env X.xe:=by exact PassesOwn.never):DS X (.While ce body [] pos) (bS c f n):=by
 refine⟨?_⟩;refine bZ (Bg hp hc.pe hb.pe) fun D σ H=>?_;rintro⟨O₀,H₀,F,ts,O,ρ,T,fl,ρ',T',rs,e,q⟩;refine⟨fun m σ H=>∃O' ρm Tm,RS X.K O₀ H₀ F ts O' H σ ρm Tm/\bS c f m ρm Tm=some ((fl,ρ'),T'),⟨n,O,ρ,T,rs,e⟩,?_⟩;rintro m σ2 H2 ⟨O',ρm,Tm,rs2,em⟩
 cases m with
 |zero=>cases em
 |succ m=>
  obtain⟨b,T3,e3,em⟩:=aM em;refine⟨O',ts,ρm,Tm,b,T3,rs2.hc,rs2.re,e3,fun H3 s3 hc3=>?_⟩;have rs3:=rs2.step s3 hc3
  cases b with
  |false=>
   rw[if_neg Bool.false_ne_true] at em;cases em;exact gb (q O' σ2 H3 rs3)
  |true=>
   rw[if_pos rfl] at em;obtain⟨⟨fl1,ρ1⟩,T4,e4,em⟩:=aM em;refine f9 ⟨fun σ3 H3=>∃O' ρm Tm,RS X.K O₀ H₀ F ts O' H3 σ3 ρm Tm/\bS c f m ρm Tm=some ((fl,ρ'),T'),fun σ3 H3 n=>⟨m,Nat.lt_succ_self m,n⟩,O₀,H₀,F,ts,O',ρm,T3,fl1,ρ1,T4,rs3,e4,?_⟩
   cases fl1 with
   |nx=>exact fun O3 σ3 H3 rs3=>⟨O3,ρ1,T4,rs3,em⟩
   |ct=>exact fun O3 σ3 H3 rs3=>⟨O3,ρ1,T4,rs3,em⟩
   |bk=>
    cases em;exact fun O3 σ3 H3 rs3=>q O3 σ3 H3 rs3
   |rt x=>
    cases em;exact q
   |ro x=>
    cases em;exact q
end
abbrev FnM:=List W->Tp->Option (PyData×Tp)
def dy:List W->Bool
 |[]=>true
 |.loc _::_=>false
 |_::r=>dy r
def dI(o:Option ((Fl×Rho)×Tp)):Option (PyData×Tp):=bnd o fun p T=>match p with
 |(.rt x,_)=>some (x,T)
 |(.nx,_)=>some (.none,T)
 |_=>none
def aO(N:Nat)(f:FS):FnM:=fun ws T=>if dy ws=true then dI (f (ws.map some++List.replicate (N-ws.length) none) T) else none
inductive SpMP(K:Frag)(n:Nat)(m:FnM)(vs:List V)(H:Hp)(Q:VK):Prop where
 |mk (O:Addr->Prop) (ts:List Addr) (T:Tp) (ws:List W) (x:PyData) (T':Tp) (hc:HC K O ts H T) (r:fY K O ts H vs ws) (hl:ws.length=n) (e:m ws T=some (x,T')) (q:∀v H',SameX ts H H'->HC K O ts H' T'->Rep K O H' v x->Q v H'):SpMP K n m vs H Q
def spM(K:Frag)(n:Nat)(m:FnM):Sp:=fun vs H Q _=>SpMP K n m vs H Q
theorem om{K:Frag}{O:Addr->Prop}{ts:List Addr}{H:Hp}:∀{vs:List V}{ws:List W}{i:Nat}{w:W},fY K O ts H vs ws->ws[i]? = some w->∃v,vs[i]? = some v/\RepW K O ts H v w
 |_,_,_,_,.nil,e=>by simp at e
 |_,_,0,_,.cons r _,e=>by simp at e;subst e;exact⟨_,rfl,r⟩
 |_,_,i+1,w,.cons _ t,e=>by
  obtain⟨d,h1,h2⟩:=om (i:=i) (w:=w) t (by simpa using e);exact⟨d,by simpa using h1,h2⟩
theorem lw:∀{ws:List W}{xs:PyData},dy ws=true->W.loc xs∉ws
 |[],_,_,h=>by cases h
 |.loc _::_,_,e,_=>by cases e
 |.d _::r,_,e,h=>by
  rcases List.mem_cons.mp h with z|z
  .cases z
  .exact lw (ws:=r) e z
 |.tp _::r,_,e,h=>by
  rcases List.mem_cons.mp h with z|z
  .cases z
  .exact lw (ws:=r) e z
theorem lh{ws:List W}{n i:Nat}{w:W}(e:(ws.map some++List.replicate n none)[i]? = some (some w)):ws[i]? = some w:=by
 by_cases h:i<ws.length
 .rw[List.getElem?_append_left (by simpa using h),List.getElem?_map] at e
  cases q:ws[i]? with
  |none=>rw[q] at e;cases e
  |some u=>rw[q] at e;cases e;rfl
 .rw[List.getElem?_append_right (by simpa using h)] at e
  have:=List.mem_of_getElem? e;rw[List.mem_replicate] at this;cases this.2
theorem dfn{P:Program}{w:World}{K:Frag}{mg:Str->Option Value}{base:Heap}{x qual:Str}{st:Stmt}{f:Addr}{fd:FuncData}{N ps:List Str}{k:Nat}{m:FS}(F:Fun K x qual st f fd)(S:FnScope N ps (bf st))
  (hbody:∀(cdv:Value) (A:Around) (outer:List Env) (s:Shared) (H:Hp) (E:XK),Room k (A.deeper (envOfC qual (bf st) s.heap.objs.size f cdv))->DSs (eX CX0 P w K mg base N qual (bf st) f cdv A outer s H E).nox (cx st) m) :
  FnOk P w K mg base CX0 (k+1) f fd ps (spM K ps.length (aO N.length m)):=by
 refine F.ok S (fun vs H Q E h=>?_) (fun cdv A outer s H vs Q E hr h=>⟨_,(hbody cdv A outer s H E hr).pe,?_⟩)
 .obtain⟨O,ts,T,ws,x,T',hc,rw',hl,_⟩:=h
  rw[←hl];exact Paired.length rw'
 obtain⟨O,ts,T,ws,x,T',hc,rw',hl,e,q⟩:=h;unfold aO at e;split at e
 .rename_i hn
  obtain⟨⟨fl,ρ'⟩,T1,e1,e⟩:=aM e;have hlen:vs.length=ws.length:=Paired.length rw';have noL:∀{i:Nat}{xs:PyData},(ws.map some++List.replicate (N.length-ws.length) none)[i]? = some (some (W.loc xs))->False:=fun {i xs} e=>lw hn (List.mem_of_getElem? (lh e));refine⟨O,H,[],ts,O,_,T,fl,ρ',T1,⟨hc,fun i u e=>?_,fun _ h=>h,hc.own,.refl _ _,fun i xs a e1 _=>(noL e1).elim,fun i j xs ys v e1 _ _ _=>(noL e1).elim,fun f hf=>absurd hf (by simp),by simp[L2.start,hlen]⟩,e1,?_⟩
  .obtain⟨v,h1,h2⟩:=om rw' (lh e)
   refine⟨v,?_,h2⟩;unfold L2.start;have hi:i<vs.length:=(List.getElem?_eq_some_iff.mp h1).1;rw[List.getElem?_append_left (by simpa using hi),List.getElem?_map,h1];rfl
  .cases fl with
   |rt y=>cases e;exact fun v H' s1 c1 r1=>q v H' s1 c1 r1
   |nx=>
    cases e;exact fun O' σ' H' rs=>q _ _ rs.same rs.frzH .non
   |bk=>cases e
   |ct=>cases e
   |ro y=>cases e
 .cases e
def aq(m:FnM)(g:FA):FE:=fun ρ T=>bnd (g ρ T) fun ws T1=>bnd (m ws T1) fun x T2=>some (.d x,T2)
def gO(g:FA)(n:Nat):Prop:=∀ρ T ws T',g ρ T=some (ws,T')->ws.length=n
theorem cq:gO ah 0:=fun ρ T ws T' e=>by cases e;rfl
theorem a8{f:FE}{g:FA}{n:Nat}(h:gO g n):gO (ae f g) (n+1):=fun ρ T ws T' e=>by
 obtain⟨w1,T1,e1,e⟩:=aM e;obtain⟨ws,T2,e2,e⟩:=aM e;cases e;rw[List.length_cons,h _ _ _ _ e2]
theorem j8{X:Cx}{name:Str}{ps:List Str}{k:Nat}{m:FnM}{e:Expr}{es:List Expr}{g:FA}{p pos:Pos}(F:Fn X.prog X.w X.K X.mg X.base name ps k (spM X.K ps.length m))(hr:Room k X.A)(hg:Gl X name)(ha:DA X (e::es) g)(hl:gO g ps.length)(hdb:(name == ("__debug__" : Str))=false:=by decide)
  (he:starEach (e::es) X.env=(false,eval e X.env)::starEach es X.env:=by exact a9 rfl) (hpl:(backTo pos (starEach es X.env)).any (·.1)=false:=by exact bW rfl):DE X (.Call (.Name name p) (e::es) [] pos) (aq m g):=by
 refine⟨?_⟩;refine bu (ko F hr hg ha.pe hdb he hpl) fun σ H Q=>?_;rintro⟨O,ts,ρ,T,w,T',hc,re,e,q⟩;obtain⟨ws,T1,e1,e⟩:=aM e;obtain⟨x,T2,e2,e⟩:=aM e;cases e;refine⟨O,ts,ρ,T,ws,T1,hc,re,e1,fun vs H1 s1 hc1 r1=>?_⟩;refine⟨O,ts,T1,ws,x,_,hc1,by rw[List.append_nil];exact r1,hl _ _ _ _ e1,e2,fun v H2 s2 hc2 r2=>q v H2 (s1.trans s2) hc2 r2⟩
noncomputable def iop(g:Int->Int->Option PyData):PyData->PyData->Option PyData
 |.int i,.int j=>g i j
 |_,_=>none
def eS:PyData->PyData->Option PyData:=iop fun i j=>some (.int (i-j))
def fZ:PyData->PyData->Option PyData:=iop fun i j=>if 0<j then some (.int (i % j)) else none
def G5:PyData->PyData->Option PyData:=iop fun i j=>if 0<j/\j<1073741824 then some (.int (i / j)) else none
def eU:PyData->PyData->Option PyData:=iop fun i j=>if 0<=j/\j<=1000000/\i.natAbs<2^64 then some (.int (i^j.toNat)) else none
def ltD:PyData->PyData->Option PyData:=iop fun i j=>some (.bool (decide (i<j)))
def leD:PyData->PyData->Option PyData:=iop fun i j=>some (.bool (decide (i<=j)))
def gtD:PyData->PyData->Option PyData:=iop fun i j=>some (.bool (decide (j<i)))
def geD:PyData->PyData->Option PyData:=iop fun i j=>some (.bool (decide (j<=i)))
theorem wj{g:Int->Int->Option PyData}{x y d:PyData}(e:iop g x y=some d):∃i j,x=.int i/\y=.int j/\g i j=some d:=by
 unfold iop at e;split at e
 .exact⟨_,_,rfl,rfl,e⟩
 .cases e
theorem qf{K:Frag}{C:Int->Int->Prop}{g:Int->Int->V}{gd:Int->Int->Option PyData}(h:∀i j d,gd i j=some d->C i j/\∀O H,Rep K O H (g i j) d):gN K (rI C g) (iop gd):=fun O ts H T v1 v2 x y d Q hc h1 h2 e q=>by
 obtain⟨i,j,rfl,rfl,e⟩:=wj e;obtain⟨c,r⟩:=h i j d e;exact⟨i,j,h1.int,h2.int,c,q _ H (.refl _ _) hc (r O H)⟩
theorem j4{K:Frag}{g:Int->Int->V}{gd:Int->Int->Option PyData}(h:∀i j d,gd i j=some d->∀O H,Rep K O H (g i j) d):gN K (rI0 g) (iop gd):=fun O ts H T v1 v2 x y d Q hc h1 h2 e q=>by
 obtain⟨i,j,rfl,rfl,e⟩:=wj e;exact⟨i,j,h1.int,h2.int,q _ H (.refl _ _) hc (h i j d e O H)⟩
section
variable {X:Cx}
theorem iA:OpD X (binaryOp .Sub) eS:=⟨_,EN,j4 fun i j d e O H=>by cases e;exact .int _⟩
theorem iB:OpD X (binaryOp .Mod) fZ:=⟨_,ER,qf fun i j d e=>by
 split at e
 .rename_i h;cases e;exact⟨h,fun _ _=>.int _⟩
 .cases e⟩
theorem jm:OpD X (binaryOp .Pow) eU:=⟨_,EO,qf fun i j d e=>by
 split at e
 .rename_i h;cases e;exact⟨h,fun _ _=>.int _⟩
 .cases e⟩
theorem dA:OpD X (compareOp .Lt) ltD:=⟨_,Gx,j4 fun i j d e O H=>by cases e;exact .bl _⟩
theorem dN:OpD X (compareOp .LtE) leD:=⟨_,Gy,j4 fun i j d e O H=>by cases e;exact .bl _⟩
theorem gJ:OpD X (compareOp .Gt) gtD:=⟨_,Gz,j4 fun i j d e O H=>by cases e;exact .bl _⟩
theorem HE:OpD X (compareOp .GtE) geD:=⟨_,GA,j4 fun i j d e O H=>by cases e;exact .bl _⟩
def aT:PyData->PyData->Option PyData
 |.int i,.int j=>some (.int (i+j))
 |.str x,.str y=>if x.length+y.length<=sizeLine then some (.str (x++y)) else none
 |.tuple xs,.tuple ys=>if xs.length+ys.length<=sizeLine then some (.tuple (xs++ys)) else none
 |.list xs,.list ys=>if xs.length+ys.length<=sizeLine then some (.list (xs++ys)) else none
 |_,_=>none
def Gg(K:Frag):R2:=fun x y H Q=>∃l b xs zs,x=.ref l/\y=.ref b/\SqL K H l xs/\SqL K H b zs/\xs.length+zs.length<=sizeLine/\∀p,H p=none->Q (.ref p) (upd H p (.lst (xs++zs)))
theorem uM:OpR X (binaryOp .Add) (Gg X.K):=by
 intro pins s σ H x y v u Q I rx ry h;obtain⟨l,b,xs,zs,rfl,rfl,hH,hB,hz,q⟩:=h;cases rx;cases ry;obtain⟨its,r,p1,_⟩:=I.list hH;obtain⟨its2,r2,p2,_⟩:=I.list hB;have hl:=r.length;have hl2:=r2.length;obtain⟨⟨cls,dd,data,sl⟩,ho,hc,n,hd⟩:=id p1.isList;obtain⟨⟨cls2,dd2,data2,sl2⟩,ho2,hc2,n2,hd2⟩:=id p2.isList;simp only at hc hd hc2 hd2;subst hc hd hc2 hd2
 have ea:its.toArray++its2.toArray=(its++its2).toArray:=by simp
 refine concat_meets ⟨_,ho,rfl⟩ ⟨_,ho2,rfl⟩ noFill_list_add seq_list_add PySem.F.slot_list_add PySem.F.entry_list_add (PySem.F.args_list_add_2 _ _) (list_addW l b its.toArray its2.toArray n n2 dd dd2 sl sl2 (by rw[List.size_toArray,List.size_toArray];omega)) ⟨ho,ho2,?_⟩;rw[ea];exact⟨.ref _,_,I.lnew (t':=s.toks) (r.append r2) (by rw[List.length_append];omega),rfl,q _ I.fresh⟩
theorem bo:OpD X (binaryOp .Add) aT:=by
 refine⟨_,op_add.or (op_add_str.or (op_catG.or uM)),fun O ts H T v1 v2 x y d Q hc h1 h2 e q=>?_⟩;unfold aT at e;split at e
 .cases e
  exact .inl ⟨_,_,h1.int,h2.int,q _ H (.refl _ _) hc (.int _)⟩
 .split at e
  .rename_i hz
   cases e;exact .inr (.inl ⟨_,_,h1.str,h2.str,hz,q _ H (.refl _ _) hc (.str _)⟩)
  .cases e
 .split at e
  .rename_i xs ys hz
   cases e;obtain⟨a,vs,rfl,t1,r1⟩:=h1.tup;obtain⟨b,us,rfl,t2,r2⟩:=h2.tup;refine .inr (.inr (.inl ⟨a,b,vs,us,rfl,rfl,t1.sq,t2.sq,by rw[r1.length,r2.length];exact hz,fun z=>?_,fun _ z=>?_,fun _ _ p hp=>?_⟩))
   .subst z
    cases r1;exact q _ H (.refl _ _) hc (.tup t2 r2)
   .subst z
    cases r2;rw[List.append_nil] at q;exact q _ H (.refl _ _) hc (.tup t1 r1)
   .exact q _ _ (.new hp _) (hc.new hp _) (hc.newT hp (r1.append r2))
  .cases e
 .split at e
  .rename_i xs ys hz
   cases e;obtain⟨a,vs,rfl,t1,r1⟩:=h1.lst;obtain⟨b,us,rfl,t2,r2⟩:=h2.lst;exact .inr (.inr (.inr ⟨a,b,vs,us,rfl,rfl,t1,t2,by rw[r1.length,r2.length];exact hz,fun p hp=>q _ _ (.new hp _) (hc.new hp _) (hc.newL hp (r1.append r2))⟩))
  .cases e
 .cases e
theorem yC:fillsNumberSlot (.type "tuple") "mul"=pure false:=PySem.fillsNumberSlot_seq (id:="tuple.__mul__") (r:=some (.builtin "tuple.__rmul__")) PySem.F.slot_tuple_mul.lookup (by decide +kernel) PySem.F.slot_tuple_rmul.lookup (by decide +kernel)
theorem y8:seqRepeat? (.type "tuple")=pure (some (.builtin "tuple.__mul__")):=by
 unfold seqRepeat?;rw[PySem.seqSlot_of (T:="tuple") (name:="__mul__") (id:="tuple.__mul__") PySem.F.slot_tuple_mul.lookup (by decide +kernel),PySem.seqSlot_of (T:="tuple") (name:="__rmul__") (id:="tuple.__rmul__") PySem.F.slot_tuple_rmul.lookup (by decide +kernel)];rfl
theorem yK(a:Int)(t:Tok)(l:Addr)(items:Array Value)(n:Nat)(dd:Option Addr)(sl:Array (Option Value)) :
  Meets (Builtin.«int.__rmul__» ⟨[.int a t,.ref l],[]⟩) (fun _ R s=>s.heap.get? l=some { cls:=.type "tuple",dict:=dd,data:=.seq items n,slots:=sl }/\R (.ok (.ret Value.notImplemented)) s):=.of_wp fun prog w A R s h=>by obtain⟨hp,g,d,tk,os⟩:=s;obtain⟨hl,h⟩:=h;wp_walk;exact⟨_,rfl,h⟩
theorem zF(l:Addr)(items:Array Value)(n:Nat)(dd:Option Addr)(sl:Array (Option Value))(k:Int)(t:Tok)(h1:2<=k)(h2:k<=1000)(h3:items.isEmpty=false)(h4:items.size<=1000) :
  Meets (Builtin.«tuple.__mul__» ⟨[.ref l,.int k t],[]⟩) (fun _ R s=>s.heap.get? l=some { cls:=.type "tuple",dict:=dd,data:=.seq items n,slots:=sl }/\R (.ok (.ret (Value.ref s.heap.objs.size))) { s with heap:=s.heap.push { cls:=Value.type "tuple",data:=Data.seq (List.foldl (fun x1 x2=>x1++x2) #[] (List.replicate k.toNat items)) },toks:=s.toks }):=
 .of_wp fun prog w A R s h=>by
  obtain⟨hp,g,d,tk,os⟩:=s;obtain⟨hl,h⟩:=h
  have hc0:¬(decide (k < -(2^63))||decide (k>=2^63))=true:=by simp;omega
  have hc1:¬(items.isEmpty||k == 1)=true:=by rw[h3];simp;omega
  have hc2:¬(decide (k<=0)||items.isEmpty)=true:=by rw[h3];simp;omega
  have hm:items.size*k.toNat<=1000*1000:=Nat.mul_le_mul h4 (by omega)
  have hm':(items.size:Int)*k<=1000000:=by
   have e:((items.size*k.toNat:Nat):Int)=(items.size:Int)*k:=by rw[Int.natCast_mul,Int.toNat_of_nonneg (by omega)]
   omega
  have hc3:¬(items.size:Int)*k>(2^63-1) / 8:=by
   have:(1000000:Int)<=(2^63-1) / 8:=by decide
   omega
  have hc4:¬Builtin.Tuple.tupleTooMany ((items.size:Int)*k)=true:=by
   unfold Builtin.Tuple.tupleTooMany
   have:sizeLine=16777216:=by decide
   simp;omega
  have ht:IsTup hp l items:=⟨_,hl,rfl,n,rfl⟩;wp_walk;rw[if_neg hc0];dsimp only;refine wpAny_bind (tupleItemsOf_ ht ?_);rw[if_neg hc1,if_neg hc2,if_neg hc3,if_neg hc4]
  have fit:sizeOk (.seq (List.foldl (fun x1 x2=>x1++x2) #[] (List.replicate k.toNat items))):=by
   show (List.foldl (fun x1 x2=>x1++x2) #[] (List.replicate k.toNat items)).size<=sizeLine;have q:=foldl_rep items.toList k.toNat [];rw[List.nil_append] at q
   have q':List.foldl (fun x1 x2=>x1++x2) #[] (List.replicate k.toNat items)=(List.replicate k.toNat items.toList).flatten.toArray:=by simpa using q
   rw[q',List.size_toArray,len_rep]
   have:sizeLine=16777216:=by decide
   rw[Array.length_toList,Nat.mul_comm];omega
  first
  |exact wpAny_bind (m:=Builtin.Tuple.tupleExact _) (wpAny_newObj_type (wpAny_pure ⟨_,rfl,h⟩) fit)
  |exact wpAny_bind (m:=Builtin.Tuple.tupleExact _) (wpAny_newObj_type (wpAny_bind (wpAny_pure (wpAny_pure ⟨_,rfl,h⟩))) fit)
theorem CO:OpR X (binaryOp .Mult) (fun x y H Q=>∃a k xs,x=.ref a/\y=.int k/\SqT X.K H a xs/\2<=k/\k<=1000/\xs≠[]/\xs.length<=1000/\∀p,H p=none->Q (.ref p) (upd H p (.tup (List.replicate k.toNat xs).flatten))):=by
 intro pins s σ H x y v u Q I rx ry h;obtain⟨a,k,xs,rfl,rfl,hq,h1,h2,h3,h4,q⟩:=h;cases rx;obtain⟨t,rfl⟩:=ry;obtain⟨its,r,p1,_⟩:=I.tuple hq;have hl:=r.length;have hv:its≠[]:=fun z=>h3 (r.nil_iff.mp z);obtain⟨⟨cls,dd,data,sl⟩,ho,hc,n,hd⟩:=id p1;simp only at hc hd;subst hc hd
 have hnew:List.foldl (fun x1 x2=>x1++x2) #[] (List.replicate k.toNat its.toArray)=(List.replicate k.toNat its).flatten.toArray:=by
  have q:=foldl_rep its k.toNat [];rw[List.nil_append] at q;exact q
 have he:its.toArray.isEmpty=false:=by
  cases its with
  |nil=>exact absurd rfl hv
  |cons _ _=>simp
 refine wpAny_binaryOp_repeat_ref (T:="tuple") (U:="int") (by decide) ⟨_,ho,rfl⟩ (fun s'=>typeIs_int s' k t) yC F.fills_int_mul F.slot_int_rmul y8 F.slot_int_index.lookup
  (call_meets F.slot_int_rmul (typeIs_int s k t) F.entry_int_rmul (F.args_int_rmul_2 _ _) (yK k t a its.toArray n dd sl)
   ⟨ho,rfl,⟨_,ho,rfl⟩,call_meets PySem.F.slot_tuple_mul ⟨_,ho,rfl⟩ PySem.F.entry_tuple_mul (PySem.F.args_tuple_mul_2 _ _) (zF a its.toArray n dd sl k t h1 h2 he (by rw[List.size_toArray];omega)) ⟨ho,?_⟩⟩)
 rw[hnew];refine⟨.ref s.heap.objs.size,_,I.laid (t':=s.toks) (o:=.tup (List.replicate k.toNat xs).flatten) (fun b ob q=>Heap.get?_push_of_some _ q) (Nat.le_refl _) ?_,rfl,q _ (I.hok.fresh (Nat.le_refl _))⟩;refine⟨?_,_,r.rep k.toNat,IsTup.new _ _⟩;rw[len_rep];have:k.toNat*xs.length<=1000*1000:=Nat.mul_le_mul (by omega) h4
 have:sizeLine=16777216:=by decide
 omega
def d9:PyData->PyData->Option PyData
 |.int i,.int j=>if (-(2^64)<i/\i<2^64)\/(-(2^64)<j/\j<2^64) then some (.int (i*j)) else none
 |.str z,.int k=>if 0<=k/\k<=2000/\z.length<=1000 then some (.str (Txt.mul z k)) else none
 |.tuple xs,.int k=>if 2<=k/\k<=1000/\xs.isEmpty=false/\xs.length<=1000 then some (.tuple (List.replicate k.toNat xs).flatten) else none
 |_,_=>none
theorem jn:OpD X (binaryOp .Mult) d9:=by
 refine⟨_,op_mul.or (op_mulS.or CO),fun O ts H T v1 v2 x y d Q hc h1 h2 e q=>?_⟩;unfold d9 at e;split at e
 .split at e
  .rename_i hz
   cases e;exact .inl ⟨_,_,h1.int,h2.int,hz,q _ H (.refl _ _) hc (.int _)⟩
  .cases e
 .split at e
  .rename_i hz
   cases e;exact .inr (.inl ⟨_,_,h1.str,h2.int,hz.1,hz.2.1,hz.2.2,q _ H (.refl _ _) hc (.str _)⟩)
  .cases e
 .split at e
  .rename_i xs k hz
   cases e;obtain⟨a,vs,rfl,t1,r1⟩:=h1.tup;exact .inr (.inr ⟨a,_,vs,rfl,h2.int,t1.sq,hz.1,hz.2.1,fun z=>by subst z;cases r1;exact absurd hz.2.2.1 (by simp),by rw[r1.length];exact hz.2.2.2,fun p hp=>q _ _ (.new hp _) (hc.new hp _) (hc.newT hp (r1.rep _))⟩)
  .cases e
 .cases e
def eqS:PyData->PyData->Option Bool
 |.int i,.int j=>some (decide (i=j))
 |.str x,.str y=>some (decide (x=y))
 |.bool a,.bool b=>some (decide (a=b))
 |.none,.none=>some true
 |.none,.int _=>some false | .int _,.none=>some false | .none,.bool _=>some false | .bool _,.none=>some false | .none,.str _=>some false | .str _,.none=>some false
 |.int _,.str _=>some false | .str _,.int _=>some false | .bool _,.str _=>some false | .str _,.bool _=>some false
 |_,_=>none
theorem wJ{K:Frag}{O:Addr->Prop}{H:Hp}{v1 v2:V}{x y:PyData}{b:Bool}(h1:Vw K O H v1 x)(h2:Vw K O H v2 y)(e:eqS x y=some b):qV v1 v2=true/\decide (v1=v2)=b:=by
 unfold eqS at e;split at e
 all_goals first|(cases e;done)|skip
 .cases h1.int;cases h2.int;cases e;exact⟨rfl,by simp⟩
 .cases h1.str;cases h2.str;cases e;exact⟨rfl,by simp⟩
 .cases h1.bl;cases h2.bl;cases e;exact⟨rfl,by simp⟩
 .cases h1.non;cases h2.non;cases e;exact⟨rfl,by simp⟩
 .cases h1.non;cases h2.int;cases e;exact⟨rfl,by simp⟩
 .cases h1.int;cases h2.non;cases e;exact⟨rfl,by simp⟩
 .cases h1.non;cases h2.bl;cases e;exact⟨rfl,by simp⟩
 .cases h1.bl;cases h2.non;cases e;exact⟨rfl,by simp⟩
 .cases h1.non;cases h2.str;cases e;exact⟨rfl,by simp⟩
 .cases h1.str;cases h2.non;cases e;exact⟨rfl,by simp⟩
 .cases h1.int;cases h2.str;cases e;exact⟨rfl,by simp⟩
 .cases h1.str;cases h2.int;cases e;exact⟨rfl,by simp⟩
 .cases h1.bl;cases h2.str;cases e;exact⟨rfl,by simp⟩
 .cases h1.str;cases h2.bl;cases e;exact⟨rfl,by simp⟩
def eqD(x y:PyData):Option PyData:=(eqS x y).map .bool
def neD(x y:PyData):Option PyData:=(eqS x y).map fun b=>.bool (!b)
theorem aU:OpD X (compareOp .Eq) eqD:=⟨_,GB,fun O ts H T v1 v2 x y d Q hc h1 h2 e q=>by
 unfold eqD at e;obtain⟨b,e1,rfl⟩:=Option.map_eq_some_iff.mp e;obtain⟨k1,k2⟩:=wJ h1 h2 e1
 exact⟨k1,by rw[k2];exact q _ H (.refl _ _) hc (.bl _)⟩⟩
theorem gI:OpD X (compareOp .NotEq) neD:=⟨_,Gw,fun O ts H T v1 v2 x y d Q hc h1 h2 e q=>by
 unfold neD at e;obtain⟨b,e1,rfl⟩:=Option.map_eq_some_iff.mp e;obtain⟨k1,k2⟩:=wJ h1 h2 e1
 exact⟨k1,by rw[k2];exact q _ H (.refl _ _) hc (.bl _)⟩⟩
def isNone:PyData->Bool
 |.none=>true
 |_=>false
theorem sW{K:Frag}{O:Addr->Prop}{H:Hp}{v:V}{x:PyData}(h:Vw K O H v x):decide (v=.non)=isNone x:=by
 cases h with
 |rep h=>cases h <;> rfl
 |raw _ _=>rfl
 |rawD _ _=>rfl
def isD:PyData->PyData->Option PyData
 |x,.none=>some (.bool (isNone x))
 |_,_=>none
theorem HD:OpD X (compareOp .Is) isD:=⟨_,ES,fun O ts H T v1 v2 x y d Q hc h1 h2 e q=>by
 unfold isD at e;split at e
 .cases e
  exact⟨h2.non,by rw[sW h1];exact q _ H (.refl _ _) hc (.bl _)⟩
 .cases e⟩
def jc:PyData->PyData->Option PyData
 |x,.none=>some (.bool (!isNone x))
 |.bool a,.bool b=>some (.bool (a != b))
 |_,_=>none
theorem CT:OpD X (compareOp .IsNot) jc:=⟨_,op_notN.or Aj,fun O ts H T v1 v2 x y d Q hc h1 h2 e q=>by
 unfold jc at e;split at e
 .cases e
  exact .inl ⟨h2.non,by rw[sW h1];exact q _ H (.refl _ _) hc (.bl _)⟩
 .cases e
  exact .inr ⟨_,_,h1.bl,h2.bl,q _ H (.refl _ _) hc (.bl _)⟩
 .cases e⟩
def cw:PyData->Bool
 |.none=>true | .bool _=>true | .int _=>true | .str _=>true
 |_=>false
def eqF:PyData->PyData->Bool
 |.none,.none=>true
 |.bool a,.bool b=>a == b
 |.bool a,.int b=>(if a then 1 else 0) == b
 |.int a,.bool b=>a == (if b then 1 else 0)
 |.int a,.int b=>a == b
 |.str a,.str b=>a == b
 |_,_=>false
def jB(y x:Str):Bool:=!(Builtin.Str.occurrences y x 0 y.length 1).isEmpty
def inS:PyData->PyData->Option Bool
 |.str x,.str y=>some (jB y x)
 |x,.list ys=>if cw x&&ys.all cw then some (ys.any fun y=>eqF y x) else none
 |x,.tuple ys=>if cw x&&ys.all cw then some (ys.any fun y=>eqF y x) else none
 |_,_=>none
theorem pN{K:Frag}{O:Addr->Prop}{H:Hp}{v:V}{x:PyData}(h:Rep K O H v x)(e:cw x=true):ft v=true:=by cases h <;> first|rfl|cases e
theorem FD{K:Frag}{O:Addr->Prop}{H:Hp}{v u:V}{x y:PyData}(h:Rep K O H v x)(g:Rep K O H u y)(ex:cw x=true)(ey:cw y=true):eqV v u=eqF x y:=by cases h <;> cases g <;> first|rfl|cases ex|cases ey
theorem oX{K:Frag}{O:Addr->Prop}{H:Hp}:∀{vs:List V}{xs:List PyData},Reps K O H vs xs->xs.all cw=true->vs.all ft=true
 |_,_,.nil,_=>rfl
 |_,_,.cons r t,e=>by
  rw[List.all_cons,Bool.and_eq_true] at e;rw[List.all_cons,pN r e.1,oX t e.2];rfl
theorem qa{K:Frag}{O:Addr->Prop}{H:Hp}{v:V}{x:PyData}(h:Rep K O H v x)(ex:cw x=true):∀{vs:List V}{xs:List PyData},Reps K O H vs xs->xs.all cw=true->(vs.any fun y=>eqV y v)=xs.any fun y=>eqF y x
 |_,_,.nil,_=>rfl
 |_,_,.cons r t,e=>by
  rw[List.all_cons,Bool.and_eq_true] at e;rw[List.any_cons,List.any_cons,FD r h e.1 ex,qa h ex t e.2]
theorem Vw.flat{K:Frag}{O:Addr->Prop}{H:Hp}{v:V}{x:PyData}(h:Vw K O H v x)(e:cw x=true):Rep K O H v x:=by
 cases h with
 |rep h=>exact h
 |raw _ _=>cases e
 |rawD _ _=>cases e
def inD(x y:PyData):Option PyData:=(inS x y).map .bool
def dY(x y:PyData):Option PyData:=(inS x y).map fun b=>.bool (!b)
theorem mw{K:Frag}(neg:Bool):gN K (fun x y H Q=>(∃i j,x=.str i/\y=.str j/\Q (.bl (if neg then !(jB j i) else jB j i)) H)\/rIn K neg x y H Q) (fun x y=>(inS x y).map fun b=>.bool (if neg then !b else b)):=fun O ts H T v1 v2 x y d Q hc h1 h2 e q=>by
 obtain⟨b,e1,rfl⟩:=Option.map_eq_some_iff.mp e;unfold inS at e1;split at e1
 .cases e1
  exact .inl ⟨_,_,h1.str,h2.str,q _ H (.refl _ _) hc (.bl _)⟩
 .split at e1
  .rename_i hf
   cases e1;rw[Bool.and_eq_true] at hf;obtain⟨a,vs,rfl,t,r⟩:=h2.lst;have r1:=h1.flat hf.1;refine .inr ⟨a,vs,rfl,.inl t,pN r1 hf.1,oX r hf.2,?_⟩;have z:inV v1 vs=_:=qa r1 hf.1 r hf.2;rw[z];exact q _ H (.refl _ _) hc (.bl _)
  .cases e1
 .split at e1
  .rename_i hf
   cases e1;rw[Bool.and_eq_true] at hf;obtain⟨a,vs,rfl,t,r⟩:=h2.tup;have r1:=h1.flat hf.1;refine .inr ⟨a,vs,rfl,.inr t.sq,pN r1 hf.1,oX r hf.2,?_⟩;have z:inV v1 vs=_:=qa r1 hf.1 r hf.2;rw[z];exact q _ H (.refl _ _) hc (.bl _)
  .cases e1
 .cases e1
theorem jz:OpD X (compareOp .In) inD:=⟨_,op_in_str.or sS,mw false⟩
theorem uN:OpD X (compareOp .NotIn) dY:=⟨_,op_notin_str.or rE,mw true⟩
def fF:PyData->Option PyData
 |.int i=>some (.int (-i))
 |_=>none
theorem qr{a:Expr}{fa:FE}{pos:Pos}(ha:DE X a fa):DE X (.UnaryOp .USub a pos) (fUn fF fa):=Hb Ed (fun O ts H T v x d Q hc h e q=>by
 unfold fF at e;split at e
 .cases e
  exact⟨_,h.int,q _ H (.refl _ _) hc (.int _)⟩
 .cases e) ha
def ixD:PyData->PyData->Option PyData
 |.list xs,.int i=>atI xs i
 |.tuple xs,.int i=>atI xs i
 |.str z,.int i=>if z.length<=sizeLine then (atI z.cps.toList i).map fun c=>.str ⟨#[c]⟩ else none
 |_,_=>none
theorem uE{K:Frag}{O:Addr->Prop}{H:Hp}{vs:List V}{xs:List PyData}{i:Int}{d:PyData}(r:Reps K O H vs xs)(e:atI xs i=some d):∃v,atI vs i=some v/\Rep K O H v d:=by
 unfold atI at e ⊢;rw[r.length]
 cases h:ixN xs.length i with
 |none=>rw[h] at e;cases e
 |some j=>
  rw[h] at e;exact r.getD e
theorem ap:IxD X ixD:=⟨_,Fe,fun O ts H T v1 v2 x y d Q hc h1 h2 e q=>by
 unfold ixD at e;split at e
 .obtain⟨a,vs,rfl,t,r⟩:=h1.lst
  obtain⟨v,k1,k2⟩:=uE r e;exact .inl ⟨a,vs,_,v,rfl,h2.int,t,k1,q _ H (.refl _ _) hc k2⟩
 .obtain⟨a,vs,rfl,t,r⟩:=h1.tup
  obtain⟨v,k1,k2⟩:=uE r e;exact .inr (.inl ⟨a,vs,_,v,rfl,h2.int,t.sq,k1,q _ H (.refl _ _) hc k2⟩)
 .split at e
  .rename_i hz
   obtain⟨c,k1,rfl⟩:=Option.map_eq_some_iff.mp e;exact .inr (.inr ⟨_,_,c,h1.str,h2.int,hz,k1,q _ H (.refl _ _) hc (.str _)⟩)
  .cases e
 .cases e⟩
end
theorem yz{prog:Program}{w:World}{A:Around}{E:Value->Shared->Prop}{s:Shared}{t sl:Addr}{items:Array Value}{vl vu:Value}{lo hi:Option Int}{Q:Value->Shared->Prop}(ht:IsTup s.heap t items)(hs:s.heap.IsSliceOf sl vl vu .none)(pl:IsPart vl lo)(pu:IsPart vu hi)
  (hw:HT.sIx items.size 0 lo=0/\HT.sIx items.size items.size hi=items.size) (h:Q (.ref t) s):wpAny (model prog w) A (getItem (.ref t) (.ref sl)) Q E s:=by
 obtain⟨os,hos,hcs,hds⟩:=id hs;have hTs:s.TypeIs (.ref sl) "slice":=⟨os,hos,hcs⟩;unfold getItem
 try with_reducible refine wpAny_holding ?_
 first|refine wpAny_bind (wpAny_pure ?_)|skip
 refine wpAny_bind (wpAny_sequenceKey ht.typeIs (by decide) ?_)
 refine wpAny_bind (wpAny_callSpecial?_slot (name:=Str.ofString "__getitem__") ht.typeIs PyProof.Rows.slot_tuple_getitem
  (wpAny_call_entry PyProof.Rows.slot_tuple_getitem ht.typeIs entry_tuple_getitem ?_ (args_tuple_getitem _ _)))
 show wpAny _ _ (Builtin.Tuple.tupleItemsOf (.ref t) >>= _) _ _ s;refine wpAny_bind (tupleItemsOf_ ht ?_);refine wpAny_bind (wpAny_typeOf hTs ?_);rw[if_pos (by decide)];refine wpAny_bind (HT.rq hs pl pu ?_)
 have hyes:((((HT.sIx items.size 0 lo:Nat):Int) == 0&&(1:Int) == 1&&(HT.sIx items.size items.size hi-HT.sIx items.size 0 lo) == items.size)=true):=by
  rw[hw.1,hw.2];simp
 show wpAny _ _ (if (((HT.sIx items.size 0 lo:Nat):Int) == 0&&(1:Int) == 1&&(HT.sIx items.size items.size hi-HT.sIx items.size 0 lo) == items.size)=true then _ else _) _ _ s;rw[if_pos hyes];refine wpAny_bind (m:=Builtin.Tuple.tupleIsExact (.ref t)) (wpAny_bind (wpAny_typeOf ht.typeIs (wpAny_pure ?_)))
 first
 |exact wpAny_bind (wpAny_rule (wpAny_bind (wpAny_pure ⟨_,rfl,wpAny_pure h⟩)))
 |(simp only[beq_self_eq_true,if_true];exact wpAny_bind (wpAny_rule (wpAny_pure ⟨_,rfl,wpAny_pure h⟩)))
def cD{α:Type}(xs:List α)(lo hi:Option Int):List α:=(xs.drop (HT.sIx xs.length 0 lo)).take (HT.sIx xs.length xs.length hi-HT.sIx xs.length 0 lo)
theorem Reps.cut{K:Frag}{O:Addr->Prop}{H:Hp}{vs:List V}{ds:List PyData}(r:Reps K O H vs ds)(lo hi:Option Int):Reps K O H (gj vs lo hi) (cD ds lo hi):=by
 unfold gj cD;rw[r.length];exact(r.drop _).take _
theorem AW{α:Type}{xs:List α}{lo hi:Option Int}(h:HT.sIx xs.length 0 lo=0/\HT.sIx xs.length xs.length hi=xs.length):cD xs lo hi=xs:=by
 unfold cD;rw[h.1,h.2];simp
section
variable {X:Cx}
theorem sl_tupA:SlR X (fun x lo hi H Q=>∃a xs,x=.ref a/\SqT X.K H a xs/\((HT.sIx xs.length 0 lo=0/\HT.sIx xs.length xs.length hi=xs.length)->Q (.ref a) H) /\
  (¬(HT.sIx xs.length 0 lo=0/\HT.sIx xs.length xs.length hi=xs.length)->∀p,H p=none->Q (.ref p) (upd H p (.tup (gj xs lo hi))))):=by
 intro pins s σ H x v vl vu lo hi sl Q I rx hs pl pu h;obtain⟨a,xs,rfl,hx,q1,q2⟩:=h
 by_cases hw:HT.sIx xs.length 0 lo=0/\HT.sIx xs.length xs.length hi=xs.length
 .cases rx
  obtain⟨its,r,ht,hz⟩:=I.tuple hx
  have hlen:its.toArray.size=xs.length:=by rw[List.size_toArray];exact r.length.symm
  refine⟨"tuple",_,PyProof.Rows.slot_tuple_getitem.lookup,ht.typeIs,?_⟩;exact yz ht hs pl pu (by rw[hlen];exact hw) ⟨.ref a,H,I,rfl,q1 hw⟩
 .exact Er pins s σ H _ v vl vu lo hi sl Q I rx hs pl pu ⟨a,xs,rfl,hx,hw,q2 hw⟩
def i6(x:PyData)(lo hi:Option Int):Option PyData:=match x with
 |.list xs=>some (.list (cD xs lo hi))
 |.tuple xs=>some (.tuple (cD xs lo hi))
 |.str z=>if z.length<=sizeLine then some (.str (Txt.slice z lo hi)) else none
 |_=>none
abbrev FO:=Rho->Tp->Option (Option Int×Tp)
def cL:FO:=fun _ T=>some (none,T)
def fP(f:FE):FO:=fun ρ T=>bnd (f ρ T) fun w T1=>match w with
 |.d (.int i)=>some (some i,T1)
 |_=>none
inductive LiftOP(K:Frag)(f:FO)(σ:L2.St)(H:Hp)(Q:Option Int->Hp->Prop):Prop where
 |mk (O:Addr->Prop) (ts:List Addr) (ρ:Rho) (T:Tp) (o:Option Int) (T':Tp) (hc:HC K O ts H T) (re:RelE K O ts H σ ρ) (e:f ρ T=some (o,T')) (q:∀H',SameX ts H H'->HC K O ts H' T'->Q o H'):LiftOP K f σ H Q
def GS(K:Frag)(f:FO):TO:=fun σ H Q=>LiftOP K f σ H Q
structure DO(X:Cx)(e:Option Expr)(f:FO):Prop where
 pe:PO X e (GS X.K f)
theorem vT{e:Option Expr}{t t':TO}(h:PO X e t)(i:∀σ H Q,t' σ H Q->t σ H Q):PO X e t':=fun pins s σ H Q I q=>h pins s σ H Q I (i σ H Q q)
theorem fg:DO X none cL:=by
 refine⟨?_⟩;refine vT CH fun σ H Q=>?_;rintro⟨O,ts,ρ,T,o,T',hc,re,e,q⟩;cases e;exact q H (.refl _ _) hc
theorem ff{e:Expr}{f:FE}(h:DE X e f):DO X (some e) (fP f):=by
 refine⟨?_⟩;refine vT (CG h.pe) fun σ H Q=>?_;rintro⟨O,ts,ρ,T,o,T',hc,re,e,q⟩;obtain⟨w1,T1,e1,e⟩:=aM e;refine⟨O,ts,ρ,T,w1,T1,hc,re,e1,fun v1 H1 s1 hc1 r1=>?_⟩;split at e
 .cases e
  cases (show Rep X.K O H1 v1 _ from r1);exact⟨_,rfl,q H1 s1 hc1⟩
 .cases e
def fSl(f:FE)(l u:FO):FE:=fun ρ T=>bnd (f ρ T) fun w T1=>bnd (l ρ T1) fun lo T2=>bnd (u ρ T2) fun hi T3=>op1 (fun x=>i6 x lo hi) T3 w
theorem fA{e:Expr}{lo hi:Option Expr}{f:FE}{l u:FO}{pos p2:Pos}(he:DE X e f)(hl:DO X lo l)(hu:DO X hi u):DE X (.Subscript e (.Slice lo hi none p2) pos) (fSl f l u):=by
 refine⟨?_⟩;refine bu (Bm (sl_list.or (sl_tupA.or Es)) he.pe hl.pe hu.pe) fun σ H Q=>?_;rintro⟨O,ts,ρ,T,w,T',hc,re,e,q⟩;obtain⟨w1,T1,e1,e⟩:=aM e;obtain⟨o1,T2,e2,e⟩:=aM e;obtain⟨o2,T3,e3,e⟩:=aM e;obtain⟨x,d,h1,h3,rfl,rfl⟩:=qi e;refine⟨O,ts,ρ,T,w1,T1,hc,re,e1,fun v1 H1 s1 hc1 r1=>?_⟩;refine⟨O,ts,ρ,T1,o1,T2,hc1,re.mono hc s1,e2,fun H2 s2 hc2=>?_⟩;refine⟨O,ts,ρ,T2,o2,T',hc2,re.mono hc (s1.trans s2),e3,fun H3 s3 hc3=>?_⟩;have vw:=hc3.view (r1.mono hc1 (s2.trans s3)) h1;have q':∀v H',SameX ts H3 H'->HC X.K O ts H' T'->Rep X.K O H' v d->Q v H':=fun v H' s c r=>q v H' (s1.trans (s2.trans (s3.trans s))) c r;clear q
 cases x with
 |list xs=>
  cases h3;obtain⟨a,vs,rfl,t,r⟩:=vw.lst;exact .inl ⟨a,vs,rfl,t,fun p hp=>q' _ _ (.new hp _) (hc3.new hp _) (hc3.newL hp (r.cut _ _))⟩
 |tuple xs=>
  cases h3;obtain⟨a,vs,rfl,t,r⟩:=vw.tup;refine .inr (.inl ⟨a,vs,rfl,t.sq,fun hw=>?_,fun hw p hp=>?_⟩)
  .rw[r.length] at hw
   rw[AW hw] at q';exact q' _ H3 (.refl _ _) hc3 vw.tupR
  .exact q' _ _ (.new hp _) (hc3.new hp _) (hc3.newT hp (r.cut _ _))
 |str z=>
  have h3':(if z.length<=sizeLine then some (PyData.str (Txt.slice z o1 o2)) else none)=some d:=h3;split at h3'
  .rename_i hz
   cases h3';exact .inr (.inr ⟨z,vw.str,hz,q' _ H3 (.refl _ _) hc3 (.str _)⟩)
  .cases h3'
 |_=>cases h3
end
inductive Kd where
 |non|bl|int|str|tup|lst|dct
 deriving DecidableEq
def Kd.name:Kd->String
 |.non=>"NoneType" | .bl=>"bool" | .int=>"int" | .str=>"str" | .tup=>"tuple" | .lst=>"list" | .dct=>"dict"
def kd:PyData->Kd
 |.none=>.non | .bool _=>.bl | .int _=>.int | .str _=>.str | .list _=>.lst | .tuple _=>.tup | .dict _=>.dct
def bY(a b:Kd):Bool:=decide (a=b)||(decide (a=.bl)&&decide (b=.int))
def HF(t c:String):Option Bool:=if (Value.type t == Value.type c)=true then some true else if PySem.W.kitMeta c=true then (fastBuiltinMro t).map (·.contains (.type c)) else none
theorem g9(a b:Kd):b≠.non->HF a.name b.name=some (bY a b):=by cases a <;> cases b <;> first|(intro h;exact absurd rfl h)|(intro _;decide +kernel)
section
variable {X:Cx}
theorem B4:CallR X (.builtin "isinstance") (fun xs H Q=>∃(x:V) (c:Kd) (O:Addr->Prop) (d:PyData),xs=[x,.ty c.name]/\Vw X.K O H x d/\c≠.non/\Q (.bl (bY (kd d) c)) H):=by
 intro pins s σ H xs us Q I r h;obtain⟨x,c,O,d,rfl,vw,hc,q⟩:=h;obtain⟨u,w',rfl,ru,rw'⟩:=vals2 r;cases (show w'=Value.type c.name from rw');have fin:∀tk,EP X pins σ Q (.bool (bY (kd d) c)) { s with toks:=tk }:=fun tk=>⟨.bl _,H,I.tok _,rfl,q⟩
 cases d with
 |none=>cases vw.non;exact ly I ru .non (show PySem.W.kitOne X.K (.type (Kd.name .non)) (.type c.name)=some _ from g9 .non c hc) fin
 |bool b=>cases vw.bl;exact ly I ru (.bl b) (show PySem.W.kitOne X.K (.type (Kd.name .bl)) (.type c.name)=some _ from g9 .bl c hc) fin
 |int i=>cases vw.int;exact ly I ru (.int i) (show PySem.W.kitOne X.K (.type (Kd.name .int)) (.type c.name)=some _ from g9 .int c hc) fin
 |str z=>cases vw.str;exact ly I ru (.str z) (show PySem.W.kitOne X.K (.type (Kd.name .str)) (.type c.name)=some _ from g9 .str c hc) fin
 |list ds=>
  obtain⟨a,vs,rfl,t,r⟩:=vw.lst;cases (show u=Value.ref a from ru);obtain⟨its,_,pl,_⟩:=I.list t;obtain⟨o,n,e,c1,_⟩:=pl;exact PySem.W.kia_one PySem.W.kitx_list I.kIn ⟨o,e,c1⟩ (show PySem.W.kitOne X.K (.type (Kd.name .lst)) (.type c.name)=some _ from g9 .lst c hc) (fun z=>nomatch z) fin
 |tuple ds=>
  obtain⟨a,vs,rfl,t,r⟩:=vw.tup;cases (show u=Value.ref a from ru);obtain⟨its,_,pl,_⟩:=I.tuple t.sq;obtain⟨o,e,c1,_⟩:=pl;exact PySem.W.kia_one PySem.W.kitx_tuple I.kIn ⟨o,e,c1⟩ (show PySem.W.kitOne X.K (.type (Kd.name .tup)) (.type c.name)=some _ from g9 .tup c hc) (fun z=>nomatch z) fin
 |dict ds=>
  obtain⟨a,vs,rfl,t,r⟩:=vw.dct;cases (show u=Value.ref a from ru);obtain⟨_,_,_,_,o,_,_,e,c1,_⟩:=dJ I.hok t;exact PySem.W.kia_one PySem.W.kitx_dict I.kIn ⟨o,e,c1.1⟩ (show PySem.W.kitOne X.K (.type (Kd.name .dct)) (.type c.name)=some _ from g9 .dct c hc) (fun z=>nomatch z) fin
def bw(c:Kd)(x:PyData):Option PyData:=some (.bool (bY (kd x) c))
theorem bI{e:Expr}{f:FE}{p p' pos:Pos}{T:Str}(c:Kd)(hi:X.mg "isinstance"=none)(he:DE X e f)(hm:X.mg T=none)(hb:bootBuiltins T=some (.type c.name))(hcn:c≠.non:=by decide)(hg:Gl X "isinstance":=by rfl)(hT:Gl X T:=by rfl)(hn:T≠"__name__":=by decide)(hdb:(T == ("__debug__" : Str))=false:=by decide)
  (hs:starEach [e,.Name T p] X.env=(false,eval e X.env)::starEach [.Name T p] X.env:=by exact a9 rfl) (hs2:starEach [.Name T p] X.env=(false,eval (.Name T p) X.env)::starEach [] X.env:=by exact a9 rfl)
  (hpl:(backTo pos (starEach [.Name T p] X.env)).any (·.1)=false:=by exact bW rfl):DE X (.Call (.Name "isinstance" p') [e,.Name T p] [] pos) (fUn (bw c) f):=by
 refine⟨?_⟩;refine bu (tT B4 hg hi PyProof.Rows.boot_isinstance (cW he.pe (cW (CM (v:=.ty c.name) hT hm hb rfl hn hdb) dG hs2) hs) (by decide) (by decide) hs hpl) fun σ H Q=>?_;rintro⟨O,ts,ρ,T,w,T',hc,re,e,q⟩;obtain⟨w1,T1,e1,e⟩:=aM e;obtain⟨x,d,h1,h3,rfl,rfl⟩:=qi e;cases h3;refine⟨O,ts,ρ,T,w1,T',hc,re,e1,fun v1 H1 s1 hc1 r1=>?_⟩;exact⟨v1,c,O,x,rfl,hc1.view r1 h1,hcn,q _ H1 s1 hc1 (.bl _)⟩
def a7:List PyData->Option PyData
 |[.list xs]=>some (.int xs.length)
 |[.tuple xs]=>some (.int xs.length)
 |[.str z]=>if z.length<=sizeLine then some (.int z.length) else none
 |[.dict kvs]=>some (.int kvs.length)
 |_=>none
theorem dm{K:Frag}{O:Addr->Prop}{H:Hp}{vs:List V}{x:PyData}(h:Vws K O H vs [x]):∃v,vs=[v]/\Vw K O H v x:=by cases h with|cons h t=>cases t;exact⟨_,rfl,h⟩
theorem tP{K:Frag}{O:Addr->Prop}{H:Hp}:∀{kvs:List (Key×V)}{ds:List (PyData×PyData)},RepK K O H kvs ds->kvs.length=ds.length
 |_,_,.nil=>rfl
 |_,_,.cons _ t=>congrArg (· + 1) (tP t)
theorem AZ:CallR X (.builtin "len") (fun xs H Q=>∃a kvs,xs=[V.ref a]/\Rd H a (.dK kvs)/\Q (.int kvs.length) H):=by
 intro pins s σ H xs us Q I r h;obtain⟨a,kvs,rfl,ha,q⟩:=h;obtain⟨u,rfl,ru⟩:=vals1 r;cases ru;exact Hg I ha fun t s' I'=>⟨.int kvs.length,H,I',⟨t,rfl⟩,q⟩
theorem bM:fD X (.builtin "len") a7:=⟨_,call_len_seq.or (call_len_str.or AZ),fun O ts H T vs xs d Q hc h e q=>by
 unfold a7 at e;split at e
 .cases e
  obtain⟨v,rfl,g⟩:=dm h;obtain⟨a,vs,rfl,t,r⟩:=g.lst;exact .inl ⟨a,vs,rfl,.inl t,by rw[r.length];exact q _ H (.refl _ _) hc (.int _)⟩
 .cases e
  obtain⟨v,rfl,g⟩:=dm h;obtain⟨a,vs,rfl,t,r⟩:=g.tup;exact .inl ⟨a,vs,rfl,.inr t.sq,by rw[r.length];exact q _ H (.refl _ _) hc (.int _)⟩
 .split at e
  .rename_i hz
   cases e;obtain⟨v,rfl,g⟩:=dm h;cases g.str;exact .inr (.inl ⟨_,rfl,hz,q _ H (.refl _ _) hc (.int _)⟩)
  .cases e
 .cases e
  obtain⟨v,rfl,g⟩:=dm h;obtain⟨a,kvs,rfl,t,r⟩:=g.dct;exact .inr (.inr ⟨a,kvs,rfl,t,by rw[tP r];exact q _ H (.refl _ _) hc (.int _)⟩)
 .cases e⟩
def kW:List PyData->Option PyData
 |[.int i]=>some (.int (if i<0 then -i else i))
 |_=>none
theorem xJ:fD X (.builtin "abs") kW:=⟨_,B6,fun O ts H T vs xs d Q hc h e q=>by
 unfold kW at e;split at e
 .cases e
  obtain⟨v,rfl,g⟩:=dm h;cases g.int;exact⟨_,rfl,q _ H (.refl _ _) hc (.int _)⟩
 .cases e⟩
def GO:List PyData->Option PyData
 |[.int i,.int j]=>some (.int (if j>i then j else i))
 |_=>none
def GN:List PyData->Option PyData
 |[.int i,.int j]=>some (.int (if j<i then j else i))
 |_=>none
def iw:List PyData->Option (List Bool)
 |[]=>some []
 |.bool b::r=>(iw r).map (b::·)
 |_=>none
def fU:List PyData->Option (List Int)
 |[]=>some []
 |.int b::r=>(fU r).map (b::·)
 |_=>none
def d3:List PyData->Option (List Str)
 |[]=>some []
 |.str b::r=>(d3 r).map (b::·)
 |_=>none
theorem ur{K:Frag}{O:Addr->Prop}{H:Hp}:∀{vs:List V}{xs:List PyData}{bs:List Bool},Reps K O H vs xs->iw xs=some bs->vs=bs.map V.bl
 |_,_,_,.nil,e=>by cases e;rfl
 |_,x::r,bs,.cons h t,e=>by
  cases x with
  |bool b=>
   obtain⟨cs,e1,rfl⟩:=Option.map_eq_some_iff.mp (show (iw r).map (b::·)=some bs from e);cases h;rw[ur t e1];rfl
  |_=>cases e
theorem oU{K:Frag}{O:Addr->Prop}{H:Hp}:∀{vs:List V}{xs:List PyData}{bs:List Int},Reps K O H vs xs->fU xs=some bs->vs=bs.map V.int
 |_,_,_,.nil,e=>by cases e;rfl
 |_,x::r,bs,.cons h t,e=>by
  cases x with
  |int b=>
   obtain⟨cs,e1,rfl⟩:=Option.map_eq_some_iff.mp (show (fU r).map (b::·)=some bs from e);cases h;rw[oU t e1];rfl
  |_=>cases e
theorem lQ{K:Frag}{O:Addr->Prop}{H:Hp}:∀{vs:List V}{xs:List PyData}{bs:List Str},Reps K O H vs xs->d3 xs=some bs->vs=bs.map V.str
 |_,_,_,.nil,e=>by cases e;rfl
 |_,x::r,bs,.cons h t,e=>by
  cases x with
  |str b=>
   obtain⟨cs,e1,rfl⟩:=Option.map_eq_some_iff.mp (show (d3 r).map (b::·)=some bs from e);cases h;rw[lQ t e1];rfl
  |_=>cases e
def jD:List PyData->Option PyData
 |[.list xs]=>(iw xs).map fun bs=>.bool (bs.all id)
 |_=>none
theorem qQ(hc:X.calm=true:=by rfl):fD X (.builtin "all") jD:=⟨_,B5 hc,fun O ts H T vs xs d Q hc h e q=>by
 unfold jD at e;split at e
 .obtain⟨bs,e1,rfl⟩:=Option.map_eq_some_iff.mp e
  obtain⟨v,rfl,g⟩:=dm h;obtain⟨a,vs,rfl,t,r⟩:=g.lst;rw[ur r e1] at t;exact⟨a,bs,rfl,t,q _ H (.refl _ _) hc (.bl _)⟩
 .cases e⟩
def jx:List PyData->Option PyData
 |[.list xs]=>(fU xs).map fun bs=>.int bs.sum
 |_=>none
theorem xI(hc:X.calm=true:=by rfl):fD X (.builtin "sum") jx:=⟨_,B3 hc,fun O ts H T vs xs d Q hc h e q=>by
 unfold jx at e;split at e
 .obtain⟨bs,e1,rfl⟩:=Option.map_eq_some_iff.mp e
  obtain⟨v,rfl,g⟩:=dm h;obtain⟨a,vs,rfl,t,r⟩:=g.lst;rw[oU r e1] at t;exact⟨a,bs,rfl,t,q _ H (.refl _ _) hc (.int _)⟩
 .cases e⟩
def kz:PyData->PyData->Option PyData
 |.list xs,.int d=>(fU xs).map fun bs=>.int (K1.cC d bs)
 |_,_=>none
theorem DJ{e ed:Expr}{f fd:FE}{p pos kpos:Pos}(hm:X.mg "max"=none)(ha:DE X e f)(hd:DE X ed fd)(hc:X.calm=true:=by rfl)(hg:Gl X "max":=by rfl)(hs:starEach [e] X.env=(false,eval e X.env)::starEach [] X.env:=by exact a9 rfl)
  (h1:backTo pos (starEach [e] X.env)=(false,eval e X.env)::backTo pos (starEach [] X.env):=by exact sL rfl)
  (h2:(backTo pos (starEach [e] X.env)).any (·.1)=false:=by exact bW rfl) (h3:(backToKw pos (keywordEach [⟨some "default",ed,kpos⟩] X.env)).all (·.1.isSome)=true:=by rfl)
  (h4:(backToKw pos (keywordEach [⟨some "default",ed,kpos⟩] X.env)).any (·.1.isNone)=false:=by rfl) (h5:(backToKw pos (keywordEach [⟨some "default",ed,kpos⟩] X.env)).filterMap (·.1)=[Str.ofString "default"]:=by rfl) :
  DE X (.Call (.Name "max" p) [e] [⟨some "default",ed,kpos⟩] pos) (af kz f fd):=by
 refine⟨?_⟩;refine bu (CI hc hg hm ha.pe hd.pe hs h1 h2 h3 h4 h5) fun σ H Q=>?_;rintro⟨O,ts,ρ,T,w,T',hc,re,e,q⟩;obtain⟨w1,T1,e1,e⟩:=aM e;obtain⟨w2,T2,e2,e⟩:=aM e;obtain⟨x,y,d,h1,h2,h3,rfl,rfl⟩:=i8 e;refine⟨O,ts,ρ,T,w1,T1,hc,re,e1,fun v1 H1 s1 hc1 r1=>⟨v1,rfl,?_⟩⟩;refine⟨O,ts,ρ,T1,w2,T',hc1,re.mono hc s1,e2,fun v2 H2 s2 hc2 r2=>?_⟩;have k1:=hc2.view (r1.mono hc1 s2) h1;have k2:=hc2.view r2 h2;unfold kz at h3;split at h3
 .obtain⟨bs,e4,rfl⟩:=Option.map_eq_some_iff.mp h3
  obtain⟨a,vs,rfl,t,r⟩:=k1.lst;rw[oU r e4] at t;exact⟨a,bs,_,rfl,k2.int,t,q _ H2 (s1.trans s2) hc2 (.int _)⟩
 .cases h3
def fE:List PyData->Option PyData
 |[.int i]=>if i.natAbs.log2<1920 then some (.str (toString i)) else none
 |_=>none
theorem jv:fD X (.type "str") fE:=⟨_,zg,fun O ts H T vs xs d Q hc h e q=>by
 unfold fE at e;split at e
 .split at e
  .rename_i hz
   cases e;obtain⟨v,rfl,g⟩:=dm h;cases g.int;exact⟨_,rfl,hz,q _ H (.refl _ _) hc (.str _)⟩
  .cases e
 .cases e⟩
def bF:List PyData->Option PyData
 |[.list xs]=>some (.tuple xs)
 |[.tuple xs]=>some (.tuple xs)
 |_=>none
theorem fR:fD X (.type "tuple") bF:=⟨_,yY,fun O ts H T vs xs d Q hc h e q=>by
 unfold bF at e;split at e
 .cases e
  obtain⟨v,rfl,g⟩:=dm h;obtain⟨a,vs,rfl,t,r⟩:=g.lst;exact⟨a,vs,rfl,.inl ⟨t,fun p hp=>q _ _ (.new hp _) (hc.new hp _) (hc.newT hp r)⟩⟩
 .cases e
  obtain⟨v,rfl,g⟩:=dm h;obtain⟨a,vs,e1,t,r⟩:=g.tup;subst e1;exact⟨a,vs,rfl,.inr ⟨t.sq,q _ H (.refl _ _) hc (.tup t r)⟩⟩
 .cases e⟩
def fT:List PyData->Option PyData
 |[.list xs]=>some (.list xs)
 |[.tuple xs]=>some (.list xs)
 |_=>none
theorem wU:fD X (.type "list") fT:=⟨_,zh,fun O ts H T vs xs d Q hc h e q=>by
 unfold fT at e;split at e
 .cases e
  obtain⟨v,rfl,g⟩:=dm h;obtain⟨a,vs,rfl,t,r⟩:=g.lst;exact⟨a,vs,rfl,.inl t,fun p hp=>q _ _ (.new hp _) (hc.new hp _) (hc.newL hp r)⟩
 .cases e
  obtain⟨v,rfl,g⟩:=dm h;obtain⟨a,vs,rfl,t,r⟩:=g.tup;exact⟨a,vs,rfl,.inr t.sq,fun p hp=>q _ _ (.new hp _) (hc.new hp _) (hc.newL hp r)⟩
 .cases e⟩
theorem mt_joinG:MtR X "str.join" (fun x vs H Q=>∃(z:Str) (l:Addr) (ys:List Str),x=.str z/\vs=[.ref l]/\SqL X.K H l (ys.map V.str)/\(ys.map (·.length)).sum+ys.length*z.length<=16777216/\Q (.str (Str.join z ys)) H):=by
 intro pins s σ H x vs v us Q I rx rv h;obtain⟨z,l,ys,rfl,rfl,hq,hz,q⟩:=h;obtain⟨t,rfl⟩:=rx;obtain⟨u,rfl,ru⟩:=vals1 rv;cases ru;obtain⟨its,rw',pl,_⟩:=I.list hq;refine join_list (ys:=ys) pl.isList (by simpa using rP rw') hz fun t' k=>⟨.str _,H,I.tok _,⟨t',?_⟩,q⟩;show Value.str (Builtin.Str.glued z ys) t'=_;rw[StrLaws.glued_eq_join]
def kE:PyData->PyData->Option PyData
 |.str z,.list xs=>match d3 xs with
  |some ys=>if (ys.map (·.length)).sum+ys.length*z.length<=16777216 then some (.str (Str.join z ys)) else none
  |none=>none
 |_,_=>none
theorem vA{o e:Expr}{fo fe:FE}{apos cpos:Pos}(ho:DE X o fo)(he:DE X e fe)
  (hbase:attributeBase o "join" X.env (eval o X.env)=eval o X.env:=by rfl)
  (hfew:((backTo cpos (starEach [e] X.env)).all (fun x=>!x.1)&&(backToKw cpos (keywordEach [] X.env)).all (fun x=>x.1.isSome)
   && decide (([e]:List Expr).length+([]:List Keyword).length+(if ([]:List Keyword).isEmpty then 0 else 1)<30))=true:=by exact nH rfl)
  (hline:(apos.endLine == cpos.line)=true:=by rfl) (hse:starEach [e] X.env=(false,eval e X.env)::starEach [] X.env:=by exact a9 rfl) (hplain:(backTo cpos (starEach [] X.env)).any (·.1)=false:=by exact bW rfl) :
  DE X (.Call (.Attribute o "join" apos) [e] [] cpos) (af kE fo fe):=by
 refine⟨?_⟩;refine bu (kq PySem.F.plainAttrs_str PySem.F.slot_str_join PySem.F.type_str_join mt_joinG ho.pe (cW he.pe dG hse) hbase hfew hline hse hplain) fun σ H Q=>?_;rintro⟨O,ts,ρ,T,w,T',hc,re,e,q⟩;obtain⟨w1,T1,e1,e⟩:=aM e;obtain⟨w2,T2,e2,e⟩:=aM e;obtain⟨x,y,d,h1,h2,h3,rfl,rfl⟩:=i8 e;unfold kE at h3;split at h3
 .rename_i z xs
  split at h3
  .rename_i ys hy
   split at h3
   .rename_i hz
    cases h3;refine⟨O,ts,ρ,T,w1,T1,hc,re,e1,fun v1 H1 s1 hc1 r1=>?_⟩
    have ev:v1=.str z:=by
     cases w1 with
     |d x=>cases h1;cases (show Rep X.K O H1 v1 _ from r1);rfl
     | tp k=>exact(by
       have h1':(T'[k]?).bind jy=some (PyData.str z):=h1
       cases hk:T'[k]? with
       |none=>rw[hk] at h1';cases h1'
       |some xs=>
        rw[hk] at h1';have e2:(if isO xs=true then none else some (PyData.list xs))=some (PyData.str z):=h1'
        split at e2 <;> cases e2)
     |loc zs=>cases zs <;> cases h1
    subst ev;refine⟨rfl,O,ts,ρ,T1,w2,T',hc1,re.mono hc s1,e2,fun v2 H2 s2 hc2 r2=>?_⟩;obtain⟨a,vs,rfl,t,r⟩:=(hc2.view r2 h2).lst;rw[lQ r hy] at t;exact⟨z,a,ys,rfl,rfl,t,hz,q _ H2 (s1.trans s2) hc2 (.str _)⟩
   .cases h3
  .cases h3
 .cases h3
end
mutual
def jo:PyData->Bool
 |.list _=>false
 |.tuple ds=>mH ds
 |.dict kvs=>mI kvs
 |.none | .bool _ | .int _ | .str _=>true
def mH:List PyData->Bool
 |[]=>true
 |d::r=>jo d&&mH r
def mI:List (PyData×PyData)->Bool
 |[]=>true
 |(_,v)::r=>jo v&&mI r
end
section
variable {X:Cx}{pins:List (Addr×Obj)}{σ:L2.St}{H:Hp}{s:Shared}{O:Addr->Prop}
theorem Az{h:Heap}{k:Key}{v:Value}(e:eN k v=true):Reads h v (f6 k) []:=by
 rcases dQ e with⟨i,t,rfl,rfl⟩|⟨x,t,rfl,rfl⟩
 .exact .int i t
 .exact .str x t
mutual
theorem Rep.reads(I:Inv X pins σ H s):∀{v:V}{d:PyData}{u:Value},Rep X.K O H v d->RelV v u->∃as,Reads s.heap u d as/\(jo d=true->sysModules∉as)
 |_,_,_,.non,r=>by cases r;exact⟨_,.none,fun _=>by simp⟩
 |_,_,_,.bl b,r=>by cases r;exact⟨_,.bool b,fun _=>by simp⟩
 |_,_,_,.int i,r=>by obtain⟨t,rfl⟩:=r;exact⟨_,.int i t,fun _=>by simp⟩
 |_,_,_,.str x,r=>by obtain⟨t,rfl⟩:=r;exact⟨_,.str x t,fun _=>by simp⟩
 |_,_,_,.tup (a:=a) (vs:=vs) h rs,r=>by
  cases r;obtain⟨its,rv,⟨o,e,c,n,dd⟩,_⟩:=I.tuple h.sq;obtain⟨as,q,f⟩:=Reps.reads I rs rv;exact⟨as,.tuple e c dd (by simpa using q),f⟩
 |_,_,_,.lst (a:=a) (vs:=vs) h rs,r=>by
  cases r;obtain⟨its,rv,pl,_⟩:=I.list h.sq;obtain⟨o,n,e,c,_,dd⟩:=pl;obtain⟨as,q,f⟩:=Reps.reads I rs rv;exact⟨_,.list e c dd (by simpa using q),fun z=>by cases z⟩
 |_,_,_,.dct (a:=a) (kvs:=kvs) (ds:=ds) _ h rk,r=>by
  cases r;obtain⟨z,y,vs,kv,o,es,ep,e,ed,dd,_,ek,_⟩:=(show ObjOk X.prog X.w H s.heap a (.dK kvs) from(I.hok a _ h).2);obtain⟨bs,q1,q2,f⟩:=RepK.reads I rk kv ek;refine⟨_,.dict (kvs:=ds) (as:=[]) (bs:=bs) e ed.1 dd q1 q2,fun zz hm=>?_⟩
  rcases List.mem_cons.mp (by simpa using hm:sysModules∈a::bs) with q|q
  .rw[q] at y
   simp at y
  .exact f zz q
theorem Reps.reads(I:Inv X pins σ H s):∀{vs:List V}{ds:List PyData}{us:List Value},Reps X.K O H vs ds->Vals vs us->∃as,ReadsAll s.heap us ds as/\(mH ds=true->sysModules∉as)
 |_,_,_,.nil,r=>by cases r;exact⟨_,.nil,fun _=>by simp⟩
 |_,_,_,.cons (d:=d) (ds:=ds) q t,r=>by
  cases r with
  |cons r1 r2=>
   obtain⟨as,h1,f1⟩:=Rep.reads I q r1;obtain⟨bs,h2,f2⟩:=Reps.reads I t r2;refine⟨as++bs,.cons h1 h2,fun z=>?_⟩;have z':(jo d&&mH ds)=true:=z;rw[Bool.and_eq_true] at z';intro hm
   rcases List.mem_append.mp hm with hm|hm
   .exact f1 z'.1 hm
   .exact f2 z'.2 hm
theorem RepK.reads(I:Inv X pins σ H s):∀{kvs:List (Key×V)}{ds:List (PyData×PyData)}{vs:List (Key×Value)}{es:List DictEntry},RepK X.K O H kvs ds->KV kvs vs->Pairs (bz X.prog X.w) es vs ->
  ∃bs,ReadsAll s.heap (es.map (·.key)) (ds.map (·.1)) []/\ReadsAll s.heap (es.map (·.val)) (ds.map (·.2)) bs/\(mI ds=true->sysModules∉bs)
 |_,_,_,_,.nil,r,ek=>by
  cases r;cases ek;exact⟨[],.nil,.nil,fun _=>by simp⟩
 |_,_,_,_,.cons (k:=k) (d:=d) (ds:=ds) q t,r,ek=>by
  cases r with
  |cons r1 r2=>
   cases ek with
   |cons e1 e1' e2=>
    obtain⟨as,h1,f1⟩:=Rep.reads I q r1.2;obtain⟨bs,h2,h3,f2⟩:=RepK.reads I t r2 e2;rw[←e1'] at h1;have k1:=Az (h:=s.heap) (show eN _ _=true from e1);rw[←r1.1] at k1;refine⟨as++bs,.cons (as:=[]) (bs:=[]) k1 h2,.cons h1 h3,fun z=>?_⟩;have z':(jo d&&mI ds)=true:=z;rw[Bool.and_eq_true] at z';intro hm
    rcases List.mem_append.mp hm with hm|hm
    .exact f1 z'.1 hm
    .exact f2 z'.2 hm
end
end
def GX(d:PyData):Bool:=d.showable&&d.leavesShort 200&&decide (d.depth<=60)&&decide (d.weight<=60000)&&(!d.hasDict||jo d)
section
variable {X:Cx}
def xh(T:Tp)(w:W):Option (W×Tp):=match w with
 |.d x=>if GX x=true then some (.d (.str x.shown),T) else none
 |_=>none
def G6(f:FE):FE:=fun ρ T=>bnd (f ρ T) fun w T1=>xh T1 w
end
structure Df(K:Frag)(name:Str)(st:Stmt):Prop where
 ex:∃(f:Addr) (oc:Value) (od an:Option Addr) (sl:Array (Option Value)) (kV dc pm cd ct:Value),PySem.W.nsIn K mainGlobals name=some (some (.ref f)) /\
  K.lookup f=some ⟨oc,od,.func (PySem.W.fnOf name name (dF st) (cx st) (bf st) .none kV dc pm an cd ct),sl⟩/\PySem.W.codeIn K cd name=true/\PySem.W.keepIn K (.ref f)=true
theorem Ha{K:Frag}{name:Str}{st:Stmt}{f:Addr}{oc:Value}{od an:Option Addr}{sl:Array (Option Value)}{kV dc pm cd ct:Value}(a:PySem.W.nsIn K mainGlobals name=some (some (.ref f)))
  (l:K.lookup f=some ⟨oc,od,.func (PySem.W.fnOf name name (dF st) (cx st) (bf st) .none kV dc pm an cd ct),sl⟩) (c:PySem.W.codeIn K cd name=true) (k:PySem.W.keepIn K (.ref f)=true):Df K name st:=⟨f,oc,od,an,sl,kV,dc,pm,cd,ct,a,l,c,k⟩
theorem Df.fn{P:Program}{w:World}{K:Frag}{mg:Str->Option Value}{base h:Heap}{name:Str}{st:Stmt}{ps:List Str}{k:Nat}{sp:Sp}(d:Df K name st)(X:K.In h)(G:h.Ns mainGlobals mg)
  (hb:∀(kV doc pm:Value) (an:Option Addr) (cdv ct:Value) (us:List Value),us.length=ps.length->bindArgs (PySem.W.fnOf name name (dF st) (cx st) (bf st) .none kV doc pm an cdv ct) ⟨us,[]⟩=pure (ps.zip us))
  (ok:∀f fd,Fun K name name st f fd->FnOk P w K mg base CX0 k f fd ps sp):Fn P w K mg base name ps k sp:=by
 obtain⟨f,oc,od,an,sl,kV,dc,pm,cd,ct,a,l,c,kp⟩:=d.ex;have F:=wC (st:=st) l c kp;exact⟨f,_,ok f _ F,F.binds hb,kp,PySem.W.mg_of X G a⟩
theorem Du{P:Program}{w:World}{K:Frag}{mg:Str->Option Value}{base:Heap}{k n:Nat}{f:Addr}{fd:FuncData}{ps:List Str}:FnOk P w K mg base CX0 k f fd ps (spM K n fun _ _=>none):=by
 have no:∀vs H Q E,¬spM K n (fun _ _=>none) vs H Q E:=fun vs H Q E h=>by
  obtain⟨O,ts,T,ws,x,T',_,_,_,e,_⟩:=h;cases e
 exact⟨fun vs H Q E h=>absurd h (no vs H Q E),fun A outer s H args us vs Q E _ _ _ _ h=>absurd h (no vs H Q E)⟩
def m6(K:Frag):Sp:=fun vs H Q _=>∃(a:Addr) (ns:List Int),vs=[.ref a]/\SqL K H a (ns.map V.int)/\ns.length<=63/\∀H',Q (.bl true) H'
def i7(ns:List Int):PyData:=.list (ns.map .int)
theorem sP{K:Frag}{O:Addr->Prop}{H:Hp}:∀ns:List Int,Reps K O H (ns.map V.int) (ns.map PyData.int)
 |[]=>.nil
 |_::r=>.cons (.int _) (sP r)
section
variable {α β:Type}{ρ:Rho}{T:Tp}{f g:FE}{c c':FT}{s s':FS}{a:FA}{w w':W}{x y:PyData}
@[simp] theorem fj{b:α}{k:α->Tp->Option β}:bnd (some (b,T)) k=k b T:=rfl
@[simp] theorem J8{k:α->Tp->Option β}:bnd none k=none:=rfl
@[simp] theorem J9{p:Prop}[Decidable p]{u v:Option (α×Tp)}{k:α->Tp->Option β}:bnd (if p then u else v) k=if p then bnd u k else bnd v k:=by split <;> rfl
@[simp] theorem qM{N:Nat}{ws:List W}:aO N s ws T=if dy ws=true then dI (s (ws.map some++List.replicate (N-ws.length) none) T) else none:=rfl
@[simp] theorem oB:dy []=true:=rfl
@[simp] theorem oA{r:List W}:dy (.d x::r)=dy r:=rfl
@[simp] theorem sY{i:Nat}{r:List W}:dy (.tp i::r)=dy r:=rfl
@[simp] theorem JZ{r:Rho}:dI (some ((.rt x,r),T))=some (x,T):=rfl
@[simp] theorem J1{r:Rho}:dI (some ((.nx,r),T))=some (.none,T):=rfl
@[simp] theorem J2{p:Prop}[Decidable p]{u v:Option ((Fl×Rho)×Tp)}:dI (if p then u else v)=if p then dI u else dI v:=by split <;> rfl
def iF(s':FS)(p:Fl×Rho)(T:Tp):Option ((Fl×Rho)×Tp):=match p with
 |(.nx,ρ1)=>s' ρ1 T
 |(fl,ρ1)=>some ((fl,ρ1),T)
@[simp] theorem Ft:ak s s' ρ T=bnd (s ρ T) (iF s'):=rfl
@[simp] theorem Jk{ρ1:Rho}:iF s' (.nx,ρ1) T=s' ρ1 T:=rfl
@[simp] theorem Jj{ρ1:Rho}:iF s' (.rt x,ρ1) T=some ((.rt x,ρ1),T):=rfl
@[simp] theorem Jn{ρ1:Rho}:iF s' (.bk,ρ1) T=some ((.bk,ρ1),T):=rfl
@[simp] theorem Jm{ρ1:Rho}:iF s' (.ct,ρ1) T=some ((.ct,ρ1),T):=rfl
@[simp] theorem Jz:aD ρ T=some ((.nx,ρ),T):=rfl
def ifK(s s':FS)(ρ:Rho)(b:Bool)(T1:Tp):Option ((Fl×Rho)×Tp):=if b=true then s ρ T1 else s' ρ T1
@[simp] theorem G7:fIf c s s' ρ T=bnd (c ρ T) (ifK s s' ρ):=rfl
@[simp] theorem Fv{b:Bool}:ifK s s' ρ b T=if b=true then s ρ T else s' ρ T:=rfl
def ya(ρ:Rho):W->Tp->Option ((Fl×Rho)×Tp):=fun w T1=>match w with
 |.d x=>some ((.rt x,ρ),T1)
 |_=>none
@[simp] theorem Kw:ay f ρ T=bnd (f (bV ρ) T) (ya ρ):=rfl
@[simp] theorem Jr:ya ρ (.d x) T=some ((.rt x,ρ),T):=rfl
@[simp] theorem JX:bV []=[]:=rfl
@[simp] theorem JU{r:Rho}:bV (none::r)=none::bV r:=rfl
@[simp] theorem JW{r:Rho}:bV (some (.d x)::r)=some (.d x)::bV r:=rfl
@[simp] theorem JT{i:Nat}{r:Rho}:bV (some (.tp i)::r)=some (.tp i)::bV r:=rfl
@[simp] theorem JV{x:PyData}{r:Rho}:bV (some (.loc x)::r)=some (.d x)::bV r:=rfl
def qU(i:Nat)(ρ:Rho):W->Tp->Option ((Fl×Rho)×Tp):=fun w T1=>match w with
 |.d x=>some ((.nx,ρ.set i (some (.d x))),T1)
 |.tp k=>some ((.nx,ρ.set i (some (.tp k))),T1)
 |.loc _=>none
@[simp] theorem mQ{i:Nat}:aE i f ρ T=bnd (f ρ T) (qU i ρ):=rfl
@[simp] theorem vg{i:Nat}:qU i ρ (.d x) T=some ((.nx,ρ.set i (some (.d x))),T):=rfl
@[simp] theorem Jg{i k:Nat}:qU i ρ (.tp k) T=some ((.nx,ρ.set i (some (.tp k))),T):=rfl
def xg(i:Nat)(ρ:Rho)(T:Tp):Option (List PyData)->Option ((Fl×Rho)×Tp)
 |some xs=>if xs.length<=1000 then some ((.nx,ρ.set i (some (.loc (.list xs)))),T) else none
 |none=>none
@[simp] theorem Jh{i:Nat}:dj i a ρ T=bnd (a ρ T) fun ws T1=>xg i ρ T1 (dM ws):=rfl
@[simp] theorem Iz{i:Nat}{xs:List PyData}:xg i ρ T (some xs)=if xs.length<=1000 then some ((.nx,ρ.set i (some (.loc (.list xs)))),T) else none:=rfl
def yr(i:Nat)(ρ:Rho)(x:PyData)(T:Tp)(o:Option (Option W)):Option ((Fl×Rho)×Tp):=match o with
 |some (some (.loc (.list xs)))=>if xs.length<sizeLine then some ((.nx,ρ.set i (some (.loc (.list (xs++[x]))))),T) else none
 |_=>none
def yq(i:Nat)(ρ:Rho):W->Tp->Option ((Fl×Rho)×Tp):=fun w T1=>match w with
 | .d x=>(match ρ[i]? with
  |some (some (.loc (.list xs)))=>if xs.length<sizeLine then some ((.nx,ρ.set i (some (.loc (.list (xs++[x]))))),T1) else none
  | _=>none)
 |_=>none
@[simp] theorem Lf{i:Nat}:dO i f ρ T=bnd (f ρ T) (yq i ρ):=rfl
@[simp] theorem Ka{i:Nat}:yq i ρ (.d x) T=yr i ρ x T ρ[i]?:=rfl
@[simp] theorem Kb{i:Nat}{xs:List PyData}:yr i ρ x T (some (some (.loc (.list xs))))=if xs.length<sizeLine then some ((.nx,ρ.set i (some (.loc (.list (xs++[x]))))),T) else none:=rfl
@[simp] theorem Ll{l u:FO}:fSl f l u ρ T=bnd (f ρ T) fun w T1=>bnd (l ρ T1) fun lo T2=>bnd (u ρ T2) fun hi T3=>op1 (fun x=>i6 x lo hi) T3 w:=rfl
@[simp] theorem KC:cL ρ T=some (none,T):=rfl
def pK:W->Tp->Option (Option Int×Tp):=fun w T1=>match w with
 |.d (.int i)=>some (some i,T1)
 |_=>none
@[simp] theorem LL:fP f ρ T=bnd (f ρ T) pK:=rfl
@[simp] theorem Lm{i:Int}:pK (.d (.int i)) T=some (some i,T):=rfl
@[simp] theorem Ku{z:Str}{lo hi:Option Int}:i6 (.str z) lo hi=if z.length<=sizeLine then some (.str (Txt.slice z lo hi)) else none:=rfl
@[simp] theorem Kt{xs:List PyData}{lo hi:Option Int}:i6 (.tuple xs) lo hi=some (.tuple (cD xs lo hi)):=rfl
@[simp] theorem Kv{xs:List PyData}{lo hi:Option Int}:i6 (.list xs) lo hi=some (.list (cD xs lo hi)):=rfl
@[simp] theorem l6{o:W}{r:Rho}:aa 0 (some o::r) T=some (o,T):=rfl
@[simp] theorem dX{i:Nat}{o:Option W}{r:Rho}:aa (i+1) (o::r) T=aa i r T:=rfl
@[simp] theorem l3{o:Option W}{r:Rho}:aa 1 (o::r) T=aa 0 r T:=dX
@[simp] theorem l0{o:Option W}{r:Rho}:aa 2 (o::r) T=aa 1 r T:=dX
@[simp] theorem lZ{o:Option W}{r:Rho}:aa 3 (o::r) T=aa 2 r T:=dX
@[simp] theorem pR{o:Option W}{r:Rho}:aa 4 (o::r) T=aa 3 r T:=dX
@[simp] theorem pQ{o:Option W}{r:Rho}:aa 5 (o::r) T=aa 4 r T:=dX
@[simp] theorem pP{o:Option W}{r:Rho}:aa 6 (o::r) T=aa 5 r T:=dX
@[simp] theorem Dv{o:Option W}{r:Rho}:aa 7 (o::r) T=aa 6 r T:=dX
@[simp] theorem Jb{o:Option W}{r:Rho}:aa 8 (o::r) T=aa 7 r T:=dX
@[simp] theorem Ja{o:Option W}{r:Rho}:aa 9 (o::r) T=aa 8 r T:=dX
@[simp] theorem yn:fC x ρ T=some (.d x,T):=rfl
@[simp] theorem I0:view T (.d x)=some x:=rfl
@[simp] theorem Iq{i:Nat}:view T (.tp i)=(T[i]?).bind jy:=rfl
@[simp] theorem Jo{xs:List PyData}:jy xs=if isO xs=true then none else some (.list xs):=rfl
@[simp] theorem IZ{xs r:List PyData}:isO (.list xs::r)=false:=rfl
@[simp] theorem Ir{xs:List PyData}:view T (.loc (.list xs))=some (.list xs):=rfl
@[simp] theorem ev_viewLD{xs:List (PyData×PyData)}:view T (.loc (.dict xs))=some (.dict xs):=rfl
noncomputable def mkD(T:Tp)(o:Option PyData):Option (W×Tp):=match o with
 |some d=>some (.d d,T)
 |none=>none
@[simp] theorem mT:mkD T (some x)=some (.d x,T):=rfl
@[simp] theorem JD:mkD T none=none:=rfl
@[simp] theorem JE{p:Prop}[Decidable p]{u v:Option PyData}:mkD T (if p then u else v)=if p then mkD T u else mkD T v:=by split <;> rfl
def yp(o:PyData->PyData->Option PyData)(g:FE)(ρ:Rho)(w1:W)(T1:Tp):Option (W×Tp):=bnd (g ρ T1) fun w2 T2=>op2 o T2 w1 w2
@[simp] theorem mU{o:PyData->PyData->Option PyData}:af o f g ρ T=bnd (f ρ T) (yp o g ρ):=rfl
@[simp] theorem l8{o:PyData->PyData->Option PyData}:yp o g ρ w T=bnd (g ρ T) fun w2 T2=>op2 o T2 w w2:=rfl
@[simp] theorem mR{o:PyData->PyData->Option PyData}:op2 o T (.d x) (.d y)=mkD T (o x y):=rfl
@[simp] theorem Jv{o:PyData->PyData->Option PyData}{zs xs:List PyData}{r:Tp}:op2 o ((.list zs::xs)::r) (.tp 0) (.d y)=mkD ((.list zs::xs)::r) (o (.list (.list zs::xs)) y):=rfl
@[simp] theorem Lk{o:PyData->Option PyData}:fUn o f ρ T=bnd (f ρ T) fun w1 T1=>op1 o T1 w1:=rfl
@[simp] theorem KB{o:PyData->Option PyData}:op1 o T (.d x)=mkD T (o x):=rfl
@[simp] theorem Lc{b:Bool}:asB (.d (.bool b))=some b:=rfl
def xX:W->Tp->Option (Bool×Tp):=fun w T1=>match asB w with
 |some b=>some (b,T1)
 |none=>none
@[simp] theorem Fs:ax f ρ T=bnd (f ρ T) xX:=rfl
@[simp] theorem Dw{b:Bool}:xX (.d (.bool b)) T=some (b,T):=rfl
@[simp] theorem Ko:bg f ρ T=bnd (f ρ T) fun w T1=>nE T1 w:=rfl
def xY(T:Tp)(o:Option Bool):Option (Bool×Tp):=match o with
 |some b=>some (b,T)
 |none=>none
@[simp] theorem Je:nE T (.d x)=xY T (nB x):=rfl
@[simp] theorem Jc{b:Bool}:xY T (some b)=some (b,T):=rfl
@[simp] theorem Jd{b:Bool}:nB (.bool b)=some b:=rfl
def xO(c':FT)(ρ:Rho)(b:Bool)(T1:Tp):Option (Bool×Tp):=if b=true then c' ρ T1 else some (false,T1)
@[simp] theorem Ke:cz c c' ρ T=bnd (c ρ T) (xO c' ρ):=rfl
@[simp] theorem IW{b:Bool}:xO c' ρ b T=if b=true then c' ρ T else some (false,T):=rfl
def yf(c':FT)(ρ:Rho)(b:Bool)(T1:Tp):Option (Bool×Tp):=if b=true then some (true,T1) else c' ρ T1
@[simp] theorem Kz:bU c c' ρ T=bnd (c ρ T) (yf c' ρ):=rfl
@[simp] theorem Ju{b:Bool}:yf c' ρ b T=if b=true then some (true,T) else c' ρ T:=rfl
@[simp] theorem Jx:bX c ρ T=bnd (c ρ T) fun b T1=>some (!b,T1):=rfl
@[simp] theorem Iy:bG ρ T=some (true,T):=rfl
def yt(g:FE)(ρ:Rho)(w:W)(T:Tp):Option (W×Tp):=match asB w with
 |some b=>if b=true then g ρ T else some (.d (.bool false),T)
 |none=>none
@[simp] theorem Kc:fX f g ρ T=bnd (f ρ T) (yt g ρ):=rfl
@[simp] theorem Kf{b:Bool}:yt g ρ (.d (.bool b)) T=if b=true then g ρ T else some (.d (.bool false),T):=rfl
def orK(g:FE)(ρ:Rho)(w:W)(T:Tp):Option (W×Tp):=match asB w with
 |some b=>if b=true then some (.d (.bool true),T) else g ρ T
 |none=>none
@[simp] theorem Ky:nI f g ρ T=bnd (f ρ T) (orK g ρ):=rfl
@[simp] theorem KA{b:Bool}:orK g ρ (.d (.bool b)) T=if b=true then some (.d (.bool true),T) else g ρ T:=rfl
def yj(w:W)(T:Tp):Option (W×Tp):=match asB w with
 |some b=>some (.d (.bool (!b)),T)
 |none=>none
@[simp] theorem Jw:qL f ρ T=bnd (f ρ T) yj:=rfl
@[simp] theorem Jy{b:Bool}:yj (.d (.bool b)) T=some (.d (.bool (!b)),T):=rfl
def yl(f g:FE)(ρ:Rho)(b:Bool)(T1:Tp):Option (W×Tp):=if b=true then f ρ T1 else g ρ T1
@[simp] theorem K3:b9 c f g ρ T=bnd (c ρ T) (yl f g ρ):=rfl
@[simp] theorem JR{b:Bool}:yl f g ρ b T=if b=true then f ρ T else g ρ T:=rfl
def chK(o':PyData->PyData->Option PyData)(h:FE)(ρ:Rho)(w2 w:W)(T:Tp):Option (W×Tp):=match asB w with
 |some b=>if b=true then bnd (h ρ T) fun w3 T4=>op2 o' T4 w2 w3 else some (.d (.bool false),T)
 |none=>none
@[simp] theorem IU{o o':PyData->PyData->Option PyData}{h:FE}:gC o o' f g h ρ T=bnd (f ρ T) fun w1 T1=>bnd (g ρ T1) fun w2 T2=>bnd (op2 o T2 w1 w2) (chK o' h ρ w2):=rfl
@[simp] theorem La{o':PyData->PyData->Option PyData}{h:FE}{b:Bool}:chK o' h ρ w (.d (.bool b)) T=if b=true then bnd (h ρ T) fun w3 T4=>op2 o' T4 w w3 else some (.d (.bool false),T):=rfl
@[simp] theorem mS:ah ρ T=some ([],T):=rfl
def xH(a:FA)(ρ:Rho)(w:W)(T1:Tp):Option (List W×Tp):=bnd (a ρ T1) fun ws T2=>some (w::ws,T2)
@[simp] theorem l7:ae f a ρ T=bnd (f ρ T) (xH a ρ):=rfl
@[simp] theorem lI:xH a ρ w T=bnd (a ρ T) fun ws T2=>some (w::ws,T2):=rfl
@[simp] theorem HW:views T []=some []:=rfl
def kL(x:PyData)(o:Option (List PyData)):Option (List PyData):=match o with
 |some xs=>some (x::xs)
 |none=>none
@[simp] theorem IT{xs:List PyData}:kL x (some xs)=some (x::xs):=rfl
@[simp] theorem Ip{r:List W}:views T (.d x::r)=kL x (views T r):=rfl
@[simp] theorem HV{xs:List PyData}{r:List W}:views T (.loc (.list xs)::r)=kL (.list xs) (views T r):=rfl
@[simp] theorem Io:dM []=some []:=rfl
@[simp] theorem IS{r:List W}:dM (.d x::r)=kL x (dM r):=rfl
def sqK(mk:List PyData->PyData)(T:Tp):Option (List PyData)->Option (W×Tp)
 |some xs=>if xs.length<=1000 then some (.d (mk xs),T) else none
 |none=>none
@[simp] theorem Jl{mk:List PyData->PyData}:az mk a ρ T=bnd (a ρ T) fun ws T1=>sqK mk T1 (dM ws):=rfl
@[simp] theorem Ks{mk:List PyData->PyData}{xs:List PyData}:sqK mk T (some xs)=if xs.length<=1000 then some (.d (mk xs),T) else none:=rfl
def cbK(o:List PyData->Option PyData)(T:Tp)(v:Option (List PyData)):Option (W×Tp):=match v with
 | some xs=>(match o xs with
  |some d=>some (.d d,T)
  | none=>none)
 |none=>none
@[simp] theorem Lu{o:List PyData->Option PyData}:fCB o a ρ T=bnd (a ρ T) fun ws T1=>cbK o T1 (views T1 ws):=rfl
@[simp] theorem Lb{o:List PyData->Option PyData}{xs:List PyData}:cbK o T (some xs)=mkD T (o xs):=rfl
@[simp] theorem vh{m:FnM}:aq m a ρ T=bnd (a ρ T) fun ws T1=>bnd (m ws T1) fun x T2=>some (.d x,T2):=rfl
@[simp] theorem J7{it:FI}:bJ it c f ρ T=bnd (it ρ T) fun ds T1=>bnd (bC c f ρ ds T1) fun ys T2=>some (.d (.list ys),T2):=rfl
def itK(T:Tp)(o:Option (List PyData)):Option (List PyData×Tp):=match o with
 |some xs=>some (xs,T)
 |none=>none
def itW:W->Tp->Option (List PyData×Tp):=fun w T1=>match w with
 | .d x=>(match ik x with
  |some xs=>some (xs,T1)
  | none=>none)
 |_=>none
@[simp] theorem JM:bc f ρ T=bnd (f ρ T) itW:=rfl
@[simp] theorem KY:itW (.d x) T=itK T (ik x):=rfl
@[simp] theorem KZ{xs:List PyData}:itK T (some xs)=some (xs,T):=rfl
@[simp] theorem Il{xs:List PyData}:ik (.list xs)=some xs:=rfl
@[simp] theorem Im{ds:List (PyData×PyData)}:ik (.dict ds)=some (ds.map (·.1)):=rfl
@[simp] theorem Ij{xs:List PyData}:ik (.tuple xs)=some xs:=rfl
@[simp] theorem Ik{z:Str}:ik (.str z)=if z.length<=sizeLine then some (signs z) else none:=rfl
def x9:W->Tp->Option (List PyData×Tp):=fun w T1=>match w with
 |.d (.int j)=>if fq j=true then some (cI 0 j.toNat,T1) else none
 |_=>none
@[simp] theorem Jq:d6 f ρ T=bnd (f ρ T) x9:=rfl
@[simp] theorem Jp{j:Int}:x9 (.d (.int j)) T=if fq j=true then some (cI 0 j.toNat,T) else none:=rfl
@[simp] theorem wF{i:Nat}{it:FI}:bD i it s ρ T=bnd (it ρ T) fun ds T1=>forL i s ds ρ T1:=rfl
@[simp] theorem Kr{i j:Int}:eS (.int i) (.int j)=some (.int (i-j)):=rfl
@[simp] theorem KH{i j:Int}:fZ (.int i) (.int j)=if 0<j then some (.int (i % j)) else none:=rfl
@[simp] theorem JY{i j:Int}:G5 (.int i) (.int j)=if 0<j/\j<1073741824 then some (.int (i / j)) else none:=rfl
@[simp] theorem Kx{i j:Int}:eU (.int i) (.int j)=if 0<=j/\j<=1000000/\i.natAbs<2^64 then some (.int (i^j.toNat)) else none:=rfl
@[simp] theorem Lo{i j:Int}:ltD (.int i) (.int j)=some (.bool (decide (i<j))):=rfl
@[simp] theorem Lp{i j:Int}:leD (.int i) (.int j)=some (.bool (decide (i<=j))):=rfl
@[simp] theorem Lr{i j:Int}:gtD (.int i) (.int j)=some (.bool (decide (j<i))):=rfl
@[simp] theorem Ls{i j:Int}:geD (.int i) (.int j)=some (.bool (decide (j<=i))):=rfl
@[simp] theorem vi{i j:Int}:aT (.int i) (.int j)=some (.int (i+j)):=rfl
@[simp] theorem Dy{u v:Str}:aT (.str u) (.str v)=if u.length+v.length<=sizeLine then some (.str (u++v)) else none:=rfl
@[simp] theorem Kg{u v:List PyData}:aT (.tuple u) (.tuple v)=if u.length+v.length<=sizeLine then some (.tuple (u++v)) else none:=rfl
@[simp] theorem Kh{u v:List PyData}:aT (.list u) (.list v)=if u.length+v.length<=sizeLine then some (.list (u++v)) else none:=rfl
@[simp] theorem JC{i j:Int}:d9 (.int i) (.int j)=if (-(2^64)<i/\i<2^64)\/(-(2^64)<j/\j<2^64) then some (.int (i*j)) else none:=rfl
@[simp] theorem Dx{z:Str}{k:Int}:d9 (.str z) (.int k)=if 0<=k/\k<=2000/\z.length<=1000 then some (.str (Txt.mul z k)) else none:=rfl
@[simp] theorem Fx{i j:Int}:eqD (.int i) (.int j)=some (.bool (decide (i=j))):=rfl
@[simp] theorem K8{i j:Str}:eqD (.str i) (.str j)=some (.bool (decide (i=j))):=rfl
@[simp] theorem K9{i j:Bool}:eqD (.bool i) (.bool j)=some (.bool (decide (i=j))):=rfl
@[simp] theorem KF{i j:Int}:neD (.int i) (.int j)=some (.bool (!decide (i=j))):=rfl
@[simp] theorem KE{i j:Str}:neD (.str i) (.str j)=some (.bool (!decide (i=j))):=rfl
@[simp] theorem KG{i j:Bool}:neD (.bool i) (.bool j)=some (.bool (!decide (i=j))):=rfl
@[simp] theorem Lq:isD x .none=some (.bool (isNone x)):=by cases x <;> rfl
@[simp] theorem IP{i j:Bool}:jc (.bool i) (.bool j)=some (.bool (i != j)):=rfl
@[simp] theorem KD{i:Int}:fF (.int i)=some (.int (-i)):=rfl
@[simp] theorem K0{k:Kd}:bw k x=some (.bool (bY (kd x) k)):=rfl
@[simp] theorem KW{xs:List PyData}{i:Int}:ixD (.list xs) (.int i)=atI xs i:=rfl
@[simp] theorem KU{xs:List PyData}{i:Int}:ixD (.tuple xs) (.int i)=atI xs i:=rfl
@[simp] theorem Fu{z:Str}{i:Int}:ixD (.str z) (.int i)=if z.length<=sizeLine then (atI z.cps.toList i).map (fun c=>.str ⟨#[c]⟩) else none:=rfl
@[simp] theorem JK{xs:List PyData}:a7 [.list xs]=some (.int xs.length):=rfl
@[simp] theorem JI{xs:List PyData}:a7 [.tuple xs]=some (.int xs.length):=rfl
@[simp] theorem JJ{z:Str}:a7 [.str z]=if z.length<=sizeLine then some (.int z.length) else none:=rfl
@[simp] theorem Lh{i:Int}:kW [.int i]=some (.int (if i<0 then -i else i)):=rfl
@[simp] theorem KL{i j:Int}:GO [.int i,.int j]=some (.int (if j>i then j else i)):=rfl
@[simp] theorem KJ{i j:Int}:GN [.int i,.int j]=some (.int (if j<i then j else i)):=rfl
@[simp] theorem HY{xs:List PyData}:bF [.list xs]=some (.tuple xs):=rfl
@[simp] theorem HX{xs:List PyData}:bF [.tuple xs]=some (.tuple xs):=rfl
@[simp] theorem IJ{xs:List PyData}:fT [.list xs]=some (.list xs):=rfl
@[simp] theorem II{xs:List PyData}:fT [.tuple xs]=some (.list xs):=rfl
@[simp] theorem KQ{i:Int}:kd (.int i)=.int:=rfl
@[simp] theorem KS{i:Bool}:kd (.bool i)=.bl:=rfl
@[simp] theorem KN{i:Str}:kd (.str i)=.str:=rfl
@[simp] theorem KM{i:List PyData}:kd (.tuple i)=.tup:=rfl
@[simp] theorem KP{i:List PyData}:kd (.list i)=.lst:=rfl
@[simp] theorem KR{i:List (PyData×PyData)}:kd (.dict i)=.dct:=rfl
@[simp] theorem KO:kd .none=.non:=rfl
end
theorem at0{α:Type}{a b c:α}:atI [a,b,c] 0=some a:=rfl
theorem at1{α:Type}{a b c:α}:atI [a,b,c] 1=some b:=rfl
theorem at2{α:Type}{a b c:α}:atI [a,b,c] 2=some c:=rfl
theorem ix1:ixN 3 1=some 1:=rfl
theorem ix2:ixN 3 2=some 2:=rfl
theorem eK{e:FE}{ρ:Rho}{T:Tp}{g:PyData->PyData}:∀{ds:List PyData},(∀d∈ds,e (some (.d d)::ρ) T=some (.d (g d),T))->bC bG e ρ ds T=some (ds.map g,T)
 |[],_=>rfl
 |d::r,h=>by
  have ih:=eK (ds:=r) fun x hx=>h x (List.mem_cons_of_mem _ hx);have h0:=h d List.mem_cons_self;unfold bC;simp[h0,ih]
theorem rG{c:FT}{ρ:Rho}{T:Tp}{p:PyData->Bool}:∀{ds:List PyData},(∀d∈ds,c (some (.d d)::ρ) T=some (p d,T))->bC c (aa 0) ρ ds T=some (ds.filter p,T)
 |[],_=>rfl
 |d::r,h=>by
  have ih:=rG (ds:=r) fun x hx=>h x (List.mem_cons_of_mem _ hx);have h0:=h d List.mem_cons_self;unfold bC
  cases hp:p d with
  |false=>simp[h0,hp,ih]
  |true=>simp[h0,hp,ih]
theorem sC{α:Type}(p:α->Bool):∀l:List α,iw (l.map fun d=>.bool (p d))=some (l.map p)
 |[]=>rfl
 |d::r=>by
  show (iw (r.map fun d=>.bool (p d))).map (p d::·)=_;rw[sC p r];rfl
theorem oy{α:Type}(p:α->Int):∀l:List α,fU (l.map fun d=>.int (p d))=some (l.map p)
 |[]=>rfl
 |d::r=>by
  show (fU (r.map fun d=>.int (p d))).map (p d::·)=_;rw[oy p r];rfl
theorem lc{α:Type}(p:α->Str):∀l:List α,d3 (l.map fun d=>.str (p d))=some (l.map p)
 |[]=>rfl
 |d::r=>by
  show (d3 (r.map fun d=>.str (p d))).map (p d::·)=_;rw[lc p r];rfl
@[simp] theorem Lg{α:Type}(p:α->Bool)(l:List α):jD [.list (l.map fun d=>.bool (p d))]=some (.bool (l.all p)):=by
 show (iw _).map (fun bs=>PyData.bool (bs.all id))=_;rw[sC,Option.map_some,List.all_map];rfl
@[simp] theorem Kq{α:Type}(p:α->Int)(l:List α):jx [.list (l.map fun d=>.int (p d))]=some (.int (l.map p).sum):=by
 show (fU _).map (fun bs=>PyData.int bs.sum)=_;rw[oy,Option.map_some]
@[simp] theorem JF{α:Type}(p:α->Int)(l:List α)(k:Int):kz (.list (l.map fun d=>.int (p d))) (.int k)=some (.int (K1.cC k (l.map p))):=by
 show (fU _).map (fun bs=>PyData.int (K1.cC k bs))=_;rw[oy,Option.map_some]
def kc(y:Str):PyData->Bool
 |.str z=>jB y z
 |_=>false
theorem BI(y:Str)(c:Nat):jB y ⟨#[c]⟩=decide (c∈y.cps.toList):=StrLaws.found_one ..
@[simp] theorem K2{x y:Str}:inD (.str x) (.str y)=some (.bool (jB y x)):=rfl
theorem sM{x:Str}{d:PyData}(h:d∈D.signs x):∃c,c∈x.cps.toList/\d=.str ⟨#[c]⟩:=by
 obtain⟨c,hc,rfl⟩:=List.mem_map.mp h;exact⟨c,hc,rfl⟩
section
variable {X:Cx}
def Cn:PyData->PyData->Option PyData
 |.str z,.str y=>some (.bool (Txt.startswith z y))
 |_,_=>none
theorem A0:CallR X (.type "int") (fun xs H Q=>∃x n,xs=[.str x]/\PySem.intText? x=some n/\x.length<=640/\Q (.int n) H):=by
 intro pins s σ H xs us Q I r h;obtain⟨x,n,rfl,hn,hl,q⟩:=h;obtain⟨u,rfl,ru⟩:=vals1 r;obtain⟨t,rfl⟩:=ru;exact PySem.W.KIN.call_text hn hl ⟨.int n,H,I.tok _,⟨_,rfl⟩,q⟩
def intD:List PyData->Option PyData
 |[.int i]=>some (.int i)
 |[.bool b]=>some (.int (if b then 1 else 0))
 |[.str x]=>if x.length<=640 then (PySem.intText? x).map .int else none
 |_=>none
theorem qP:fD X (.type "int") intD:=⟨_,call_int1.or A0,fun O ts H T vs xs d Q hc h e q=>by
 unfold intD at e;split at e
 .cases e
  obtain⟨v,rfl,g⟩:=dm h;cases g.int;exact .inl (.inl ⟨_,rfl,q _ H (.refl _ _) hc (.int _)⟩)
 .cases e
  obtain⟨v,rfl,g⟩:=dm h;cases g.bl;exact .inl (.inr ⟨_,rfl,q _ H (.refl _ _) hc (.int _)⟩)
 .split at e
  .rename_i hz
   obtain⟨n,e1,rfl⟩:=Option.map_eq_some_iff.mp e;obtain⟨v,rfl,g⟩:=dm h;cases g.str;exact .inr ⟨_,n,rfl,e1,hz,q _ H (.refl _ _) hc (.int _)⟩
  .cases e
 .cases e⟩
end
@[simp] theorem HZ{z y:Str}:Cn (.str z) (.str y)=some (.bool (Txt.startswith z y)):=rfl
@[simp] theorem JN{x:Str}:intD [.str x]=if x.length<=640 then (PySem.intText? x).map .int else none:=rfl
@[simp] theorem JO{i:Int}:intD [.int i]=some (.int i):=rfl
@[simp] theorem JP{b:Bool}:intD [.bool b]=some (.int (if b then 1 else 0)):=rfl
def eqG(x y:PyData):Option PyData:=if SeqAt.shaped x=true/\SeqAt.shaped y=true then some (.bool (PyData.eqv x y)) else none
def neG(x y:PyData):Option PyData:=if SeqAt.shaped x=true/\SeqAt.shaped y=true then some (.bool (!PyData.eqv x y)) else none
section
variable {X:Cx}
theorem Vw.reads{pins:List (Addr×Obj)}{σ:L2.St}{H:Hp}{s:Shared}{O:Addr->Prop}{v:V}{d:PyData}{u:Value}(I:Inv X pins σ H s)(h:Vw X.K O H v d)(r:RelV v u):∃as,Reads s.heap u d as:=by
 cases h with
 |rep h=>obtain⟨as,rd,_⟩:=h.reads I r;exact⟨as,rd⟩
 |raw h hs=>
  cases r;obtain⟨its,rv,pl,_⟩:=I.list (SqL.of h);obtain⟨o,n,e,c,_,dd⟩:=pl;obtain⟨as,rd,_⟩:=hs.reads I rv;exact⟨_,.list e c dd (by simpa using rd)⟩
 |rawD h rk=>
  cases r;obtain⟨z,y,vs,kv,o,es,ep,e,ed,dd,_,ek,_⟩:=(show ObjOk X.prog X.w H s.heap _ (.dK _) from I.hok _ _ h);obtain⟨bs,q1,q2,f⟩:=RepK.reads I rk kv ek;exact⟨_,.dict (as:=[]) (bs:=bs) e ed.1 dd q1 q2⟩
theorem EV{k:Nat}(hr:Room k X.A):OpR X (compareOp .Eq) (fun x y H Q=>∃O d1 d2,Vw X.K O H x d1/\Vw X.K O H y d2/\SeqAt.shaped d1=true/\SeqAt.shaped d2=true/\Q (.bl (PyData.eqv d1 d2)) H):=by
 intro pins s σ H x y v u Q I rx ry h;obtain⟨O,d1,d2,h1,h2,s1,s2,q⟩:=h;obtain⟨as,r1⟩:=h1.reads I rx;obtain⟨bs,r2⟩:=h2.reads I ry;exact SeqAt.compareEq_shaped r1 r2 s1 s2 (by have:=hr.un;omega) ⟨.bl _,H,I,rfl,q⟩
theorem EQ{k:Nat}(hr:Room k X.A):OpR X (compareOp .NotEq) (fun x y H Q=>∃O d1 d2,Vw X.K O H x d1/\Vw X.K O H y d2/\SeqAt.shaped d1=true/\SeqAt.shaped d2=true/\Q (.bl (!PyData.eqv d1 d2)) H):=by
 intro pins s σ H x y v u Q I rx ry h;obtain⟨O,d1,d2,h1,h2,s1,s2,q⟩:=h;obtain⟨as,r1⟩:=h1.reads I rx;obtain⟨bs,r2⟩:=h2.reads I ry;exact SeqAt.compareNe_shaped r1 r2 s1 s2 (by have:=hr.un;omega) ⟨.bl _,H,I,rfl,q⟩
theorem xm{k:Nat}(hr:Room k X.A):OpD X (compareOp .Eq) eqG:=⟨_,EV hr,fun O ts H T v1 v2 x y d Q hc h1 h2 e q=>by
 unfold eqG at e;split at e
 .rename_i h
  cases e;exact⟨O,x,y,h1,h2,h.1,h.2,q _ H (.refl _ _) hc (.bl _)⟩
 .cases e⟩
theorem kr{k:Nat}(hr:Room k X.A):OpD X (compareOp .NotEq) neG:=⟨_,EQ hr,fun O ts H T v1 v2 x y d Q hc h1 h2 e q=>by
 unfold neG at e;split at e
 .rename_i h
  cases e;exact⟨O,x,y,h1,h2,h.1,h.2,q _ H (.refl _ _) hc (.bl _)⟩
 .cases e⟩
open Classical in
def kU(h:Heap)(x:PyData)(v:Value):Bool:=if e:∃p:PyData×List Addr,Reads h v p.1 p.2 then PyData.eqv e.choose.1 x else false
theorem vn{h:Heap}{x d:PyData}{v:Value}{as:List Addr}(r:Reads h v d as):kU h x v=PyData.eqv d x:=by
 have e:∃p:PyData×List Addr,Reads h v p.1 p.2:=⟨(d,as),r⟩;unfold kU;rw[dif_pos e];have:=(PySem.Reads.unique e.choose_spec d as r).1;rw[this]
theorem ud{h:Heap}{x:PyData}:∀{vs:List Value}{ds:List PyData}{as:List Addr},ReadsAll h vs ds as->vs.any (kU h x)=ds.any fun d=>PyData.eqv d x
 |_,_,_,.nil=>rfl
 |_,_,_,.cons r rs=>by rw[List.any_cons,List.any_cons,vn r,ud rs]
theorem readsAll_mem{h:Heap}:∀{vs:List Value}{ds:List PyData}{as:List Addr}{v:Value},ReadsAll h vs ds as->v∈vs->∃d bs,d∈ds/\Reads h v d bs
 |_,_,_,_,.cons r rs,hm=>by
  rcases List.mem_cons.mp hm with z|z
  .subst z;exact⟨_,_,List.mem_cons_self,r⟩
  .obtain⟨d,bs,h1,h2⟩:=readsAll_mem rs z
   exact⟨d,bs,List.mem_cons_of_mem _ h1,h2⟩
def inG:PyData->PyData->Option PyData
 |x,.tuple ys=>if SeqAt.shaped x=true/\ys.all SeqAt.shaped=true then some (.bool (ys.any fun y=>PyData.eqv y x)) else none
 |_,_=>none
theorem ET{k:Nat}(hr:Room k X.A):OpR X (compareOp .In) (fun x y H Q=>∃O d1 a vs ds,Vw X.K O H x d1/\y=.ref a/\SqT X.K H a vs/\Reps X.K O H vs ds/\SeqAt.shaped d1=true/\ds.all SeqAt.shaped=true/\Q (.bl (ds.any fun y=>PyData.eqv y d1)) H):=by
 intro pins s σ H x y v u Q I rx ry h;obtain⟨O,d1,a,vs,ds,h1,rfl,h2,h3,s1,s2,q⟩:=h;cases ry;obtain⟨as,r1⟩:=h1.reads I rx;obtain⟨its,rv,p1,_⟩:=I.tuple h2;obtain⟨bs,r2,_⟩:=h3.reads I rv;refine SeqAt.in_tupleAt (kU s.heap d1) p1 (fun y hy=>?_) ?_
 .obtain⟨d,cs,hd,rd⟩:=readsAll_mem r2 (by simpa using hy)
  rw[vn rd];have sd:=List.all_eq_true.mp s2 d hd;refine SeqAt.eqAt_reads d d1 _ s y v _ _ rd r1 (SeqAt.canLay_of_shaped sd) (SeqAt.canLay_of_shaped s1) (SeqAt.room_of_shaped sd ?_);have:=hr.un;show X.A.in1.units+64<cLine
  have e:X.A.in1.units<=X.A.units+1:=by simp[Around.in1]
  omega
 .have e:its.toArray.any (kU s.heap d1)=ds.any fun y=>PyData.eqv y d1:=by
   rw[←ud r2];simp
  rw[e];exact⟨.bl _,H,I,rfl,q⟩
theorem xl{k:Nat}(hr:Room k X.A):OpD X (compareOp .In) inG:=⟨_,ET hr,fun O ts H T v1 v2 x y d Q hc h1 h2 e q=>by
 unfold inG at e;split at e
 .split at e
  .rename_i h
   cases e;obtain⟨a,vs,rfl,t,r⟩:=h2.tup;exact⟨O,x,a,vs,_,h1,rfl,t.sq,r,h.1,h.2,q _ H (.refl _ _) hc (.bl _)⟩
  .cases e
 .cases e⟩
end
theorem As(l:Addr)(items:Array Value)(n:Nat)(b:Addr)(items2:Array Value)(n2:Nat)(dd:Option Addr)(sl:Array (Option Value))(hc0:¬(!items.isEmpty&&Builtin.List.listTooLong (items.size+items2.size))=true)(hc1:items.size<=sizeLine)(hs2:items.size+items2.size<=sizeLine+1) :
  Meets (Builtin.«list.extend» ⟨[.ref l,.ref b],[]⟩) (fun _ R s=>s.heap.get? l=some { cls:=.type "list",dict:=none,data:=.seq items n,slots:=#[] }/\s.heap.get? b=some { cls:=.type "list",dict:=dd,data:=.seq items2 n2,slots:=sl }/\R (.ok (.ret Value.none)) { s with heap:=s.heap.update l (Obj.mapSeq fun x=>x++items2),toks:=s.toks }):=
 .of_wp fun prog w A R s h=>by
  obtain⟨hp,g,d,tk,os⟩:=s;obtain⟨hl,hb,h⟩:=h;have f1:=AutoSeq1.idx_int;have f2:=AutoSeq1.sub_tuple_tuple;have f3:=AutoSeq1.sub_list_list;have f4:=AutoSeq1.sub_tuple_list;have f5:=AutoSeq1.sub_list_tuple
  have hz':(items++items2).size<=sizeLine+1:=by rw[Array.size_append];exact hs2
  wp_walk using(wpAny_updateSeq hl rfl (hz:=hc1) (_hz':=hz')),wpAny_loadPart' hl,wpAny_loadPart' hb;exact⟨_,rfl,h⟩
section
variable {X:Cx}
theorem E5:MtM X "list.extend" (fun x vs H Q=>∃l b xs zs,x=.ref l/\vs=[.ref b]/\H l=some (.lst xs)/\SqL X.K H b zs/\xs.length+zs.length<=sizeLine/\Q .non (upd H l (.lst (xs++zs)))):=by
 intro pins s σ H x vs v us Q I rx rv h;obtain⟨l,b,xs,zs,rfl,rfl,hH,hB,hz,q⟩:=h;cases rx;obtain⟨u,rfl,ru⟩:=rv.one;cases ru;obtain⟨z,its,n,r,hl,e⟩:=I.lstM hH;obtain⟨its2,r2,pl,_⟩:=I.list hB;obtain⟨⟨cls2,dd2,data2,sl2⟩,n2,e2,c2,_,d2⟩:=pl;simp only at c2 d2;subst c2 d2;have hl2:=r2.length
 have hsz:its.toArray.size+its2.toArray.size<=sizeLine:=by rw[List.size_toArray,List.size_toArray];omega
 have hlong:¬(!its.toArray.isEmpty&&Builtin.List.listTooLong (its.toArray.size+its2.toArray.size))=true:=by
  rw[Bv hsz,Bool.and_false];exact Bool.false_ne_true
 refine call_meets F.slot_list_extend ⟨_,e,rfl⟩ F.entry_list_extend (F.args_list_extend_2 _ _)
  (As l its.toArray n b its2.toArray n2 dd2 sl2 hlong (by rw[List.size_toArray];omega) (by omega)) ⟨e,e2,?_⟩
 refine⟨.non,_,I.lset (its':=its++its2) hH e (by simp) (r.append r2) ?_,rfl,q⟩;rw[List.length_append];omega
variable {pos:Pos}{e:Expr}{fe:FE}
def gK(i:Nat)(f:FE):FS:=fun ρ T=>bnd (f ρ T) fun w T1=>match w,ρ[i]? with
 |.d (.list ys),some (some (.loc (.list xs)))=>if xs.length+ys.length<=sizeLine then some ((.nx,ρ.set i (some (.loc (.list (xs++ys))))),T1) else none
 |_,_=>none
theorem wM{i:Nat}{x:Str}{p apos:Pos}(he:DE X e fe)(hN:X.N[i]? = some x:=by rfl)(hv:Vis X.env.scope x:=by first|exact Or.inl rfl|exact Or.inr (Or.inl rfl)|exact Or.inr (Or.inr rfl))(hd:(x == ("__debug__" : Str))=false:=by decide)
  (hcd:(x == ("__classdict__" : Str))=false:=by decide) {cpos:Pos}
  (hbase:attributeBase (.Name x p) "extend" X.env (eval (.Name x p) X.env)=eval (.Name x p) X.env:=by rfl)
  (hfew:((backTo cpos (starEach [e] X.env)).all (fun x=>!x.1)&&(backToKw cpos (keywordEach [] X.env)).all (fun x=>x.1.isSome)
   && decide (([e]:List Expr).length+([]:List Keyword).length+(if ([]:List Keyword).isEmpty then 0 else 1)<30))=true:=by exact nH rfl)
  (hline:(apos.endLine == cpos.line)=true:=by rfl) (hse:starEach [e] X.env=(false,eval e X.env)::starEach [] X.env:=by exact a9 rfl) (hplain:(backTo cpos (starEach [] X.env)).any (·.1)=false:=by exact bW rfl)
  (hs:swapsWith (.Call (.Attribute (.Name x p) "extend" apos) [e] [] cpos) none pos.line X.env=pure false:=by rfl) :
  DS X (.Expr (.Call (.Attribute (.Name x p) "extend" apos) [e] [] cpos) pos) (gK i fe):=by
 refine⟨?_⟩;refine bZ (pF (kq PySem.F.plainAttrs_list PySem.F.slot_list_extend PySem.F.type_list_extend E5 (pv i hN hv hd hcd) (cW he.pe dG hse) hbase hfew hline hse hplain) hs) fun D σ H=>?_;rintro⟨O₀,H₀,F,ts,O,ρ,T,fl,ρ',T',rs,e,q⟩;obtain⟨w,T1,e1,e⟩:=aM e;split at e
 .rename_i ys xs h1
  split at e
  .rename_i h2
   cases e;obtain⟨v,k1,a,rfl,k2,k3,vs,k4,k5⟩:=rs.re i _ h1;refine⟨_,k1,.inl ⟨rfl,vs,SqL.of k4⟩,O,ts,ρ,T,_,_,rs.hc,rs.re,e1,fun u H1 s1 hc1 r1=>?_⟩;have rs1:=rs.step s1 hc1;have r1':Rep X.K O H1 u (.list ys):=r1
   cases r1' with
   |lst t r=>
    rename_i b us;exact⟨a,b,vs,us,rfl,rfl,s1 _ _ k3 k4,t.sq,by rw[k5.length,r.length];exact h2,q O _ _ (rs1.put (us:=[]) h1 k1 ((k5.mono (rs.hc.le s1)).append r))⟩
  .cases e
 .cases e
end
section
variable {X:Cx}{pos:Pos}{e:Expr}{f:FE}{x:Str}{p:Pos}{B:List (Str×Int)}
end
end D
namespace L2
open PySem PySem.Spec PyProof.Rows
open K1 (dw cC)
section
variable {prog:Program}{w:World}{A:Around}{R:Result->Shared->Prop}{it S:Addr}{fp wr:List Addr}{P:Nat->Value->Prop}{St:Nat->Heap->Prop}{ns:List Int}{kw:List (Str×Value)}
end
section
variable {X:Cx}
end
end L2
namespace D
open PySem PySem.Spec PyProof.Rows L2
section
variable {X:Cx}{pos:Pos}{e:Expr}{f:FE}{x:Str}{p:Pos}
variable {B:List (Str×Int)}
def lR:List Value->List Str->Bool
 |[],[]=>true
 |.str x _::r,y::s=>decide (x=y)&&lR r s
 |_,_=>false
def iX(look:Addr->Option Obj)(a:Addr)(ss:List Str):Bool:=match look a with
 |some ⟨.type n,_,.seq its _,_⟩=>decide (n="tuple")&&lR its.toList ss
 |_=>false
def q8(K:Frag)(mg:Str->Option Value)(x:Str)(ss:List Str):Prop:=∃a,mg x=some (.ref a)/\iX (fun b=>K.lookup b) a ss=true
theorem sI:∀{vs:List Value}{ss:List Str},lR vs ss=true->Vals (ss.map V.str) vs
 |[],[],_=>.nil
 |.str x t::r,y::s,h=>by
  have h':(decide (x=y)&&lR r s)=true:=h;rw[Bool.and_eq_true] at h';exact .cons ⟨t,by rw[of_decide_eq_true h'.1]⟩ (sI h'.2)
theorem sO{K:Frag}{O:Addr->Prop}{H:Hp}:∀ss:List Str,Reps K O H (ss.map V.str) (ss.map PyData.str)
 |[]=>.nil
 |x::r=>.cons (.str x) (sO r)
theorem lL{ss:List Str}(hg:Gl X x)(ht:q8 X.K X.mg x ss)(hz:ss.length<=sizeLine:=by decide)(hd:(x == ("__debug__" : Str))=false:=by decide):DE X (.Name x p) (fC (.tuple (ss.map PyData.str))):=by
 obtain⟨a,hx,hl⟩:=ht;refine⟨?_⟩;refine bu (pG (v:=.ref a) hg hx rfl hd) (ig fun O H=>?_);unfold iX at hl;split at hl
 .rename_i n dd its c sl hk
  rw[Bool.and_eq_true] at hl;have rv:=sI hl.2;have hn:=of_decide_eq_true hl.1;subst hn;refine .tup (vs:=ss.map V.str) (.inr (.inr ⟨_,its,c,hk,rfl,rfl,?_,rv⟩)) (sO ss);have:=rv.length;rw[List.length_map] at this;have e2:its.toList.length=its.size:=Array.length_toList;omega
 .cases hl
def nA(o:Obj)(ss:List Str):Bool:=iX (fun _=>some o) 0 ss
theorem sF{K:Frag}{a:Addr}{o:Obj}{ss:List Str}(h:K.lookup a=some o)(g:nA o ss=true):iX (fun b=>K.lookup b) a ss=true:=by
 unfold nA iX at g;unfold iX;dsimp only;rw[h];exact g
end
mutual
def aY:PyData->Bool
 |.tuple ds=>bj ds
 |.list _=>false
 |.dict _=>false
 |_=>true
def bj:List PyData->Bool
 |[]=>true
 |d::r=>aY d&&bj r
end
section
variable {K:Frag}{O:Addr->Prop}{H:Hp}
theorem TupAt.own(hm:∀b,O b->Mut (H b)){a:Addr}{vs:List V}(t:TupAt K (fun _=>False) H a vs):TupAt K O H a vs:=by
 rcases t with⟨_,t⟩|t
 .refine .inl ⟨fun z=>?_,t⟩
  rcases hm a z with⟨us,e⟩|⟨us,e⟩|⟨C,dx,us,e⟩ <;> rcases t with t|⟨o,t⟩ <;> (rw[e] at t;cases t)
 .exact .inr t
mutual
theorem Rep.own(hm:∀b,O b->Mut (H b)):∀{v:V}{d:PyData},Rep K (fun _=>False) H v d->aY d=true->Rep K O H v d
 |_,_,.non,_=>.non
 |_,_,.bl b,_=>.bl b
 |_,_,.int i,_=>.int i
 |_,_,.str x,_=>.str x
 |_,_,.tup t r,h=>.tup (t.own hm) (Reps.own hm r (by simpa[aY] using h))
 |_,_,.lst t r,h=>by simp[aY] at h
 |_,_,.dct n t r,h=>by simp[aY] at h
theorem Reps.own(hm:∀b,O b->Mut (H b)):∀{vs:List V}{ds:List PyData},Reps K (fun _=>False) H vs ds->bj ds=true->Reps K O H vs ds
 |_,_,.nil,_=>.nil
 |_,_,.cons (d:=d) (ds:=ds) r t,h=>by
  have h':(aY d&&bj ds)=true:=by simpa[bj] using h
  rw[Bool.and_eq_true] at h';exact .cons (Rep.own hm r h'.1) (Reps.own hm t h'.2)
end
end
def kN:List W->Bool
 |[]=>true
 |.tp _::_=>false
 |.loc (.dict _)::_=>false
 |_::r=>kN r
theorem qX{K:Frag}{O:Addr->Prop}{ts:List Addr}{H:Hp}:∀{vs:List V}{ws:List W},fY K O ts H vs ws->kN ws=true->fY K (fun _=>False) [] H vs (ws.map jC)
 |_,[],.nil,_=>.nil
 |_,.d x::r,.cons h t,e=>.cons (show Rep K (fun _=>False) H _ x from Rep.mono (fun a o n e=>⟨fun z=>z,e⟩) h) (qX t e)
 |_,.tp _::_,.cons _ _,e=>by cases e
 |_,.loc x::r,.cons h t,e=>by
  have le:Le O H (fun _=>False) H:=fun a o n e=>⟨fun z=>z,e⟩;obtain⟨a,rfl,_,_,h3⟩:=h
  cases x with
  |list xs=>obtain⟨vs,h1,h2⟩:=h3;exact .cons (.lst (.inl ⟨fun z=>z,.inl h1⟩) (h2.mono le)) (qX t e)
  |dict xs=>cases e
  |_=>cases h3
def gD(m:FnM)(g:FA):FE:=fun ρ T=>bnd (g ρ T) fun ws T1=>if kN ws=true then (match m (ws.map jC) [] with
 |some (x,_)=>if aY x=true then some (.d x,T1) else none
 | none=>none) else none
theorem pf{X:Cx}{name:Str}{ps:List Str}{k:Nat}{m:FnM}{e:Expr}{es:List Expr}{g:FA}{p pos:Pos}(F:Fn X.prog X.w X.K X.mg X.base name ps k (spM X.K ps.length m))(hr:Room k X.A)(hg:Gl X name)(ha:DA X (e::es) g)(hl:gO g ps.length)(hdb:(name == ("__debug__" : Str))=false:=by decide)
  (he:starEach (e::es) X.env=(false,eval e X.env)::starEach es X.env:=by exact a9 rfl) (hpl:(backTo pos (starEach es X.env)).any (·.1)=false:=by exact bW rfl):DE X (.Call (.Name name p) (e::es) [] pos) (gD m g):=by
 refine⟨?_⟩;refine bu (ko F hr hg ha.pe hdb he hpl) fun σ H Q=>?_;rintro⟨O,ts,ρ,T,w,T',hc,re,e,q⟩;obtain⟨ws,T1,e1,e⟩:=aM e;split at e
 .rename_i hn
  split at e
  .rename_i x T2 e2
   split at e
   .rename_i hx
    cases e;refine⟨O,ts,ρ,T,ws,_,hc,re,e1,fun vs H1 s1 hc1 r1=>?_⟩;refine⟨fun _=>False,[],[],ws.map jC,x,T2,⟨fun b hb=>(by cases hb),fun b hb=>hb.elim,List.nodup_nil,rfl,fun i a xs e1 _=>by simp at e1⟩,by rw[List.append_nil];exact qX r1 hn,by rw[List.length_map];exact hl _ _ _ _ e1,e2,fun v H2 s2 hc2 r2=>?_⟩;have s2':SameX ts H1 H2:=fun b o _ q=>s2 b o (by simp) q
    have hm:∀b,O b->Mut (H2 b):=fun b hb=>by
     exact(hc1.trk b hb).to fun u z=>s2 b _ (by simp) z
    have hc2':=hc1.step s2' fun b hb=>by
     obtain⟨u,z⟩:=(hc1.trk b (hc1.own b hb)).ex;rw[z];exact s2 b _ (by simp) z
    exact q v H2 (s1.trans s2') hc2' (Rep.own hm r2 hx)
   .cases e
  .cases e
 .cases e
def aA(ds:List (PyData×PyData))(s:Str):Option PyData:=match ds with
 |[]=>none
 |(.str k,d)::r=>if k=s then some d else aA r s
 |_::r=>aA r s
theorem gz{K:Frag}{O:Addr->Prop}{H:Hp}{s:Str}:∀{kvs:List (Key×V)}{ds:List (PyData×PyData)},RepK K O H kvs ds->(aA ds s=none/\bK kvs (Sum.inr s:Key)=none)\/∃v d,aA ds s=some d/\bK kvs (Sum.inr s:Key)=some v/\Rep K O H v d
 |_,_,.nil=>.inl ⟨rfl,rfl⟩
 |_,_,.cons (k:=.inl i) (v:=v) (d:=d) (kvs:=kvs) (ds:=ds) r t=>by
  have e:bK (((Sum.inl i:Key),v)::kvs) (Sum.inr s:Key)=bK kvs (Sum.inr s:Key):=by simp[bK,List.find?_cons]
  rw[e];show (aA ds s=none/\_)\/∃v d,aA ds s=some d/\_;exact gz (s:=s) t
 |_,_,.cons (k:=.inr k) (v:=v) (d:=d) (kvs:=kvs) (ds:=ds) r t=>by
  by_cases hk:k=s
  .subst hk
   exact .inr ⟨v,d,by show (if k=k then some d else aA ds k)=some d;rw[if_pos rfl],by simp[bK,List.find?_cons],r⟩
  .have e:bK (((Sum.inr k:Key),v)::kvs) (Sum.inr s:Key)=bK kvs (Sum.inr s:Key):=by simp[bK,List.find?_cons,hk]
   have e2:aA ((f6 (Sum.inr k:Key),d)::ds) s=aA ds s:=by show (if k=s then some d else aA ds s)=_;rw[if_neg hk]
   rw[e,e2];exact gz (s:=s) t
theorem DGet.rd{H:Hp}{a:Addr}{kvs:List (Key×V)}{k:Key}(e:Rd H a (.dK kvs)):DGet H a (kV k) (bK kvs k):=.inl ⟨kvs,k,e,rfl,rfl⟩
section
variable {X:Cx}{pos:Pos}{k:Nat}
theorem kF{k:Nat}{A:Around}(hr:Room k A):A.units+1<cLine:=by have:=hr.un;omega
end
section
variable {K:Frag}{O₀:Addr->Prop}{H₀:Hp}{F:List ((Addr->Prop)×Hp)}{ts:List Addr}{O:Addr->Prop}{H H1:Hp}{σ:L2.St}{ρ:Rho}{T T1:Tp}
end
section
variable {X:Cx}{pos:Pos}
def bP(ds:List (PyData×PyData))(s:Str)(x:PyData):List (PyData×PyData):=match ds with
 |[]=>[]
 |(.str k,d)::r=>if k=s then (.str k,x)::bP r s x else (.str k,d)::bP r s x
 |p::r=>p::bP r s x
theorem oq{K:Frag}{O:Addr->Prop}{H:Hp}{s:Str}{v:V}{x:PyData}(rx:Rep K O H v x):∀{kvs:List (Key×V)}{ds:List (PyData×PyData)},RepK K O H kvs ds->RepK K O H (kvs.map fun kv=>if kv.1=(Sum.inr s:Key) then (kv.1,v) else kv) (bP ds s x)
 |_,_,.nil=>.nil
 |_,_,.cons (k:=.inl i) r t=>by
  rw[List.map_cons];rw[if_neg (by intro z;cases z)];exact .cons (k:=.inl i) r (oq rx t)
 |_,_,.cons (k:=.inr k) (v:=u) (d:=d) (kvs:=kvs) (ds:=ds) r t=>by
  rw[List.map_cons];have ih:=oq (s:=s) rx t;show RepK K O H _ (if k=s then (.str k,x)::bP ds s x else (.str k,d)::bP ds s x)
  by_cases hk:k=s
  .rw[if_pos hk,if_pos (by rw[hk])]
   exact .cons (k:=.inr k) rx ih
  .rw[if_neg hk,if_neg (fun z=>hk (Sum.inr.inj z))]
   exact .cons (k:=.inr k) r ih
theorem lF{K:Frag}{O:Addr->Prop}{H:Hp}:∀{kvs:List (Key×V)}{ds:List (PyData×PyData)},RepK K O H kvs ds->kvs.length=ds.length
 |_,_,.nil=>rfl
 |_,_,.cons _ t=>congrArg (· + 1) (lF t)
theorem z7{kvs:List (Key×V)}{k:Key}(h:(bK kvs k).isSome=true):(kvs.any fun kv=>decide (kv.1=k))=true:=by
 unfold bK at h;rw[Option.isSome_map] at h;rw[List.any_eq_true];obtain⟨p,hp⟩:=Option.isSome_iff_exists.mp h;exact⟨p,List.mem_of_find?_eq_some hp,by have:=List.find?_some hp;simpa using this⟩
end
section
variable {X:Cx}{pos:Pos}{e:Expr}{f:FE}{x:Str}{p:Pos}{B:List (Str×Str)}
def c4(i j:Nat)(f:FE):FS:=fun ρ T=>bnd (f ρ T) fun w T1=>match w with
 |.d (.tuple [x,y])=>some ((.nx,(ρ.set i (some (.d x))).set j (some (.d y))),T1)
 |_=>none
theorem wK{i j:Nat}{y:Str}{k:Nat}{px py tp:Pos}(hN:X.N.Nodup)(he:DE X e f)(hi:X.N[i]? = some x:=by rfl)(hj:X.N[j]? = some y:=by rfl)(hx:Loc X.env.scope x:=by first|exact Or.inl rfl|exact Or.inr rfl)(hy:Loc X.env.scope y:=by first|exact Or.inl rfl|exact Or.inr rfl)
  (hf:X.fn x=true\/X.env.scope.names.lookup x=some .local:=by first|exact .inl rfl|exact .inr rfl|assumption) (hf':X.fn y=true\/X.env.scope.names.lookup y=some .local:=by first|exact .inl rfl|exact .inr rfl|assumption) (hc:X.calm=true:=by rfl)
  (hs:swapsWithSole [.Tuple [.Name x px,.Name y py] k tp] e pos.line X.env=pure false:=by rfl) (hw:swappedStores [.Tuple [.Name x px,.Name y py] k tp] e X.env=pure none:=by rfl)
  (h1:(assignEach [.Tuple [.Name x px,.Name y py] k tp] X.env).map (·.2)=[assign (.Tuple [.Name x px,.Name y py] k tp) X.env]:=by rfl):DS X (.Assign [.Tuple [.Name x px,.Name y py] k tp] e pos) (c4 i j f):=by
 refine⟨?_⟩;refine bZ (vS he.pe (mF hc (gw (fQ hN hi hx hf) (gw (fQ hN hj hy hf') lU))) hs hw h1) fun D σ H=>?_;rintro⟨O₀,H₀,F,ts,O,ρ,T,fl,ρ',T',rs,e,q⟩;obtain⟨w,T1,e1,e⟩:=aM e;refine⟨O,ts,ρ,T,w,T1,rs.hc,rs.re,e1,fun v H1 s1 hc1 r1=>?_⟩;split at e
 .rename_i a b
  cases e;have rs1:=rs.step s1 hc1;have r1':Rep X.K O H1 v (.tuple [a,b]):=r1
  cases r1' with
  |tup t r=>
   cases r with
   |cons ra r=>
    cases r with
    |cons rb r=>
     cases r;exact⟨_,_,rfl,t.sq,rfl,_,_,rfl,_,_,rfl,rfl,q O _ _ ((rs1.set (w:=.d a) ra fun _ z=>nomatch z).set (w:=.d b) rb fun _ z=>nomatch z)⟩
 .cases e
end
section
variable {K:Frag}{O:Addr->Prop}{ts:List Addr}{H H':Hp}{T:Tp}{n:Nat}{a C:Addr}{ps:List PyData}
end
section
variable {X:Cx}{C:Addr}{o e:Expr}{f m:Str}{pos pos' apos:Pos}{fo fe:FE}
structure Mth(P:Program)(w:World)(K:Frag)(mg:Str->Option Value)(base:Heap)(C:Addr)(m:Str)(ps:List Str)(k:Nat)(sp:Sp):Prop where
 ex:∃f fd,FnOk P w K mg base CX0 k f fd ps sp/\Binds K fd ps []/\Meth K C m f
variable {ps:List Str}{k:Nat}{mm:FnM}{g:FA}{es:List Expr}{pl:Sem Bool}
end
def qH(T:Tp):Option (Tp×List PyData):=match T.getLast? with
 |some xs=>some (T.dropLast,xs)
 |none=>none
theorem BF{T T1:Tp}{ys:List PyData}(h:qH T=some (T1,ys)):T=T1++[ys]:=by
 unfold qH at h;split at h
 .rename_i xs e
  cases h;obtain⟨zs,hl⟩:=List.getLast?_eq_some_iff.mp e;rw[hl];simp
 .cases h
section
variable {X:Cx}{C f:Addr}{e:Expr}{fe:FE}{fr:FS}{rest:List Stmt}{cn x:Str}{p pos pos' cpos:Pos}{ps:List Str}{k i:Nat}{m:FnM}{fd:FuncData}
end
end D
namespace L2
open PySem PySem.Spec PyProof.Rows
section
variable {X:Cx}
end
end L2
namespace D
open PySem PySem.Spec PyProof.Rows L2
section
variable {X:Cx}{pos:Pos}
def jk(i:Nat)(ρ:Rho)(x y:Option PyData)(T:Tp):Option ((Fl×Rho)×Tp):=match x,y with
 |some (.list xs),some (.list ys)=>if xs.length+ys.length<=sizeLine then some ((.nx,ρ.set i (some (.loc (.list (xs++ys))))),T) else none
 |_,_=>none
def fV(i:Nat)(fa fb:FE):FS:=fun ρ T=>bnd (fa ρ T) fun w1 T1=>bnd (fb ρ T1) fun w2 T2=>jk i ρ (view T2 w1) (view T2 w2) T2
theorem vq{i:Nat}{x:Str}{a b:Expr}{fa fb:FE}{pos' bpos:Pos}(hN:X.N.Nodup)(ha:DE X a fa)(hb:DE X b fb)(hi:X.N[i]? = some x:=by rfl)(hx:Loc X.env.scope x:=by first|exact Or.inl rfl|exact Or.inr rfl)(hs:swapsWith (.BinOp a .Add b bpos) (some (.Name x pos')) pos.line X.env=pure false:=by rfl)
  (hf:X.fn x=true\/X.env.scope.names.lookup x=some .local:=by first|exact .inl rfl|exact .inr rfl|assumption):DS X (.Assign [.Name x pos'] (.BinOp a .Add b bpos) pos) (fV i fa fb):=by
 refine⟨?_⟩;refine bZ (ia hN hi hx (xj uM ha.pe hb.pe) hs hf) fun D σ H=>?_;rintro⟨O₀,H₀,F,ts,O,ρ,T,fl,ρ',T',rs,e,q⟩;obtain⟨w1,T1,e1,e⟩:=aM e;obtain⟨w2,T2,e2,e⟩:=aM e;refine⟨O,ts,ρ,T,w1,T1,rs.hc,rs.re,e1,fun v1 H1 s1 hc1 r1=>?_⟩;have rs1:=rs.step s1 hc1;refine⟨O,ts,ρ,T1,w2,T2,hc1,rs1.re,e2,fun v2 H2 s2 hc2 r2=>?_⟩;have rs2:=rs1.step s2 hc2;unfold jk at e;split at e
 .rename_i xs ys h1 h2
  split at e
  .rename_i hz
   cases e;obtain⟨a1,vs,rfl,t1,q1⟩:=(hc2.view (r1.mono hc1 s2) h1).lst;obtain⟨b1,us,rfl,t2,q2⟩:=(hc2.view r2 h2).lst;exact⟨a1,b1,vs,us,rfl,rfl,t1,t2,by rw[q1.length,q2.length];exact hz,fun p hp=>q _ _ _ (rs2.own hp (q1.append q2))⟩
  .cases e
 .cases e
structure Ini(P:Program)(w:World)(K:Frag)(mg:Str->Option Value)(base:Heap)(C:Addr)(ps:List Str)(k:Nat)(sp:Sp):Prop where
 ex:∃f fd,FnOk P w K mg base CX0 k f fd ps sp/\L2.Binds K fd ps []/\Mk K C f
structure DfM(K:Frag)(C:Addr)(name qual:Str)(st:Stmt):Prop where
 ex:∃(f:Addr) (oc:Value) (od an:Option Addr) (sl:Array (Option Value)) (kV dc pm cd ct:Value),PySem.W.findIn K (.ref C) name=some (some (.ref f)) /\
  K.lookup f=some ⟨oc,od,.func (PySem.W.fnOf name qual (dF st) (cx st) (bf st) .none kV dc pm an cd ct),sl⟩/\PySem.W.codeIn K cd qual=true/\PySem.W.keepIn K (.ref f)=true/\PySem.W.isFn K (.ref f)=true
def xw(ds:List (PyData×PyData)):List PyData:=ds.map (·.1)
def GQ:List PyData->Option PyData
 |[.list xs]=>some (.list xs)
 |[.tuple xs]=>some (.list xs)
 |[.dict ds]=>some (.list (xw ds))
 |_=>none
theorem Fk{H:Hp}{a:Addr}{kvs:List (Key×V)}(r:Rd H a (.dK kvs)):IsD H a:=.inl ⟨kvs,r⟩
end
theorem AH{prog:Program}{w:World}{A:Around}{E:Value->Shared->Prop}{s:Shared}{Q:Int->Shared->Prop}(h:Q (PySem.reduceHash 4238894112) { s with toks:=s.toks+1 }):wpAny (model prog w) A (pyHash .none) Q E s:=by
 show wpAny (model prog w) A (pyHashByItsType .none) Q E s;refine PySem.W.pyHash_slot (T:="NoneType") (by first|rfl|trivial|exact⟨_,rfl⟩|simp[Shared.TypeIs]) PySem.F.slot_NoneType_hash PySem.F.entry_NoneType_hash (PySem.F.args_NoneType_hash_1 _) rfl (.inl rfl) ?_;unfold PySem.Builtin.«NoneType.__hash__»;refine wpAny_bind ?_;unfold slotArgs;simp only[];rw[if_neg (by decide),if_neg (by decide)];refine wpAny_pure ?_;unfold retInt;refine wpAny_bind ?_
 first
  |exact wpAny_mkInt (wpAny_pure ⟨_,_,rfl,h⟩)
  |exact wpAny_mkInt (wpAny_ret ⟨_,_,rfl,h⟩)
def yi:Option Key->Value->Bool
 |none,.none=>true
 |none,_=>false
 |some k,v=>eN k v
def okH(w:World):Option Key->Int
 |none=>PySem.reduceHash 4238894112
 |some k=>yk w k
theorem eI{k:Option Key}{v:Value}(h:yi k v=true):(k=none/\v=.none)\/(∃i t,k=some (.inl i)/\v=.int i t)\/∃x t,k=some (.inr x)/\v=.str x t:=by
 cases k with
 |none=>cases v <;> first|exact .inl ⟨rfl,rfl⟩|cases h
 |some k=>
  rcases dQ (show eN k v=true from h) with⟨i,t,rfl,rfl⟩|⟨x,t,rfl,rfl⟩
  .exact .inr (.inl ⟨i,t,rfl,rfl⟩)
  .exact .inr (.inr ⟨x,t,rfl,rfl⟩)
theorem ui(k:Key):decide ((none:Option Key)=some k)=false:=decide_eq_false (fun q=>nomatch q)
theorem tf(k:Key):decide (some k=(none:Option Key))=false:=decide_eq_false (fun q=>nomatch q)
theorem lK(a b:Key):decide (some a=some b)=decide (a=b):=by
 by_cases h:a=b
 .subst h;simp
 .rw[decide_eq_false h,decide_eq_false (fun q=>h (Option.some.inj q))]
def pH(prog:Program)(w:World):PySem.KeyKind prog w (Option Key) where
 is:=yi
 hash:=okH w
 inj:=fun v a b ha hb=>by
  rcases eI ha with⟨rfl,rfl⟩|⟨i,t,rfl,rfl⟩|⟨x,t,rfl,rfl⟩
  .rcases eI hb with⟨rfl,_⟩|⟨j,u,rfl,e⟩|⟨y,u,rfl,e⟩
   .rfl
   .exact nomatch e
   .exact nomatch e
  .rcases eI hb with⟨rfl,e⟩|⟨j,u,rfl,e⟩|⟨y,u,rfl,e⟩
   .exact nomatch e
   .injection e with e1 _;rw[e1]
   .exact nomatch e
  .rcases eI hb with⟨rfl,e⟩|⟨j,u,rfl,e⟩|⟨y,u,rfl,e⟩
   .exact nomatch e
   .exact nomatch e
   .injection e with e1 _;rw[e1]
 byValue:=fun k v h=>by
  rcases eI h with⟨rfl,rfl⟩|⟨i,t,rfl,rfl⟩|⟨x,t,rfl,rfl⟩ <;> rfl
 pyHash:=fun hv h=>by
  rcases eI hv with⟨rfl,rfl⟩|⟨i,t,rfl,rfl⟩|⟨x,t,rfl,rfl⟩
  .exact AH h
  .exact wpAny_pyHash_int h
  .exact wpAny_pyHash_str h
 eqBool:=fun hu hv h=>by
  rcases eI hu with⟨rfl,rfl⟩|⟨i,t,rfl,rfl⟩|⟨x,t,rfl,rfl⟩
  .rcases eI hv with⟨rfl,rfl⟩|⟨j,u,rfl,rfl⟩|⟨y,u,rfl,rfl⟩
   .rw[show decide ((none:Option Key)=none)=true by simp] at h;exact SeqAt.EqAt.same .none _ _ _ _ h
   .rw[ui] at h;exact SeqAt.EqAt.none_int j u _ _ _ _ h
   .rw[ui] at h;exact SeqAt.EqAt.none_str y u _ _ _ _ h
  .rcases eI hv with⟨rfl,rfl⟩|⟨j,u,rfl,rfl⟩|⟨y,u,rfl,rfl⟩
   .rw[tf] at h;exact SeqAt.EqAt.int_none i t _ _ _ _ h
   .rw[lK,wb] at h;exact wpAny_eqBool_int h
   .rw[lK,wa] at h;exact SeqAt.EqAt.int_str i t y u _ _ _ _ h
  .rcases eI hv with⟨rfl,rfl⟩|⟨j,u,rfl,rfl⟩|⟨y,u,rfl,rfl⟩
   .rw[tf] at h;exact SeqAt.EqAt.str_none x t _ _ _ _ h
   .rw[lK,v9] at h;exact SeqAt.EqAt.str_int x t j u _ _ _ _ h
   .rw[lK,v8] at h;exact wpAny_eqBool_str h
 «strs»:=fun k x t v h=>by
  rcases eI h with⟨rfl,e⟩|⟨i,u,rfl,e⟩|⟨y,u,rfl,e⟩
  .exact nomatch e
  .exact nomatch e
  .injection e with e1 _
   subst e1
   cases v <;> rfl
theorem sR{P:Program}{w:World}:∀{es:List DictEntry}{vs:List (Key×Value)},Pairs (bz P w) es vs->Pairs (pH P w) es (vs.map fun p=>(some p.1,p.2))
 |_,_,.nil=>.nil
 |_,_,.cons h1 h2 t=>.cons h1 h2 (sR t)
theorem BW{P:Program}{w:World}{h:Heap}{a:Addr}{vs:List (Key×Value)}(d:h.DictOf (bz P w) a vs):h.DictOf (pH P w) a (vs.map fun p=>(some p.1,p.2)):=by
 obtain⟨o,es,ep,e1,e2,e3,e4,e5,e6⟩:=d;refine⟨o,es,ep,e1,e2,e3,fun e he=>?_,sR e5,?_⟩
 .obtain⟨k,k1,k2⟩:=e4 e he
  exact⟨some k,k1,k2⟩
 .rw[List.map_map]
  show (vs.map fun p=>some p.1).Nodup
  have:(vs.map fun p=>some p.1)=(vs.map (·.1)).map some:=by rw[List.map_map];rfl
  rw[this];exact List.pairwise_map.mpr (List.Pairwise.imp (fun h q=>h (Option.some.inj q)) e6)
theorem tG:∀(vs:List (Key×Value)),valueAt (vs.map fun p=>((some p.1:Option Key),p.2)) none=none
 |[]=>rfl
 |p::r=>by
  have:=tG r;unfold valueAt at this ⊢;rw[List.map_cons,List.find?_cons];simpa using this
section
variable {X:Cx}
theorem zJ:OpR X (compareOp .In) (fun x y H Q=>∃a kvs,x=.non/\y=.ref a/\Rd H a (.dK kvs)/\Q (.bl false) H):=by
 intro pins s σ H x y v u Q I rx ry h;obtain⟨a,kvs,rfl,rfl,e,q⟩:=h;cases (show v=Value.none from rx);cases (show u=Value.ref a from ry);obtain⟨z,hd,vs,rel,dd⟩:=dJ I.hok e;refine wpAny_in_of (knd:=pH X.prog X.w) (k:=none) rfl hd (BW dd).mapOf ?_;rw[tG];exact⟨.bl false,H,I.tok _,rfl,q⟩
theorem EW{k:Nat}(hr:Room k X.A):OpR X (compareOp .In) (fun x y H Q=>∃a kvs s,x=.str s/\y=.ref a/\Rd H a (.dK kvs)/\Q (.bl (bK kvs (Sum.inr s:Key)).isSome) H):=by
 intro pins s σ H x y v u Q I rx ry h;obtain⟨a,kvs,z,rfl,rfl,e,q⟩:=h;cases (show u=Value.ref a from ry);exact HM (kF hr) I (DGet.rd (k:=Sum.inr z) e) (show RelV (kV (Sum.inr z)) v from rx) fun s' I'=>⟨.bl _,H,I',rfl,q⟩
theorem Ak{k:Nat}(hr:Room k X.A):OpR X (compareOp .NotIn) (fun x y H Q=>∃a kvs s,x=.str s/\y=.ref a/\Rd H a (.dK kvs)/\Q (.bl (!(bK kvs (Sum.inr s:Key)).isSome)) H):=by
 intro pins s σ H x y v u Q I rx ry h;obtain⟨a,kvs,z,rfl,rfl,e,q⟩:=h;cases (show u=Value.ref a from ry);exact DL (kF hr) I (DGet.rd (k:=Sum.inr z) e) (show RelV (kV (Sum.inr z)) v from rx) fun s' I'=>⟨.bl _,H,I',rfl,q⟩
theorem Fg{k:Nat}(hr:Room k X.A):IxR X (fun x y H Q=>∃a kvs s v,x=.ref a/\y=.str s/\Rd H a (.dK kvs)/\bK kvs (Sum.inr s:Key)=some v/\Q v H):=by
 intro value slice pins s σ H x y v u Q I rx ry h hs;obtain⟨a,kvs,z,v0,rfl,rfl,e,l,q⟩:=h;cases (show v=Value.ref a from rx)
 have g:DGet H a (kV (Sum.inr z)) (some v0):=by rw[←l];exact DGet.rd e
 unfold subscriptTail;refine wpAny_bind ?_;rw[getitemInPython_of_ne (rL I g).not_modules];refine wpAny_bind (wpAny_specialOf (rL I g) PySem.F.slot_dict_getitem.lookup ?_)
 have fin:wpAny (model X.prog X.w) X.A (subscripted slice false (Value.ref a) u) (fun r s₃=>wpAny (model X.prog X.w) X.A (letTemporaryGo value (Value.ref a) r >>= fun _=>pure r) (EP X pins σ Q) X.xe s₃) X.xe s:=by
  rw[hs];exact wpAny_operating (AV (kF hr) I g (show RelV (kV (Sum.inr z)) u from ry) fun w' s' I' rw'=>wpAny_bind (wpAny_letTemporaryGo (wpAny_pure ⟨v0,H,I',rw',q⟩)))
 first
  |exact wpAny_pure (wpAny_bind fin)
  |exact wpAny_bind (wpAny_pure (wpAny_bind fin))
  |exact wpAny_bind fin
def inK(s:PyData)(ds:List (PyData×PyData)):Option Bool:=match s with
 |.str s=>some (aA ds s).isSome
 |.none=>some false
 |_=>none
def inB(x y:PyData):Option Bool:=match y with
 |.dict ds=>inK x ds
 |y=>inS x y
def inA(x y:PyData):Option PyData:=(inB x y).map .bool
def cy(x y:PyData):Option PyData:=match x,y with
 |.str s,.dict ds=>some (.bool (!(aA ds s).isSome))
 |_,.dict _=>none
 |x,y=>(inS x y).map fun b=>.bool (!b)
theorem nh{k:Nat}(hr:Room k X.A):OpD X (compareOp .In) inA:=⟨_,(op_in_str.or sS).or ((EW hr).or zJ),fun O ts H T v1 v2 x y d Q hc h1 h2 e q=>by
 unfold inA at e
 by_cases hd:∃ds,y=.dict ds
 .obtain⟨ds,rfl⟩:=hd
  obtain⟨a,kvs,rfl,t,r⟩:=h2.dct;obtain⟨b,hb,rfl⟩:=Option.map_eq_some_iff.mp e;have hb':inK x ds=some b:=hb;unfold inK at hb';split at hb'
  .rename_i s
   cases hb';cases h1.str;refine .inr (.inl ⟨a,kvs,s,rfl,rfl,t,?_⟩)
   have e:(bK kvs (Sum.inr s:Key)).isSome=(aA ds s).isSome:=by
    rcases gz (s:=s) r with⟨z1,z2⟩|⟨v,d,z1,z2,_⟩ <;> rw[z1,z2] <;> rfl
   rw[e];exact q _ H (.refl _ _) hc (.bl _)
  .cases hb'
   cases h1.non;exact .inr (.inr ⟨a,kvs,rfl,rfl,t,q _ H (.refl _ _) hc (.bl _)⟩)
  .cases hb'
 .have e':(inS x y).map .bool=some d:=by
   cases y with
   |dict ds=>exact absurd ⟨ds,rfl⟩ hd
   |_=>exact e
  exact .inl (mw false O ts H T v1 v2 x y d Q hc h1 h2 e' q)⟩
theorem gx{k:Nat}(hr:Room k X.A):OpD X (compareOp .NotIn) cy:=⟨_,(op_notin_str.or rE).or (Ak hr),fun O ts H T v1 v2 x y d Q hc h1 h2 e q=>by
 by_cases hd:∃ds,y=.dict ds
 .obtain⟨ds,rfl⟩:=hd
  obtain⟨a,kvs,rfl,t,r⟩:=h2.dct
  cases x with
  |str s=>
   cases e;cases h1.str;refine .inr ⟨a,kvs,s,rfl,rfl,t,?_⟩
   have e:(bK kvs (Sum.inr s:Key)).isSome=(aA ds s).isSome:=by
    rcases gz (s:=s) r with⟨z1,z2⟩|⟨v,d,z1,z2,_⟩ <;> rw[z1,z2] <;> rfl
   rw[e];exact q _ H (.refl _ _) hc (.bl _)
  |_=>cases e
 .have e':((inS x y).map fun b=>.bool (!b))=some d:=by
   cases y with
   |dict ds=>exact absurd ⟨ds,rfl⟩ hd
   |_=>cases x <;> exact e
  exact .inl (mw true O ts H T v1 v2 x y d Q hc h1 h2 e' q)⟩
def ixA(x y:PyData):Option PyData:=match x,y with
 |.dict ds,.str s=>aA ds s
 |.dict _,_=>none
 |x,y=>ixD x y
theorem b8{k:Nat}(hr:Room k X.A):IxD X ixA:=by
 obtain⟨r0,h0,s0⟩:=ap (X:=X);refine⟨_,h0.or (Fg hr),fun O ts H T v1 v2 x y d Q hc h1 h2 e q=>?_⟩
 by_cases hd:∃ds,x=.dict ds
 .obtain⟨ds,rfl⟩:=hd
  obtain⟨a,kvs,rfl,t,r⟩:=h1.dct
  cases y with
  |str s=>
   have e':aA ds s=some d:=e;cases h2.str
   rcases gz (s:=s) r with⟨z1,z2⟩|⟨v,d',z1,z2,rv⟩
   .rw[z1] at e';cases e'
   .rw[z1] at e'
    cases e';exact .inr ⟨a,kvs,s,v,rfl,rfl,t,z2,q _ H (.refl _ _) hc rv⟩
  |_=>cases e
 .refine .inl (s0 O ts H T v1 v2 x y d Q hc h1 h2 ?_ q)
  cases x with
  |dict ds=>exact absurd ⟨ds,rfl⟩ hd
  |_=>exact e
end
section
variable {X:Cx}{pins:List (Addr×Obj)}{σ:L2.St}{H H2:Hp}{s s2:Shared}
theorem BG(I:Inv X pins σ H s){a:Addr}{kvs:List (Key×V)}{o:Obj}(e:H a=some (.dK kvs))(I2:Inv X pins σ H2 s2)(e2:H2 a=some (.frz o (.dK kvs))):Inv X pins σ (upd H2 a (.dK kvs)) s2:=by
 have U:∀{b:Addr}{u:HO},H2 b=some u->(∀o ks,u≠.frz o ks)->upd H2 a (.dK kvs) b=some u:=fun {b u} q n=>by
  rw[aS (fun z=>by subst z;rw[e2] at q;cases q;exact n _ _ rfl)];exact q
 have N:∀{b:Addr},H2 b=none->upd H2 a (.dK kvs) b=none:=fun {b} q=>by
  rw[aS (fun z=>by subst z;rw[e2] at q;cases q)];exact q
 have hok:HOk X.prog X.w (upd H2 a (.dK kvs)) s2.heap:=fun b u q=>by
  by_cases hb:b=a
  .subst hb
   rw[bx] at q;cases q;exact ObjOk.stay (I2.hok b _ e2).2 (fun _ _ _ q=>q) (fun c q=>U q (fun _ _ z=>nomatch z)) fun c xs q=>U q (fun _ _ z=>nomatch z)
  .rw[aS hb] at q
   exact(I2.hok b u q).stay (fun _ _ _ q=>q) (fun c q=>U q (fun _ _ z=>nomatch z)) fun c xs q=>U q (fun _ _ z=>nomatch z)
 refine⟨I2.ok,I2.os,I2.bare,⟨I2.base.keep,I2.base.slot,fun b ob q n hx=>N (I2.base.free b ob q n hx),I2.base.there,fun b xs q=>U (I2.base.tups b xs q) (fun _ _ z=>nomatch z),fun b ob u q=>?_,fun b ps q=>?_⟩,I2.loc,I2.cell,N I2.free,fun x c q=>N (I2.freeC x c q),fun p hp=>?_,hok,I2.len⟩
 .have h1:=I.base.frzs b ob u q
  rw[aS (fun z=>by subst z;rw[e] at h1;cases h1)];exact I2.base.frzs b ob u q
 .obtain⟨more,h1⟩:=I2.base.tbls b ps q
  exact⟨more,U h1 (fun _ _ z=>nomatch z)⟩
 .obtain⟨k1,k2,k3⟩:=I2.pin p hp
  exact⟨k1,N k2,k3⟩
end
inductive Ln(P:Hp->VK->Prop):Hp->VK->Prop where
 |done {H:Hp}{Q:VK}:P H Q->Ln P H Q
 |frz {H:Hp}{Q:VK}{a:Addr}{kvs:List (Key×V)}:H a=some (.dK kvs)->(∀o,Ln P (upd H a (.frz o (.dK kvs))) (fun v H2=>H2 a=some (.frz o (.dK kvs))/\Q v (upd H2 a (.dK kvs))))->Ln P H Q
theorem Gp{X:Cx}{e:Expr}{t:TE}(h:PE X e t):PE X e (fun σ H Q=>Ln (t σ) H Q):=fun pins s σ H Q I q=>by
 have key:∀{H:Hp}{Q:VK},Ln (t σ) H Q->Inv X pins σ H s->wpAny (model X.prog X.w) X.A (eval e X.env) (EP X pins σ Q) X.xe s:=by
  intro H Q q
  induction q with
  |done q=>exact fun I=>h pins s σ _ _ I q
  |frz ea _ ih=>
   intro I;obtain⟨o,I'⟩:=u7 I ea;refine thn (ih o I') fun u s' ⟨v,H2,I2,r,e2,q2⟩=>?_;exact⟨v,_,BG I ea I2 e2,r,q2⟩
 exact key q I
section
variable {K:Frag}
theorem TupAt.keep{H H':Hp}(h:∀b o,H b=some o->(∀ks,o≠.dK ks)->(∀ob ks,o≠.frz ob (.dK ks))->H' b=some o){a:Addr}{vs:List V}(t:TupAt K (fun _=>False) H a vs):TupAt K (fun _=>False) H' a vs:=by
 rcases t with⟨n,t|⟨o,t⟩⟩|t
 .exact .inl ⟨n,.inl (h _ _ t (fun _ z=>nomatch z) (fun _ _ z=>nomatch z))⟩
 .exact .inl ⟨n,.inr ⟨o,h _ _ t (fun _ z=>nomatch z) (fun _ _ z=>nomatch z)⟩⟩
 .exact .inr t
mutual
theorem Rep.keep{H H':Hp}(h:∀b o,H b=some o->(∀ks,o≠.dK ks)->(∀ob ks,o≠.frz ob (.dK ks))->H' b=some o):∀{v:V}{d:PyData},Rep K (fun _=>False) H v d->aY d=true->Rep K (fun _=>False) H' v d
 |_,_,.non,_=>.non
 |_,_,.bl b,_=>.bl b
 |_,_,.int i,_=>.int i
 |_,_,.str x,_=>.str x
 |_,_,.tup t r,e=>.tup (t.keep h) (Reps.keep h r (by simpa[aY] using e))
 |_,_,.lst t r,e=>by simp[aY] at e
 |_,_,.dct n t r,e=>by simp[aY] at e
theorem Reps.keep{H H':Hp}(h:∀b o,H b=some o->(∀ks,o≠.dK ks)->(∀ob ks,o≠.frz ob (.dK ks))->H' b=some o):∀{vs:List V}{ds:List PyData},Reps K (fun _=>False) H vs ds->bj ds=true->Reps K (fun _=>False) H' vs ds
 |_,_,.nil,_=>.nil
 |_,_,.cons (d:=d) (ds:=ds) r t,e=>by
  have e':(aY d&&bj ds)=true:=by simpa[bj] using e
  rw[Bool.and_eq_true] at e';exact .cons (Rep.keep h r e'.1) (Reps.keep h t e'.2)
end
end
def jp:W->Option W
 |.d x=>some (.d x)
 |.loc x=>some (.d x)
 |.tp _=>none
def cS(ρ:Rho):Rho:=ρ.map fun o=>o.bind jp
def Fz(O:Addr->Prop)(H0 H:Hp):Prop:=∀b,H b=H0 b\/∃kvs o,O b/\H0 b=some (.dK kvs)/\H b=some (.frz o (.dK kvs))
section
variable {K:Frag}{O:Addr->Prop}{ts:List Addr}{H0 H:Hp}{T:Tp}{σ:L2.St}{ρ:Rho}
theorem BA(re:RelE K O ts H0 σ ρ)(fz:Fz O H0 H)(all:∀(j:Nat) (a:Addr) (ds:List (PyData×PyData)),ρ[j]? = some (some (.loc (.dict ds)))->σ[j]? = some (some (.ref a))->∃o kvs,H a=some (.frz o (.dK kvs))):RelE K (fun _=>False) [] H σ (cS ρ):=by
 have le:Le O H0 (fun _=>False) H:=fun b o n e=>⟨fun z=>z,by
  rcases fz b with q|⟨_,_,q,_,_⟩
  .rw[q];exact e
  .exact absurd q n⟩
 intro i w e;unfold cS at e;rw[List.getElem?_map] at e
 cases hu:ρ[i]? with
 |none=>rw[hu] at e;cases e
 |some u=>
  cases u with
  |none=>rw[hu] at e;cases e
  |some u=>
   rw[hu] at e;have e':jp u=some w:=Option.some.inj e;obtain⟨v,h1,h2⟩:=re i u hu
   cases u with
   |d x=>cases e';exact⟨v,h1,Rep.mono le h2⟩
   |tp k=>cases e'
   |loc x=>
    cases e';obtain⟨a,rfl,k1,k2,k3⟩:=h2;refine⟨_,h1,?_⟩
    cases x with
    |list xs=>
     obtain⟨vs,k3,k4⟩:=k3;refine .lst (.inl ⟨fun z=>z,.inl ?_⟩) (k4.mono le)
     rcases fz a with q|⟨_,_,_,q,_⟩
     .rw[q];exact k3
     .rw[k3] at q;cases q
    |dict ds=>
     obtain⟨kvs,k3,k4⟩:=k3;obtain⟨o,kvs',h3⟩:=all i a ds hu h1
     rcases fz a with q|⟨kvs2,o2,_,q,q2⟩
     .rw[q,k3] at h3;cases h3
     .rw[k3] at q
      cases q;exact .dct (fun z=>z) q2 (k4.mono le)
    |_=>cases k3
theorem lV{P:Hp->VK->Prop}{x:PyData}(hx:aY x=true)(re:RelE K O ts H0 σ ρ)(fin:∀H Q,RelE K (fun _=>False) [] H σ (cS ρ)->(∀v H2,SameX [] H H2->Rep K (fun _=>False) H2 v x->Q v H2)->P H Q):∀(k:Nat) {H:Hp}{Q:VK},Fz O H0 H ->
  (∀(j:Nat) (a:Addr) (ds:List (PyData×PyData)),k<=j->ρ[j]? = some (some (.loc (.dict ds)))->σ[j]? = some (some (.ref a))->∃o kvs,H a=some (.frz o (.dK kvs)))->(∀v H2,SameX [] H H2->Rep K (fun _=>False) H2 v x->Q v H2)->Ln P H Q
 |0,H,Q,fz,all,q=>.done (fin H Q (BA re fz fun j a ds=>all j a ds (Nat.zero_le _)) q)
 |k+1,H,Q,fz,all,q=>by
  by_cases h:∃ds,ρ[k]? = some (some (.loc (.dict ds)))
  .obtain⟨ds,h⟩:=h
   obtain⟨v,h1,a,rfl,k1,k2,kvs,k3,k4⟩:=re k _ h
   rcases fz a with z|⟨kvs2,o2,_,z,z2⟩
   .rw[k3] at z
    refine .frz z fun o=>lV hx re fin k (fun b=>?_) (fun j b es hj e1 e2=>?_) (fun v H2 s2 r=>?_)
    .by_cases hb:b=a
     .subst hb;exact .inr ⟨kvs,o,k1,k3,bx⟩
     .rw[aS hb];exact fz b
    .by_cases hb:b=a
     .subst hb;exact⟨o,kvs,bx⟩
     .rw[aS hb]
      by_cases hk:k=j
      .subst hk;rw[h1] at e2;cases e2;exact absurd rfl hb
      .exact all j b es (by omega) e1 e2
    .have ha:H2 a=some (.frz o (.dK kvs)):=s2 a _ (by simp) bx
     refine⟨ha,q v _ (fun b ob _ e=>?_) (Rep.keep (fun b ob e n1 n2=>?_) r hx)⟩
     .by_cases hb:b=a
      .subst hb;rw[z] at e;cases e;exact bx
      .rw[aS hb]
       exact s2 b ob (by simp) (by rw[aS hb];exact e)
     .have hb:b≠a:=fun z=>by subst z;rw[ha] at e;cases e;exact n2 _ _ rfl
      rw[aS hb];exact e
   .refine lV hx re fin k fz (fun j b es hj e1 e2=>?_) q
    by_cases hk:k=j
    .subst hk;rw[h1] at e2;cases e2;exact⟨o2,kvs2,z2⟩
    .exact all j b es (by omega) e1 e2
  .refine lV hx re fin k fz (fun j b es hj e1 e2=>?_) q
   by_cases hk:k=j
   .subst hk;exact absurd ⟨es,e1⟩ h
   .exact all j b es (by omega) e1 e2
end
def kB(T:Tp)(o:Option (W×Tp)):Option (W×Tp):=match o with
 |some (.d x,_)=>if aY x=true then some (.d x,T) else none
 |_=>none
def fu(f:FE):FE:=fun ρ T=>kB T (f (cS ρ) [])
theorem pX{X:Cx}{e:Expr}{f:FE}(he:DE X e f):DE X e (fu f):=by
 refine⟨bu (Gp he.pe) fun σ H Q=>?_⟩;rintro⟨O,ts,ρ,T,w,T',hc,re,e,q⟩;unfold fu kB at e;split at e
 .rename_i x T1 h1
  split at e
  .rename_i hx
   cases e;refine lV hx re (fun H1 Q1 re1 q1=>⟨fun _=>False,[],cS ρ,[],.d x,T1,⟨fun b hb=>(by cases hb),fun b hb=>hb.elim,List.nodup_nil,rfl,fun i a xs e1 _=>by simp at e1⟩,re1,h1,fun v H2 s2 _ r2=>q1 v H2 s2 r2⟩) ρ.length (fun b=>.inl rfl) (fun j a ds hj e1 _=>?_) (fun v H2 s2 r2=>?_)
   .rw[List.getElem?_eq_none hj] at e1;cases e1
   .have s2':SameX ts H H2:=fun b o _ q=>s2 b o (by simp) q
    have hm:∀b,O b->Mut (H2 b):=fun b hb=>(hc.trk b hb).to fun u z=>s2 b _ (by simp) z
    have hc2:=hc.step s2' fun b hb=>by
     obtain⟨u,z⟩:=(hc.trk b (hc.own b hb)).ex;rw[z];exact s2 b _ (by simp) z
    exact q v H2 s2' hc2 (Rep.own hm r2 hx)
  .cases e
 .cases e
section
variable {X:Cx}{pos:Pos}{e:Expr}{fe:FE}
def cX(i:Nat):FS:=fun ρ T=>some ((.nx,ρ.set i (some (.loc (.dict [])))),T)
theorem hU{i:Nat}{x:Str}{pos' dpos:Pos}(hN:X.N.Nodup)(hi:X.N[i]? = some x:=by rfl)(hx:Loc X.env.scope x:=by first|exact Or.inl rfl|exact Or.inr rfl)
  (hs:swapsWith (.Dict [] [] dpos) (some (.Name x pos')) pos.line X.env=pure false:=by rfl) (hf:X.fn x=true\/X.env.scope.names.lookup x=some .local:=by first|exact .inl rfl|exact .inr rfl|assumption):DS X (.Assign [.Name x pos'] (.Dict [] [] dpos) pos) (cX i):=by
 refine⟨?_⟩;refine bZ (ia hN hi hx Bo hs hf) fun D σ H=>?_;rintro⟨O₀,H₀,F,ts,O,ρ,T,fl,ρ',T',rs,e,q⟩;cases e;intro p hp;exact q _ _ _ (rs.ownO hp (.inr (.inl ⟨_,rfl⟩)) fun le=>⟨[],bx,.nil⟩)
theorem sA:CallR X (.type "dict") (fun xs H Q=>∃a kvs,xs=[V.ref a]/\Rd H a (.dK kvs)/\∀p,H p=none->Q (.ref p) (upd H p (.dK kvs))):=by
 intro pins s σ H xs us Q I r h;obtain⟨a,kvs,rfl,ha,q⟩:=h;obtain⟨u,rfl,ru⟩:=vals1 r;cases ru;exact B0 I ha fun p s' hp I'=>⟨.ref p,_,I',rfl,q p hp⟩
def iJ(o:Option PyData):Option (List (PyData×PyData)):=match o with
 |some (.dict ds)=>some ds
 |_=>none
def mz(i:Nat)(ρ:Rho)(o:Option (List (PyData×PyData)))(T:Tp):Option ((Fl×Rho)×Tp):=match o with
 |some ds=>some ((.nx,ρ.set i (some (.loc (.dict ds)))),T)
 |none=>none
def je(i:Nat)(f:FE):FS:=fun ρ T=>bnd (f ρ T) fun w T1=>mz i ρ (iJ (view T1 w)) T1
theorem vC{o:Option PyData}{ds:List (PyData×PyData)}(h:iJ o=some ds):o=some (.dict ds):=by
 unfold iJ at h;split at h
 .cases h;rfl
 .cases h
theorem uf{i:Nat}{x:Str}{p pos' cpos:Pos}(hm:X.mg "dict"=none)(hN:X.N.Nodup)(he:DE X e fe)(hi:X.N[i]? = some x:=by rfl)(hx:Loc X.env.scope x:=by first|exact Or.inl rfl|exact Or.inr rfl)(hg:Gl X "dict":=by rfl)
  (hse:starEach [e] X.env=(false,eval e X.env)::starEach [] X.env:=by exact a9 rfl) (hpl:(backTo cpos (starEach [] X.env)).any (·.1)=false:=by exact bW rfl)
  (hs:swapsWith (.Call (.Name "dict" p) [e] [] cpos) (some (.Name x pos')) pos.line X.env=pure false:=by rfl) (hf:X.fn x=true\/X.env.scope.names.lookup x=some .local:=by first|exact .inl rfl|exact .inr rfl|assumption) :
  DS X (.Assign [.Name x pos'] (.Call (.Name "dict" p) [e] [] cpos) pos) (je i fe):=by
 refine⟨?_⟩;refine bZ (ia hN hi hx (lu sA hg hm boot_dict (cW he.pe dG hse) (by decide) (by decide) hse hpl) hs hf) fun D σ H=>?_;rintro⟨O₀,H₀,F,ts,O,ρ,T,fl,ρ',T',rs,e,q⟩;obtain⟨w,T1,e1,e⟩:=aM e;unfold mz at e;split at e
 .rename_i ds hd
  cases e;have hv:=vC hd;refine⟨O,ts,ρ,T,w,_,rs.hc,rs.re,e1,fun v H1 s1 hc1 r1=>?_⟩;obtain⟨a,kvs,rfl,t,r⟩:=(hc1.view r1 hv).dct;exact⟨a,kvs,rfl,t,fun p hp=>q _ _ _ ((rs.step s1 hc1).ownO (xs:=.dict ds) hp (.inr (.inl ⟨_,rfl⟩)) fun le=>⟨kvs,bx,r.mono le⟩)⟩
 .cases e
def nq(o:Option (List (PyData×PyData)))(T:Tp):Option (W×Tp):=match o with
 |some ds=>some (.d (.dict ds),T)
 |none=>none
def gG(f:FE):FE:=fun ρ T=>bnd (f ρ T) fun w T1=>nq (iJ (view T1 w)) T1
theorem pZ{p cpos:Pos}(hm:X.mg "dict"=none)(he:DE X e fe)(hg:Gl X "dict":=by rfl)
  (hse:starEach [e] X.env=(false,eval e X.env)::starEach [] X.env:=by exact a9 rfl) (hpl:(backTo cpos (starEach [] X.env)).any (·.1)=false:=by exact bW rfl):DE X (.Call (.Name "dict" p) [e] [] cpos) (gG fe):=by
 refine⟨?_⟩;refine bu (Gr (lu sA hg hm boot_dict (cW he.pe dG hse) (by decide) (by decide) hse hpl)) fun σ H Q=>?_;rintro⟨O,ts,ρ,T,w,T',hc,re,e,q⟩;obtain⟨w1,T1,e1,e⟩:=aM e;unfold nq at e;split at e
 .rename_i ds hd
  cases e;have hv:=vC hd;refine⟨O,ts,ρ,T,w1,T',hc,re,e1,fun v H1 s1 hc1 r1=>?_⟩;obtain⟨a,kvs,rfl,t,r⟩:=(hc1.view r1 hv).dct;refine⟨a,kvs,rfl,t,fun p hp=>.frz bx fun o=>.done ?_⟩;rw[Ci];exact q _ _ (s1.trans (.new hp _)) (hc1.new hp _) (.dct (hc1.fresh hp) bx (r.mono (hc1.leNew hp _)))
 .cases e
def putN(ds:List (PyData×PyData))(s:Str)(x:PyData):List (PyData×PyData):=if (aA ds s).isSome=true then bP ds s x else ds++[(.str s,x)]
theorem RepK.app{K:Frag}{O:Addr->Prop}{H:Hp}{s:Str}{v:V}{x:PyData}(rx:Rep K O H v x):∀{kvs:List (Key×V)}{ds:List (PyData×PyData)},RepK K O H kvs ds->RepK K O H (kvs++[(Sum.inr s,v)]) (ds++[(.str s,x)])
 |_,_,.nil=>.cons (k:=Sum.inr s) rx .nil
 |_,_,.cons r t=>.cons r (RepK.app rx t)
theorem Cv{K:Frag}{O:Addr->Prop}{H:Hp}{s:Str}{v:V}{x:PyData}(rx:Rep K O H v x){kvs:List (Key×V)}{ds:List (PyData×PyData)}(r:RepK K O H kvs ds):RepK K O H (putK kvs (Sum.inr s) v) (putN ds s x):=by
 unfold putN
 rcases gz (s:=s) r with⟨z1,z2⟩|⟨v',d',z1,z2,_⟩
 .rw[z1,if_neg (by simp),Bc v z2]
  exact r.app rx
 .rw[z1,if_pos (show (some d').isSome=true by rfl)]
  have hany:(kvs.any fun kv=>decide (kv.1=(Sum.inr s:Key)))=true:=z7 (by rw[z2];rfl);unfold putK;rw[if_pos hany];exact oq rx r
def m9(i:Nat)(ρ:Rho)(ds:List (PyData×PyData))(w k:W)(T:Tp):Option ((Fl×Rho)×Tp):=match w,k with
 |.d x,.d (.str s)=>if ds.length<=1000 then some ((.nx,ρ.set i (some (.loc (.dict (putN ds s x))))),T) else none
 |_,_=>none
def m8(i:Nat)(fk:FE)(ρ:Rho)(w:W)(T:Tp)(o:Option (Option W)):Option ((Fl×Rho)×Tp):=match o with
 |some (some (.loc (.dict ds)))=>bnd (fk ρ T) (m9 i ρ ds w)
 |_=>none
def bL(i:Nat)(fk fv:FE):FS:=fun ρ T=>bnd (fv ρ T) fun w T1=>m8 i fk ρ w T1 ρ[i]?
theorem dE{i:Nat}{x:Str}{kx:Expr}{fk fv:FE}{p pos':Pos}{k:Nat}(hr:Room k X.A)(hk:DE X kx fk)(he:DE X e fv)(hN:X.N[i]? = some x:=by rfl)(hv:Vis X.env.scope x:=by first|exact Or.inl rfl|exact Or.inr (Or.inl rfl)|exact Or.inr (Or.inr rfl))(hd:(x == ("__debug__" : Str))=false:=by decide)
  (hcd:(x == ("__classdict__" : Str))=false:=by decide) (hs:swapsWith e (some (.Subscript (.Name x p) kx pos')) pos.line X.env=pure false:=by rfl):DS X (.Assign [.Subscript (.Name x p) kx pos'] e pos) (bL i fk fv):=by
 refine⟨?_⟩;refine bZ (CF (kF hr) (pv i hN hv hd hcd) hk.pe he.pe hs) fun D σ H=>?_;rintro⟨O₀,H₀,F,ts,O,ρ,T,fl,ρ',T',rs,e,q⟩;obtain⟨w,T1,e1,e⟩:=aM e;refine⟨O,ts,ρ,T,w,T1,rs.hc,rs.re,e1,fun v H1 s1 hc1 r1=>?_⟩;have rs1:=rs.step s1 hc1;unfold m8 at e;split at e
 .rename_i ds c3
  obtain⟨wk,T3,e3,e⟩:=aM e;unfold m9 at e;split at e
  .rename_i xv s _
   split at e
   .rename_i c2
    cases e;obtain⟨u,k1,a,rfl,k2,k3,kvs,k4,k5⟩:=rs1.re i _ c3;refine⟨_,k1,O,ts,ρ,T1,_,_,rs1.hc,rs1.re,e3,fun y H3 s3 hc3 r3=>?_⟩;have rs3:=rs1.step s3 hc3;cases (show Rep X.K O H3 y (.str s) from r3);have k4':H3 a=some (.dK kvs):=s3 _ _ k3 k4;have k5':RepK X.K O H3 kvs ds:=k5.mono (hc1.le s3)
    have hlen:kvs.length<sizeLine:=by
     rw[lF k5'];exact Nat.lt_of_le_of_lt c2 (by decide)
    have rx:Rep X.K O H3 v xv:=RepW.mono (w:=.d xv) r1 hc1 s3;refine⟨a,_,rfl,DPut.k (k:=(Sum.inr s:Key)) k4' hlen,?_⟩;exact q O σ _ (rs3.putO c3 k1 (.inr (.inl ⟨_,rfl⟩)) fun le=>⟨_,bx,Cv (Rep.mono le rx) (k5'.mono le)⟩)
   .cases e
  .cases e
 .cases e
end
def js(n:Nat):W->Option W
 |.tp k=>if k<n then some (.tp k) else none
 |w=>some w
def jt(n:Nat)(ρ:Rho):Rho:=ρ.map fun o=>o.bind (js n)
def j5(n:Nat)(o:Option ((Fl×Rho)×Tp)):Option ((Fl×Rho)×Tp):=match o with
 | some ((fl,ρ'),T3)=>(match qH T3 with
  |some (T4,_)=>if T4.length=n then some ((fl,jt n ρ'),T4) else none
  | none=>none)
 |none=>none
section
variable {K:Frag}{O₀:Addr->Prop}{H₀:Hp}{F:List ((Addr->Prop)×Hp)}{ts:List Addr}{O:Addr->Prop}{H:Hp}{σ:L2.St}{ρ:Rho}{T:Tp}
theorem RS.openR{i:Nat}{p:Addr}{vs:List V}{xs:List PyData}(r:RS K O₀ H₀ F ts O H σ ρ T)(hp:H p=none)(rv:Reps K O H vs xs) :
  RS K (fun b=>O₀ b\/b=p) H₀ F (ts++[p]) (fun b=>O b\/b=p) (upd H p (.lst vs)) (σ.set i (some (.ref p))) (ρ.set i (some (.tp T.length))) (T++[xs]):=by
 have nO:=r.hc.fresh hp;have nt:p∉ts:=fun z=>nO (r.hc.own _ z)
 have le:Le O H (fun b=>O b\/b=p) (upd H p (.lst vs)):=fun a o n e=>by
  have z1:a≠p:=dv e hp;exact⟨fun q=>q.elim n z1,by rw[aS z1];exact e⟩
 have hw:∀ys,W.tp T.length≠.loc ys:=fun _ z=>nomatch z
 refine⟨⟨fun b hb=>?_,fun b hb=>?_,?_,by simp[r.hc.len],fun j b zs q1 q2=>?_⟩,fun j w e=>?_,fun b hb=>hb.elim (fun z=>.inl (r.sub b z)) .inr,fun b hb=>?_,fun b o n e=>?_,fun j xs a e1 e2=>?_,fun j k xs ys v e1 e2 e3 e4=>?_,fun f hf=>(r.frs f hf).trans le,by simp[r.len]⟩
 .rcases List.mem_append.mp hb with z|z
  .exact .inl (r.hc.own b z)
  .exact .inr (List.mem_singleton.mp z)
 .by_cases z:b=p
  .rw[z,bx];exact .inl ⟨_,rfl⟩
  .rw[aS z];exact r.hc.trk b (hb.resolve_right z)
 .rw[List.nodup_append]
  exact⟨r.hc.nd,by simp,fun b hb c hc z=>nt (by rw[←List.mem_singleton.mp hc,←z];exact hb)⟩
 .by_cases hj:j<ts.length
  .rw[List.getElem?_append_left hj] at q1
   rw[List.getElem?_append_left (by rw[←r.hc.len];exact hj)] at q2;exact(r.hc.tape j b zs q1 q2).mono (fun o h1=>by rw[aS (dv h1 hp)];exact h1) le
  .have hj2:j=ts.length:=by
    have:=(List.getElem?_eq_some_iff.mp q1).1;simp at this;omega
   subst hj2
   have e1:b=p:=by simpa using q1.symm
   have e2:zs=xs:=by rw[r.hc.len] at q2;simpa using q2.symm
   subst e1 e2;exact .inl ⟨rv.notO,vs,bx,rv.mono le⟩
 .by_cases z:i=j
  .subst z
   have hl:i<ρ.length:=by
    have:=(List.getElem?_eq_some_iff.mp e).1;simpa using this
   rw[List.getElem?_set_self hl] at e;cases e;exact⟨.ref p,by rw[List.getElem?_set_self (by rw[r.len];exact hl)],p,by rw[←r.hc.len];simp,rfl⟩
  .rw[List.getElem?_set_ne z] at e
   obtain⟨x,h1,h2⟩:=r.re j w e;refine⟨x,by rw[List.getElem?_set_ne z];exact h1,?_⟩
   cases w with
   |d y=>exact Rep.mono le h2
   |tp k=>
    obtain⟨a,k1,k2⟩:=h2;exact⟨a,by rw[List.getElem?_append_left (List.getElem?_eq_some_iff.mp k1).1];exact k1,k2⟩
   |loc ys=>
    obtain⟨a,e1,m1,m2,m3⟩:=h2;have na:a≠p:=fun z=>nO (z ▸ m1);refine⟨a,e1,.inl m1,fun z=>?_,m3.mono (fun o' q=>by rw[aS na];exact q) le⟩
    rcases List.mem_append.mp z with z|z
    .exact m2 z
    .exact na (List.mem_singleton.mp z)
 .rcases List.mem_append.mp hb with z|z
  .exact .inl (r.ots b z)
  .exact .inr (List.mem_singleton.mp z)
 .have nb:b∉ts:=fun z=>n (List.mem_append_left _ z)
  have e1:=r.same b o nb e;rw[aS (dv e1 hp)];exact e1
 .obtain⟨n,e⟩:=dW hw e1
  rw[List.getElem?_set_ne (Ne.symm n)] at e2;obtain⟨f1,f2⟩:=r.fresh j xs a e e2;refine⟨f1,fun z=>z.elim f2 fun z=>?_⟩;obtain⟨v,h1,a',ea,m1,_⟩:=r.re j _ e;rw[e2] at h1;cases h1;cases ea;exact nO (z ▸ m1)
 .obtain⟨n1,e1⟩:=dW hw e1
  obtain⟨n2,e2⟩:=dW hw e2;rw[List.getElem?_set_ne (Ne.symm n1)] at e3;rw[List.getElem?_set_ne (Ne.symm n2)] at e4;exact r.dist j k xs ys v e1 e2 e3 e4
theorem RS.closeR{p:Addr}{row:List PyData}(ots:∀b∈ts,O₀ b)(nt:p∉ts)(h0:H₀ p=none)(n0:¬O₀ p)(r:RS K (fun b=>O₀ b\/b=p) H₀ F (ts++[p]) O H σ ρ (T++[row])):RS K O₀ H₀ F ts O H σ (jt T.length ρ) T:=by
 have lenT:ts.length=T.length:=by have:=r.hc.len;simp at this;exact this
 have at_:∀{j:Nat}{w:W},(jt T.length ρ)[j]? = some (some w)->ρ[j]? = some (some w)/\∀k,w=.tp k->k<T.length:=fun {j w} e=>by
  unfold jt at e;rw[List.getElem?_map] at e
  cases hu:ρ[j]? with
  |none=>rw[hu] at e;cases e
  |some u=>
   cases u with
   |none=>rw[hu] at e;cases e
   |some u=>
    rw[hu] at e;have e':js T.length u=some w:=Option.some.inj e
    cases u with
    |d x=>cases e';exact⟨rfl,fun k z=>nomatch z⟩
    |loc x=>cases e';exact⟨rfl,fun k z=>nomatch z⟩
    |tp k=>
     have e2:(if k<T.length then some (W.tp k) else none)=some w:=e';split at e2
     .rename_i hk
      cases e2;exact⟨rfl,fun k' z=>by cases z;exact hk⟩
     .cases e2
 refine⟨⟨fun b hb=>r.hc.own b (List.mem_append_left _ hb),r.hc.trk,(List.nodup_append.mp r.hc.nd).1,lenT,fun j b zs q1 q2=>?_⟩,fun j w e=>?_,fun b hb=>r.sub b (.inl hb),ots,fun b o n e=>?_,fun j xs a e1 e2=>?_,fun j k xs ys v e1 e2 e3 e4=>?_,r.frs,by simp[jt,r.len]⟩
 .have hj:j<ts.length:=(List.getElem?_eq_some_iff.mp q1).1
  exact r.hc.tape j b zs (by rw[List.getElem?_append_left hj];exact q1) (by rw[List.getElem?_append_left (by rw[←lenT];exact hj)];exact q2)
 .obtain⟨e1,hk⟩:=at_ e
  obtain⟨v,h1,h2⟩:=r.re j w e1;refine⟨v,h1,?_⟩
  cases w with
  |d x=>exact h2
  |tp k=>
   obtain⟨a,k1,k2⟩:=h2;have:=hk k rfl;exact⟨a,by rw[List.getElem?_append_left (by rw[lenT];exact this)] at k1;exact k1,k2⟩
  |loc x=>
   obtain⟨a,k1,k2,k3,k4⟩:=h2;exact⟨a,k1,k2,fun z=>k3 (List.mem_append_left _ z),k4⟩
 .refine r.same b o (fun z=>?_) e
  rcases List.mem_append.mp z with z|z
  .exact n z
  .rw[List.mem_singleton.mp z,h0] at e;cases e
 .obtain⟨f1,f2⟩:=r.fresh j xs a (at_ e1).1 e2
  exact⟨f1,fun z=>f2 (.inl z)⟩
 .exact r.dist j k xs ys v (at_ e1).1 (at_ e2).1 e3 e4
end
section
variable {X:Cx}{pos:Pos}{rest:List Stmt}{fr:FS}
theorem CN{i:Nat}{p:Addr}{vs:List V}{xs:List PyData}{D:Ends}{O₀:Addr->Prop}{H₀:Hp}{F:List ((Addr->Prop)×Hp)}{ts:List Addr}{O:Addr->Prop}{H:Hp}{σ:L2.St}{ρ:Rho}{T:Tp}{fl:Fl}{ρ':Rho}{T':Tp}
  (rs:RS X.K O₀ H₀ F ts O H σ ρ T) (hp:H p=none) (rv:Reps X.K O H vs xs) (e:j5 T.length (fr (ρ.set i (some (.tp T.length))) (T++[xs]))=some ((fl,ρ'),T')) (q:xS X.K O₀ H₀ F ts D ρ' T' fl):qF X.K fr D (σ.set i (some (.ref p))) (upd H p (.lst vs)):=by
 have nO:=rs.hc.fresh hp;have nt:p∉ts:=fun z=>nO (rs.hc.own _ z)
 have h0:H₀ p=none:=by
  cases e:H₀ p with
  |none=>rfl
  |some o=>rw[rs.same p o nt e] at hp;cases hp
 have n0:¬O₀ p:=fun z=>nO (rs.sub p z);have rs1:=rs.openR (i:=i) hp rv;generalize hE:fr (ρ.set i (some (.tp T.length))) (T++[xs])=E at e;unfold j5 at e;split at e
 .rename_i fl1 ρ1 T3
  split at e
  .rename_i T4 row hT
   split at e
   .rename_i hlen
    have eT:=BF hT;subst eT;cases e;have lb:∀{G:Hp},Le (fun b=>O₀ b\/b=p) G O₀ G:=fun a o n e=>⟨fun z=>n (.inl z),e⟩
    have lenB:∀{G:Hp}{B:Addr->Prop},HC X.K B (ts++[p]) G (T'++[row])->ts.length=T'.length:=fun h=>by have:=h.len;simp at this;exact this
    have sameB:∀{G:Hp},SameX (ts++[p]) H₀ G->SameX ts H₀ G:=fun s b o n e=>s b o (fun z=>by
     rcases List.mem_append.mp z with z|z
     .exact n z
     .rw[List.mem_singleton.mp z,h0] at e;cases e) e
    refine⟨_,H₀,F,ts++[p],_,_,_,fl,ρ1,T'++[row],rs1,hE,?_⟩;have lenE:T.length=T'.length:=hlen.symm
    cases fl with
    |nx=>exact fun O' σ' H' r=>q O' σ' H' (by rw[lenE];exact RS.closeR rs.ots nt h0 n0 r)
    |bk=>exact fun O' σ' H' r=>q O' σ' H' (by rw[lenE];exact RS.closeR rs.ots nt h0 n0 r)
    |ct=>exact fun O' σ' H' r=>q O' σ' H' (by rw[lenE];exact RS.closeR rs.ots nt h0 n0 r)
    |rt y=>
     intro v H' s1 c1 r1;refine q v H' (sameB s1) ⟨rs.ots,fun b hb=>c1.trk b (.inl hb),rs.hc.nd,lenB c1,fun j b zs q1 q2=>?_⟩ (Rep.mono lb r1);have hj:j<ts.length:=(List.getElem?_eq_some_iff.mp q1).1;exact(c1.tape j b zs (by rw[List.getElem?_append_left hj];exact q1) (by rw[List.getElem?_append_left (by rw[←lenB c1];exact hj)];exact q2)).mono (fun _ h=>h) lb
    |ro y=>
     intro A v H' s1 hA c1 o1;have lb2:Le (fun b=>(O₀ b\/b=p)\/A b) H' (fun b=>O₀ b\/A b) H':=fun b o n e=>⟨fun z=>n (z.elim (fun z=>.inl (.inl z)) .inr),e⟩;refine q A v H' (sameB s1) (fun b hb=>⟨(hA b hb).1,fun z=>(hA b hb).2 (.inl z)⟩) ⟨fun b hb=>.inl (rs.ots b hb),fun b hb=>c1.trk b (hb.elim (fun z=>.inl (.inl z)) .inr),rs.hc.nd,lenB c1,fun j b zs q1 q2=>?_⟩ (OwnV.mono lb2 o1);have hj:j<ts.length:=(List.getElem?_eq_some_iff.mp q1).1;exact(c1.tape j b zs (by rw[List.getElem?_append_left hj];exact q1) (by rw[List.getElem?_append_left (by rw[←lenB c1];exact hj)];exact q2)).mono (fun _ h=>h) lb2
   .cases e
  .cases e
 .cases e
end
theorem AS:entryFor table "dict_itemiterator.__iter__"=some PySem.Builtin.«dict_keyiterator.__iter__»:=by kernel_rfl
theorem zM(v:Value):Meets (PySem.Builtin.«dict_keyiterator.__iter__» { pos:=[v] }) (fun _ R s=>R (.ok (.ret v)) s):=by
 intro prog w A R s h;unfold PySem.Builtin.«dict_keyiterator.__iter__»;refine wpAny_bind ?_;unfold slotArgs;simp only[];rw[if_neg (by simp),if_neg (by simp)];exact wpAny_pure (wpAny_pure h)
def Iti(a:Addr)(o:Obj)(kvs:List (Key×V)):It:=⟨fun i H=>H a=some (.frz o (.dK kvs))/\i<kvs.length,fun i H x H'=>∃p k v,H p=none/\kvs[i]? = some (k,v)/\x=.ref p/\H'=upd H p (.tup [kV k,v]),fun i H=>H a=some (.frz o (.dK kvs))/\i=kvs.length⟩
theorem E9{kvs:List (Key×V)}{vs:List (Key×Value)}:∀{i:Nat},KV kvs vs->i<kvs.length->∃k v u,kvs[i]? = some (k,v)/\vs[i]? = some (k,u)/\RelV v u:=by
 intro i r h
 induction r generalizing i with
 |nil=>simp at h
 |cons r1 r2 ih=>
  cases i with
  |zero=>
   rename_i p q _ _;refine⟨p.1,p.2,q.2,rfl,?_,r1.2⟩;rw[r1.1];rfl
  |succ i=>
   obtain⟨k,v,u,h1,h2,h3⟩:=ih (i:=i) (by simpa using h);exact⟨k,v,u,by simpa using h1,by simpa using h2,h3⟩
theorem zD{P:Program}{w:World}{K:Frag}{elts:List Expr}{x1:Nat}{tpos:Pos}(a it:Addr)(o:Obj)(kvs:List (Key×V)) :
  Turn P w K (.Tuple elts x1 tpos) (Iti a o kvs) [it] it (fun i h=>∃ok ov,IsItemIter h it a i kvs.length (gL o) ok ov) where
 mem:=by simp
 obj:=fun i h st b hb=>by
  have e:b=it:=by simpa using hb
  subst e;obtain⟨ok,ov,st⟩:=st
  exact⟨_,st,fun v z=>by
   have z':Data.fields _=Data.cell v:=z
   cases z'⟩
 keep:=fun i h h' ⟨ok,ov,st⟩ k=>⟨ok,ov,k it (by simp) _ st⟩
 item:=by
  intro X hP hw hK hc i pins s σ H E I hf st hg;subst hP hw hK;obtain⟨ok,ov,st⟩:=st;obtain⟨hg1,hg2⟩:=hg;obtain⟨z,y,vs,kv,dd⟩:=gY I.hok hg1;obtain⟨f0,f1,f2,f3,f4,f5⟩:=hf it (by simp);have hl:=kv.length;obtain⟨k,v0,u0,q1,q2,q3⟩:=E9 kv hg2;rw[hl] at st;refine wpAny_pyNext_items_item (knd:=bz X.prog X.w) st dd q2 fun key h' hk st' hT hsz hkeep=>?_;refine⟨.ref s.heap.objs.size,rfl,wpAny_letOwnedTupleGo_items st' fun h'' st'' hsb=>?_⟩;have hit:it<s.heap.objs.size:=Heap.lt_size st;have hne:s.heap.objs.size≠it:=Nat.ne_of_gt hit;have hn:H s.heap.objs.size=none:=I.hok.fresh (Nat.le_refl _);have T1:IsTup (s.heap.push { cls:=.type "tuple",data:=.seq #[key,u0] }) s.heap.objs.size #[key,u0]:=IsTup.new ..
  have I1:Inv X pins σ (upd H s.heap.objs.size (.tup [kV k,v0])) { s with heap:=s.heap.push { cls:=.type "tuple",data:=.seq #[key,u0] } }:=
   I.laid (t':=s.toks) (o:=.tup [kV k,v0]) (fun b ob e=>Heap.get?_push_of_some _ e) (Nat.le_refl _) ⟨by show 2<=sizeLine;decide,[key,u0],.cons (keyV hk) (.cons q3 .nil),T1⟩
  have K:∀b ob,b≠it->(s.heap.push { cls:=.type "tuple",data:=.seq #[key,u0] }).get? b=some ob->h''.get? b=some ob:=fun b ob hb e=>by
   by_cases hbs:b=s.heap.objs.size
   .subst hbs
    rw[Heap.get?_push_size _ (by rfl)] at e;cases e;exact(hsb.2 _ hb).trans hT
   .have e0:s.heap.get? b=some ob:=by
     rw[←Heap.get?_push_ne _ _ _ hbs];exact e
    exact(hsb.2 b hb).trans (hkeep b ob hb e0)
  have I2:Inv X pins σ (upd H s.heap.objs.size (.tup [kV k,v0])) { s with heap:=h'' }:=Inv.turned (s:={ s with heap:=s.heap.push { cls:=.type "tuple",data:=.seq #[key,u0] } }) (t':=s.toks) (h':=h'') (it:=it) I1 K (by rw[aS (Ne.symm hne)];exact f0) f1 f3 f4 f5;refine⟨.ref s.heap.objs.size,_,I2,rfl,⟨s.heap.objs.size,k,v0,hn,q1,rfl,rfl⟩,⟨_,_,by rw[hl];exact st''⟩,fun b hb=>?_⟩
  have e:b=it:=by simpa using hb
  subst e;rw[aS (Ne.symm hne)];exact f0
 done:=by
  intro X hP hw hK hc i pins s σ H E I hf st hg;subst hP hw hK;obtain⟨ok,ov,st⟩:=st;obtain⟨hg1,hg2⟩:=hg;obtain⟨z,y,vs,kv,dd⟩:=gY I.hok hg1;obtain⟨f0,f1,f2,f3,f4,f5⟩:=hf it (by simp);have hl:=kv.length;rw[hl] at st;exact wpAny_pyNext_items_end (knd:=bz X.prog X.w) (I.ok.hd hc) st dd (by rw[List.getElem?_eq_none_iff];omega) fun h' eb=>⟨rfl,I.turned (t':=s.toks) (fun b ob hb e=>eb b ob hb e) f0 f1 f3 f4 f5⟩
 self:=fun A i s Q E ⟨ok,ov,st⟩ h=>by
  have ty:s.TypeIs (.ref it) "dict_itemiterator":=⟨_,st,rfl⟩;refine wpAny_pyIter_slot ty PySem.F.slot_dict_itemiterator_iter ?_;exact call_meets PySem.F.slot_dict_itemiterator_iter ty AS (PySem.F.args_dict_itemiterator_iter_1 _) (zM _) ⟨"dict_itemiterator",_,ty,PySem.F.slot_dict_itemiterator_next.lookup,h⟩
section
variable {X:Cx}{pos:Pos}
def Fo(tl:TE):TI:=fun σ H R=>tl σ H fun x H1=>∃a o kvs,x=.ref a/\H1 a=some (.frz o (.dK kvs))/\(kvs.length<=sizeLine->R (Iti a o kvs) H1)
theorem Bj{ob:Expr}{tl:TE}{elts:List Expr}{x1:Nat}{tpos apos cpos:Pos}(ho:PE X ob tl)(hbase:attributeBase ob "items" X.env (eval ob X.env)=eval ob X.env:=by rfl)(hline:(apos.endLine == cpos.line)=true:=by rfl) :
  PI X (.Tuple elts x1 tpos) (.Call (.Attribute ob "items" apos) [] [] cpos) (Fo tl):=by
 intro pins s σ H R I h;refine wpAny_Call_method0_late hbase hline (thn (ho pins s σ H _ I h) fun v s1 ⟨x,H1,I1,r1,a,o,kvs,ex,ha,q⟩=>?_);subst ex;cases (show v=Value.ref a from r1);obtain⟨z,y,vs,kv,dd⟩:=gY I1.hok ha;have dOf:=dd.dictOf;obtain⟨od,_,_,eo,ex,_⟩:=id dOf;refine⟨"dict","dict.items",PySem.F.plainAttrs_dict,PySem.F.slot_dict_items,PySem.F.type_dict_items,⟨od,eo,ex.1⟩,fun b e2=>by cases e2;exact⟨od,eo,ex.2.1⟩,Calls.callWith_builtin rfl (PySem.evalArgs_none ?_)⟩;refine call_meetsIn PySem.F.slot_dict_items ⟨od,eo,ex.1⟩ PySem.F.entry_dict_items (PySem.F.args_dict_items_1 _) (meets_dict_items (bz X.prog X.w) a y) ⟨⟨vs,dOf⟩,?_⟩;have I2:Inv X pins σ H1 { s1 with heap:=s1.heap.push { cls:=.type "dict_items",data:=.fields #[.ref a] } }:=I1.kept (t':=s1.toks) fun b ob e=>Heap.get?_push_of_some _ e;obtain⟨z2,y2,vs2,kv2,dd2⟩:=gY I2.hok ha;refine wpAny_pyIter_items (knd:=bz X.prog X.w) (kvs:=vs2) (ep:=gL o) ⟨_,Heap.get?_push_size _ (by rfl),rfl,rfl⟩ dd2 ?_
 have fk:∀b∈[(s1.heap.push { cls:=.type "dict_items",data:=.fields #[.ref a] }).objs.size],dq X pins H1 b:=fun b hb=>by
  have e:b=(s1.heap.push { cls:=.type "dict_items",data:=.fields #[.ref a] }).objs.size:=List.mem_singleton.mp hb;subst e;exact I2.fpOk (Nat.le_refl _) (I2.hok.fresh (Nat.le_refl _))
 exact⟨_,[_],_,_,H1,rfl,I2.kept (t':=s1.toks) fun b ob e=>Heap.get?_push_of_some _ e,zD a _ o kvs,⟨.none,.none,by rw[kv2.length];exact Heap.get?_push_size _ (by rfl)⟩,fk,q z⟩
def eW(i j:Nat)(body:FS):List (PyData×PyData)->FS
 |[]=>aD
 |d::r=>fun ρ T=>bnd (body ((ρ.set i (some (.d d.1))).set j (some (.d d.2))) T) fun p T1=>match p with
  |(.nx,ρ1)=>eW i j body r ρ1 T1
  |(.ct,ρ1)=>eW i j body r ρ1 T1
  |(.bk,ρ1)=>some ((.nx,ρ1),T1)
  |(.rt x,ρ1)=>some ((.rt x,ρ1),T1)
  |(.ro x,ρ1)=>some ((.ro x,ρ1),T1)
def kJ(i j:Nat)(body:FS)(ρ:Rho)(w:W)(T:Tp):Option ((Fl×Rho)×Tp):=match w with
 |.d (.dict ds)=>eW i j body ds ρ T
 |_=>none
def fW(i j:Nat)(f:FE)(body:FS):FS:=fun ρ T=>bnd (f ρ T) (kJ i j body ρ)
theorem uF{K:Frag}{O:Addr->Prop}{H:Hp}:∀{kvs:List (Key×V)}{ds:List (PyData×PyData)}{i:Nat}{k:Key}{v:V},RepK K O H kvs ds->kvs[i]? = some (k,v)->∃d,ds[i]? = some (f6 k,d)/\Rep K O H v d
 |_,_,_,_,_,.nil,e=>by simp at e
 |_,_,0,_,_,.cons r _,e=>by simp at e;obtain⟨rfl,rfl⟩:=e;exact⟨_,rfl,r⟩
 |_,_,i+1,k,v,.cons _ t,e=>by
  obtain⟨d,h1,h2⟩:=uF (i:=i) t (by simpa using e);exact⟨d,by simpa using h1,h2⟩
theorem pW{i j:Nat}{x y:Str}{ob:Expr}{f:FE}{g:FS}{body:List Stmt}{k:Nat}{px py tpos apos cpos:Pos}(hN:X.N.Nodup)(ho:DE X ob f)(hb:DSs X body g)(hi:X.N[i]? = some x:=by rfl)(hj:X.N[j]? = some y:=by rfl)(hx:Loc X.env.scope x:=by first|exact Or.inl rfl|exact Or.inr rfl)(hy:Loc X.env.scope y:=by first|exact Or.inl rfl|exact Or.inr rfl)
  (hf:X.fn x=true\/X.env.scope.names.lookup x=some .local:=by first|exact .inl rfl|exact .inr rfl|assumption) (hf':X.fn y=true\/X.env.scope.names.lookup y=some .local:=by first|exact .inl rfl|exact .inr rfl|assumption) (hp:PassesOwn (model X.prog X.w) X.A X.env X.xe:=by exact PassesOwn.never) (hc:X.calm=true:=by rfl)
  (hbase:attributeBase ob "items" X.env (eval ob X.env)=eval ob X.env:=by rfl) (hline:(apos.endLine == cpos.line)=true:=by rfl) (hs:∀v,foldedSetIterable (.Call (.Attribute ob "items" apos) [] [] cpos) X.env v=pure v:=by intro _;rfl) :
  DS X (.For (.Tuple [.Name x px,.Name y py] k tpos) (.Call (.Attribute ob "items" apos) [] [] cpos) body [] pos) (fW i j f g):=by
 refine⟨?_⟩;refine bZ (mE hp hc (Bj ho.pe hbase hline) (mF hc (gw (fQ hN hi hx hf) (gw (fQ hN hj hy hf') lU))) hb.pe hs) fun D σ H=>?_;rintro⟨O₀,H₀,F,ts,O,ρ,T,fl,ρ',T',rs,e,q⟩;obtain⟨w,T1,e1,e⟩:=aM e;unfold kJ at e;split at e
 .rename_i ds
  refine⟨O,ts,ρ,T,_,T1,rs.hc,rs.re,e1,fun v H1 s1 hc1 r1=>?_⟩;have r1':Rep X.K O H1 v (.dict ds):=r1
  cases r1' with
  |@dct a o kvs _ nO ha rk=>
   refine⟨a,o,kvs,rfl,ha,fun hz=>?_⟩;have hlen:=lm rk;refine⟨fun n m σ H=>m=ds.length-n/\n<=ds.length/\∃O' ρk Tk,RS X.K O₀ H₀ ((O,H1)::F) ts O' H σ ρk Tk/\eW i j g (ds.drop n) ρk Tk=some ((fl,ρ'),T'),⟨_,rfl,Nat.zero_le _,O,ρ,T1,(rs.step s1 hc1).more,e⟩,?_⟩;rintro n m σ2 H2 ⟨rfl,hk,O',ρk,Tk,rs2,ek⟩;have le:=rs2.frs _ List.mem_cons_self;have ha2:=le a _ nO ha
   by_cases hlt:n<ds.length
   .refine .inr ⟨⟨ha2.2,by omega⟩,fun σ3 H3=>∃O' ρk Tk,RS X.K O₀ H₀ ((O,H1)::F) ts O' H3 σ3 ρk Tk/\eW i j g (ds.drop (n+1)) ρk Tk=some ((fl,ρ'),T'),fun σ3 H3 nn=>⟨ds.length-(n+1),by omega,rfl,hlt,nn⟩,fun v H3 yy=>?_⟩
    obtain⟨p,k',v',hpn,hkv,rfl,rfl⟩:=yy;obtain⟨d,hd,rd⟩:=uF rk hkv
    have hdr:ds.drop n=(f6 k',d)::ds.drop (n+1):=by
     rw[List.drop_eq_getElem_cons hlt];have:=(List.getElem?_eq_some_iff.mp hd).2;rw[this]
    rw[hdr] at ek;obtain⟨⟨fl1,ρ1⟩,T3,e3,ek⟩:=aM ek;have rs3:=rs2.step (.new hpn (.tup [kV k',v'])) (rs2.hc.new hpn _);have rd3:Rep X.K O' (upd H2 p (.tup [kV k',v'])) v' d:=Rep.mono (le.trans (rs2.hc.leNew hpn _)) rd;refine⟨p,_,rfl,SqT.of bx,rfl,_,_,rfl,_,_,rfl,rfl,O₀,H₀,(O,H1)::F,ts,O',_,Tk,fl1,ρ1,T3,(rs3.set (i:=i) (w:=.d (f6 k')) (uG k') (fun _ z=>nomatch z)).set (i:=j) (w:=.d d) rd3 (fun _ z=>nomatch z),e3,?_⟩
    cases fl1 with
    |nx=>exact fun O3 σ3 H3 rs3=>⟨O3,ρ1,T3,rs3,ek⟩
    |ct=>exact fun O3 σ3 H3 rs3=>⟨O3,ρ1,T3,rs3,ek⟩
    |bk=>
     cases ek;exact fun O3 σ3 H3 rs3=>q O3 σ3 H3 rs3.less
    |rt x=>
     cases ek;exact q
    |ro x=>
     cases ek;exact q
   .have e:n=ds.length:=by omega
    subst e;rw[List.drop_eq_nil_of_le (Nat.le_refl _)] at ek;cases ek;exact .inl ⟨⟨ha2.2,hlen.symm⟩,q O' σ2 H2 rs2.less⟩
 .cases e
end
section
variable {X:Cx}
end
theorem BR{P:Program}{w:World}{K:Frag}{mg:Str->Option Value}{base:Heap}{CX:CXT}{k:Nat}{f:Addr}{fd:FuncData}{ps:List Str}{sp sp':Sp}(F:FnOk P w K mg base CX k f fd ps sp)(i:∀vs H Q E,sp' vs H Q E->sp vs H Q E):FnOk P w K mg base CX k f fd ps sp':=⟨fun vs H Q E h=>F.1 vs H Q E (i _ _ _ _ h),fun A outer s H args us vs Q E a b c d h=>F.2 A outer s H args us vs Q E a b c d (i _ _ _ _ h)⟩
theorem Au{K:Frag}{m:FnM}(hm:∀ns:List Int,ns.length<=63->∃T',m [.d (i7 ns)] []=some (.bool true,T')):∀vs H Q E,m6 K vs H Q E->spM K 1 m vs H Q E:=by
 intro vs H Q E h;obtain⟨a,ns,rfl,hS,hl,q⟩:=h;obtain⟨T',e⟩:=hm ns hl
 have ra:LstAt K (fun _=>False) H a (ns.map V.int):=by
  rcases hS with h|h
  .exact .inl ⟨fun z=>z,h⟩
  .exact .inr (.inr h)
 refine⟨fun _=>False,[],[],[.d (i7 ns)],.bool true,T',⟨fun b hb=>(by cases hb),fun b hb=>hb.elim,List.nodup_nil,rfl,fun i a xs e1 _=>by simp at e1⟩,.cons (show Rep K (fun _=>False) H (.ref a) (i7 ns) from .lst ra (sP ns)) .nil,rfl,e,fun v H' _ _ r=>?_⟩;cases r;exact q H'
def Hz:PyData->PyData->Option PyData:=iop fun i j=>if 0<=j then some (.int (i / 2^j.toNat)) else none
@[simp] theorem Jf{i j:Int}:Hz (.int i) (.int j)=if 0<=j then some (.int (i / 2^j.toNat)) else none:=rfl
section
variable {X:Cx}
theorem Bx:MtR X "str.join" (fun x vs H Q=>∃(z:Str) (l:Addr) (ys:List Str),x=.str z/\vs=[.ref l]/\SqT X.K H l (ys.map V.str)/\(ys.map (·.length)).sum+ys.length*z.length<=16777216/\Q (.str (Str.join z ys)) H):=by
 intro pins s σ H x vs v us Q I rx rv h;obtain⟨z,l,ys,rfl,rfl,hq,hz,q⟩:=h;obtain⟨t,rfl⟩:=rx;obtain⟨u,rfl,ru⟩:=vals1 rv;cases ru;obtain⟨its,rw',pl,_⟩:=I.tuple hq;refine join_tuple (ys:=ys) pl (by simpa using rP rw') hz fun t' k=>⟨.str _,H,I.tok _,⟨t',?_⟩,q⟩;show Value.str (Builtin.Str.glued z ys) t'=_;rw[StrLaws.glued_eq_join]
theorem xV{K:Frag}{O:Addr->Prop}{ts:List Addr}{H:Hp}{T:Tp}{v:V}{w:W}{z:Str}(r:RepW K O ts H v w)(h:view T w=some (.str z)):v=.str z:=by
 cases w with
 |d x=>cases h;cases (show Rep K O H v _ from r);rfl
 |tp k=>
  have h1':(T[k]?).bind jy=some (PyData.str z):=h
  cases hk:T[k]? with
  |none=>rw[hk] at h1';cases h1'
  |some xs=>
   rw[hk] at h1';have e2:(if isO xs=true then none else some (PyData.list xs))=some (PyData.str z):=h1'
   split at e2 <;> cases e2
 |loc zs=>cases zs <;> cases h
def eO:PyData->PyData->Option PyData
 |.str z,.list xs=>match d3 xs with
  |some ys=>if (ys.map (·.length)).sum+ys.length*z.length<=16777216 then some (.str (Str.join z ys)) else none
  |none=>none
 |.str z,.tuple xs=>match d3 xs with
  |some ys=>if (ys.map (·.length)).sum+ys.length*z.length<=16777216 then some (.str (Str.join z ys)) else none
  |none=>none
 |_,_=>none
theorem pd{o e:Expr}{fo fe:FE}{apos cpos:Pos}(ho:DE X o fo)(he:DE X e fe)
  (hbase:attributeBase o "join" X.env (eval o X.env)=eval o X.env:=by rfl)
  (hfew:((backTo cpos (starEach [e] X.env)).all (fun x=>!x.1)&&(backToKw cpos (keywordEach [] X.env)).all (fun x=>x.1.isSome)
   && decide (([e]:List Expr).length+([]:List Keyword).length+(if ([]:List Keyword).isEmpty then 0 else 1)<30))=true:=by exact nH rfl)
  (hline:(apos.endLine == cpos.line)=true:=by rfl) (hse:starEach [e] X.env=(false,eval e X.env)::starEach [] X.env:=by exact a9 rfl) (hplain:(backTo cpos (starEach [] X.env)).any (·.1)=false:=by exact bW rfl) :
  DE X (.Call (.Attribute o "join" apos) [e] [] cpos) (af eO fo fe):=by
 refine⟨?_⟩;refine bu (kq PySem.F.plainAttrs_str PySem.F.slot_str_join PySem.F.type_str_join (mt_joinG.or Bx) ho.pe (cW he.pe dG hse) hbase hfew hline hse hplain) fun σ H Q=>?_;rintro⟨O,ts,ρ,T,w,T',hc,re,e,q⟩;obtain⟨w1,T1,e1,e⟩:=aM e;obtain⟨w2,T2,e2,e⟩:=aM e;obtain⟨x,y,d,h1,h2,h3,rfl,rfl⟩:=i8 e;unfold eO at h3;refine⟨O,ts,ρ,T,w1,T1,hc,re,e1,fun v1 H1 s1 hc1 r1=>?_⟩;split at h3
 .rename_i z xs
  split at h3
  .rename_i ys hy
   split at h3
   .rename_i hz
    cases h3;have ev:=xV r1 h1;subst ev;refine⟨rfl,O,ts,ρ,T1,w2,T',hc1,re.mono hc s1,e2,fun v2 H2 s2 hc2 r2=>?_⟩;obtain⟨a,vs,rfl,t,r⟩:=(hc2.view r2 h2).lst;rw[lQ r hy] at t;exact .inl ⟨z,a,ys,rfl,rfl,t,hz,q _ H2 (s1.trans s2) hc2 (.str _)⟩
   .cases h3
  .cases h3
 .rename_i z xs
  split at h3
  .rename_i ys hy
   split at h3
   .rename_i hz
    cases h3;have ev:=xV r1 h1;subst ev;refine⟨rfl,O,ts,ρ,T1,w2,T',hc1,re.mono hc s1,e2,fun v2 H2 s2 hc2 r2=>?_⟩;obtain⟨a,vs,rfl,t,r⟩:=(hc2.view r2 h2).tup;have t:=t.sq;rw[lQ r hy] at t;exact .inr ⟨z,a,ys,rfl,rfl,t,hz,q _ H2 (s1.trans s2) hc2 (.str _)⟩
   .cases h3
  .cases h3
 .cases h3
end
end D
namespace L2
open PySem PySem.Spec PyProof.Rows
structure CSn(osc:Scope)(N:List Str)(xs:List Str)(scope:Scope)(N':List Str):Prop where
 kind:scope.kind=.function
 nocell:∀y∈scope.names,y.2≠.cell
 names:∀y∈scope.names,y.2=.local->scope.names.lookup y.1=some .local
 hx:∀x∈xs,scope.names.lookup x=some .local
 only:∀y∈scope.names,y.2=.local->y.1∈xs\/y.1=".0"
 free:∀y∈scope.names,y.2=.free->osc.names.lookup y.1=some .cell\/osc.names.lookup y.1=some .free
 nd:(xs++N').Nodup
 n0:(".0" : Str)∉N'
 len:N'.length=N.length
 rel:∀p∈N'.zip N,p.1=p.2\/∀q∈scope.names,q.1≠p.1
section
variable {X:Cx}{pins:List (Addr×Obj)}{σ:St}{H:Hp}{s:Shared}{xs:List Str}{scope:Scope}{N':List Str}
end
section
variable {X:Cx}{xs:List Str}{scope:Scope}{N':List Str}{tg elt iter:Expr}{ifs:List Expr}{pos:Pos}{wi:TI}{g:TG}{te:TE}{tt:TT}
end
end L2
namespace D
open PySem PySem.Spec PyProof.Rows L2
theorem ux{X:Cx}{pins:List (Addr×Obj)}{σ:L2.St}{H:Hp}{s:Shared}{h':Heap}{t':Nat}{fp:List Addr}(I:Inv X pins σ H s)(k:∀b o,b∉fp->s.heap.get? b=some o->h'.get? b=some o)(hf:∀b∈fp,dq X pins H b):Inv X pins σ H { s with heap:=h',toks:=t' }:=by
 have nit:∀b u,H b=some u->b∉fp:=fun b u e z=>by rw[(hf b z).1] at e;cases e
 have hL:X.env.locals∉fp:=fun z=>(hf _ z).2.1 rfl
 refine I.step (g':=s.gens) (d':=s.drawn) (ch:=fp) (fun b hb=>?_) (fun b o _ _ hc e _=>k b o hc e) (fun b o _ _ hc e _=>⟨o.slots,k b o hc e⟩) (fun _ _ _ _ n=>n)
  (fun b o hc e=>⟨o,k b o hc e⟩) (fun _ _ e=>e) (fun _ _ _ e=>e) (fun b ps e=>⟨#[],by rw[e];simp⟩) (fun m hm=>?_) (fun b u e=>?_) I.bare
 .obtain⟨_,f1,_,f3,f4,f5⟩:=hf b hb
  exact⟨f3,f1,f4,f5⟩
 .obtain⟨o,es,ep,ho,r⟩:=hm
  exact⟨o,es,ep,k _ o hL ho,r⟩
 .refine(I.hok b u e).stay (fun c v hc q=>k c v ?_ q) (fun _ q=>q) fun _ _ q=>q
  rcases hc with z|z
  .rw[z];exact nit b u e
  .exact nit c _ z
section
variable {X:Cx}{pos:Pos}
def fG(i j:Nat)(body:FS):List PyData->FS
 |[]=>aD
 |.tuple [a,b]::r=>fun ρ T=>bnd (body ((ρ.set i (some (.d a))).set j (some (.d b))) T) fun p T1=>match p with
  |(.nx,ρ1)=>fG i j body r ρ1 T1
  |(.ct,ρ1)=>fG i j body r ρ1 T1
  |(.bk,ρ1)=>some ((.nx,ρ1),T1)
  |(.rt x,ρ1)=>some ((.rt x,ρ1),T1)
  |(.ro x,ρ1)=>some ((.ro x,ρ1),T1)
 |_=>fun _ _=>none
def jr(i j:Nat)(it:FI)(body:FS):FS:=fun ρ T=>bnd (it ρ T) fun ds T1=>fG i j body ds ρ T1
theorem DH{i j:Nat}{x y:Str}{iter:Expr}{f:FS}{body:List Stmt}{n:Nat}{px py tpos:Pos}{it:FI}(hN:X.N.Nodup)(hi:DI X (.Tuple [.Name x px,.Name y py] n tpos) iter it)(hb:DSs X body f)(hix:X.N[i]? = some x:=by rfl)(hjx:X.N[j]? = some y:=by rfl)(hx:Loc X.env.scope x:=by first|exact Or.inl rfl|exact Or.inr rfl)(hy:Loc X.env.scope y:=by first|exact Or.inl rfl|exact Or.inr rfl)
  (hf:X.fn x=true\/X.env.scope.names.lookup x=some .local:=by first|exact .inl rfl|exact .inr rfl|assumption) (hf':X.fn y=true\/X.env.scope.names.lookup y=some .local:=by first|exact .inl rfl|exact .inr rfl|assumption) (hp:PassesOwn (model X.prog X.w) X.A X.env X.xe:=by exact PassesOwn.never) (hc:X.calm=true:=by rfl)
  (hs:∀x,foldedSetIterable iter X.env x=pure x:=by intro _;rfl):DS X (.For (.Tuple [.Name x px,.Name y py] n tpos) iter body [] pos) (jr i j it f):=by
 refine⟨?_⟩;refine bZ (mE hp hc hi.pe (mF hc (gw (fQ hN hix hx hf) (gw (fQ hN hjx hy hf') lU))) hb.pe hs) fun D σ H=>?_;rintro⟨O₀,H₀,F,ts,O,ρ,T,fl,ρ',T',rs,e,q⟩;obtain⟨ds,T1,e1,e⟩:=aM e;refine⟨O,ts,ρ,T,ds,T1,rs.hc,rs.re,e1,fun J H1 s1 hc1 ok hz=>?_⟩;refine⟨fun k m σ H=>m=ds.length-k/\k<=ds.length/\∃O' ρk Tk,RS X.K O₀ H₀ ((O,H1)::F) ts O' H σ ρk Tk/\fG i j f (ds.drop k) ρk Tk=some ((fl,ρ'),T'),⟨_,rfl,Nat.zero_le _,O,ρ,T1,(rs.step s1 hc1).more,e⟩,?_⟩;rintro k m σ2 H2 ⟨rfl,hk,O',ρk,Tk,rs2,ek⟩;obtain⟨k1,k2,k3⟩:=ok O' H2 (rs2.frs _ List.mem_cons_self)
 by_cases hlt:k<ds.length
 .refine .inr ⟨k1 k hlt,fun σ3 H3=>∃O' ρk Tk,RS X.K O₀ H₀ ((O,H1)::F) ts O' H3 σ3 ρk Tk/\fG i j f (ds.drop (k+1)) ρk Tk=some ((fl,ρ'),T'),fun σ3 H3 n=>⟨ds.length-(k+1),by omega,rfl,hlt,n⟩,fun v H3 y=>?_⟩
  obtain⟨e2,d,hd,rd⟩:=k3 k v H3 y hlt;subst e2
  have hdr:ds.drop k=d::ds.drop (k+1):=by rw[List.drop_eq_getElem_cons hlt,(List.getElem?_eq_some_iff.mp hd).2]
  rw[hdr] at ek;generalize ds.drop (k+1)=rest at ek ⊢
  have hab:∃a b,d=.tuple [a,b]:=by
   match d,ek with
   |.tuple [a,b],_=>exact⟨a,b,rfl⟩
   |.tuple [],ek=>cases ek
   |.tuple [_],ek=>cases ek
   |.tuple (_::_::_::_),ek=>cases ek
   |.none,ek=>cases ek
   |.bool _,ek=>cases ek
   |.int _,ek=>cases ek
   |.str _,ek=>cases ek
   |.list _,ek=>cases ek
   |.dict _,ek=>cases ek
  obtain⟨a,b,rfl⟩:=hab
  cases rd with
  |tup t r=>
  cases r with
  |cons ra r=>
  cases r with
  |cons rb r=>
  cases r;obtain⟨⟨fl1,ρ1⟩,T3,e3,ek⟩:=aM ek;refine⟨_,_,rfl,t.sq,rfl,_,_,rfl,_,_,rfl,rfl,O₀,H₀,(O,H1)::F,ts,O',_,Tk,fl1,ρ1,T3,(rs2.set (i:=i) (w:=.d a) ra (fun _ z=>nomatch z)).set (i:=j) (w:=.d b) rb (fun _ z=>nomatch z),e3,?_⟩
  cases fl1 with
  |nx=>exact fun O3 σ3 H3 rs3=>⟨O3,ρ1,T3,rs3,ek⟩
  |ct=>exact fun O3 σ3 H3 rs3=>⟨O3,ρ1,T3,rs3,ek⟩
  |bk=>
   cases ek;exact fun O3 σ3 H3 rs3=>q O3 σ3 H3 rs3.less
  |rt x=>
   cases ek;exact q
  |ro x=>
   cases ek;exact q
 .have e:k=ds.length:=by omega
  subst e;rw[List.drop_eq_nil_of_le (Nat.le_refl _)] at ek;cases ek;exact .inl ⟨k2,q O' σ2 H2 rs2.less⟩
end
section
variable {X:Cx}
theorem An:MtM X "list.insert" (fun x vs H Q=>∃(l:Addr) (xs:List V) (i:Int) (k:Nat) (y:V),x=.ref l/\vs=[.int i,y]/\H l=some (.lst xs)/\i.toNat=k/\0<=i/\k<=xs.length/\xs.length<=1000/\Q .non (upd H l (.lst (xs.take k++y::xs.drop k)))):=by
 intro pins s σ H x vs v us Q I rx rv h;obtain⟨l,xs,i,k,y,rfl,rfl,hH,hki,hi0,hk,hz,q⟩:=h;cases rx;obtain⟨u,w,rfl,ru,rw'⟩:=vals2 rv;obtain⟨t,rfl⟩:=ru;obtain⟨z,its,n,r,hl,e⟩:=I.lstM hH
 have hsl:(1001:Nat)<=sizeLine:=by decide
 have hfit:Builtin.List.listFitsIndex i=true:=fitsIndex_both (by omega) (by omega)
 have hfit':¬(!Builtin.List.listFitsIndex i)=true:=by rw[hfit];exact Bool.false_ne_true
 have hsz:its.toArray.size<=sizeLine:=by
  rw[List.size_toArray];exact Nat.le_trans (by omega) hsl
 clear hfit;refine call_meets F.slot_list_insert ⟨_,e,rfl⟩ F.entry_list_insert (F.args_list_insert_3 _ _ _) (AutoSeq1.list_insert_list_int_val_1 l its.toArray n i t w hfit' hsz) ⟨e,?_⟩;refine⟨.non,_,I.lset (its':=its.take k++w::its.drop k) hH e ?_ ((r.take k).append (.cons rw' (r.drop k))) ?_,rfl,q⟩
 .have hk':min k its.length=k:=by omega
  have h0:¬(i<0):=by omega
  simp only[h0,if_false,hki,List.size_toArray,hk'];apply Array.ext';simp;exact List.take_of_length_le (by simp)
 .refine Nat.le_trans ?_ hsl
  simp only[List.length_append,List.length_take,List.length_cons,List.length_drop];omega
variable {pos:Pos}{e e':Expr}{fe fk:FE}
def kO(i:Nat)(ρ:Rho)(w1 w2:W)(T:Tp)(o:Option (Option W)):Option ((Fl×Rho)×Tp):=match w1,w2,o with
 |.d (.int k),.d x,some (some (.loc (.list xs)))=>if 0<=k/\k<=xs.length/\xs.length<=1000 then some ((.nx,ρ.set i (some (.loc (.list (xs.take k.toNat++x::xs.drop k.toNat))))),T) else none
 |_,_,_=>none
theorem Di{i:Nat}{ρ ρ':Rho}{w1 w2:W}{T T':Tp}{fl:Fl}{o:Option (Option W)}(h:kO i ρ w1 w2 T o=some ((fl,ρ'),T')):∃k x xs,w1=.d (.int k)/\w2=.d x/\o=some (some (.loc (.list xs)))/\(0<=k/\k<=xs.length/\xs.length<=1000)/\((fl,ρ'),T')=((Fl.nx,ρ.set i (some (W.loc (.list (xs.take k.toNat++x::xs.drop k.toNat))))),T):=by
 unfold kO at h;split at h
 .split at h
  .rename_i h2
   exact⟨_,_,_,rfl,rfl,rfl,h2,(Option.some.inj h).symm⟩
  .cases h
 .cases h
def kR(i:Nat)(f g:FE):FS:=fun ρ T=>bnd (f ρ T) fun w1 T1=>bnd (g ρ T1) fun w2 T2=>kO i ρ w1 w2 T2 ρ[i]?
theorem ym{e f:Expr}{env:Env}{cpos:Pos}(h:noStar e=true)(h2:noStar f=true):((backTo cpos (starEach [e,f] env)).all (fun x=>!x.1)&&(backToKw cpos (keywordEach [] env)).all (fun x=>x.1.isSome)
   && decide (([e,f]:List Expr).length+([]:List Keyword).length+(if ([]:List Keyword).isEmpty then 0 else 1)<30))=true:=by
 rw[sL h,lE h2];rfl
theorem FH{i:Nat}{x:Str}{p apos:Pos}(hk:DE X e fk)(he:DE X e' fe)(hN:X.N[i]? = some x:=by rfl)(hv:Vis X.env.scope x:=by first|exact Or.inl rfl|exact Or.inr (Or.inl rfl)|exact Or.inr (Or.inr rfl))(hd:(x == ("__debug__" : Str))=false:=by decide)
  (hcd:(x == ("__classdict__" : Str))=false:=by decide) {cpos:Pos}
  (hbase:attributeBase (.Name x p) "insert" X.env (eval (.Name x p) X.env)=eval (.Name x p) X.env:=by rfl)
  (hfew:((backTo cpos (starEach [e,e'] X.env)).all (fun x=>!x.1)&&(backToKw cpos (keywordEach [] X.env)).all (fun x=>x.1.isSome)
   && decide (([e,e']:List Expr).length+([]:List Keyword).length+(if ([]:List Keyword).isEmpty then 0 else 1)<30))=true:=by exact ym rfl rfl)
  (hline:(apos.endLine == cpos.line)=true:=by rfl) (hse:starEach [e,e'] X.env=(false,eval e X.env)::starEach [e'] X.env:=by exact a9 rfl) (hse2:starEach [e'] X.env=(false,eval e' X.env)::starEach [] X.env:=by exact a9 rfl) (hplain:(backTo cpos (starEach [e'] X.env)).any (·.1)=false:=by exact bW rfl)
  (hs:swapsWith (.Call (.Attribute (.Name x p) "insert" apos) [e,e'] [] cpos) none pos.line X.env=pure false:=by rfl) :
  DS X (.Expr (.Call (.Attribute (.Name x p) "insert" apos) [e,e'] [] cpos) pos) (kR i fk fe):=by
 refine⟨?_⟩;refine bZ (pF (kq PySem.F.plainAttrs_list PySem.F.slot_list_insert PySem.F.type_list_insert An (pv i hN hv hd hcd) (cW hk.pe (cW he.pe dG hse2) hse) hbase hfew hline hse hplain) hs) fun D σ H=>?_;rintro⟨O₀,H₀,F,ts,O,ρ,T,fl,ρ',T',rs,e,q⟩;obtain⟨w1,T1,e1,e⟩:=aM e;obtain⟨w2,T2,e2,e⟩:=aM e;obtain⟨k,x0,xs,rfl,rfl,h1,h2,e3⟩:=Di e;cases e3;obtain⟨v,k1,a,rfl,k2,k3,vs,k4,k5⟩:=rs.re i _ h1;refine⟨_,k1,.inl ⟨rfl,vs,SqL.of k4⟩,O,ts,ρ,T,_,_,rs.hc,rs.re,e1,fun u H1 s1 hc1 r1=>?_⟩;have rs1:=rs.step s1 hc1;refine⟨O,ts,ρ,T1,_,_,hc1,rs1.re,e2,fun u2 H2 s2 hc2 r2=>?_⟩;have rs2:=rs1.step s2 hc2;cases (show Rep X.K O H1 u (.int k) from r1);have l5:=k5.length;have k5':Reps X.K O H2 vs xs:=(k5.mono (rs.hc.le s1)).mono (hc1.le s2);exact⟨a,vs,k,k.toNat,u2,rfl,rfl,s2 _ _ k3 (s1 _ _ k3 k4),rfl,h2.1,by omega,by omega,q O _ _ (rs2.put (us:=[]) h1 k1 ((k5'.take _).append (.cons r2 (k5'.drop _))))⟩
end
section
variable {K:Frag}{O₀:Addr->Prop}{H₀:Hp}{F:List ((Addr->Prop)×Hp)}{ts:List Addr}{O A:Addr->Prop}{H H1:Hp}{σ:L2.St}{ρ:Rho}{T T1:Tp}
theorem RS.keep(r:RS K O₀ H₀ F ts O H σ ρ T)(hA:∀b,A b->O b):HC K (fun b=>O₀ b\/A b) ts H T/\Le O H (fun b=>O₀ b\/A b) H:=by
 have le:Le O H (fun b=>O₀ b\/A b) H:=fun a o n e=>⟨fun z=>n (z.elim (r.sub a) (hA a)),e⟩;exact⟨⟨fun b hb=>.inl (r.ots b hb),fun b hb=>r.hc.trk b (hb.elim (r.sub b) (hA b)),r.hc.nd,r.hc.len,fun i a xs e1 e2=>(r.hc.tape i a xs e1 e2).mono (fun _ h=>h) le⟩,le⟩
end
section
variable {X:Cx}{pos:Pos}
end
def qo(o:Option ((Fl×Rho)×Tp)):Option (PyData×Tp):=bnd o fun p T=>match p with
 |(.ro x,_)=>some (x,T)
 |_=>none
def ku(N:Nat)(f:FS):FnM:=fun ws T=>if dy ws=true then qo (f (ws.map some++List.replicate (N-ws.length) none) T) else none
inductive SpOP(K:Frag)(n:Nat)(m:FnM)(vs:List V)(H:Hp)(Q:VK):Prop where
 |mk (O:Addr->Prop) (ts:List Addr) (T:Tp) (ws:List W) (x:PyData) (T':Tp) (hc:HC K O ts H T) (r:fY K O ts H vs ws) (hl:ws.length=n) (e:m ws T=some (x,T'))
  (q:∀(A:Addr->Prop) v H',SameX ts H H'->(∀b,A b->H b=none/\¬O b)->HC K (fun b=>O b\/A b) ts H' T'->OwnV K (fun b=>O b\/A b) A H' v x->Q v H'):SpOP K n m vs H Q
def spO(K:Frag)(n:Nat)(m:FnM):Sp:=fun vs H Q _=>SpOP K n m vs H Q
theorem HL{P:Program}{w:World}{K:Frag}{mg:Str->Option Value}{base:Heap}{x qual:Str}{st:Stmt}{f:Addr}{fd:FuncData}{N ps:List Str}{k:Nat}{m:FS}(F:Fun K x qual st f fd)(S:FnScope N ps (bf st))
  (hbody:∀(cdv:Value) (A:Around) (outer:List Env) (s:Shared) (H:Hp) (E:XK),Room k (A.deeper (envOfC qual (bf st) s.heap.objs.size f cdv))->DSs (eX CX0 P w K mg base N qual (bf st) f cdv A outer s H E).nox (cx st) m) :
  FnOk P w K mg base CX0 (k+1) f fd ps (spO K ps.length (ku N.length m)):=by
 refine F.ok S (fun vs H Q E h=>?_) (fun cdv A outer s H vs Q E hr h=>⟨_,(hbody cdv A outer s H E hr).pe,?_⟩)
 .obtain⟨O,ts,T,ws,x,T',hc,rw',hl,_⟩:=h
  rw[←hl];exact Paired.length rw'
 obtain⟨O,ts,T,ws,x,T',hc,rw',hl,e,q⟩:=h;unfold ku at e;split at e
 .rename_i hn
  obtain⟨⟨fl,ρ'⟩,T1,e1,e⟩:=aM e;have hlen:vs.length=ws.length:=Paired.length rw';have noL:∀{i:Nat}{xs:PyData},(ws.map some++List.replicate (N.length-ws.length) none)[i]? = some (some (W.loc xs))->False:=fun {i xs} e=>lw hn (List.mem_of_getElem? (lh e));refine⟨O,H,[],ts,O,_,T,fl,ρ',T1,⟨hc,fun i u e=>?_,fun _ h=>h,hc.own,.refl _ _,fun i xs a e1 _=>(noL e1).elim,fun i j xs ys v e1 _ _ _=>(noL e1).elim,fun f hf=>absurd hf (by simp),by simp[L2.start,hlen]⟩,e1,?_⟩
  .obtain⟨v,h1,h2⟩:=om rw' (lh e)
   refine⟨v,?_,h2⟩;unfold L2.start;have hi:i<vs.length:=(List.getElem?_eq_some_iff.mp h1).1;rw[List.getElem?_append_left (by simpa using hi),List.getElem?_map,h1];rfl
  .cases fl with
   |ro y=>cases e;exact q
   |_=>cases e
 .cases e
section
variable {X:Cx}{pos:Pos}
end
section
variable {X:Cx}
abbrev FP:=Rho->Tp->Option (List (Str×PyData)×Tp)
def aL(l:List (Str×PyData)):List (PyData×PyData):=l.map fun p=>(.str p.1,p.2)
def cK(p:Str×V):Key×V:=(Sum.inr p.1,p.2)
structure DP(X:Cx)(pos:Pos)(keys:List (Option Expr))(values:List Expr)(g:FP):Prop where
 ex:∃trs,PPs X pos keys values trs/\∀(σ:L2.St) (H:Hp) (Q:List (V×V)->Hp->Prop) (O:Addr->Prop) (ts:List Addr) (ρ:Rho) (T:Tp) (l:List (Str×PyData)) (T':Tp),HC X.K O ts H T->RelE X.K O ts H σ ρ->g ρ T=some (l,T') ->
  (∀(kvs:List (Str×V)) (H':Hp),SameX ts H H'->HC X.K O ts H' T'->kvs.map (·.1)=l.map (·.1)->RepK X.K O H' (kvs.map cK) (aL l)->Q (kvs.map fun p=>(V.str p.1,p.2)) H')->qd trs σ H Q
theorem sU:∀(l acc:List (Str×V)),(acc.map (·.1)++l.map (·.1)).Nodup->fh (acc.map cK) (l.map cK)=(acc++l).map cK
 |[],acc,_=>by simp[fh]
 |p::l,acc,h=>by
  have h1:putK (acc.map cK) (Sum.inr p.1:Key) p.2=(acc++[p]).map cK:=by
   unfold putK;rw[if_neg]
   .rw[List.map_append]
    rfl
   .intro hc
    obtain⟨kv,m,e⟩:=List.any_eq_true.mp hc;obtain⟨q,m2,rfl⟩:=List.mem_map.mp m;have e':q.1=p.1:=Sum.inr.inj (of_decide_eq_true e);have:=(List.nodup_append.mp h).2.2 q.1 (List.mem_map.mpr ⟨q,m2,rfl⟩) p.1 (by simp);exact this e'
  have:=sU l (acc++[p]) (by simpa using h);have e:fh (acc.map cK) ((p::l).map cK)=fh (putK (acc.map cK) (Sum.inr p.1:Key) p.2) (l.map cK):=rfl;rw[e,h1,this];simp
def GZ(ds:List (PyData×PyData))(z:PyData):PyData->Option PyData
 |.str s=>some ((aA ds s).getD z)
 |_=>none
def xy(T:Tp)(o:Option PyData):Option (W×Tp):=match o with
 |some x=>some (.d x,T)
 |none=>none
def kI(w1 w2 w3:W)(T:Tp):Option (W×Tp):=match w1,w2,w3 with
 |.d (.dict ds),.d y,.d z=>xy T (GZ ds z y)
 |_,_,_=>none
def iD(f g h:FE):FE:=fun ρ T=>bnd (f ρ T) fun w1 T1=>bnd (g ρ T1) fun w2 T2=>bnd (h ρ T2) (kI w1 w2)
theorem BK{w1 w2 w3 w:W}{T T':Tp}(h:kI w1 w2 w3 T=some (w,T')):∃ds s z,w1=.d (.dict ds)/\w2=.d (.str s)/\w3=.d z/\w=.d ((aA ds s).getD z)/\T'=T:=by
 unfold kI at h;split at h
 .rename_i ds y z
  unfold xy at h;split at h
  .rename_i x hx
   cases h
   cases y with
   |str s=>cases hx;exact⟨ds,s,z,rfl,rfl,rfl,rfl,rfl⟩
   |_=>cases hx
  .cases h
 .cases h
theorem pY{k:Nat}{o e e':Expr}{f g h:FE}{apos cpos:Pos}(hr:Room k X.A)(ho:DE X o f)(he:DE X e g)(he':DE X e' h)
  (m:M2 X o "get" apos e e' cpos:=by exact⟨rfl,ym rfl rfl,rfl,by rfl⟩):DE X (.Call (.Attribute o "get" apos) [e,e'] [] cpos) (iD f g h):=by
 refine⟨?_⟩;refine bu (Bp (kF hr) ho.pe he.pe he'.pe m) fun σ H Q=>?_;rintro⟨O,ts,ρ,T,w,T',hc,re,e,q⟩;obtain⟨w1,T1,e1,e⟩:=aM e;obtain⟨w2,T2,e2,e⟩:=aM e;obtain⟨w3,T3,e3,e⟩:=aM e;obtain⟨ds,s,z,rfl,rfl,rfl,rfl,rfl⟩:=BK e;refine⟨O,ts,ρ,T,_,T1,hc,re,e1,fun v1 H1 s1 hc1 r1=>?_⟩
 cases (show Rep X.K O H1 v1 (.dict ds) from r1) with
 |@dct a ob kvs _ n t r=>
  refine⟨a,rfl,Fk (.inr ⟨_,t⟩),O,ts,ρ,T1,_,T2,hc1,re.mono hc s1,e2,fun v2 H2 s2 hc2 r2=>?_⟩;refine⟨O,ts,ρ,T2,_,T',hc2,(re.mono hc s1).mono hc1 s2,e3,fun v3 H3 s3 hc3 r3=>?_⟩;cases (show Rep X.K O H2 v2 (.str s) from r2);have le:=hc1.le (s2.trans s3);have t3:=(le _ _ n t).2;have r':=r.mono le;refine⟨_,DGet.rd (k:=Sum.inr s) (.inr ⟨_,t3⟩),?_⟩
  rcases gz (s:=s) r' with⟨z1,z2⟩|⟨v,d',z1,z2,rv⟩
  .rw[z2]
   exact q _ H3 ((s1.trans s2).trans s3) hc3 (by rw[z1];exact r3)
  .rw[z2]
   exact q _ H3 ((s1.trans s2).trans s3) hc3 (by rw[z1];exact rv)
end
section
variable {X:Cx}{pos:Pos}
end
def mG(i:Nat)(fr:FS)(ρ:Rho)(x:PyData)(T:Tp):Option ((Fl×Rho)×Tp):=match x with
 |.list xs=>j5 T.length (fr (ρ.set i (some (.tp T.length))) (T++[xs]))
 |_=>none
def jf(i:Nat)(m:FnM)(g:FA)(fr:FS):FS:=fun ρ T=>bnd (g ρ T) fun ws T1=>bnd (m ws T1) (mG i fr ρ)
theorem Ah{i:Nat}{fr:FS}{ρ:Rho}{x:PyData}{T:Tp}{r:(Fl×Rho)×Tp}(h:mG i fr ρ x T=some r):∃xs,x=.list xs/\j5 T.length (fr (ρ.set i (some (.tp T.length))) (T++[xs]))=some r:=by
 cases x with
 |list xs=>exact⟨xs,rfl,h⟩
 |_=>cases h
section
variable {X:Cx}{pos:Pos}{rest:List Stmt}{fr:FS}
theorem sZ{i:Nat}{name x:Str}{ps:List Str}{kk:Nat}{m:FnM}{e:Expr}{es:List Expr}{g:FA}{p cpos pos':Pos}(F:Fn X.prog X.w X.K X.mg X.base name ps kk (spO X.K ps.length m))(hr:Room kk X.A)(hg:Gl X name)(hN:X.N.Nodup)(ha:DA X (e::es) g)(hl:gO g ps.length)(hrest:DSs X rest fr)(hdb:(name == ("__debug__" : Str))=false:=by decide)
  (he:starEach (e::es) X.env=(false,eval e X.env)::starEach es X.env:=by exact a9 rfl) (hpl:(backTo cpos (starEach es X.env)).any (·.1)=false:=by exact bW rfl) (hi:X.N[i]? = some x:=by rfl) (hx:Loc X.env.scope x:=by first|exact Or.inl rfl|exact Or.inr rfl)
  (hs:swapsWith (.Call (.Name name p) (e::es) [] cpos) (some (.Name x pos')) pos.line X.env=pure false:=by rfl) (hf:X.fn x=true\/X.env.scope.names.lookup x=some .local:=by first|exact .inl rfl|exact .inr rfl|assumption) :
  DSs X (.Assign [.Name x pos'] (.Call (.Name name p) (e::es) [] cpos) pos::rest) (jf i m g fr):=by
 refine⟨?_⟩;refine lT (tS (ia hN hi hx (ko F hr hg ha.pe hdb he hpl) hs hf) hrest.pe) fun D σ H=>?_;rintro⟨O₀,H₀,F,ts,O,ρ,T,fl,ρ',T',rs,e,q⟩;obtain⟨ws,T1,e1,e⟩:=aM e;obtain⟨x0,T2,e2,e⟩:=aM e;obtain⟨xs,rfl,e⟩:=Ah e;refine⟨O,ts,ρ,T,ws,T1,rs.hc,rs.re,e1,fun vs H1 s1 hc1 r1=>?_⟩;have rs1:=rs.step s1 hc1;refine⟨O,ts,T1,ws,_,_,hc1,by rw[List.append_nil];exact r1,hl _ _ _ _ e1,e2,fun A v H2 s2 hA hc2 ov=>?_⟩;obtain⟨a,rfl,hAA,us,k1,k2⟩:=ov;have hAa:=hA a ((hAA a).mpr rfl);have nta:a∉ts:=fun z=>hAa.2 (hc1.own a z)
 let H3:Hp:=fun b=>if b=a then none else H2 b
 have h3:∀{b:Addr},b≠a->H3 b=H2 b:=fun n=>if_neg n;have ha3:H3 a=none:=if_pos rfl
 have eH:upd H3 a (.lst us)=H2:=funext fun b=>by
  by_cases z:b=a
  .subst z;rw[bx];exact k1.symm
  .rw[aS z];exact h3 z
 have le:Le (fun b=>O b\/A b) H2 O H3:=fun b o n z=>⟨fun y=>n (.inl y),by rw[h3 (show b≠a from fun y=>n (.inr ((hAA b).mpr y)))];exact z⟩
 have s3:SameX ts H1 H3:=fun b o n z=>by
  have nb:b≠a:=fun y=>by rw[y,hAa.1] at z;cases z
  rw[h3 nb];exact s2 b o n z
 have c3:HC X.K O ts H3 T2:=⟨hc1.own,fun b hb=>by
   have nb:b≠a:=fun y=>hAa.2 (y ▸ hb);rw[h3 nb]
   exact hc2.trk b (.inl hb),hc2.nd,hc2.len,fun j b ys q1 q2=>(hc2.tape j b ys q1 q2).mono (fun o h=>by rw[h3 (show b≠a from fun y=>nta (by rw[←y];exact List.mem_of_getElem? q1))];exact h) le⟩
 have:=CN (X:=X) (rs1.step s3 c3) ha3 (k2.mono le) e q;rw[eH] at this;exact this
end
def mB(ρ:Rho)(o:Option (List PyData))(T:Tp):Option ((Fl×Rho)×Tp):=match o with
 |some xs=>if xs.length<=1000 then some ((.ro (.list xs),ρ),T) else none
 |none=>none
def mP(g:FA):FS:=fun ρ T=>bnd (g ρ T) fun ws T1=>mB ρ (dM ws) T1
section
variable {X:Cx}{pos:Pos}
theorem ug{es:List Expr}{g:FA}{lpos:Pos}(ha:DA X es g):DS X (.Return (some (.List es lpos)) pos) (mP g):=by
 refine⟨?_⟩;refine bZ (vR (qh ha.pe)) fun D σ H=>?_;rintro⟨O₀,H₀,F,ts,O,ρ,T,fl,ρ',T',rs,e,q⟩;obtain⟨ws,T1,e1,e⟩:=aM e;refine⟨O,ts,ρ,T,ws,T1,rs.hc,rs.re,e1,fun vs H1 s1 hc1 r1=>?_⟩;have rs1:=rs.step s1 hc1;unfold mB at e;split at e
 .rename_i xs h1
  split at e
  .rename_i h2
   cases e;have rv:=j3 r1 h1;refine⟨lW (by rw[rv.length];exact h2),fun p hp=>?_⟩;have nO:=rs1.hc.fresh hp;have nt:p∉ts:=fun z=>nO (rs1.hc.own p z)
   have h0:H₀ p=none:=by
    cases z:H₀ p with
    |none=>rfl
    |some o=>rw[rs1.same p o nt z] at hp;cases hp
   have le:Le O H1 (fun b=>O₀ b\/b=p) (upd H1 p (.lst vs)):=fun b o n z=>by
    have nb:b≠p:=dv z hp;exact⟨fun y=>y.elim (fun y=>n (rs1.sub b y)) nb,by rw[aS nb];exact z⟩
   refine q (fun b=>b=p) (.ref p) _ (rs1.same.trans (.new hp _)) (fun b hb=>by rw[hb];exact⟨h0,fun z=>nO (rs1.sub p z)⟩) ⟨fun b hb=>.inl (rs1.ots b hb),fun b hb=>?_,rs1.hc.nd,rs1.hc.len,fun j b ys q1 q2=>?_⟩ ⟨p,rfl,fun c=>Iff.rfl,vs,bx,rv.mono le⟩
   .by_cases z:b=p
    .subst z;rw[bx];exact .inl ⟨_,rfl⟩
    .rw[aS z];exact rs1.hc.trk b (rs1.sub b (hb.resolve_right z))
   .exact(rs1.hc.tape j b ys q1 q2).mono (fun o h=>by rw[aS (dv h hp)];exact h) le
  .cases e
 .cases e
end
theorem y9:typeLookup (.type "list") "keys"=pure none:=am_miss_of_fast (by decide +kernel)
theorem yF:typeLookup (.type "list") "__getattr__"=pure none:=am_miss_of_fast (by decide +kernel)
theorem zc{a:Addr}{u:Tok}{prog:Program}{w:World}{A:Around}{E:Value->Shared->Prop}{Q:Fin->Shared->Prop}{s:Shared}{its:Array Value}{n:Nat}{sl:Array (Option Value)}(ho:s.heap.get? a=some { cls:=.type "list",dict:=none,data:=.seq its n,slots:=sl })(hh:A.handled=none)
  (h:∀h' tk e,Heap.NewAttrErr s.heap h' e (.ref a) "keys"->E (.ref e) { s with heap:=h',toks:=tk }) :
  wpAny (model prog w) A (Builtin.«object.__getattribute__» ⟨[.ref a,.str "keys" u],[]⟩) Q E s:=by
 obtain⟨hp,g,d,tk,os⟩:=s;have hT:(⟨hp,g,d,tk,os⟩:Shared).TypeIs (.ref a) "list":=⟨_,ho,rfl⟩;have f4:=y9;unfold Builtin.«object.__getattribute__»
 repeat (any_goals (first|assumption|wp_step))
 exact wpAny_raiseAttrError hh h (attrMsg_fits (by decide +kernel) (by decide +kernel))
theorem yN{a:Addr}{prog:Program}{w:World}{A:Around}{E:Value->Shared->Prop}{Q:Option Value->Shared->Prop}{s:Shared}{its:Array Value}{n:Nat}{sl:Array (Option Value)}(ho:s.heap.get? a=some { cls:=.type "list",dict:=none,data:=.seq its n,slots:=sl })(hh:A.handled=none)
  (h:∀h' tk,(∀b o,s.heap.get? b=some o->h'.get? b=some o)->Q none { s with heap:=h',toks:=tk }) :
  wpAny (model prog w) A (getAttr? (.ref a) "keys") Q E s:=by
 obtain⟨hp,g,d,tk,os⟩:=s;have hT:(⟨hp,g,d,tk,os⟩:Shared).TypeIs (.ref a) "list":=⟨_,ho,rfl⟩;have f1:=sub_AttributeError;have f3:=F.slot_list_getattribute.lookup;have f4:=F.slot_list_getattribute.bind (.ref a);have f5:=yF;unfold getAttr? getAttrBy?
 repeat (any_goals (first|assumption|wp_step))
 refine codeAny_call_builtin F.slot_list_getattribute.plain F.entry_list_ga (F.slot_list_getattribute.check _ _ _ _ _ _ _ _ (show (⟨hp,g,d,tk+1,os⟩:Shared).TypeIs (.ref a) "list" from⟨_,ho,rfl⟩) (F.args_list_getattribute_2 _ _) (zc (s:=⟨hp,g,d,tk+1,os⟩) ho hh fun h' tk' e hx=>?_));obtain⟨t',u',he⟩:=hx.there;show wpAny _ _ (getattributeRaised _ _ _ _ _ _ _) _ _ _;unfold getattributeRaised
 repeat (any_goals (first|assumption|wp_step))
 exact h _ _ hx.keeps
theorem rC:entryFor table "dict.update.loop"=some Builtin.«dict.update.loop»:=entryFor_of_tree (by kernel_rfl)
section
set_option maxRecDepth 100000
variable {prog:Program}{w:World}{K:Type}[DecidableEq K]{knd:KeyKind prog w K}{A:Around}{E:Value->Shared->Prop}{s:Shared}
theorem tH{d it l:Addr}{its:Array Value}{R:Result->Shared->Prop}(hh:A.handled=none)(kvs:List (K×Value))(hd:d≠it)(hz:kvs.length<=sizeLine){h0:Heap}
  (hlen:its.size=kvs.length) (hls:∀h',(∀b o,b≠d->b≠it->h0.get? b=some o->h'.get? b=some o)->h'.IsList l its/\∀(i:Nat) (kv:K×Value),kvs[i]? = some kv->∃T key,(its[i]?:Option Value)=some (Value.ref T)/\IsTup h' T #[key,kv.2]/\knd.is kv.1 key=true)
  (hR:∀h' tk,h'.DictOf knd d (merged [] kvs)->(∀b o,b≠d->b≠it->h0.get? b=some o->h'.get? b=some o)->R (.ok (.ret .none)) { s with heap:=h',toks:=tk }) :
  ∀(n i:Nat) (j:Int) (tok:Tok) (h':Heap) (tk:Nat),i+n=kvs.length->(∀b o,b≠d->b≠it->h0.get? b=some o->h'.get? b=some o)->h'.IsListIter it l i->h'.DictOf knd d (merged [] (kvs.take i)) ->
   codeAny (model prog w) A (.builtin "dict.update.loop" ⟨[.ref d,.ref it,.int j tok,.none],[]⟩) R { s with heap:=h',toks:=tk }
 |0,i,j,tok,h',tk,hi,hk,hit,hdd=>by
  refine codeAny_builtin rC ?_;obtain⟨hl,hT⟩:=hls h' hk;unfold Builtin.«dict.update.loop»;dsimp only;refine wpAny_bind (wpAny_pyNext_list_end (s:={ s with heap:=h',toks:=tk }) hh hit hl (by rw[Array.getElem?_eq_none];omega) fun h'' eb=>?_);dsimp only;refine wpAny_bind ?_;unfold Builtin.Dict.addKeywords;refine wpAny_pure (wpAny_pure ?_);have e:kvs.take i=kvs:=List.take_of_length_le (by omega);rw[e] at hdd;obtain⟨o,es,ep,ho,r⟩:=hdd;exact hR h'' tk ⟨o,es,ep,eb _ _ hd ho,r⟩ fun b ob b1 b2 q=>eb b ob b2 (hk b ob b1 b2 q)
 |n+1,i,j,tok,h',tk,hi,hk,hit,hdd=>by
  refine codeAny_builtin rC ?_;obtain⟨hl,hT⟩:=hls h' hk
  have hlt:i<kvs.length:=by omega
  obtain⟨T,key,e1,_,e3⟩:=hT i kvs[i] (List.getElem?_eq_getElem hlt);unfold Builtin.«dict.update.loop»;dsimp only;refine wpAny_bind (wpAny_pyNext_list_item (s:={ s with heap:=h',toks:=tk }) hit hl e1 fun h2 hit2 sb=>?_);have hk2:∀b o,b≠d->b≠it->h0.get? b=some o->h2.get? b=some o:=fun b ob b1 b2 q=>(sb.2 b b2).trans (hk b ob b1 b2 q);obtain⟨hl2,hT2⟩:=hls h2 hk2;obtain⟨T',key',e1',e2,e3⟩:=hT2 i kvs[i] (List.getElem?_eq_getElem hlt);rw[e1] at e1';cases e1';dsimp only;refine wpAny_bind (wpAny_holding ?_);refine wpAny_bind (wpAny_tryCatch (wpAny_bind (wpAny_typeOf e2.typeIs ?_)));rw[if_pos (by decide)];obtain⟨oT,hoT,cT,nT,dT⟩:=id e2;refine wpAny_bind (m:=seqItems? (.ref T)) (wpAny_bind (wpAny_load (s:={ s with heap:=h2,toks:=tk }) hoT ?_));rw[dT];refine wpAny_pure (wpAny_pure ?_);dsimp only[Option.getD]
  have hmz:(merged [] (kvs.take i)).length<=sizeLine:=by
   have:=merged_length_le ([]:List (K×Value)) (kvs.take i);simp at this;omega
  refine wpAny_holding (wpAny_dictSet_pairs (s:={ s with heap:=h2,toks:=tk }) e3 (hdd.sameBut sb hd) (fun h3 hd3 sb3=>?_) hmz);refine wpAny_pure ⟨Code.quiet_builtin _ (by decide +kernel),?_⟩;rw[←merged_take_succ [] kvs i kvs[i] (List.getElem?_eq_getElem hlt)] at hd3;exact tH hh kvs hd hz hlen hls hR n (i+1) _ _ h3 _ (by omega) (fun b ob b1 b2 q=>(sb3.2 b b1).trans (hk2 b ob b1 b2 q)) (hit2.extBut sb3.extBut (Ne.symm hd)) hd3
theorem yJ{l:Addr}{its:Array Value}{n:Nat}{sl:Array (Option Value)}{Q:Value->Shared->Prop}(hh:A.handled=none)(kvs:List (K×Value))(hz:kvs.length<=sizeLine)(hlen:its.size=kvs.length)
  (ho:s.heap.get? l=some { cls:=.type "list",dict:=none,data:=.seq its n,slots:=sl }) (hT:∀(i:Nat) (kv:K×Value),kvs[i]? = some kv->∃T key,(its[i]?:Option Value)=some (Value.ref T)/\IsTup s.heap T #[key,kv.2]/\knd.is kv.1 key=true)
  (h:∀h' tk,h'.DictOf knd s.heap.objs.size (merged [] kvs)->(∀b o,s.heap.get? b=some o->h'.get? b=some o)->Q (.ref s.heap.objs.size) { s with heap:=h',toks:=tk }) :
  wpAny (model prog w) A (call (.type "dict") [.ref l]) Q E s:=by
 refine callType_codes (Q₁:=fun obj s₁=>obj=.ref s.heap.objs.size/\s₁ = { s with heap:=s.heap.push { cls:=.type "dict",data:=.dict #[] } }) F.kt_called_dict (F.kt_typeCall_dict_1 _) F.entry_dict_init (kt_code_dict_new _ ⟨rfl,rfl⟩) ?_;rintro obj s₁ ⟨rfl,rfl⟩;have hnew:(s.heap.push { cls:=.type "dict",data:=.dict #[] }).DictOf knd s.heap.objs.size []:=Heap.DictOf.new s.heap;have up:∀b o,s.heap.get? b=some o->(s.heap.push { cls:=.type "dict",data:=.dict #[] }).get? b=some o:=fun b o e=>Heap.get?_push_of_some _ e;refine⟨hnew.typeIs,F.args_dict_init_2 _ _,?_⟩;unfold Builtin.«dict.__init__»;refine wpAny_bind ?_;unfold Builtin.Dict.selfAndRest;refine wpAny_bind (wpAny_notOrdered_dict hnew.typeIs ?_);show wpAny _ _ (pure (s.heap.objs.size,[Value.ref l])) _ _ _;refine wpAny_pure ?_;show wpAny _ _ (Builtin.Dict.updateFrom "dict.__init__" s.heap.objs.size (.ref l) [] .none) _ _ _;unfold Builtin.Dict.updateFrom;refine wpAny_bind (wpAny_typeOf (T:="list") ⟨_,up _ _ ho,rfl⟩ ?_);rw[if_pos (by decide)];refine wpAny_bind (yN (up _ _ ho) hh fun h1 tk1 k1=>?_);simp only[Option.isNone_none,if_true];refine wpAny_bind (wpAny_rule ?_);have ho1:h1.get? l=some _:=k1 _ _ (up _ _ ho);refine wpAny_bind (wpAny_pyIter_list (s:={ s with heap:=h1,toks:=tk1 }) (items:=its) ⟨_,ho1,rfl,n,rfl⟩ ?_);refine wpAny_pure ⟨Code.quiet_builtin _ (by decide +kernel),?_⟩
 have hne:s.heap.objs.size≠h1.objs.size:=by
  obtain⟨o,es,ep,q,_⟩:=hnew;exact Nat.ne_of_lt (Heap.lt_size (k1 _ _ q))
 refine tH (s:=s) (h0:=h1) (l:=l) (its:=its) (by simpa[Around.in1] using hh) kvs hne hz hlen (fun h' hk'=>⟨⟨_,hk' l _ ?_ ?_ ho1,rfl,n,rfl⟩,fun i kv e=>?_⟩) (fun h' tk hd hk'=>⟨rfl,h h' tk hd fun b o e=>hk' b o (Nat.ne_of_lt (Heap.lt_size e)) (Nat.ne_of_lt (Heap.lt_size (k1 _ _ (up _ _ e)))) (k1 b o (up b o e))⟩) kvs.length 0 _ _ _ _ (by omega) (fun b o _ _ e=>Heap.get?_push_of_some _ e) ?_ ?_
 .exact Nat.ne_of_lt (Heap.lt_size ho)
 .exact Nat.ne_of_lt (Heap.lt_size ho1)
 .obtain⟨T,key,e1,⟨oT,e2,r⟩,e3⟩:=hT i kv e
  exact⟨T,key,e1,⟨oT,hk' T _ (Nat.ne_of_lt (Heap.lt_size e2)) (Nat.ne_of_lt (Heap.lt_size (k1 _ _ (up _ _ e2)))) (k1 _ _ (up _ _ e2)),r⟩,e3⟩
 .exact⟨_,Heap.get?_push_size _ rfl,rfl,rfl⟩
 .obtain⟨o,es,ep,q,r⟩:=hnew
  exact⟨o,es,ep,Heap.get?_push_of_some _ (k1 _ _ q),r⟩
end
def rl(K:Frag)(H:Hp)(v:V)(p:Str×V):Prop:=∃t,v=.ref t/\SqT K H t [.str p.1,p.2]
section
variable {X:Cx}
theorem rX{pins:List (Addr×Obj)}{σ:L2.St}{H:Hp}{s:Shared}(I:Inv X pins σ H s):∀{vs:List V}{kvs:List (Str×V)}{its:List Value},Paired (rl X.K H) vs kvs->Vals vs its ->
  ∃rs:List (Key×Value),KV (kvs.map cK) rs/\rs.length=its.length/\∀(i:Nat) (kv:Key×Value),rs[i]? = some kv->∃T key,its[i]? = some (Value.ref T)/\IsTup s.heap T #[key,kv.2]/\(bz X.prog X.w).is kv.1 key=true
 |_,_,_,.nil,.nil=>⟨[],.nil,rfl,fun i kv e=>by simp at e⟩
 |_,p::_,u::_,.cons h t,.cons r q=>by
  obtain⟨rs,k1,k2,k3⟩:=rX I t q;obtain⟨a,rfl,hs⟩:=h;obtain⟨its,rv,tp,_⟩:=I.tuple hs;obtain⟨u1,u2,rfl,r1,r2⟩:=vals2 rv;cases (show u=Value.ref a from r);refine⟨(Sum.inr p.1,u2)::rs,.cons ⟨rfl,r2⟩ k1,by simp[k2],fun i kv e=>?_⟩
  cases i with
  |zero=>
   simp at e;subst e;exact⟨a,u1,rfl,tp,iC (k:=Sum.inr p.1) r1⟩
  |succ i=>
   simp at e;obtain⟨T,key,e1,e2,e3⟩:=k3 i kv e;exact⟨T,key,by simpa using e1,e2,e3⟩
theorem z6(hcm:X.calm=true):CallR X (.type "dict") (fun xs H Q=>∃(a:Addr) (vs:List V) (kvs:List (Str×V)),xs=[V.ref a]/\SqL X.K H a vs/\Paired (rl X.K H) vs kvs/\kvs.length<=sizeLine/\∀p,H p=none->Q (.ref p) (upd H p (.dK (fh [] (kvs.map cK))))):=by
 intro pins s σ H xs us Q I r h;obtain⟨a,vs,kvs,rfl,hs,hp,hz,q⟩:=h;obtain⟨u,rfl,ru⟩:=vals1 r;cases ru;obtain⟨its,rv,pl,_⟩:=I.list hs;obtain⟨⟨cls,dd,data,sl⟩,n,e,c,d1,d2⟩:=pl;simp only at c d1 d2;subst c d1 d2;obtain⟨rs,k1,k2,k3⟩:=rX I hp rv;have hl:(kvs.map cK).length=rs.length:=k1.length;rw[List.length_map] at hl
 refine yJ (knd:=bz X.prog X.w) (I.ok.hd hcm) rs (by omega) (by simp[k2]) e (fun i kv ei=>by
  obtain⟨T,key,e1,e2,e3⟩:=k3 i kv ei
  exact⟨T,key,by simpa using e1,e2,e3⟩) fun h' tk dd' keep=>?_
 have hn:H s.heap.objs.size=none:=I.hok.fresh (Nat.le_refl _);have h1:=rD (kvs.map cK) [];rw[List.length_nil,List.length_map] at h1;refine⟨.ref s.heap.objs.size,_,I.laid (t':=tk) (o:=.dK (fh [] (kvs.map cK))) keep (Nat.le_refl _) (qp (by omega) (beq_eq_false_iff_ne.mpr (Ne.symm (Nat.ne_of_lt I.big))) (k1.merge .nil) dd'),rfl,q _ hn⟩
def pairD:PyData->Option (Str×PyData)
 |.tuple [.str k,x]=>some (k,x)
 |_=>none
def ic:List PyData->Option (List (Str×PyData))
 |[]=>some []
 |d::r=>match pairD d with
  | some p=>(match ic r with
   |some ps=>some (p::ps)
   | none=>none)
  |none=>none
theorem Bs{d:PyData}{p:Str×PyData}(h:pairD d=some p):d=.tuple [.str p.1,p.2]:=by
 unfold pairD at h;split at h
 .cases h;rfl
 .cases h
theorem tU{K:Frag}{O:Addr->Prop}{H:Hp}:∀{vs:List V}{ds:List PyData}{ps:List (Str×PyData)},Reps K O H vs ds->ic ds=some ps->∃kvs:List (Str×V),Paired (rl K H) vs kvs/\kvs.map (·.1)=ps.map (·.1)/\RepK K O H (kvs.map cK) (aL ps)
 |_,_,_,.nil,e=>by cases e;exact⟨[],.nil,rfl,.nil⟩
 |_,_,ps,.cons (d:=d) r t,e=>by
  unfold ic at e;split at e
  .rename_i p hp
   split at e
   .rename_i q hq
    cases e;obtain⟨kvs,h1,h2,h3⟩:=tU t hq;rw[Bs hp] at r
    cases r with
    |@tup a _ _ tt rr=>
     cases rr with
     |cons ra rr=>
      cases rr with
      |@cons v _ _ _ rb rr=>
       cases rr;cases ra;exact⟨(p.1,v)::kvs,.cons ⟨a,rfl,tt.sq⟩ h1,by simp[h2],.cons (k:=Sum.inr p.1) rb h3⟩
   .cases e
  .cases e
def qW(l:List (Str×PyData)):Bool:=decide ((l.map (·.1)).Nodup)&&decide (l.length<=1000)
end
section
set_option maxRecDepth 100000
variable {prog:Program}{w:World}{A:Around}{E:Value->Shared->Prop}{s:Shared}
end
section
set_option maxRecDepth 100000
variable {X:Cx}
end
section
variable {X:Cx}
end
section
set_option maxRecDepth 100000
variable {X:Cx}
end
end D
namespace XE
open PySem PySem.Spec PyProof.Rows L2
abbrev vE:List Value:=[.type "ValueError",.type "Exception",.type "BaseException",.type "object"]
def XCl(K:Frag)(C:Addr)(tl:List Value):Prop:=∃nm q N bs sn sub ab col dd k0 k1 k2 k3 k5,K.lookup C=some (excClassObj nm q C N bs tl true sn sub ab col dd k0 k1 k2 k3 k5 "ValueError.__new__")/\PySem.W.nsOkIn K N=true
section
variable {prog:Program}{w:World}{A:Around}{E:Value->Shared->Prop}{h:Heap}{g:Array GenState}{d:Drawn}{t:Nat}{os:OsState}{K:Frag}{C R fI:Addr}
end
end XE
namespace XE
open PySem PySem.Spec PyProof.Rows L2
def XAt(e C:Addr)(od:Option Addr):Heap->Prop:=fun h=>∃t,h.get? e=some { cls:=.ref C,dict:=od,data:=.fields #[.ref t,.none,.none,.none,.bool false,.none] }
section
variable {X:Cx}{C R:Addr}
end
section
open Builtin Builtin.ObjectAttr
variable {prog:Program}{w:World}{A:Around}{E:Value->Shared->Prop}{h:Heap}{g:Array GenState}{d:Drawn}{t:Nat}{os:OsState}{K:Frag}{C R e:Addr}{name:Str}{v:Value}{vs:Array Value}
end
end XE
namespace XE
open PySem PySem.Spec PyProof.Rows L2
section
variable {X:Cx}{C R:Addr}
end
end XE
namespace XE
open PySem PySem.Spec PyProof.Rows L2
def spI(C:Addr)(f:Str):Sp:=fun vs H Q _=>∃a x,vs=[.ref a,.str x]/\H a=some (.ext (XAt a C none))/\(reprText x).length+1000<=sizeLine /\
 ∀dx,H dx=none->dx≠a->Q .non (upd (upd H dx (.xd [(f,.str x)])) a (.ext (XAt a C (some dx))))
structure XIni(P:Program)(w:World)(K:Frag)(mg:Str->Option Value)(base:Heap)(C R:Addr)(f:Str)(k:Nat):Prop where
 ex:∃fI fd ps,FnOk P w K mg base CX0 k fI fd ps (spI C f)/\Binds K fd ps []/\PySem.W.findIn K (.ref C) "__init__"=some (some (.ref fI))/\PySem.W.isFn K (.ref fI)=true
 c:XCl K C (.ref R::vE)
 r:XCl K R vE
 ri:PySem.W.ownIn K "__init__" (.ref R)=some none
 kp:PySem.W.keepIn K (.ref C)=true
section
variable {X:Cx}{C R:Addr}{f:Str}{k:Nat}
end
end XE
namespace XE
open PySem PySem.Spec PyProof.Rows L2
structure Kp(xs fs:List Addr)(h h':Heap):Prop where
 keep:∀b o,h.get? b=some o->b∉xs->b∉fs->h'.get? b=some o
 slot:∀b o,h.get? b=some o->b∉xs->b∈fs->∃sl,h'.get? b=some { o with slots:=sl }
 there:∀b o,h.get? b=some o->∃o',h'.get? b=some o'
section
variable {M:Model}{A:Around}{E:Value->Shared->Prop}{s:Shared}{base:Heap}{env:Env}{outer:List Env}{L e C dx T:Addr}
end
end XE
namespace XE
open PySem PySem.Spec PyProof.Rows L2
section
variable {P:Program}{w:World}{K:Frag}{mg:Str->Option Value}{base:Heap}{N:List Str}{qual:Str}{scope:Scope}{f C R:Addr}{cdv:Value}{A:Around}{outer:List Env}{s0:Shared}{H0:Hp}{E:XK}
end
end XE
namespace XE
open PySem PySem.Spec PyProof.Rows L2
section
variable {X:Cx}{pins:List (Addr×Obj)}{σ:L2.St}{H:Hp}{s:Shared}
end
end XE
namespace XE
open PySem PySem.Spec PyProof.Rows L2
section
variable {X:Cx}{C R fa:Addr}{k:Nat}{fd:FuncData}{ps:List Str}{sp:Sp}
end
end XE
namespace XE
open PySem PySem.Spec PyProof.Rows L2
section
variable {prog:Program}{w:World}{A:Around}{E:Value->Shared->Prop}{h:Heap}{g:Array GenState}{d:Drawn}{t:Nat}{os:OsState}{K:Frag}{C R x:Addr}{ox:Obj}{od:Option Obj}{name:Str}
structure XIs(K:Frag)(C:Addr):Prop where
 bm:PySem.W.mroIn K C (.type "BaseException")=some true
 gt:PySem.W.findIn K (.ref C) "__getattr__"=some none
 ga:PySem.W.findIn K (.ref C) "__getattribute__"=some (some (.builtin "BaseException.__getattribute__"))
 hc:(PySem.W.clsIn K C).isSome=true
 ca:PySem.W.findIn K (.ref C) "__class__"=some (some (.builtin "object.__class__"))
 hn:PySem.W.specialIn K (.builtin "object.__class__") "__get__"=some (some (.builtin "getset_descriptor.__get__"))
 tk:PySem.W.takesIn K (.builtin "object.__class__")=some true
 hm:PySem.W.mroIn K C (.type "object")=some true
end
end XE
namespace XE
open PySem PySem.Spec PyProof.Rows L2
section
variable {X:Cx}{C e dx:Addr}{oe:Obj}
structure Cau(X:Cx)(C e dx:Addr)(oe:Obj):Prop where
 pin:(e,oe)∈X.pn
 cls:oe.cls=.ref C
 dict:oe.dict=some dx
 data:∃vs,oe.data=.fields vs
 is:XIs X.K C
 hd:PySem.W.hasDictIn X.K C=true
end
end XE
namespace XE
open PySem PySem.Spec PyProof.Rows L2 D
structure XB(K:Frag)(C R:Addr)(f:Str)(Ds:List Addr):Prop where
 c:XCl K C (.ref R::vE)
 r:XCl K R vE
 ri:PySem.W.ownIn K "__init__" (.ref R)=some none
 kp:PySem.W.keepIn K (.ref C)=true
 is:XIs K C
 hd:PySem.W.hasDictIn K C=true
 nn:PySem.W.findIn K (.ref C) f=some none
 sa:PySem.W.findIn K (.ref C) "__setattr__"=some (some (.builtin "object.__setattr__"))
 rd:PySem.W.readsIn K R (.type "type")=true
 fc:PySem.W.findCls K (.ref R) (.type "type") "__init__"=some (.val (.builtin "ValueError.__init__"))
 kC:PySem.W.kitOne K (.ref C) (.ref C)=some true
 kV:PySem.W.kitOne K (.ref C) (.type "ValueError")=some true
 kD:PySem.W.kitAny K (.ref C) (Ds.map Value.ref)=some false
end XE
namespace XE
open PySem PySem.Spec PyProof.Rows L2
section
variable {X:Cx}{C R:Addr}
end
end XE
namespace XE
open PySem PySem.Spec PyProof.Rows L2 D
def spG(P:V->Prop)(C:Addr)(f:Str):Sp:=fun vs H Q _=>∃a v,vs=[.ref a,v]/\H a=some (.ext (XAt a C none))/\P v /\
 ∀dx,H dx=none->dx≠a->Q .non (upd (upd H dx (.xd [(f,v)])) a (.ext (XAt a C (some dx))))
structure XIniG(A:V->Prop)(P:Program)(w:World)(K:Frag)(mg:Str->Option Value)(base:Heap)(C R:Addr)(f:Str)(k:Nat):Prop where
 ex:∃fI fd ps,FnOk P w K mg base CX0 k fI fd ps (spG A C f)/\Binds K fd ps []/\PySem.W.findIn K (.ref C) "__init__"=some (some (.ref fI))/\PySem.W.isFn K (.ref fI)=true
 c:XCl K C (.ref R::vE)
 r:XCl K R vE
 ri:PySem.W.ownIn K "__init__" (.ref R)=some none
 kp:PySem.W.keepIn K (.ref C)=true
section
variable {X:Cx}{C R:Addr}{f:Str}{k:Nat}
end
end XE
namespace XE
open PySem PySem.Spec PyProof.Rows L2 D
end XE
namespace D
open PySem PySem.Spec PyProof.Rows L2
def qt(n:Nat)(o:Option (PyData×Tp)):Option (W×Tp):=match o with
 |some (y,T)=>if T.length=n+1 then some (.d y,T.take n) else none
 |none=>none
def kg(mf:FnM)(xs:List PyData)(ws:List W)(T:Tp):Option (W×Tp):=if dy ws=true then qt T.length (mf (.tp T.length::ws) (T++[xs])) else none
def vW(mf:FnM)(g:FA)(ρ:Rho)(x:PyData)(T:Tp):Option (W×Tp):=match x with
 |.list xs=>bnd (g ρ T) (kg mf xs)
 |_=>none
def b6(mf mh:FnM)(g1 g2:FA):FE:=fun ρ T=>bnd (g1 ρ T) fun ws T1=>bnd (mh ws T1) (vW mf g2 ρ)
theorem Ai{mf:FnM}{g:FA}{ρ:Rho}{x:PyData}{T T':Tp}{w:W}(h:vW mf g ρ x T=some (w,T')):∃xs ws T3 y T5,x=.list xs/\g ρ T=some (ws,T3)/\dy ws=true/\mf (.tp T3.length::ws) (T3++[xs])=some (y,T5)/\T5.length=T3.length+1/\w=.d y/\T'=T5.take T3.length:=by
 cases x with
 |list xs=>
  obtain⟨ws,T3,e1,e⟩:=aM (show bnd (g ρ T) (kg mf xs)=_ from h);unfold kg at e;split at e
  .rename_i hn
   unfold qt at e;split at e
   .rename_i y T5 e2
    split at e
    .rename_i hl
     cases e;exact⟨xs,ws,T3,y,T5,rfl,e1,hn,e2,hl,rfl,rfl⟩
    .cases e
   .cases e
  .cases e
 |_=>cases h
section
variable {X:Cx}
theorem jZ{fname hname:Str}{ps qs:List Str}{kf kh:Nat}{mf mh:FnM}{a:Expr}{as es:List Expr}{g1 g2:FA}{p p2 c2 cpos:Pos}(Ff:Fn X.prog X.w X.K X.mg X.base fname ps kf (spM X.K ps.length mf))(Fh:Fn X.prog X.w X.K X.mg X.base hname qs kh (spO X.K qs.length mh))(hrf:Room kf X.A)(hrh:Room kh X.A)(hgf:Gl X fname)(hgh:Gl X hname)
  (ha:DA X (a::as) g1) (hl1:gO g1 qs.length) (he:DA X es g2) (hl2:gO (ae (fC .none) g2) ps.length) (hdf:(fname == ("__debug__" : Str))=false:=by decide) (hdh:(hname == ("__debug__" : Str))=false:=by decide)
  (hsh:starEach (a::as) X.env=(false,eval a X.env)::starEach as X.env:=by exact a9 rfl) (hplh:(backTo c2 (starEach as X.env)).any (·.1)=false:=by exact bW rfl)
  (hsf:starEach (.Call (.Name hname p2) (a::as) [] c2::es) X.env=(false,eval (.Call (.Name hname p2) (a::as) [] c2) X.env)::starEach es X.env:=by exact a9 rfl) (hplf:(backTo cpos (starEach es X.env)).any (·.1)=false:=by exact bW rfl) :
  DE X (.Call (.Name fname p) (.Call (.Name hname p2) (a::as) [] c2::es) [] cpos) (b6 mf mh g1 g2):=by
 refine⟨?_⟩;refine bu (ko Ff hrf hgf (cW (ko Fh hrh hgh ha.pe hdh hsh hplh) he.pe hsf) hdf hsf hplf) fun σ H Q=>?_;rintro⟨O,ts,ρ,T,w,T',hc,re,e,q⟩;obtain⟨ws,T1,e1,e⟩:=aM e;obtain⟨x,T2,e2,e⟩:=aM e;obtain⟨xs,ws2,T3,y,T5,rfl,e3,hno,e4,hlen,rfl,rfl⟩:=Ai e;refine⟨O,ts,ρ,T,ws,T1,hc,re,e1,fun vs H1 s1 hc1 r1=>?_⟩;refine⟨O,ts,T1,ws,_,_,hc1,by rw[List.append_nil];exact r1,hl1 _ _ _ _ e1,e2,fun A v H2 s2 hA hc2 ov=>?_⟩;obtain⟨b,rfl,hAA,us,k1,k2⟩:=ov;have hAb:=hA b ((hAA b).mpr rfl);have ntb:b∉ts:=fun z=>hAb.2 (hc1.own b z);have le2:Le O H1 (fun c=>O c\/A c) H2:=fun c o n z=>⟨fun y=>y.elim n fun y=>(by rw[(hA c y).1] at z;cases z),s2 c o (fun y=>n (hc1.own c y)) z⟩
 have re2:RelE X.K (fun c=>O c\/A c) ts H2 σ ρ:=fun i w e=>by
  obtain⟨v,h1,h2⟩:=(re.mono hc s1) i w e;refine⟨v,h1,?_⟩
  cases w with
  |d x=>exact Rep.mono le2 h2
  |tp k=>exact h2
  |loc ys=>
   obtain⟨a',ea,m1,m2,m3⟩:=h2;exact⟨a',ea,.inl m1,m2,m3.mono (fun o q=>s2 _ _ m2 q) le2⟩
 refine⟨_,ts,ρ,T2,ws2,T3,hc2,re2,e3,fun vs2 H3 s3 hc3 r3=>?_⟩;have kb3:H3 b=some (.lst us):=s3 b _ ntb k1;have ru3:=k2.mono (hc2.le s3);have lt3:ts.length=T3.length:=hc3.len
 have hc4:HC X.K (fun c=>O c\/A c) (ts++[b]) H3 (T3++[xs]):=by
  refine⟨fun c hc'=>?_,hc3.trk,?_,by simp[lt3],fun i c ys q1 q2=>?_⟩
  .rcases List.mem_append.mp hc' with z|z
   .exact hc3.own c z
   .rw[List.mem_singleton.mp z];exact .inr ((hAA b).mpr rfl)
  .exact List.nodup_append.mpr ⟨hc3.nd,by simp,fun c hc' d hd z=>ntb (by rw[←List.mem_singleton.mp hd,←z];exact hc')⟩
  .by_cases hi:i<ts.length
   .rw[List.getElem?_append_left hi] at q1
    rw[List.getElem?_append_left (by omega)] at q2;exact hc3.tape i c ys q1 q2
   .have hi':i=ts.length:=by
     have:=(List.getElem?_eq_some_iff.mp q1).1;simp at this;omega
    subst hi';rw[List.getElem?_append_right (Nat.le_refl _)] at q1;rw[List.getElem?_append_right (by omega)] at q2;simp[lt3] at q1 q2;subst q1 q2;exact .inl ⟨ru3.notO,us,kb3,ru3⟩
 have rw4:fY X.K (fun c=>O c\/A c) (ts++[b]) H3 (.ref b::vs2) (.tp T3.length::ws2):=by
  refine .cons ⟨b,by rw[List.getElem?_append_right (by omega)];simp[lt3],rfl⟩ ?_;clear e4 hlen q e3
  induction r3 with
  |nil=>exact .nil
  |@cons v w vs ws h t ih=>
   cases w with
   |d x=>exact .cons h (ih hno)
   |tp i=>
    obtain⟨c,h1,h2⟩:=h;exact .cons ⟨c,by rw[List.getElem?_append_left (List.getElem?_eq_some_iff.mp h1).1];exact h1,h2⟩ (ih hno)
   |loc _=>cases hno
 have hlw:(W.tp T3.length::ws2).length=ps.length:=by
  have:=hl2 ρ T2 (.d .none::ws2) T3 (by show bnd (some (W.d .none,T2)) _=_;rw[FM,e3];rfl);simpa using this
 refine⟨_,ts++[b],T3++[xs],.tp T3.length::ws2,y,T5,hc4,by rw[List.append_nil];exact rw4,hlw,e4,fun v H4 s4 hc5 r5=>?_⟩;have le5:Le (fun c=>O c\/A c) H4 O H4:=fun c o n z=>⟨fun y=>n (.inl y),z⟩;refine q v H4 (fun c o n z=>?_) ⟨hc.own,fun c hc'=>hc5.trk c (.inl hc'),hc.nd,?_,fun i c ys q1 q2=>?_⟩ (Rep.mono le5 r5)
 .have h1:=s1 c o n z
  have nb:c≠b:=fun y=>by rw[y,hAb.1] at h1;cases h1
  refine s4 c o (fun y=>?_) (s3 c o n (s2 c o n h1))
  rcases List.mem_append.mp y with z|z
  .exact n z
  .exact nb (List.mem_singleton.mp z)
 .rw[List.length_take,hlen,lt3]
  omega
 .have hi:i<ts.length:=(List.getElem?_eq_some_iff.mp q1).1
  rw[List.getElem?_take_of_lt (by omega)] at q2;exact(hc5.tape i c ys (by rw[List.getElem?_append_left hi];exact q1) q2).mono (fun _ h=>h) le5
end
section
variable {X:Cx}
variable {pos:Pos}{e:Expr}{fe:FE}
end
section
variable {prog:Program}{w:World}{A:Around}{E:Value->Shared->Prop}
end
section
variable {X:Cx}{pos:Pos}
end
section
variable {X:Cx}{pos:Pos}{e:Expr}{fe:FE}
end
section
variable {X:Cx}
end
section
variable {X:Cx}{pos:Pos}{e:Expr}{fe:FE}
end
section
variable {X:Cx}{pos:Pos}
def mx(i:Nat)(ρ:Rho)(T:Tp)(o:Option (List (Str×PyData))):Option ((Fl×Rho)×Tp):=match o with
 |some l=>if qW l=true then some ((.nx,ρ.set i (some (.loc (.dict (aL l))))),T) else none
 |none=>none
def ye(o:Option PyData):Option (List (Str×PyData)):=match o with
 |some (.list ds)=>ic ds
 |_=>none
def ki(i:Nat)(f:FE):FS:=fun ρ T=>bnd (f ρ T) fun w T1=>mx i ρ T1 (ye (view T1 w))
theorem ue{i:Nat}{x:Str}{e:Expr}{fe:FE}{p cpos pos':Pos}(hm:X.mg "dict"=none)(hN:X.N.Nodup)(he:DE X e fe)(hcm:X.calm=true:=by rfl)(hg:Gl X "dict":=by rfl)
  (hse:starEach [e] X.env=(false,eval e X.env)::starEach [] X.env:=by exact a9 rfl) (hpl:(backTo cpos (starEach [] X.env)).any (·.1)=false:=by exact bW rfl) (hi:X.N[i]? = some x:=by rfl) (hx:Loc X.env.scope x:=by first|exact Or.inl rfl|exact Or.inr rfl)
  (hs:swapsWith (.Call (.Name "dict" p) [e] [] cpos) (some (.Name x pos')) pos.line X.env=pure false:=by rfl) (hf:X.fn x=true\/X.env.scope.names.lookup x=some .local:=by first|exact .inl rfl|exact .inr rfl|assumption) :
  DS X (.Assign [.Name x pos'] (.Call (.Name "dict" p) [e] [] cpos) pos) (ki i fe):=by
 refine⟨?_⟩;refine bZ (ia hN hi hx (lu (z6 hcm) hg hm boot_dict (cW he.pe dG hse) (by decide) (by decide) hse hpl) hs hf) fun D σ H=>?_;rintro⟨O₀,H₀,F,ts,O,ρ,T,fl,ρ',T',rs,e,q⟩;obtain⟨w,T1,e1,e⟩:=aM e;refine⟨O,ts,ρ,T,w,T1,rs.hc,rs.re,e1,fun v H1 s1 hc1 r1=>?_⟩;have rs1:=rs.step s1 hc1;unfold mx at e;split at e
 .rename_i l hl
  split at e
  .rename_i ho
   cases e;have nd:=of_decide_eq_true ((Bool.and_eq_true _ _ ▸ ho).1);have hz:=of_decide_eq_true ((Bool.and_eq_true _ _ ▸ ho).2);unfold ye at hl;split at hl
   .rename_i ds hv
    obtain⟨a,vs,rfl,t,r⟩:=(hc1.view r1 hv).lst;obtain⟨kvs,h1,h2,h3⟩:=tU r hl
    have hlen:kvs.length=l.length:=by have:=congrArg List.length h2;simpa using this
    refine⟨a,vs,kvs,rfl,t,h1,by rw[hlen];exact Nat.le_trans hz (by decide),fun p hp=>?_⟩
    have hm:fh [] (kvs.map cK)=kvs.map cK:=by
     have:=sU kvs [] (by rw[List.map_nil,List.nil_append,h2];exact nd);simpa using this
    rw[hm];exact q _ _ _ (rs1.ownO hp (.inr (.inl ⟨_,rfl⟩)) fun le=>⟨_,bx,h3.mono le⟩)
   .cases hl
  .cases e
 .cases e
end
def Hk(_ j:Int):Prop:=0<j/\j<18446744073709551616
def qK:PyData->PyData->Option PyData:=iop fun i j=>if 0<j/\j<18446744073709551616 then some (.int (i / j)) else none
theorem GF{x y:Int}(h:y.natAbs<18446744073709551616):Builtin.divisionGoesByPylong x y=false:=by
 refine PyProof.noPylong_of_log2 ?_
 by_cases h0:y.natAbs=0
 .rw[h0];decide +kernel
 .have h30:y.natAbs.log2<64:=(Nat.log2_lt h0).mpr h
  omega
section
variable {X:Cx}
theorem Bu:OpR X (binaryOp .FloorDiv) (rI Hk fun i j=>.int (i / j)):=opI fun i j _ _ _ _ _ hc q=>by
 have h1:(0:Int)<j:=hc.1;have h2:j<18446744073709551616:=hc.2;exact floordiv_int (by omega) (by rw[Int.fdiv_eq_ediv_of_nonneg i (by omega)];exact q) (.inl (GF (by omega)))
theorem CU:OpD X (binaryOp .FloorDiv) qK:=⟨_,Bu,qf fun i j d e=>by
 split at e
 .rename_i h;cases e;exact⟨h,fun _ _=>.int _⟩
 .cases e⟩
end
end D
namespace L2
open PySem PySem.Spec PyProof.Rows
section
variable {prog:Program}{w:World}{A:Around}{E:Value->Shared->Prop}{s:Shared}
end
section
variable {X:Cx}{e:Expr}{te:TE}{x y:Str}{p p' pos pos':Pos}
end
end L2
namespace D
open PySem PySem.Spec PyProof.Rows L2
def GP:PyData->Option PyData
 |.list xs=>some (.list xs.reverse)
 |_=>none
@[simp] theorem JG{xs:List PyData}:GP (.list xs)=some (.list xs.reverse):=rfl
section
variable {X:Cx}{pos pos' p p':Pos}{e:Expr}{f:FE}
end
section
variable {X:Cx}{pos:Pos}
end
def dd:List Str->List Str
 |[]=>[]
 |a::r=>if a∈r then dd r else a::dd r
section
variable {X:Cx}{pos:Pos}
end
end D
namespace L2
open PySem PySem.Spec PyProof.Rows
section
variable {P:Program}{w:World}{A:Around}{E:Value->Shared->Prop}{s:Shared}
end
def keyV:Value->Str
 |.str k _=>k
 |_=>""
section
variable {P:Program}{w:World}{A:Around}{s:Shared}
end
section
set_option maxRecDepth 100000
variable {P:Program}{w:World}{A:Around}{E:Value->Shared->Prop}{s:Shared}
end
section
set_option maxRecDepth 100000
set_option maxHeartbeats 3200000
variable {P:Program}{w:World}{A:Around}{E:Value->Shared->Prop}{s:Shared}
end
section
set_option maxRecDepth 100000
set_option maxHeartbeats 3200000
variable {P:Program}{w:World}{A:Around}{E:Value->Shared->Prop}{s:Shared}
end
section
set_option maxRecDepth 100000
variable {P:Program}{w:World}{A:Around}{E:Value->Shared->Prop}{s:Shared}
end
section
set_option maxRecDepth 100000
variable {P:Program}{w:World}{A:Around}{E:Value->Shared->Prop}{s:Shared}
def TupAt(h:Heap)(q:Addr)(pl:Array Value):Prop:=∃o n,h.get? q=some o/\o.data=.seq pl n
end
section
set_option maxRecDepth 100000
variable {P:Program}{w:World}{A:Around}{E:Value->Shared->Prop}{s:Shared}
end
section
set_option maxRecDepth 100000
variable {P:Program}{w:World}{A:Around}{E:Value->Shared->Prop}{s:Shared}
end
end L2
namespace D
open PySem PySem.Spec PyProof.Rows L2
section
set_option maxRecDepth 100000
variable {X:Cx}
end
def EqW(P:Program)(w:World)(A:Around)(s:Shared)(y x:Value)(b:Bool):Prop:=∀(E:Value->Shared->Prop) (Q:Bool->Shared->Prop),Q b s->wpAny (model P w) A (eqBool y x) Q E s
def gc(e:List (PyData×PyData)):List (PyData×PyData)->Option Bool
 |[]=>some true
 |(.str k,v)::r=>match aA e k with
  |none=>some false
  |some u=>if SeqAt.shaped v=true/\SeqAt.shaped u=true then (gc e r).map fun b=>PyData.eqv v u&&b else none
 |_=>none
def kT(d e:List (PyData×PyData)):Option Bool:=if gc d d=some true then (if d.length=e.length then gc e d else some false) else none
def kS:PyData->PyData->Option Bool
 |.dict d,.dict e=>kT d e
 |x,y=>if SeqAt.shaped x=true/\SeqAt.shaped y=true then some (PyData.eqv x y) else none
def gi:List PyData->List PyData->Option (List Bool)
 |[],[]=>some []
 |x::r,y::t=>match kS x y,gi r t with
  |some a,some b=>some (a::b)
  |_,_=>none
 |_,_=>none
def eqP(x y:PyData):Option PyData:=match x,y with
 |.tuple xs,.tuple ys=>(gi xs ys).map fun bs=>.bool (bs.all id)
 |_,_=>none
section
set_option maxRecDepth 100000
variable {P:Program}{w:World}{A:Around}{E:Value->Shared->Prop}{s:Shared}
open PySem.SeqAt in
theorem Ey{l b:Addr}{items items2:Array Value}{e:Nat->Bool}{Q:Value->Shared->Prop}(hl:s.heap.IsTuple l items)(hb:s.heap.IsTuple b items2)(hu:A.units<cLine)(hz:items.size=items2.size)
  (he:∀j (h1:j<items.size) (h2:j<items2.size),EqW P w A.in1 s items[j] items2[j] (e j)) (h:Q (.bool ((List.range items.size).all e)) s):wpAny (model P w) A (compareOp .Eq (.ref l) (.ref b)) Q E s:=by
 obtain⟨⟨cls,dd,data,sl⟩,ho,hc,n,hd⟩:=id hl;obtain⟨⟨cls2,dd2,data2,sl2⟩,ho2,hc2,n2,hd2⟩:=id hb;simp only at hc hd hc2 hd2;subst hc hd hc2 hd2;have t1:s.TypeIs (.ref l) "tuple":=⟨_,ho,rfl⟩;have t2:s.TypeIs (.ref b) "tuple":=⟨_,ho2,rfl⟩;refine wpAny_richCompare_same_room (op:=.Eq) t1 t2 F.slot_tuple_eq (wpAny_call_entry F.slot_tuple_eq t1 F.entry_tuple_eq ?_ (F.args_tuple_eq_2 _ _)) hu;obtain⟨hp,g,d,tk,os⟩:=s;have f2:=AutoSeq1.sub_tuple_tuple
 have hZ:(items.toList.zip items2.toList).length=items.size:=by simp[hz]
 wp_walk using AutoSeq1.wpAny_loadPart' ho,AutoSeq1.wpAny_loadPart' ho2,wpAny_forIn_list _ (fun rest b s'=>b.1=none/\s'=⟨hp,g,d,tk,os⟩/\∃i,rest=(items.toList.zip items2.toList).drop i/\Q (.bool (((List.range items.size).drop i).all e)) ⟨hp,g,d,tk,os⟩) _
 case turn=>
  rintro⟨y,x⟩ rest b s' ⟨hb',rfl,i,hz',hR⟩
  have hlt:i<(items.toList.zip items2.toList).length:=(Nat.lt_or_ge i _).elim id fun h'=>by rw[List.drop_of_length_le h'] at hz';cases hz'
  have h1:i<items.size:=hZ ▸ hlt;have h2:i<items2.size:=hz ▸ h1;rw[List.drop_eq_getElem_cons hlt] at hz'
  injection hz' with hyx hrest
  obtain⟨hy,hx⟩:y=items[i]/\x=items2[i]:=by simpa using hyx
  subst hy hx
  have hd:(List.range items.size).drop i=i::(List.range items.size).drop (i+1):=by simp[List.drop_eq_getElem_cons,h1]
  rw[hd,List.all_cons] at hR;refine wpAny_bind (he i h1 h2 _ _ ?_)
  cases hy:e i <;> rw[hy] at hR <;> wp_walk
  .first|exact⟨_,rfl,(fun x=>nomatch x),by simpa using hR⟩|exact⟨(fun x=>nomatch x),by simpa using hR⟩|exact⟨_,rfl,by simpa using hR⟩
  .exact⟨rfl,rfl,i+1,hrest,by simpa using hR⟩
 case fin=>
  rintro⟨b1,b2⟩ s' ⟨hb',rfl,i,hz',hR⟩;simp only at hb';subst hb';have hge:items.size<=i:=(Nat.lt_or_ge i (items.toList.zip items2.toList).length).elim (fun h'=>by rw[List.drop_eq_getElem_cons h'] at hz';cases hz') fun h'=>hZ ▸ h';rw[List.drop_of_length_le (by simpa using hge)] at hR;wp_walk
  first|exact⟨_,rfl,(fun x=>by cases x),by simpa[Builtin.Tuple.tupleCompareSizes,hz] using hR⟩|exact⟨_,rfl,by simp[Builtin.Tuple.tupleCompareSizes],by simpa[Builtin.Tuple.tupleCompareSizes,hz] using hR⟩
 case h=>
  exact⟨rfl,rfl,0,rfl,by simpa using h⟩
open PySem.SeqAt in
theorem wH{y x:Value}{b:Bool}(h:SeqAt.EqAt A s y x b):EqW P w A s y x b:=fun E Q q=>h P w E Q q
theorem uc{a b:Addr}{ka kb:List (Key×Value)}{r:Bool}(hne:a≠b)(ha:(a == sysModules)=false)(hb:(b == sysModules)=false)(da:s.heap.DictOf (bz P w) a ka)(db:s.heap.DictOf (bz P w) b kb)(hu:A.units<cLine)
  (hits:ka.length=kb.length->PySem.W.KeqHits A.in1 s kb ka r):EqW P w A s (.ref a) (.ref b) (ka.length == kb.length&&r):=fun E Q hq=>by
 unfold eqBool;refine wpAny_holding ?_;refine wpAny_ite_split (fun hab=>absurd (by have:=eq_of_beq hab;injection this) hne) (fun _=>?_);exact wpAny_bind (PySem.W.keq_eq ha hb da db hu hits (wpAny_truthy_bool hq))
end
section
variable {X:Cx}{pins:List (Addr×Obj)}{σ:L2.St}{H:Hp}{s:Shared}{O:Addr->Prop}{A:Around}
theorem vc(I:Inv X pins σ H s)(hu:A.in1.units+64<cLine){kb:List (Key×V)}{e:List (PyData×PyData)}{ub:List (Key×Value)}(re:RepK X.K O H kb e)(vb:KV kb ub):∀{ka:List (Key×V)}{d:List (PyData×PyData)}{ua:List (Key×Value)}{b:Bool},RepK X.K O H ka d->KV ka ua->gc e d=some b->PySem.W.KeqHits A.in1 s ub ua b
 |_,_,_,_,.nil,.nil,h=>by cases h;exact .nil
 |_,_,_,b,.cons (k:=k) (v:=v) (d:=x) (ds:=ds) q t,.cons hkv vt,h=>by
  obtain⟨e1,e2⟩:=hkv;rename_i p _;obtain⟨k',u⟩:=p;simp only at e1 e2;subst e1
  cases k with
  |inl i=>cases h
  |inr y=>
   simp only[f6,gc] at h;have hv:=vb.val (Sum.inr y:Key)
   rcases gz (s:=y) re with⟨h1,h2⟩|⟨v',d',h1,h2,h3⟩
   .rw[h1] at h
    cases h;rw[h2] at hv;exact .miss (RelO.none_of hv)
   .rw[h1] at h
    dsimp only at h;rw[h2] at hv;obtain⟨u',g1,g2⟩:=RelO.some_of hv;split at h
    .rename_i hs
     cases hr:gc e ds with
     |none=>rw[hr] at h;cases h
     |some b'=>
      rw[hr] at h;cases h;obtain⟨as,r1,_⟩:=Rep.reads I q e2;obtain⟨bs,r2,_⟩:=Rep.reads I h3 g2;exact .hit g1 (PySem.W.keq_at r1 r2 hs.1 hs.2 hu) (vc I hu re vb t vt hr)
    .cases h
theorem DB{k:Nat}(hr:Room k X.A)(I:Inv X pins σ H s){v v':V}{x y:PyData}{u u':Value}{b:Bool}(h1:Rep X.K O H v x)(r1:RelV v u)(h2:Rep X.K O H v' y)(r2:RelV v' u')(h:kS x y=some b):EqW X.prog X.w X.A.in1 s u u' b:=by
 have hun:=hr.un;obtain⟨as,q1,_⟩:=Rep.reads I h1 r1;obtain⟨bs,q2,_⟩:=Rep.reads I h2 r2
 have flat:SeqAt.shaped x=true/\SeqAt.shaped y=true->b=PyData.eqv x y->EqW X.prog X.w X.A.in1 s u u' b:=fun hs e=>by
  subst e;exact wH (PySem.W.keq_at (A:=X.A) q1 q2 hs.1 hs.2 (by simp;omega))
 by_cases hd:∃d e,x=.dict d/\y=.dict e
 .obtain⟨d,e,rfl,rfl⟩:=hd
  have h':kT d e=some b:=h;unfold kT at h';split at h'
  .rename_i hself
   cases h1 with
   |@dct a oa ka _ n1 t1 k1=>
    cases h2 with
    |@dct b' ob kb _ n2 t2 k2=>
     cases r1;cases r2;obtain⟨za,la,ua,va,da⟩:=dJ I.hok (.inr ⟨_,t1⟩);obtain⟨zb,lb,ub,vb,db⟩:=dJ I.hok (.inr ⟨_,t2⟩)
     by_cases hab:a=b'
     .subst hab
      have e0:d=e:=by
       have:=(PySem.Reads.unique q1 _ _ q2).1;injection this
      subst e0;rw[if_pos rfl,hself] at h';cases h';exact wH (SeqAt.EqAt.same _)
     .have ela:ua.length=d.length:=by rw[←va.length];exact lF k1
      have elb:ub.length=e.length:=by rw[←vb.length];exact lF k2
      by_cases hl:d.length=e.length
      .rw[if_pos hl] at h'
       have:=uc (r:=b) (A:=X.A.in1) hab la lb da db (by simp;omega) (fun _=>vc (A:=X.A.in1) I (by simp;omega) k2 vb k1 va h');rw[ela,elb,hl,beq_self_eq_true,Bool.true_and] at this;exact this
      .rw[if_neg hl] at h'
       cases h';have:=uc (r:=true) (A:=X.A.in1) hab la lb da db (by simp;omega) (fun q=>absurd (by rw[←ela,←elb];exact q) hl);rw[ela,elb,beq_eq_false_iff_ne.mpr hl,Bool.false_and] at this;exact this
  .cases h'
 .have h':(if SeqAt.shaped x=true/\SeqAt.shaped y=true then some (PyData.eqv x y) else none)=some b:=by
   unfold kS at h;split at h
   .exact absurd ⟨_,_,rfl,rfl⟩ hd
   .exact h
  split at h'
  .rename_i hs
   cases h';exact flat hs rfl
  .cases h'
theorem vm{k:Nat}(hr:Room k X.A)(I:Inv X pins σ H s):∀{vs vs':List V}{xs ys:List PyData}{us us':List Value}{bs:List Bool},Reps X.K O H vs xs->Vals vs us->Reps X.K O H vs' ys->Vals vs' us'->gi xs ys=some bs ->
  us.length=us'.length/\bs.length=us.length/\∀(j:Nat) (h1:j<us.length) (h2:j<us'.length),EqW X.prog X.w X.A.in1 s us[j] us'[j] (bs.getD j false)
 |_,_,_,_,_,_,_,.nil,.nil,.nil,.nil,e=>by cases e;exact⟨rfl,rfl,fun j h1 _=>absurd h1 (Nat.not_lt_zero _)⟩
 |_,_,_,_,_,_,_,.nil,.nil,.cons _ _,_,e=>by cases e
 |_,_,_,_,_,_,_,.cons _ _,_,.nil,.nil,e=>by cases e
 |_,_,_,_,_,_,_,.cons r t,.cons rv tv,.cons r' t',.cons rv' tv',e=>by
  unfold gi at e;split at e
  .rename_i a b ha hb
   cases e;obtain⟨l1,l2,f⟩:=vm hr I t tv t' tv' hb;refine⟨by simp[l1],by simp[l2],fun j h1 h2=>?_⟩
   cases j with
   |zero=>exact DB hr I r rv r' rv' ha
   |succ j=>exact f j (by simpa using h1) (by simpa using h2)
  .cases e
theorem all_range{bs:List Bool}:(List.range bs.length).all (fun j=>bs.getD j false)=bs.all id:=by
 induction bs with
 |nil=>rfl
 |cons b r ih=>
  rw[List.length_cons,List.range_succ_eq_map,List.all_cons,List.all_map,List.all_cons];have:(fun j=>(b::r).getD j false) ∘ Nat.succ=fun j=>r.getD j false:=rfl;rw[this,ih];rfl
theorem EU{k:Nat}(hr:Room k X.A):OpR X (compareOp .Eq) (fun x y H Q=>∃O xs ys bs,Vw X.K O H x (.tuple xs)/\Vw X.K O H y (.tuple ys)/\gi xs ys=some bs/\Q (.bl (bs.all id)) H):=by
 intro pins s σ H x y v u Q I rx ry h;obtain⟨O,xs,ys,bs,h1,h2,e,q⟩:=h;obtain⟨a,vs,rfl,t1,p1⟩:=h1.tup;obtain⟨b,vs',rfl,t2,p2⟩:=h2.tup;cases rx;cases ry;obtain⟨us,v1,i1,_⟩:=I.tuple t1.sq;obtain⟨us',v2,i2,_⟩:=I.tuple t2.sq;obtain⟨l1,l2,f⟩:=vm hr I p1 v1 p2 v2 e;have hu:=hr.un;refine Ey (e:=fun j=>bs.getD j false) i1 i2 (by omega) (by simpa using l1) (fun j h1 h2=>by simpa using f j (by simpa using h1) (by simpa using h2)) ?_;rw[List.size_toArray,←l2,all_range];exact⟨.bl _,H,I,rfl,q⟩
theorem FC{x y d:PyData}(h:eqP x y=some d):∃xs ys bs,x=.tuple xs/\y=.tuple ys/\gi xs ys=some bs/\d=.bool (bs.all id):=by
 unfold eqP at h;split at h
 .rename_i xs ys
  cases e:gi xs ys with
  |none=>rw[e] at h;cases h
  |some bs=>rw[e] at h;cases h;exact⟨xs,ys,bs,rfl,rfl,e,rfl⟩
 .cases h
theorem GE{k:Nat}(hr:Room k X.A):OpD X (compareOp .Eq) eqP:=⟨_,EU hr,fun O ts H T v1 v2 x y d Q hc h1 h2 e q=>by
 obtain⟨xs,ys,bs,rfl,rfl,e',rfl⟩:=FC e
 exact⟨O,xs,ys,bs,h1,h2,e',q _ H (.refl _ _) hc (.bl _)⟩⟩
end
theorem A1:bootBuiltins "enumerate"=some (.type "enumerate"):=by decide +kernel
section
set_option maxRecDepth 100000
variable {P:Program}{w:World}{A:Around}{E:Value->Shared->Prop}{s:Shared}
theorem zK{it t:Addr}{i:Nat}{items:Array Value}{x:Value}{Q:Value->Shared->Prop}(hit:s.heap.IsTupleIter it t i)(ht:s.heap.IsTuple t items)(hx:items[i]? = some x)(hQ:∀h',h'.IsTupleIter it t (i+1)->Heap.SameBut it s.heap h'->Q x { s with heap:=h' }) :
  wpAny (model P w) A (Builtin.SmallTypes.nextOf (.ref it)) Q E s:=by
 obtain⟨o,ho,hc,hd⟩:=id hit;obtain⟨ol,hol,_,nl,hdl⟩:=ht;unfold Builtin.SmallTypes.nextOf;refine wpAny_bind (wpAny_callSpecial?_slot (name:=Str.ofString "__next__") hit.typeIs F.slot_tuple_iterator_next (wpAny_call_entry F.slot_tuple_iterator_next hit.typeIs F.entry_tuple_iterator_next ?_ (F.args_tuple_iterator_next_1 _)));show wpAny _ _ (field (.ref it) 0 >>= _) _ _ s;refine wpAny_bind (wpAny_field ho hd (x:=.ref t) rfl ?_);show wpAny _ _ (if (Value.ref t == Value.none)=true then _ else _) _ _ s;rw[if_neg (show ¬((Value.ref t == Value.none)=true) from Bool.false_ne_true)];show wpAny _ _ (field (.ref it) 1 >>= _) _ _ s;refine wpAny_bind (wpAny_field ho hd (x:=.int i 0) rfl ?_);show wpAny _ _ (seqItems? (.ref t) >>= _) _ _ s;refine wpAny_bind (wpAny_seqItems hol hdl ?_);simp only[Int.toNat_natCast,hx];refine wpAny_bind (wpAny_setField ho hd (by simp) (wpAny_pure ⟨x,rfl,wpAny_pure (hQ _ ⟨_,Heap.get?_update_self _ ho (Obj.isFreed_of_fields (Obj.data_mapFields hd _)),(Obj.cls_mapFields ..).trans hc,by rw[Obj.data_mapFields hd];simp[rawInt]⟩ (Heap.SameBut.update ..))⟩))
theorem Am{it t:Addr}{i:Nat}{items:Array Value}{Q:Value->Shared->Prop}(hh:A.handled=none)(hit:s.heap.IsTupleIter it t i)(ht:s.heap.IsTuple t items)(hx:items[i]? = none)
  (hE:∀h' e,Heap.ExtBut it s.heap h'->(∃o,h'.get? e=some o/\o.cls=.type "StopIteration")->E (.ref e) { s with heap:=h' }):wpAny (model P w) A (Builtin.SmallTypes.nextOf (.ref it)) Q E s:=by
 obtain⟨o,ho,hc,hd⟩:=id hit;obtain⟨ol,hol,_,nl,hdl⟩:=ht;unfold Builtin.SmallTypes.nextOf;refine wpAny_bind (wpAny_callSpecial?_slot (name:=Str.ofString "__next__") hit.typeIs F.slot_tuple_iterator_next (wpAny_call_entry F.slot_tuple_iterator_next hit.typeIs F.entry_tuple_iterator_next ?_ (F.args_tuple_iterator_next_1 _)));show wpAny _ _ (field (.ref it) 0 >>= _) _ _ s;refine wpAny_bind (wpAny_field ho hd (x:=.ref t) rfl ?_);show wpAny _ _ (if (Value.ref t == Value.none)=true then _ else _) _ _ s;rw[if_neg (show ¬((Value.ref t == Value.none)=true) from Bool.false_ne_true)];show wpAny _ _ (field (.ref it) 1 >>= _) _ _ s;refine wpAny_bind (wpAny_field ho hd (x:=.int i 0) rfl ?_);show wpAny _ _ (seqItems? (.ref t) >>= _) _ _ s;refine wpAny_bind (wpAny_seqItems hol hdl ?_);simp only[Int.toNat_natCast,hx];refine wpAny_bind (wpAny_rule (wpAny_bind (wpAny_setField ho hd (by simp) ?_)));show wpAny _ _ (newExc (.type "StopIteration") [] >>= _) _ _ _;refine wpAny_bind ?_;simp only[newExc,newTuple];refine wpAny_bind (wpAny_newObj_type ?_ (by size_fits));refine wpAny_bind (m:=firstArgMember _ _) (wpAny_of_eq (a:=Value.none) (by first|rfl|(simp only[firstArgMember];rfl)) ?_);refine wpAny_newObj_type ?_ (by size_fits);simp only[raiseNew];refine wpAny_bind (wpAny_handled ?_)
 first|rw[show A.in1.handled=none from hh]|rw[hh]
 refine wpAny_bind (wpAny_pure (wpAny_throw ?_));exact hE _ _ (((Heap.SameBut.update ..).extBut.push _).push _) ⟨_,Heap.get?_push_size _ rfl,rfl⟩
theorem wZ(hh:A.handled=none)(it t:Addr)(hne:t≠it)(items:Array Value):Draws P w A it [it,t] items.size (fun i v=>items[i]? = some v) (fun i h=>h.IsTupleIter it t i/\h.IsTuple t items) where
 live:=fun _ _ st=>let ⟨o,ho,_⟩:=st.1;⟨o,ho⟩
 frame:=fun _ _ _ st hk=>⟨let ⟨o,ho,r⟩:=st.1;⟨o,hk it (by simp) o ho,r⟩,let ⟨o,ho,r⟩:=st.2;⟨o,hk t (by simp) o ho,r⟩⟩
 item:=fun i s Q E hi st hQ=>zK st.1 st.2 (x:=items[i]) (by simp[hi]) fun h' hit' hs'=>hQ _ h' s.toks (by simp[hi]) ⟨hit',st.2.extBut hs'.extBut hne⟩ hs'
 done:=fun s Q E st hE=>Am hh st.1 st.2 (by simp) hE
theorem zk(t:Addr)(items:Array Value)(n:Nat)(dct:Option Addr)(sl:Array (Option Value)) :
  Meets (Builtin.«enumerate.__new__» ⟨[.type "enumerate",.ref t],[]⟩) (fun _ R s=>s.heap.get? t=some { cls:=.type "tuple",dict:=dct,data:=.seq items n,slots:=sl }/\R (.ok (.ret (.ref (s.heap.push { cls:=.type "tuple_iterator",data:=.fields #[.ref t,.int 0 0] }).objs.size)))
    { s with heap:=(s.heap.push { cls:=.type "tuple_iterator",data:=.fields #[.ref t,.int 0 0] }).push { cls:=.type "enumerate",data:=.fields #[.none,.bool false,.ref s.heap.objs.size,rawInt 0,.none,.none] } }):=
 .of_wp fun prog w A R s h=>by
  obtain⟨hp,g,d,tk,os⟩:=s;obtain⟨hl,h⟩:=h;have hsub:=sub_enumerate;have hT:Heap.IsTuple (Shared.heap ⟨hp,g,d,tk,os⟩) t items:=⟨_,hl,rfl,n,rfl⟩;wp_walk using AutoSeq1.wpAny_loadPart' hl;refine wpAny_stack_any fun st=>wpAny_pure ?_;split
  .rename_i c _ _ _ _ _
   cases (c == Value.type "enumerate") <;> wp_walk using AutoSeq1.wpAny_loadPart' hl,wpAny_pyIter_tuple hT <;> exact⟨_,rfl,h⟩
  .wp_walk using AutoSeq1.wpAny_loadPart' hl,wpAny_pyIter_tuple hT
   exact⟨_,rfl,h⟩
theorem z5{t:Addr}{items:Array Value}{Q:Value->Shared->Prop}(hT:s.heap.IsTuple t items)
  (h:∀h',IsEnum h' (s.heap.objs.size+1) s.heap.objs.size 0 .none->h'.IsTupleIter s.heap.objs.size t 0->h'.objs.size=s.heap.objs.size+2->(∀b o,s.heap.get? b=some o->h'.get? b=some o)->Q (.ref (s.heap.objs.size+1)) { s with heap:=h' }) :
  wpAny (model P w) A (call (.type "enumerate") [.ref t]) Q E s:=by
 obtain⟨⟨c,dct,dt,sl⟩,hl,hc,n,hd⟩:=hT;obtain rfl:c=.type "tuple":=hc;obtain rfl:dt=.seq items n:=hd;refine callType_new F.called_enumerate (by decide) (F.typeCall_enumerate_1 _) (F.newCall_enumerate_1 _) (fun obj=>F.args_object_init_2 obj _) F.entry_enumerate_new (zk t items n dct sl) ⟨hl,?_⟩;have hz:(s.heap.push { cls:=.type "tuple_iterator",data:=.fields #[.ref t,.int 0 0] }).objs.size=s.heap.objs.size+1:=Heap.size_push ..;show _/\_;rw[hz]
 have he:IsEnum ((s.heap.push { cls:=.type "tuple_iterator",data:=.fields #[.ref t,.int 0 0] }).push { cls:=.type "enumerate",data:=.fields #[.none,.bool false,.ref s.heap.objs.size,rawInt 0,.none,.none] }) (s.heap.objs.size+1) s.heap.objs.size 0 .none:=by
  rw[←hz];exact Heap.get?_push_size _ rfl
 exact⟨⟨_,he,rfl⟩,h _ he ⟨_,Heap.get?_push_of_some _ (Heap.get?_push_size _ rfl),rfl,rfl⟩ (by rw[Heap.size_push,hz]) fun b o x=>Heap.get?_push_of_some _ (Heap.get?_push_of_some _ x)⟩
end
def yw(K:Frag)(a:Addr):It:=⟨fun i H=>∃xs,SqT K H a xs/\i<xs.length,fun i H x H'=>∃p v,H p=none/\(∀xs,SqT K H a xs->xs[i]? = some v)/\x=.ref p/\H'=upd H p (.tup [.int (i:Int),v]),fun i H=>∃xs,SqT K H a xs/\i=xs.length⟩
theorem zE{P:Program}{w:World}{K:Frag}{elts:List Expr}{x1:Nat}{tpos:Pos}{l e it:Addr}(hei:e≠it)(hle:l≠e)(hli:l≠it):Turn P w K (.Tuple elts x1 tpos) (yw K l) [e,it] e (fun i h=>(∃old,IsEnum h e it i old)/\h.IsTupleIter it l i) where
 mem:=by simp
 obj:=fun i h st b hb=>by
  obtain⟨⟨old,a1⟩,⟨o4,a4,_,d4⟩⟩:=st;simp only[List.mem_cons,List.not_mem_nil,or_false] at hb
  rcases hb with e|e <;> subst e
  .exact⟨_,a1,fun v z=>nomatch (show Data.fields _=Data.cell v from z)⟩
  .exact⟨_,a4,fun v z=>by rw[d4] at z;cases z⟩
 keep:=fun i h h' st k=>by
  obtain⟨⟨old,a1⟩,⟨o4,a4,r⟩⟩:=st;exact⟨⟨old,k e (by simp) _ a1⟩,o4,k it (by simp) _ a4,r⟩
 item:=by
  intro X hP hw hK hc i pins s σ H E I hf st hg;subst hP hw hK;obtain⟨xs,hx,k1⟩:=hg;obtain⟨⟨old,a1⟩,a4⟩:=st;obtain⟨its,rx,px,_⟩:=I.tuple hx;obtain⟨u,hu,ru⟩:=rx.get (List.getElem?_eq_getElem k1);have hlen:=rx.length;have hIT:s.heap.IsTuple l its.toArray:=px;refine wpAny_pyNext_enum_itemD (wZ (A:=X.A.in1) (by simp[I.ok.hd hc]) it l hli its.toArray) a1 ⟨a4,hIT⟩ (by simp;omega) hei (by simp only[List.mem_cons,List.not_mem_nil,or_false,not_or];exact⟨hei,Ne.symm hle⟩) fun x h' tk hx' b1 b2 b3 b4 b5=>?_
  have ex:x=u:=by
   have h2:its.toArray[i]? = some u:=by simpa using hu
   rw[h2] at hx';exact(Option.some.inj hx').symm
  subst ex;refine⟨.ref s.heap.objs.size,rfl,wpAny_letOwnedTupleGo_enum b1 fun h'' c1 c2=>?_⟩;have hn:H s.heap.objs.size=none:=I.hok.fresh (Nat.le_refl _);have le:e<s.heap.objs.size:=Heap.lt_size a1
  have l1:it<s.heap.objs.size:=by obtain⟨_,e,_⟩:=a4;exact Heap.lt_size e
  have T1:IsTup (s.heap.push { cls:=.type "tuple",data:=.seq #[.int i tk,x] }) s.heap.objs.size #[.int i tk,x]:=IsTup.new ..
  have I1:Inv X pins σ (upd H s.heap.objs.size (.tup [.int (i:Int),xs[i]])) { s with heap:=s.heap.push { cls:=.type "tuple",data:=.seq #[.int i tk,x] } }:=
   I.laid (t':=s.toks) (o:=.tup [.int (i:Int),xs[i]]) (fun b ob e=>Heap.get?_push_of_some _ e) (Nat.le_refl _) ⟨by show 2<=sizeLine;decide,[.int i tk,x],.cons ⟨tk,rfl⟩ (.cons ru .nil),T1⟩
  have nn:∀b∈[e,it],b≠s.heap.objs.size:=fun b hb q=>by
   simp only[List.mem_cons,List.not_mem_nil,or_false] at hb
   rcases hb with z|z <;> rw[q] at z
   .exact Nat.ne_of_gt le z
   .exact Nat.ne_of_gt l1 z
  have f':∀b∈[e,it],dq X pins (upd H s.heap.objs.size (.tup [.int (i:Int),xs[i]])) b:=fun b hb=>by
   obtain⟨f0,fr⟩:=hf b hb;exact⟨by rw[aS (nn b hb)];exact f0,fr⟩
  have I2:Inv X pins σ (upd H s.heap.objs.size (.tup [.int (i:Int),xs[i]])) { s with heap:=h'',toks:=tk+1 }:=ux (s:={ s with heap:=s.heap.push { cls:=.type "tuple",data:=.seq #[.int i tk,x] } }) (t':=tk+1) (h':=h'') (fp:=[e,it]) I1 (fun b ob hb q=>by
   simp only[List.mem_cons,List.not_mem_nil,or_false,not_or] at hb
   by_cases z:b=s.heap.objs.size
   .subst z
    have q':some _=some ob:=(Heap.get?_push_size _ rfl).symm.trans q;cases q';exact(c2.2 _ hb.1).trans b3
   .rw[Heap.get?_push_ne _ _ _ z] at q
    exact(c2.2 b hb.1).trans (b5 b ob hb.1 hb.2 q)) f'
  refine⟨.ref s.heap.objs.size,_,I2,rfl,⟨s.heap.objs.size,xs[i],hn,fun xs' h=>by rw[I.tuple_inj h hx];exact List.getElem?_eq_getElem k1,rfl,rfl⟩,?_,fun b hb=>(f' b hb).1⟩;obtain⟨o,eo,ro⟩:=b2.1;exact⟨⟨_,c1⟩,o,(c2.2 it (Ne.symm hei)).trans eo,ro⟩
 done:=by
  intro X hP hw hK hc i pins s σ H E I hf st hg;subst hP hw hK;obtain⟨xs,hx,k⟩:=hg;obtain⟨⟨old,a1⟩,a4⟩:=st;obtain⟨its,rx,px,_⟩:=I.tuple hx;have h1:=rx.length;have hIT:s.heap.IsTuple l its.toArray:=px
  have hs:its.toArray.size=i:=by simp;omega
  refine wpAny_pyNext_enum_endD (wZ (A:=X.A.in1) (by simp[I.ok.hd hc]) it l hli its.toArray) a1 ⟨by rw[hs];exact a4,hIT⟩ fun h' b7=>⟨rfl,ux (t':=s.toks) (fp:=[e,it]) I (fun b ob hb q=>?_) hf⟩;simp only[List.mem_cons,List.not_mem_nil,or_false,not_or] at hb;exact b7 b ob hb.2 q
 self:=fun _ _ _ _ _ st h=>let ⟨old,he⟩:=st.1;wpAny_pyIter_enum he h
section
variable {X:Cx}{pos:Pos}
def Fp(K:Frag)(ta:TA):TI:=fun σ H R=>ta σ H fun vs H1=>∃a xs,vs=[.ref a]/\SqT K H1 a xs/\(xs.length<=sizeLine->R (yw K a) H1)
theorem Bl{a:Expr}{ta:TA}{elts:List Expr}{x1:Nat}{tpos p:Pos}(hg:Gl X "enumerate")(hm:X.mg "enumerate"=none)(ha:PA X [a] ta)(hs:starEach [a] X.env=[(false,eval a X.env)]) :
  PI X (.Tuple elts x1 tpos) (.Call (.Name "enumerate" p) [a] [] pos) (Fp X.K ta):=by
 intro pins s σ H R I h;refine Call_ (ja I hg hm A1 (PyProof.Rows.callWith_type1 (thn (ha pos pins s σ H _ I h) fun us s1 ⟨vs,H1,I1,r1,q1⟩=>?_) hs rfl));obtain⟨l,xs,e,hx,q⟩:=q1;subst e
 cases r1 with
 |cons r rr=>
  cases rr;cases r;obtain⟨its,rx,px,zx⟩:=I1.tuple hx;have hIT:s1.heap.IsTuple l its.toArray:=px
  have L1:l<s1.heap.objs.size:=by obtain⟨_,e,_⟩:=hIT;exact Heap.lt_size e
  refine z5 hIT fun h' c1 c2 c3 c7=>?_;have I2:Inv X pins σ H1 { s1 with heap:=h' }:=I1.kept (t':=s1.toks) c7;refine wpAny_pyIter_enum c1 ⟨s1.heap.objs.size+1,[s1.heap.objs.size+1,s1.heap.objs.size],_,_,H1,rfl,I2,zE (Nat.succ_ne_self _) (Nat.ne_of_lt (Nat.lt_succ_of_lt L1)) (Nat.ne_of_lt L1),⟨⟨_,c1⟩,c2⟩,fun b hb=>?_,q zx⟩
  have hb':s1.heap.objs.size<=b:=by
   simp only[List.mem_cons,List.not_mem_nil,or_false] at hb
   rcases hb with q|q <;> rw[q] <;> first|exact Nat.le_add_right _ _|exact Nat.le_refl _
  exact I1.fpOk hb' (I1.hok.fresh hb')
end
def eP(i j:Nat)(body:FS):Nat->List PyData->FS
 |n,x::xs=>fun ρ T=>bnd (body ((ρ.set i (some (.d (.int (n:Int))))).set j (some (.d x))) T) fun p T1=>match p with
  |(.nx,ρ1)=>eP i j body (n+1) xs ρ1 T1
  |(.ct,ρ1)=>eP i j body (n+1) xs ρ1 T1
  |(.bk,ρ1)=>some ((.nx,ρ1),T1)
  |(.rt x,ρ1)=>some ((.rt x,ρ1),T1)
  |(.ro x,ρ1)=>some ((.ro x,ρ1),T1)
 |_,[]=>aD
def jd(i j:Nat)(body:FS)(ρ:Rho)(w:W)(T:Tp):Option ((Fl×Rho)×Tp):=match w with
 |.d (.tuple xs)=>eP i j body 0 xs ρ T
 |_=>none
def ip(i j:Nat)(f:FE)(body:FS):FS:=fun ρ T=>bnd (f ρ T) fun w T1=>jd i j body ρ w T1
theorem BU{X:Cx}{pos:Pos}{i j:Nat}{x y:Str}{a:Expr}{f:FE}{g:FS}{body:List Stmt}{k:Nat}{px py tpos zp cpos:Pos}(hm:X.mg "enumerate"=none)(hN:X.N.Nodup)(ha:DE X a f)(hb:DSs X body g)(hg:Gl X "enumerate":=by rfl)(hi:X.N[i]? = some x:=by rfl)(hj:X.N[j]? = some y:=by rfl)(hx:Loc X.env.scope x:=by first|exact Or.inl rfl|exact Or.inr rfl)(hy:Loc X.env.scope y:=by first|exact Or.inl rfl|exact Or.inr rfl)
  (hf:X.fn x=true\/X.env.scope.names.lookup x=some .local:=by first|exact .inl rfl|exact .inr rfl|assumption) (hf':X.fn y=true\/X.env.scope.names.lookup y=some .local:=by first|exact .inl rfl|exact .inr rfl|assumption) (hp:PassesOwn (model X.prog X.w) X.A X.env X.xe:=by exact PassesOwn.never) (hc:X.calm=true:=by rfl)
  (hs1:starEach [a] X.env=[(false,eval a X.env)]:=by exact lE rfl) (hs2:starEach [] X.env=[]:=by rfl) (hs:∀v,foldedSetIterable (.Call (.Name "enumerate" zp) [a] [] cpos) X.env v=pure v:=by intro _;rfl) :
  DS X (.For (.Tuple [.Name x px,.Name y py] k tpos) (.Call (.Name "enumerate" zp) [a] [] cpos) body [] pos) (ip i j f g):=by
 refine⟨?_⟩;refine bZ (mE hp hc (Bl (ta:=qx (lift X.K f) qT) hg hm (cW ha.pe dG (by rw[hs1,hs2])) hs1) (mF hc (gw (fQ hN hi hx hf) (gw (fQ hN hj hy hf') lU))) hb.pe hs) fun D σ H=>?_;rintro⟨O₀,H₀,F,ts,O,ρ,T,fl,ρ',T',rs,e,q⟩;obtain⟨w1,T1,e1,e⟩:=aM e;refine⟨O,ts,ρ,T,w1,T1,rs.hc,rs.re,e1,fun v1 H1 s1 hc1 r1=>?_⟩;have rs1:=rs.step s1 hc1
 have hw:∃dx,w1=.d (.tuple dx):=by
  unfold jd at e;split at e
  .exact⟨_,rfl⟩
  .cases e
 obtain⟨dx,rfl⟩:=hw;have r1':Rep X.K O H1 v1 (.tuple dx):=r1
 cases r1' with
 |@tup la vx _ tx rx=>
 refine⟨la,vx,rfl,tx.sq,fun zx=>?_⟩;have lx:=rx.length;refine⟨fun n m σ H=>m=dx.length-n/\n<=dx.length/\∃O' ρk Tk,RS X.K O₀ H₀ ((O,H1)::F) ts O' H σ ρk Tk/\eP i j g n (dx.drop n) ρk Tk=some ((fl,ρ'),T'),⟨_,rfl,Nat.zero_le _,O,ρ,T1,rs1.more,e⟩,?_⟩;rintro n m σ3 H3 ⟨rfl,hk,O',ρk,Tk,rs3,ek⟩;have le:=rs3.frs _ List.mem_cons_self;have tx3:=(tx.mono le).sq
 by_cases hlt:n<dx.length
 .refine .inr ⟨⟨vx,tx3,by omega⟩,fun σ3 H3=>∃O' ρk Tk,RS X.K O₀ H₀ ((O,H1)::F) ts O' H3 σ3 ρk Tk/\eP i j g (n+1) (dx.drop (n+1)) ρk Tk=some ((fl,ρ'),T'),fun σ3 H3 nn=>⟨dx.length-(n+1),by omega,rfl,hlt,nn⟩,fun v H4 yy=>?_⟩
  obtain⟨p,v',hpn,kx,rfl,rfl⟩:=yy;obtain⟨d1,hd1,rd1⟩:=rx.get (kx vx tx3)
  have hdx:dx.drop n=d1::dx.drop (n+1):=by rw[List.drop_eq_getElem_cons hlt,(List.getElem?_eq_some_iff.mp hd1).2]
  rw[hdx] at ek;obtain⟨⟨fl1,ρ1⟩,T3,e3,ek⟩:=aM ek;have rs4:=rs3.step (.new hpn (.tup [.int (n:Int),v'])) (rs3.hc.new hpn _);have le2:=le.trans (rs3.hc.leNew hpn (.tup [.int (n:Int),v']));refine⟨p,_,rfl,SqT.of bx,rfl,_,_,rfl,_,_,rfl,rfl,O₀,H₀,(O,H1)::F,ts,O',_,Tk,fl1,ρ1,T3,(rs4.set (i:=i) (w:=.d (.int (n:Int))) (Rep.int _) (fun _ z=>nomatch z)).set (i:=j) (w:=.d d1) (Rep.mono le2 rd1) (fun _ z=>nomatch z),e3,?_⟩
  cases fl1 with
  |nx=>exact fun O3 σ3 H3 rs3=>⟨O3,ρ1,T3,rs3,ek⟩
  |ct=>exact fun O3 σ3 H3 rs3=>⟨O3,ρ1,T3,rs3,ek⟩
  |bk=>
   cases ek;exact fun O3 σ3 H3 rs3=>q O3 σ3 H3 rs3.less
  |rt x=>
   cases ek;exact q
  |ro x=>
   cases ek;exact q
 .rw[List.drop_eq_nil_of_le (show dx.length<=n by omega)] at ek
  cases ek;exact .inl ⟨⟨vx,tx3,by omega⟩,q O' σ3 H3 rs3.less⟩
section
variable {X:Cx}{pos:Pos}
end
section
variable {X:Cx}{pos:Pos}{e:Expr}{fe:FE}
end
section
variable {K:Frag}{O₀:Addr->Prop}{H₀:Hp}{F:List ((Addr->Prop)×Hp)}{ts:List Addr}{O:Addr->Prop}{H H1:Hp}{σ:L2.St}{ρ:Rho}{T T1:Tp}
end
section
variable {X:Cx}{pos:Pos}
end
section
variable {X:Cx}{pos pos2 pos3:Pos}
end
inductive LnT(P:Hp->(Bool->Hp->Prop)->Prop):Hp->(Bool->Hp->Prop)->Prop where
 |done {H:Hp}{Q:Bool->Hp->Prop}:P H Q->LnT P H Q
 |frz {H:Hp}{Q:Bool->Hp->Prop}{a:Addr}{kvs:List (Key×V)}:H a=some (.dK kvs)->(∀o,LnT P (upd H a (.frz o (.dK kvs))) (fun b H2=>H2 a=some (.frz o (.dK kvs))/\Q b (upd H2 a (.dK kvs))))->LnT P H Q
section
variable {X:Cx}{pos pos2 pos3 pos4:Pos}
end
section
variable {X:Cx}{pos:Pos}
end
def DfL(K:Frag)(tp:Nat->Stmt):List (Str×Nat)->Prop
 |[]=>True
 |(x,i)::r=>Df K x (tp i)/\DfL K tp r
theorem BX{K:Frag}{tp:Nat->Stmt}{x:Str}{i:Nat}{L:List (Str×Nat)}(a:Df K x (tp i))(r:DfL K tp L):DfL K tp ((x,i)::L):=⟨a,r⟩
theorem DfL.at{K:Frag}{tp:Nat->Stmt}{x:Str}{i:Nat}:∀{L:List (Str×Nat)},DfL K tp L->L.lookup x=some i->Df K x (tp i)
 |[],_,e=>nomatch e
 |(y,j)::r,h,e=>by
  rw[List.lookup_cons] at e;split at e
  .rename_i hx
   cases e;rw[eq_of_beq hx];exact h.1
  .exact h.2.at e
def ZL(K:Frag):List Str->Prop
 |[]=>True
 |x::r=>PySem.W.nsIn K mainGlobals x=some none/\ZL K r
theorem Cf{K:Frag}{x:Str}{L:List Str}(a:PySem.W.nsIn K mainGlobals x=some none)(r:ZL K L):ZL K (x::L):=⟨a,r⟩
theorem ZL.at{K:Frag}{x:Str}:∀{L:List Str},ZL K L->L.contains x=true->PySem.W.nsIn K mainGlobals x=some none
 |[],_,e=>nomatch e
 |y::r,h,e=>by
  rw[List.contains_cons,Bool.or_eq_true] at e
  rcases e with e|e
  .rw[eq_of_beq e];exact h.1
  .exact h.2.at e
def IL(K:Frag):List (Str×Int)->Prop
 |[]=>True
 |(x,i)::r=>(∃t,PySem.W.nsIn K mainGlobals x=some (some (.int i t)))/\IL K r
theorem Dk{K:Frag}{x:Str}{i:Int}{t:Tok}{L:List (Str×Int)}(a:PySem.W.nsIn K mainGlobals x=some (some (.int i t)))(r:IL K L):IL K ((x,i)::L):=⟨⟨t,a⟩,r⟩
theorem IL.at{K:Frag}{x:Str}{i:Int}:∀{L:List (Str×Int)},IL K L->L.lookup x=some i->∃t,PySem.W.nsIn K mainGlobals x=some (some (.int i t))
 |[],_,e=>nomatch e
 |(y,j)::r,h,e=>by
  rw[List.lookup_cons] at e;split at e
  .rename_i hx
   cases e;rw[eq_of_beq hx];exact h.1
  .exact h.2.at e
def SL(K:Frag):List (Str×Str)->Prop
 |[]=>True
 |(x,i)::r=>(∃t,PySem.W.nsIn K mainGlobals x=some (some (.str i t)))/\SL K r
theorem Co{K:Frag}{x i:Str}{t:Tok}{L:List (Str×Str)}(a:PySem.W.nsIn K mainGlobals x=some (some (.str i t)))(r:SL K L):SL K ((x,i)::L):=⟨⟨t,a⟩,r⟩
theorem SL.at{K:Frag}{x i:Str}:∀{L:List (Str×Str)},SL K L->L.lookup x=some i->∃t,PySem.W.nsIn K mainGlobals x=some (some (.str i t))
 |[],_,e=>nomatch e
 |(y,j)::r,h,e=>by
  rw[List.lookup_cons] at e;split at e
  .rename_i hx
   cases e;rw[eq_of_beq hx];exact h.1
  .exact h.2.at e
structure Bz(K:Frag)(mg:Str->Option Value)(z:List Str)(i:List (Str×Int))(s:List (Str×Str)):Prop where
 z:∀{x:Str} (_:z.contains x=true:=by decide +kernel),mg x=none
 i:∀{x:Str}{j:Int} (_:i.lookup x=some j:=by decide +kernel),∃t,mg x=some (.int j t)
 s:∀{x y:Str} (_:s.lookup x=some y:=by decide +kernel),∃t,mg x=some (.str y t)
theorem Hh{K:Frag}{h:Heap}{mg:Str->Option Value}{z:List Str}{i:List (Str×Int)}{s:List (Str×Str)}(X:K.In h)(G:h.Ns mainGlobals mg)(a:ZL K z)(b:IL K i)(c:SL K s):Bz K mg z i s:=⟨fun e=>PySem.W.mg_none_of X G (a.at e),fun e=>let ⟨t,q⟩:=b.at e;⟨t,PySem.W.mg_of X G q⟩,fun e=>let ⟨t,q⟩:=c.at e;⟨t,PySem.W.mg_of X G q⟩⟩
structure Ev(P:Program)(w:World)(K:Frag)(mg:Str->Option Value)(base:Heap)(B:Prop)(tp:Nat->Stmt)(L:List (Str×Nat)):Prop where
 x:∃h:Heap,K.In h/\h.Ns mainGlobals mg
 b:B
 d:DfL K tp L
def scB(N P:List Str)(sc:Scope):Bool:=decide (sc.kind=.function)&&!sc.isCoroutine&&!sc.isGenerator&&decide N.Nodup&&decide (N.take P.length=P)&&P.all (fun x=>decide (sc.names.lookup x=some .local)||decide (sc.names.lookup x=some .cell))&&sc.names.all fun y=>decide (y.2≠.free)
theorem jl{N P:List Str}{sc:Scope}(h:scB N P sc=true):FnScope N P sc:=by
 simp only[scB,Bool.and_eq_true,decide_eq_true_eq,Bool.not_eq_true',List.all_eq_true,Bool.or_eq_true] at h;exact⟨h.1.1.1.1.1.1,h.1.1.1.1.1.2,h.1.1.1.1.2,h.1.1.1.2,h.1.1.2,h.1.2,h.2⟩
theorem bl1{α:Type}{p:List α->Prop}(h:∀a,p [a]):∀us,us.length=1->p us
 |[a],_=>h a
theorem bl2{α:Type}{p:List α->Prop}(h:∀a b,p [a,b]):∀us,us.length=2->p us
 |[a,b],_=>h a b
theorem bl3{α:Type}{p:List α->Prop}(h:∀a b c,p [a,b,c]):∀us,us.length=3->p us
 |[a,b,c],_=>h a b c
theorem bl4{α:Type}{p:List α->Prop}(h:∀a b c d,p [a,b,c,d]):∀us,us.length=4->p us
 |[a,b,c,d],_=>h a b c d
theorem bl6{α:Type}{p:List α->Prop}(h:∀a b c d e f,p [a,b,c,d,e,f]):∀us,us.length=6->p us
 |[a,b,c,d,e,f],_=>h a b c d e f
section
variable {P:Program}{w:World}{K:Frag}{mg:Str->Option Value}{base:Heap}{B:Prop}{tp:Nat->Stmt}{L:List (Str×Nat)}{x:Str}{ps:List Str}{k:Nat}{m:FS}
theorem qN{sp:Sp}(E:Ev P w K mg base B tp L)(i:Nat)(ok:∀f fd,Fun K x x (tp i) f fd->FnOk P w K mg base CX0 k f fd ps sp)(e:L.lookup x=some i:=by decide +kernel)
  (hb:∀(kV doc pm:Value) (an:Option Addr) (cdv ct:Value) (us:List Value),us.length=ps.length->bindArgs (PySem.W.fnOf x x (dF (tp i)) (cx (tp i)) (bf (tp i)) .none kV doc pm an cdv ct) ⟨us,[]⟩=pure (ps.zip us):=by
   intro _ _ _ _ _ _;first|(show ∀us:List Value,us.length=0->_;exact D.bl0 rfl)|(show ∀us:List Value,us.length=1->_;exact D.bl1 fun _=>rfl)|(show ∀us:List Value,us.length=2->_;exact D.bl2 fun _ _=>rfl)|(show ∀us:List Value,us.length=3->_;exact D.bl3 fun _ _ _=>rfl)|(show ∀us:List Value,us.length=4->_;exact D.bl4 fun _ _ _ _=>rfl)|(show ∀us:List Value,us.length=5->_;exact D.bl5 fun _ _ _ _ _=>rfl)|(show ∀us:List Value,us.length=6->_;exact D.bl6 fun _ _ _ _ _ _=>rfl)):Fn P w K mg base x ps k sp:=
 let ⟨_,X,G⟩:=E.x
 (E.d.at e).fn X G hb ok
theorem aW(E:Ev P w K mg base B tp L)(i:Nat)(N:List Str)(hbody:∀{f:Addr}{cdv:Value}{A:Around}{outer:List Env}{s:Shared}{H:Hp}{E:XK},B->FnScope N ps (bf (tp i))->Room k (A.deeper (envOfC x (bf (tp i)) s.heap.objs.size f cdv))->DSs (eX CX0 P w K mg base N x (bf (tp i)) f cdv A outer s H E).nox (cx (tp i)) m)
  (S:scB N ps (bf (tp i))=true:=by decide +kernel) (e:L.lookup x=some i:=by decide +kernel)
  (hb:∀(kV doc pm:Value) (an:Option Addr) (cdv ct:Value) (us:List Value),us.length=ps.length->bindArgs (PySem.W.fnOf x x (dF (tp i)) (cx (tp i)) (bf (tp i)) .none kV doc pm an cdv ct) ⟨us,[]⟩=pure (ps.zip us):=by
   intro _ _ _ _ _ _;first|(show ∀us:List Value,us.length=0->_;exact D.bl0 rfl)|(show ∀us:List Value,us.length=1->_;exact D.bl1 fun _=>rfl)|(show ∀us:List Value,us.length=2->_;exact D.bl2 fun _ _=>rfl)|(show ∀us:List Value,us.length=3->_;exact D.bl3 fun _ _ _=>rfl)|(show ∀us:List Value,us.length=4->_;exact D.bl4 fun _ _ _ _=>rfl)|(show ∀us:List Value,us.length=5->_;exact D.bl5 fun _ _ _ _ _=>rfl)|(show ∀us:List Value,us.length=6->_;exact D.bl6 fun _ _ _ _ _ _=>rfl)):Fn P w K mg base x ps (k+1) (spM K ps.length (aO N.length m)):=qN E i (fun _ _ F=>dfn F (jl S) fun _ _ _ _ _ _ hr=>hbody E.b (jl S) hr) e hb
theorem He(E:Ev P w K mg base B tp L)(i:Nat)(N:List Str)(hbody:∀{f:Addr}{cdv:Value}{A:Around}{outer:List Env}{s:Shared}{H:Hp}{E:XK},B->FnScope N ps (bf (tp i))->Room k (A.deeper (envOfC x (bf (tp i)) s.heap.objs.size f cdv))->DSs (eX CX0 P w K mg base N x (bf (tp i)) f cdv A outer s H E).nox (cx (tp i)) m)
  (S:scB N ps (bf (tp i))=true:=by decide +kernel) (e:L.lookup x=some i:=by decide +kernel)
  (hb:∀(kV doc pm:Value) (an:Option Addr) (cdv ct:Value) (us:List Value),us.length=ps.length->bindArgs (PySem.W.fnOf x x (dF (tp i)) (cx (tp i)) (bf (tp i)) .none kV doc pm an cdv ct) ⟨us,[]⟩=pure (ps.zip us):=by
   intro _ _ _ _ _ _;first|(show ∀us:List Value,us.length=0->_;exact D.bl0 rfl)|(show ∀us:List Value,us.length=1->_;exact D.bl1 fun _=>rfl)|(show ∀us:List Value,us.length=2->_;exact D.bl2 fun _ _=>rfl)|(show ∀us:List Value,us.length=3->_;exact D.bl3 fun _ _ _=>rfl)|(show ∀us:List Value,us.length=4->_;exact D.bl4 fun _ _ _ _=>rfl)|(show ∀us:List Value,us.length=5->_;exact D.bl5 fun _ _ _ _ _=>rfl)|(show ∀us:List Value,us.length=6->_;exact D.bl6 fun _ _ _ _ _ _=>rfl)):Fn P w K mg base x ps (k+1) (spO K ps.length (ku N.length m)):=qN E i (fun _ _ F=>HL F (jl S) fun _ _ _ _ _ _ hr=>hbody E.b (jl S) hr) e hb
theorem dz(E:Ev P w K mg base B tp L)(i:Nat){n:Nat}(e:L.lookup x=some i:=by decide +kernel)
  (hb:∀(kV doc pm:Value) (an:Option Addr) (cdv ct:Value) (us:List Value),us.length=ps.length->bindArgs (PySem.W.fnOf x x (dF (tp i)) (cx (tp i)) (bf (tp i)) .none kV doc pm an cdv ct) ⟨us,[]⟩=pure (ps.zip us):=by
   intro _ _ _ _ _ _;first|(show ∀us:List Value,us.length=0->_;exact D.bl0 rfl)|(show ∀us:List Value,us.length=1->_;exact D.bl1 fun _=>rfl)|(show ∀us:List Value,us.length=2->_;exact D.bl2 fun _ _=>rfl)|(show ∀us:List Value,us.length=3->_;exact D.bl3 fun _ _ _=>rfl)|(show ∀us:List Value,us.length=4->_;exact D.bl4 fun _ _ _ _=>rfl)|(show ∀us:List Value,us.length=5->_;exact D.bl5 fun _ _ _ _ _=>rfl)|(show ∀us:List Value,us.length=6->_;exact D.bl6 fun _ _ _ _ _ _=>rfl)):Fn P w K mg base x ps k (spM K n fun _ _=>none):=qN E i (fun _ _ _=>Du) e hb
theorem Hf{f:Addr}{fd:FuncData}{i:Nat}(E:Ev P w K mg base B tp L)(N:List Str)(F:Fun K x x (tp i) f fd)(hbody:∀{cdv:Value}{A:Around}{outer:List Env}{s:Shared}{H:Hp}{E:XK},B->FnScope N ps (bf (tp i))->Room k (A.deeper (envOfC x (bf (tp i)) s.heap.objs.size f cdv))->DSs (eX CX0 P w K mg base N x (bf (tp i)) f cdv A outer s H E).nox (cx (tp i)) m)
  (S:scB N ps (bf (tp i))=true:=by decide +kernel):FnOk P w K mg base CX0 (k+1) f fd ps (spM K ps.length (aO N.length m)):=dfn F (jl S) fun _ _ _ _ _ _ hr=>hbody E.b (jl S) hr
theorem df{p:Nat->Prop}(z:p 0)(s:∀n,p n->p (n+1)):∀n,p n
 |0=>z
 |n+1=>s n (df z s n)
end
section
variable {X:Cx}{name p1 p2 p3 p4 p5 p6:Str}{k k':Nat}{m:FnM}{e1 e2 e3 e4 e5 e6:Expr}{g1 g2 g3 g4 g5 g6:FE}{p pos:Pos}
theorem aV(F:Fn X.prog X.w X.K X.mg X.base name [p1] k (spM X.K 1 m))(hr:Room k' X.A)(a1:DE X e1 g1)(h:k<=k':=by omega)(hg:Gl X name:=by exact rfl)(hdb:(name == ("__debug__" : Str))=false:=by decide)(n1:noStar e1=true:=by exact rfl):DE X (.Call (.Name name p) [e1] [] pos) (aq m (ae g1 ah)):=j8 F (hr.mono h) hg (ai a1 ar (a9 n1)) (a8 cq) hdb (a9 n1) (bW rfl)
theorem aZ(F:Fn X.prog X.w X.K X.mg X.base name [p1,p2] k (spM X.K 2 m))(hr:Room k' X.A)(a1:DE X e1 g1)(a2:DE X e2 g2)(h:k<=k':=by omega)(hg:Gl X name:=by exact rfl)(hdb:(name == ("__debug__" : Str))=false:=by decide)(n1:noStar e1=true:=by exact rfl)(n2:noStar e2=true:=by exact rfl):DE X (.Call (.Name name p) [e1,e2] [] pos) (aq m (ae g1 (ae g2 ah))):=j8 F (hr.mono h) hg (ai a1 (ai a2 ar (a9 n2)) (a9 n1)) (a8 (a8 cq)) hdb (a9 n1) (bW (by simp only[List.all_cons,List.all_nil,n2,Bool.and_self]))
theorem iK(F:Fn X.prog X.w X.K X.mg X.base name [p1,p2,p3] k (spM X.K 3 m))(hr:Room k' X.A)(a1:DE X e1 g1)(a2:DE X e2 g2)(a3:DE X e3 g3)(h:k<=k':=by omega)(hg:Gl X name:=by exact rfl)(hdb:(name == ("__debug__" : Str))=false:=by decide)(n1:noStar e1=true:=by exact rfl)(n2:noStar e2=true:=by exact rfl)(n3:noStar e3=true:=by exact rfl):DE X (.Call (.Name name p) [e1,e2,e3] [] pos) (aq m (ae g1 (ae g2 (ae g3 ah)))):=j8 F (hr.mono h) hg (ai a1 (ai a2 (ai a3 ar (a9 n3)) (a9 n2)) (a9 n1)) (a8 (a8 (a8 cq))) hdb (a9 n1) (bW (by simp only[List.all_cons,List.all_nil,n2,n3,Bool.and_self]))
theorem gM(F:Fn X.prog X.w X.K X.mg X.base name [p1,p2,p3,p4] k (spM X.K 4 m))(hr:Room k' X.A)(a1:DE X e1 g1)(a2:DE X e2 g2)(a3:DE X e3 g3)(a4:DE X e4 g4)(h:k<=k':=by omega)(hg:Gl X name:=by exact rfl)(hdb:(name == ("__debug__" : Str))=false:=by decide)(n1:noStar e1=true:=by exact rfl)(n2:noStar e2=true:=by exact rfl)(n3:noStar e3=true:=by exact rfl)(n4:noStar e4=true:=by exact rfl):DE X (.Call (.Name name p) [e1,e2,e3,e4] [] pos) (aq m (ae g1 (ae g2 (ae g3 (ae g4 ah))))):=j8 F (hr.mono h) hg (ai a1 (ai a2 (ai a3 (ai a4 ar (a9 n4)) (a9 n3)) (a9 n2)) (a9 n1)) (a8 (a8 (a8 (a8 cq)))) hdb (a9 n1) (bW (by simp only[List.all_cons,List.all_nil,n2,n3,n4,Bool.and_self]))
theorem nK(F:Fn X.prog X.w X.K X.mg X.base name [p1,p2,p3,p4,p5,p6] k (spM X.K 6 m))(hr:Room k' X.A)(a1:DE X e1 g1)(a2:DE X e2 g2)(a3:DE X e3 g3)(a4:DE X e4 g4)(a5:DE X e5 g5)(a6:DE X e6 g6)(h:k<=k':=by omega)(hg:Gl X name:=by exact rfl)(hdb:(name == ("__debug__" : Str))=false:=by decide)(n1:noStar e1=true:=by exact rfl)(n2:noStar e2=true:=by exact rfl)(n3:noStar e3=true:=by exact rfl)(n4:noStar e4=true:=by exact rfl)(n5:noStar e5=true:=by exact rfl)(n6:noStar e6=true:=by exact rfl):DE X (.Call (.Name name p) [e1,e2,e3,e4,e5,e6] [] pos) (aq m (ae g1 (ae g2 (ae g3 (ae g4 (ae g5 (ae g6 ah))))))):=j8 F (hr.mono h) hg (ai a1 (ai a2 (ai a3 (ai a4 (ai a5 (ai a6 ar (a9 n6)) (a9 n5)) (a9 n4)) (a9 n3)) (a9 n2)) (a9 n1)) (a8 (a8 (a8 (a8 (a8 (a8 cq)))))) hdb (a9 n1) (bW (by simp only[List.all_cons,List.all_nil,n2,n3,n4,n5,n6,Bool.and_self]))
end
def csB(osc:Scope)(N:List Str)(x:Str)(sc:Scope)(N':List Str):Bool:=decide (sc.kind=.function)&&(sc.names.all fun y=>decide (y.2≠.cell))&&(sc.names.all fun y=>decide (y.2=.local->sc.names.lookup y.1=some .local))&&decide (sc.names.lookup x=some .local)&&(sc.names.all fun y=>decide (y.2=.local->y.1=x\/y.1=".0"))
 && (sc.names.all fun y=>decide (y.2=.free->osc.names.lookup y.1=some .cell\/osc.names.lookup y.1=some .free))&&decide (x::N').Nodup&&decide ((".0" : Str)∉N')&&decide (N'.length=N.length)&&(N'.zip N).all fun p=>decide (p.1=p.2)||sc.names.all fun q=>decide (q.1≠p.1)
theorem xG{osc:Scope}{N:List Str}{x:Str}{sc:Scope}{N':List Str}(h:csB osc N x sc N'=true):CS osc N x sc N':=by
 simp only[csB,Bool.and_eq_true,decide_eq_true_eq,List.all_eq_true,Bool.or_eq_true] at h;exact⟨h.1.1.1.1.1.1.1.1.1,h.1.1.1.1.1.1.1.1.2,h.1.1.1.1.1.1.1.2,h.1.1.1.1.1.1.2,h.1.1.1.1.1.2,h.1.1.1.1.2,h.1.1.1.2,h.1.1.2,h.1.2,h.2⟩
section
variable {X:Cx}{x:Str}{scope:Scope}{elt iter:Expr}{ifs:List Expr}{px pos:Pos}{it:FI}{c:FT}{f:FE}
theorem xF(st:Stmt)(N N':List Str)(hi:DI X (.Name x px) iter it)(he:∀{C s0 H0 ex},DE (bT X x scope C s0 H0 ex N') elt f)(ht:∀{C s0 H0 ex},DTs (bT X x scope C s0 H0 ex N') ifs c)
  (S:csB (bf st) N x scope N'=true:=by decide +kernel) (hc:X.calm=true:=by rfl) (hs:X.env.scope=bf st:=by rfl) (hN:X.N=N:=by rfl) (hf:∀v,foldedSetIterable iter X.env v=pure v:=by intro _;rfl):DE X (.ListComp elt [⟨.Name x px,iter,ifs,0⟩] scope pos) (bJ it c f):=DK (xG S) hi (fun _ _ _ _=>he) (fun _ _ _ _=>ht) hc hs hN hf
theorem eB(st:Stmt)(N:List Str)(hi:DI X (.Name x px) iter it)(he:∀{C s0 H0 ex},DE (bT X x scope C s0 H0 ex N) elt f)
  (S:csB (bf st) N x scope N=true:=by decide +kernel) (hc:X.calm=true:=by rfl) (hs:X.env.scope=bf st:=by rfl) (hN:X.N=N:=by rfl) (hf:∀v,foldedSetIterable iter X.env v=pure v:=by intro _;rfl):DE X (.ListComp elt [⟨.Name x px,iter,[],0⟩] scope pos) (bJ it bG f):=xF st N N hi he vp S hc hs hN hf
theorem qO{t:Expr}(st:Stmt)(N:List Str)(hi:DI X (.Name x px) iter it)(he:∀{C s0 H0 ex},DE (bT X x scope C s0 H0 ex N) elt f)(ht:∀{C s0 H0 ex},DT (bT X x scope C s0 H0 ex N) t c)
  (S:csB (bf st) N x scope N=true:=by decide +kernel) (hc:X.calm=true:=by rfl) (hs:X.env.scope=bf st:=by rfl) (hN:X.N=N:=by rfl) (hf:∀v,foldedSetIterable iter X.env v=pure v:=by intro _;rfl):DE X (.ListComp elt [⟨.Name x px,iter,[t],0⟩] scope pos) (bJ it c f):=xF st N N hi he (DD rfl ht) S hc hs hN hf
theorem Hd{i:Nat}{y:Str}{py spos:Pos}(st:Stmt)(N N':List Str)(nd:X.N.Nodup)(hi:DI X (.Name x px) iter it)(he:∀{C s0 H0 ex},DE (bT X x scope C s0 H0 ex N') elt f)(ht:∀{C s0 H0 ex},DTs (bT X x scope C s0 H0 ex N') ifs c)
  (S:csB (bf st) N x scope N'=true:=by decide +kernel) (hi':X.N[i]? = some y:=by rfl) (hy:Loc X.env.scope y:=by first|exact Or.inl rfl|exact Or.inr rfl)
  (hf':X.fn y=true\/X.env.scope.names.lookup y=some .local:=by first|exact .inl rfl|exact .inr rfl|assumption) (hc:X.calm=true:=by rfl) (hs:X.env.scope=bf st:=by rfl) (hN:X.N=N:=by rfl)
  (hsw:swapsWith (.ListComp elt [⟨.Name x px,iter,ifs,0⟩] scope pos) (some (.Name y py)) spos.line X.env=pure true:=by rfl) (hf:∀v,foldedSetIterable iter X.env v=pure v:=by intro _;rfl) :
  DS X (.Assign [.Name y py] (.ListComp elt [⟨.Name x px,iter,ifs,0⟩] scope pos) spos) (aE i (bJ it c f)):=DG (xG S) nd hi (fun _ _ _ _=>he) (fun _ _ _ _=>ht) hi' hy hf' hc hs hN hsw hf
end
end D
namespace G
open PySem PySem.Spec PyProof.Rows L2 D

theorem bh(k:Nat)(h:0<k):∃j,k=j+1:=⟨k-1,by omega⟩
def eJ:FnM:=aO 1 (ay (fX (fUn (bw .int) (aa 0)) (qL (fUn (bw .bl) (aa 0)))))
def gU:FnM:=aO 2 (ay (fCB jD (ae (bJ (bc (aa 0)) bG (af inD (aa 0) (aa 2))) ah)))
def iR:FnM:=aO 1 (ay (fX (fUn (bw .str) (aa 0)) (fX (gC leD leD (fC (.int 1)) (fCB a7 (ae (aa 0) ah)) (fC (.int 8))) (aq gU (ae (aa 0) (ae (fC (.str "abcdefghijklmnopqrstuvwxyz")) ah))))))
def jI:FnM:=aO 1 (ak (fIf (bg (aq eJ (ae (aa 0) ah))) (ay (af leD (fCB kW (ae (aa 0) ah)) (af eU (fC (.int 10)) (fC (.int 18))))) aD) (ay (fX (fUn (bw .str) (aa 0)) (fX (af leD (fCB a7 (ae (aa 0) ah)) (fC (.int 20))) (aq gU (ae (aa 0) (ae (fC (.str "abcdefghijklmnopqrstuvwxyz0123456789-")) ah)))))))
def e9:Nat->FnM
 |0=>fun _ _=>none
 |n+1=>aO 2 (ak (fIf (bX (bg (fUn (bw .tup) (aa 0)))) (ay (aq jI (ae (aa 0) ah))) aD) (ak (fIf (bU (ax (af eqD (aa 1) (fC (.int 0)))) (ax (af gtD (fCB a7 (ae (aa 0) ah)) (fC (.int 8))))) (ay (fC (.bool false))) aD) (ay (fCB jD (ae (bJ (bc (aa 0)) bG (aq (e9 n) (ae (aa 0) (ae (af eS (aa 2) (fC (.int 1))) ah)))) ah)))))
def gX:Nat->FnM
 |0=>fun _ _=>none
 |n+1=>aO 1 (ak (fIf (bX (bg (fUn (bw .tup) (aa 0)))) (ay (fC (.int 1))) aD) (ay (af aT (fC (.int 1)) (fCB jx (ae (bJ (bc (aa 0)) bG (aq (gX n) (ae (aa 0) ah))) ah)))))
def jO:FnM:=aO 1 (ay (fX (aq (e9 25) (ae (aa 0) (ae (fC (.int 4)) ah))) (af leD (aq (gX 25) (ae (aa 0) ah)) (fC (.int 40)))))
def cM:FnM:=aO 1 (ak (fIf (bU (ax (af eqD (af ixD (aa 0) (fC (.int 0))) (fC (.str "put")))) (ax (af eqD (af ixD (aa 0) (fC (.int 0))) (fC (.str "got"))))) (ay (az .list ah)) aD) (ak (fIf (ax (af eqD (af ixD (aa 0) (fC (.int 0))) (fC (.str "row")))) (ay (fCB fT (ae (af ixD (aa 0) (fC (.int 1))) ah))) aD) (ay (fCB fT (ae (fSl (aa 0) (fP (fC (.int 1))) cL) ah)))))
def c6:Nat->FnM
 |0=>fun _ _=>none
 |n+1=>aO 1 (ak (fIf (bg (aq eJ (ae (aa 0) ah))) (ay (fCB fE (ae (aa 0) ah))) aD) (ak (fIf (bg (fUn (bw .str) (aa 0))) (ay (af aT (fC (.str "'")) (aa 0))) aD) (ay (af aT (af aT (fC (.str "(")) (af kE (fC (.str ",")) (bJ (bc (aa 0)) bG (aq (c6 n) (ae (aa 0) ah))))) (fC (.str ")"))))))
def gk:FnM:=aO 1 (ak (fIf (ax (af eqD (af ixD (aa 0) (fC (.int 0))) (fC (.str "put")))) (ay (az .list (ae (aq (c6 25) (ae (af ixD (aa 0) (fC (.int 1))) ah)) ah))) aD) (ak (fIf (ax (af eqD (af ixD (aa 0) (fC (.int 0))) (fC (.str "got")))) (ay (az .list (ae (fCB fE (ae (af ixD (aa 0) (fC (.int 1))) ah)) ah))) aD) (ak (fIf (ax (af eqD (af ixD (aa 0) (fC (.int 0))) (fC (.str "row")))) (ay (az .list (ae (fCB fE (ae (fCB a7 (ae (af ixD (aa 0) (fC (.int 1))) ah)) ah)) ah))) aD) (ay (az .list ah)))))
def eG:Nat->FnM
 |0=>fun _ _=>none
 |n+1=>aO 3 (ak (fV 1 (az .list (ae (af ixD (aa 0) (fC (.int 0))) ah)) (aq gk (ae (aa 0) ah))) (ak (bD 2 (bc (aq cM (ae (aa 0) ah))) (gK 1 (aq (eG n) (ae (aa 2) ah)))) (ay (aa 1))))
def fH:Nat->FnM
 |0=>fun _ _=>none
 |n+1=>aO 3 (ak (fIf (ax (af eqD (af ixD (aa 0) (fC (.int 0))) (fC (.str "fail")))) (ay (az .list (ae (af ixD (aa 0) (fC (.int 0))) (ae (af ixD (aa 0) (fC (.int 1))) ah)))) aD) (ak (fV 1 (az .list (ae (af ixD (aa 0) (fC (.int 0))) ah)) (aq (eG 25) (ae (af ixD (aa 0) (fC (.int 1))) ah))) (ak (bD 2 (bc (fSl (aa 0) (fP (fC (.int 2))) cL)) (gK 1 (aq (fH n) (ae (aa 2) ah)))) (ay (aa 1)))))
def jE:FnM:=aO 1 (ay (af eO (fC (.str " ")) (aq (fH 25) (ae (aa 0) ah))))
def gm:FnM:=aO 2 (ak (fIf (bU (bX (bg (aq eJ (ae (aa 0) ah)))) (bX (bg (aq eJ (ae (aa 1) ah))))) (ay (az .tuple (ae (fC (.str "fails")) (ae (fC (.str "kind")) ah)))) aD) (ay (az .tuple (ae (fC (.str "value")) (ae (b9 (ax (af ltD (aa 0) (aa 1))) (fC (.int 1)) (fC (.int 0))) ah)))))
def gu:FnM:=aO 1 (ay (b9 (bg (aq jO (ae (aa 0) ah))) (az .tuple (ae (fC (.str "value")) (ae (aa 0) ah))) (az .tuple (ae (fC (.str "fails")) (ae (fC (.str "great")) ah)))))
def jG:FnM:=aO 1 (ak (fIf (bg (aq eJ (ae (aa 0) ah))) (ay (az .tuple (ae (fC (.str "fails")) (ae (fC (.str "kind")) ah)))) aD) (ay (az .tuple (ae (fC (.str "value")) (ae (fCB a7 (ae (aa 0) ah)) ah)))))
def fM:FnM:=aO 2 (ak (fIf (bU (bX (bg (fUn (bw .tup) (aa 0)))) (bX (bg (aq eJ (ae (aa 1) ah))))) (ay (az .tuple (ae (fC (.str "fails")) (ae (fC (.str "kind")) ah)))) aD) (ak (fIf (bX (ax (gC leD ltD (fC (.int 0)) (aa 1) (fCB a7 (ae (aa 0) ah))))) (ay (az .tuple (ae (fC (.str "fails")) (ae (fC (.str "part")) ah)))) aD) (ay (az .tuple (ae (fC (.str "value")) (ae (af ixD (aa 0) (aa 1)) ah))))))
def gT:FnM:=aO 2 (ak (fIf (bU (bX (bg (aq eJ (ae (aa 0) ah)))) (bX (bg (aq eJ (ae (aa 1) ah))))) (ay (az .tuple (ae (fC (.str "fails")) (ae (fC (.str "kind")) ah)))) aD) (ay (aq gu (ae (af aT (aa 0) (aa 1)) ah))))
def fN:FnM:=aO 2 (ak (fIf (cz (bg (fUn (bw .str) (aa 0))) (bg (fUn (bw .str) (aa 1)))) (ay (aq gu (ae (af aT (aa 0) (aa 1)) ah))) aD) (ak (fIf (cz (bg (fUn (bw .tup) (aa 0))) (bg (fUn (bw .tup) (aa 1)))) (ay (aq gu (ae (af aT (aa 0) (aa 1)) ah))) aD) (ay (az .tuple (ae (fC (.str "fails")) (ae (fC (.str "kind")) ah))))))
def bi:FnM:=aO 2 (ak (fIf (ax (af eqD (aa 0) (fC (.str "row")))) (ay (aq gu (ae (fCB bF (ae (aa 1) ah)) ah))) aD) (ak (fIf (ax (af eqD (aa 0) (fC (.str "many")))) (ay (aq jG (ae (af ixD (aa 1) (fC (.int 0))) ah))) aD) (ak (fIf (ax (af eqD (aa 0) (fC (.str "part")))) (ay (aq fM (ae (af ixD (aa 1) (fC (.int 0))) (ae (af ixD (aa 1) (fC (.int 1))) ah)))) aD) (ak (fIf (ax (af eqD (aa 0) (fC (.str "sum")))) (ay (aq gT (ae (af ixD (aa 1) (fC (.int 0))) (ae (af ixD (aa 1) (fC (.int 1))) ah)))) aD) (ak (fIf (ax (af eqD (aa 0) (fC (.str "join")))) (ay (aq fN (ae (af ixD (aa 1) (fC (.int 0))) (ae (af ixD (aa 1) (fC (.int 1))) ah)))) aD) (ak (fIf (ax (af eqD (aa 0) (fC (.str "same")))) (ay (az .tuple (ae (fC (.str "value")) (ae (b9 (ax (af eqG (af ixD (aa 1) (fC (.int 0))) (af ixD (aa 1) (fC (.int 1))))) (fC (.int 1)) (fC (.int 0))) ah)))) aD) (ay (aq gm (ae (af ixD (aa 1) (fC (.int 0))) (ae (af ixD (aa 1) (fC (.int 1))) ah))))))))))
def dD:Nat->FnM
 |0=>fun _ _=>none
 |n+1=>aO 5 (ak (fIf (ax (af eqD (af ixD (aa 0) (fC (.int 0))) (fC (.str "put")))) (ay (az .tuple (ae (fC (.str "value")) (ae (af ixD (aa 0) (fC (.int 1))) ah)))) aD) (ak (fIf (ax (af eqD (af ixD (aa 0) (fC (.int 0))) (fC (.str "got")))) (ay (az .tuple (ae (fC (.str "value")) (ae (af ixD (aa 1) (af ixD (aa 0) (fC (.int 1)))) ah)))) aD) (ak (dj 2 ah) (ak (bD 3 (bc (aq cM (ae (aa 0) ah))) (ak (aE 4 (aq (dD n) (ae (aa 3) (ae (aa 1) ah)))) (ak (fIf (ax (af eqD (af ixD (aa 4) (fC (.int 0))) (fC (.str "fails")))) (ay (aa 4)) aD) (dO 2 (af ixD (aa 4) (fC (.int 1))))))) (ay (gD bi (ae (af ixD (aa 0) (fC (.int 0))) (ae (aa 2) ah))))))))
def cQ:Nat->FnM
 |0=>fun _ _=>none
 |n+1=>aO 3 (ak (fIf (ax (af eqD (af ixD (aa 0) (fC (.int 0))) (fC (.str "fail")))) (ay (az .tuple (ae (fC (.str "fails")) (ae (af ixD (aa 0) (fC (.int 1))) ah)))) aD) (ak (aE 2 (aq (dD 25) (ae (af ixD (aa 0) (fC (.int 1))) (ae (aa 1) ah)))) (ak (fIf (ax (af eqD (af ixD (aa 2) (fC (.int 0))) (fC (.str "fails")))) (ay (aa 2)) aD) (ak (fIf (ax (af eqD (af ixD (aa 0) (fC (.int 0))) (fC (.str "when")))) (ay (aq (cQ n) (ae (b9 (ax (af inG (af ixD (aa 2) (fC (.int 1))) (az .tuple (ae (fC (.int 0)) (ae (fC (.str "")) (ae (az .tuple ah) ah)))))) (af ixD (aa 0) (fC (.int 3))) (af ixD (aa 0) (fC (.int 2)))) (ae (aa 1) ah)))) aD) (ak (fIf (ax (af eqD (af ixD (aa 0) (fC (.int 0))) (fC (.str "say")))) (ay (az .tuple (ae (fC (.str "made")) (ae (af ixD (aa 2) (fC (.int 1))) ah)))) aD) (ak (fIf (bX (bg (aq iR (ae (af ixD (aa 2) (fC (.int 1))) ah)))) (ay (az .tuple (ae (fC (.str "fails")) (ae (fC (.str "name")) ah)))) aD) (ay (az .tuple (ae (af ixD (aa 0) (fC (.int 0))) (ae (af ixD (aa 2) (fC (.int 1))) (ae (af ixD (aa 0) (fC (.int 2))) ah)))))))))))
def iU:FnM:=aO 1 (ak (fIf (ax (af eqD (af ixD (aa 0) (fC (.int 0))) (fC (.str "made")))) (ay (az .tuple (ae (fC (.str "made")) (ae (aq (c6 25) (ae (af ixD (aa 0) (fC (.int 1))) ah)) ah)))) aD) (ak (fIf (ax (af eqD (af ixD (aa 0) (fC (.int 0))) (fC (.str "fails")))) (ay (aa 0)) aD) (ay (az .tuple (ae (fC (.str "wants")) (ae (af ixD (aa 0) (fC (.int 1))) ah))))))
def jH:FnM:=aO 3 (ak (aE 2 (fCB bF (ae (bJ (bc (af ixD (aa 1) (fC (.int 1)))) bG (az .tuple (ae (af ixD (aa 0) (fC (.int 0))) (ae (aq (c6 25) (ae (af ixD (aa 0) (fC (.int 1))) ah)) ah)))) ah))) (ay (az .tuple (ae (aa 0) (ae (aa 2) (ae (aq iU (ae (af ixD (aa 1) (fC (.int 2))) ah)) ah))))))
def kZ:FnM:=aO 3 (ak (cX 1) (ak (bD 2 (bc (aa 0)) (bL 1 (aa 2) (aq jH (ae (aa 2) (ae (af ixA (aa 0) (aa 2)) ah))))) (ay (aa 1))))
def jM:FnM:=aO 1 (ay (az .tuple (ae (az .tuple ah) (ae (az .tuple ah) (ae (aq (cQ 25) (ae (aa 0) (ae (az .tuple ah) ah))) ah)))))
def dP:FnM:=aO 1 (ay (b9 (ax (af inD (af ixD (af ixD (aa 0) (fC (.int 2))) (fC (.int 0))) (fC (.tuple [.str "want",.str "peek"])))) (af ixD (af ixD (aa 0) (fC (.int 2))) (fC (.int 1))) (fC .none)))
def iY:FnM:=aO 5 (ak (aE 2 (af ixD (aa 0) (fC (.int 2)))) (ak (aE 3 (af aT (af ixD (aa 0) (fC (.int 0))) (az .tuple (ae (aa 1) ah)))) (ak (aE 4 (b9 (ax (af eqD (af ixD (aa 2) (fC (.int 0))) (fC (.str "want")))) (af aT (af ixD (aa 0) (fC (.int 1))) (az .tuple (ae (az .tuple (ae (af ixD (aa 2) (fC (.int 1))) (ae (aa 1) ah))) ah))) (af ixD (aa 0) (fC (.int 1))))) (ay (az .tuple (ae (aa 3) (ae (aa 4) (ae (aq (cQ 25) (ae (af ixD (aa 2) (fC (.int 2))) (ae (aa 3) ah))) ah))))))))
def jR:FnM:=aO 2 (ak (bS (ax (af inA (aq dP (ae (aa 0) ah)) (aa 1))) (aE 0 (aq iY (ae (aa 0) (ae (af ixA (aa 1) (aq dP (ae (aa 0) ah))) ah)))) 100000) (ay (aa 0)))
def kY:FnM:=aO 7 (ak (je 1 (af ixD (aa 0) (fC (.int 0)))) (ak (cX 2) (ak (fW 3 4 (af ixD (aa 0) (fC (.int 1))) (bL 2 (aa 3) (aq jM (ae (aa 4) ah)))) (ak (aE 5 (fC (.bool true))) (ak (bS (bg (aa 5)) (ak (aE 6 (fCB a7 (ae (aa 1) ah))) (ak (bD 3 (bc (af ixD (aa 0) (fC (.int 1)))) (ak (bL 2 (aa 3) (fu (aq jR (ae (af ixA (aa 2) (aa 3)) (ae (aa 1) ah))))) (fIf (ax (af eqD (af ixD (af ixD (af ixA (aa 2) (aa 3)) (fC (.int 2))) (fC (.int 0))) (fC (.str "made")))) (bL 1 (aa 3) (af ixD (af ixD (af ixA (aa 2) (aa 3)) (fC (.int 2))) (fC (.int 1)))) aD))) (aE 5 (af gtD (fCB a7 (ae (aa 1) ah)) (aa 6))))) 100000) (ay (az .tuple (ae (aa 1) (ae (aa 2) ah)))))))))
def jN:FnM:=aO 1 (ay (aq kZ (ae (af ixD (aq kY (ae (aa 0) ah)) (fC (.int 1))) ah)))
def gW:FnM:=aO 5 (ak (cX 1) (ak (fW 2 3 (af ixD (aa 0) (fC (.int 0))) (bL 1 (aa 2) (az .tuple (ae (fC (.str "made")) (ae (aq (c6 25) (ae (aa 3) ah)) ah))))) (ak (fW 2 4 (aq jN (ae (aa 0) ah)) (bL 1 (aa 2) (af ixD (aa 4) (fC (.int 2))))) (ay (aa 1)))))
def iS:FnM:=aO 2 (ay (iD (aq gW (ae (aa 0) ah)) (aa 1) (fC (.tuple [.str "lacks"]))))
def gp:FnM:=aO 3 (ak (fIf (bU (ax (af cy (aa 2) (aa 1))) (bU (ax (af cy (aa 2) (aa 0))) (ax (af neD (af ixD (af ixA (aa 1) (aa 2)) (fC (.int 0))) (aq jE (ae (af ixA (aa 0) (aa 2)) ah)))))) (ay (fC .none)) aD) (ay (af ixD (af ixA (aa 1) (aa 2)) (fC (.int 1)))))
def kX:FnM:=aO 5 (ak (ip 2 3 (af ixD (aa 1) (fC (.int 1))) (ak (aE 4 (iD (aa 0) (af ixD (aa 3) (fC (.int 0))) (fC (.tuple [.str "lacks"])))) (fIf (ax (af neG (aa 4) (az .tuple (ae (fC (.str "made")) (ae (af ixD (aa 3) (fC (.int 1))) ah))))) (ay (az .tuple (ae (fC (.str "read")) (ae (aa 2) (ae (af ixD (aa 3) (fC (.int 0))) (ae (af ixD (aa 3) (fC (.int 1))) (ae (aa 4) ah))))))) aD))) (ak (fIf (cz (ax (af eqD (af ixD (af ixD (aa 1) (fC (.int 2))) (fC (.int 0))) (fC (.str "wants")))) (ax (af eqD (af ixD (iD (aa 0) (af ixD (af ixD (aa 1) (fC (.int 2))) (fC (.int 1))) (fC (.tuple [.str "lacks"]))) (fC (.int 0))) (fC (.str "made"))))) (ay (az .tuple (ae (fC (.str "wanted")) (ae (af ixD (af ixD (aa 1) (fC (.int 2))) (fC (.int 1))) (ae (af ixD (af ixA (aa 0) (af ixD (af ixD (aa 1) (fC (.int 2))) (fC (.int 1)))) (fC (.int 1))) ah))))) aD) (ay (fC .none))))
def gy:FnM:=aO 4 (ak (aE 3 (aq gp (ae (af ixD (aa 0) (fC (.int 1))) (ae (aa 1) (ae (aa 2) ah))))) (ay (fX (af jc (aa 3) (fC .none)) (af isD (aq kX (ae (aq gW (ae (aa 0) ah)) (ae (aa 3) ah))) (fC .none)))))
def bN:FnM:=ku 2 (ak (fIf (ax (af eqD (fCB a7 (ae (aa 0) ah)) (fC (.int 0)))) (mP (ae (fC (.int 0)) (ae (fC (.int 0)) (ae (aa 1) ah)))) aD) (mP (ae (af ixD (aa 0) (af fZ (aa 1) (fCB a7 (ae (aa 0) ah)))) (ae (fC (.int 0)) (ae (aa 1) ah)))))
def aP:FnM:=aO 4 (ak (kQ (aa 0) (fC (.int 1)) (af aT (af ixD (aa 0) (fC (.int 1))) (fC (.int 1)))) (ak (fIf (ax (af geD (af ixD (aa 0) (fC (.int 0))) (af eU (fC (.int 10)) (fC (.int 18))))) (ak (aE 2 (af fZ (af ixD (aa 0) (fC (.int 0))) (aa 1))) (ak (kQ (aa 0) (fC (.int 0)) (af qK (af ixD (aa 0) (fC (.int 0))) (aa 1))) (ay (aa 2)))) aD) (ak (aE 3 (af aT (af aT (af fZ (af ixD (aa 0) (fC (.int 0))) (fC (.int 2147483647))) (af d9 (fC (.int 40692)) (af ixD (aa 0) (fC (.int 1))))) (af d9 (fC (.int 7919)) (af ixD (aa 0) (fC (.int 2)))))) (ak (aE 3 (af fZ (af d9 (af aT (aa 3) (fC (.int 12345))) (fC (.int 48271))) (fC (.int 2147483647)))) (ay (af fZ (af fZ (af d9 (af fZ (af aT (af d9 (aa 3) (fC (.int 69621))) (af ixD (aa 0) (fC (.int 1)))) (fC (.int 2147483399))) (fC (.int 16807))) (fC (.int 2147483563))) (aa 1)))))))
def iP:FnM:=aO 8 (ak (aE 2 (az .list (ae (fC (.str "made")) (ae (fC (.str "told")) (ae (fC (.str "say")) (ae (fC (.str "want")) (ae (fC (.str "fails")) (ae (fC (.str "got")) (ae (fC (.str "put")) (ae (fC (.str "lacks")) ah)))))))))) (ak (aE 3 (fC (.str "abcdefghijklmnopqrstuvwxyz"))) (ak (dj 4 ah) (ak (bD 5 (d6 (aa 1)) (ak (aE 6 (aq aP (ae (aa 0) (ae (fC (.int 5)) ah)))) (ak (aE 7 (af ixD (aa 3) (aq aP (ae (aa 0) (ae (fC (.int 26)) ah))))) (ak (fIf (ax (af eqD (aa 6) (fC (.int 0)))) (aE 7 (af ixD (aa 2) (aq aP (ae (aa 0) (ae (fC (.int 8)) ah))))) aD) (ak (fIf (cz (ax (af eqD (aa 6) (fC (.int 1)))) (ax (af gtD (fCB a7 (ae (aa 4) ah)) (fC (.int 0))))) (aE 7 (fSl (af aT (af ixD (aa 4) (fUn fF (fC (.int 1)))) (aa 7)) cL (fP (fC (.int 8))))) aD) (ak (fIf (ax (af eqD (aa 6) (fC (.int 2)))) (aE 7 (af d9 (af aT (aa 7) (af ixD (aa 3) (aq aP (ae (aa 0) (ae (fC (.int 26)) ah))))) (fC (.int 4)))) aD) (ak (fIf (ax (af inD (aa 7) (aa 4))) (aE 7 (af ixD (bJ (bc (aa 3)) (ax (af dY (aa 0) (aa 5))) (aa 0)) (fC (.int 0)))) aD) (kR 4 (aq aP (ae (aa 0) (ae (af aT (fCB a7 (ae (aa 4) ah)) (fC (.int 1))) ah))) (aa 7))))))))) (ay (aa 4))))))
def fL:FnM:=aO 4 (ak (aE 2 (az .list (ae (fC (.int 0)) (ae (fC (.int 1)) (ae (fC (.str "")) (ae (az .tuple ah) (ae (fC (.int 2)) (ae (fC (.str "a")) (ae (az .tuple (ae (fC (.int 0)) ah)) (ae (az .tuple (ae (fC (.int 1)) (ae (fC (.str "")) ah))) (ae (fUn fF (fC (.int 7))) (ae (af eU (fC (.int 10)) (fC (.int 18))) (ae (fC (.str "x-0")) (ae (az .tuple (ae (az .tuple ah) (ae (az .tuple (ae (fC (.str "b")) (ae (fC (.int 3)) ah))) ah))) (ae (az .tuple (ae (fC (.int 0)) (ae (fC (.int 1)) (ae (fC (.int 2)) ah)))) (ae (af eS (fC (.int 1)) (af eU (fC (.int 10)) (fC (.int 18)))) ah)))))))))))))))) (ak (aE 3 (aq aP (ae (aa 0) (ae (fC (.int 18)) ah)))) (ak (fIf (ax (af ltD (aa 3) (fC (.int 14)))) (ay (af ixD (aa 2) (aa 3))) aD) (ak (fIf (ax (af eqD (aa 3) (fC (.int 14)))) (ay (aq aP (ae (aa 0) (ae (af eU (fC (.int 10)) (fC (.int 18))) ah)))) aD) (ay (af ixD (aa 1) (aq aP (ae (aa 0) (ae (fCB a7 (ae (aa 1) ah)) ah)))))))))
def eE:Nat->FnM
 |0=>fun _ _=>none
 |n+1=>aO 3 (ak (aE 1 (b9 (bg (fUn (bw .tup) (aa 0))) (bJ (bc (aa 0)) bG (aq (eE n) (ae (aa 0) ah))) (az .list ah))) (ak (aE 2 (af aT (fCB intD (ae (fUn (bw .tup) (aa 0)) ah)) (af kz (bJ (bc (aa 1)) bG (af ixD (aa 0) (fC (.int 0)))) (fC (.int 0))))) (ay (az .tuple (ae (aa 2) (ae (af aT (fC (.int 1)) (fCB jx (ae (bJ (bc (aa 1)) bG (af ixD (aa 0) (fC (.int 1)))) ah))) ah))))))
def du:FnM:=aO 4 (ak (c4 1 2 (aq (eE 25) (ae (aa 0) ah))) (ak (fIf (bg (fUn (bw .int) (aa 0))) (ay (b9 (ax (af leD (fCB kW (ae (aa 0) ah)) (af eU (fC (.int 10)) (fC (.int 18))))) (az .tuple (ae (fC (.str "value")) (ae (aa 0) ah))) (az .tuple (ae (fC (.str "fails")) (ae (fC (.str "great")) ah))))) aD) (ak (aE 3 (af leD (fCB a7 (ae (aa 0) ah)) (b9 (bg (fUn (bw .str) (aa 0))) (fC (.int 20)) (fC (.int 8))))) (ay (b9 (cz (bg (aa 3)) (cz (ax (af leD (aa 1) (fC (.int 4)))) (ax (af leD (aa 2) (fC (.int 40)))))) (az .tuple (ae (fC (.str "value")) (ae (aa 0) ah))) (az .tuple (ae (fC (.str "fails")) (ae (fC (.str "great")) ah))))))))
def cO:Nat->FnM
 |0=>fun _ _=>none
 |n+1=>aO 1 (ak (fIf (bg (fUn (bw .int) (aa 0))) (ay (fCB fE (ae (aa 0) ah))) aD) (ak (fIf (bg (fUn (bw .str) (aa 0))) (ay (af aT (fC (.str "'")) (aa 0))) aD) (ay (af aT (af aT (fC (.str "(")) (af kE (fC (.str ",")) (bJ (bc (aa 0)) bG (aq (cO n) (ae (aa 0) ah))))) (fC (.str ")"))))))
def bE:FnM:=aO 4 (ak (fIf (ax (af eqD (aa 0) (fC (.str "same")))) (ay (az .tuple (ae (fC (.str "value")) (ae (fCB intD (ae (af eqG (aa 1) (aa 2)) ah)) ah)))) aD) (ak (fIf (ax (af eqD (aa 0) (fC (.str "part")))) (ak (fIf (bU (bX (bg (fUn (bw .tup) (aa 1)))) (bX (bg (fUn (bw .int) (aa 2))))) (ay (az .tuple (ae (fC (.str "fails")) (ae (fC (.str "kind")) ah)))) aD) (ay (b9 (ax (gC leD ltD (fC (.int 0)) (aa 2) (fCB a7 (ae (aa 1) ah)))) (az .tuple (ae (fC (.str "value")) (ae (af ixD (aa 1) (aa 2)) ah))) (az .tuple (ae (fC (.str "fails")) (ae (fC (.str "part")) ah)))))) aD) (ak (aE 3 (az .list (ae (fUn (bw .int) (aa 1)) (ae (fUn (bw .int) (aa 2)) (ae (fUn (bw .str) (aa 1)) (ae (fUn (bw .str) (aa 2)) ah)))))) (ak (fIf (ax (af eqD (aa 0) (fC (.str "join")))) (ak (fIf (bU (ax (af neG (fSl (aa 3) cL (fP (fC (.int 2)))) (az .list (ae (fC (.bool false)) (ae (fC (.bool false)) ah))))) (ax (af neD (af ixD (aa 3) (fC (.int 2))) (af ixD (aa 3) (fC (.int 3)))))) (ay (az .tuple (ae (fC (.str "fails")) (ae (fC (.str "kind")) ah)))) aD) (ay (aq du (ae (af aT (aa 1) (aa 2)) ah)))) aD) (ak (fIf (ax (af neG (fSl (aa 3) cL (fP (fC (.int 2)))) (az .list (ae (fC (.bool true)) (ae (fC (.bool true)) ah))))) (ay (az .tuple (ae (fC (.str "fails")) (ae (fC (.str "kind")) ah)))) aD) (ay (b9 (ax (af eqD (aa 0) (fC (.str "sum")))) (aq du (ae (af aT (aa 1) (aa 2)) ah)) (az .tuple (ae (fC (.str "value")) (ae (fCB intD (ae (af ltD (aa 1) (aa 2)) ah)) ah))))))))))
def cE:Nat->FnM
 |0=>fun _ _=>none
 |n+1=>aO 5 (ak (fIf (ax (af eqD (af ixD (aa 0) (fC (.int 0))) (fC (.str "put")))) (ay (az .tuple (ae (fC (.str "value")) (ae (af ixD (aa 0) (fC (.int 1))) ah)))) aD) (ak (fIf (ax (af eqD (af ixD (aa 0) (fC (.int 0))) (fC (.str "got")))) (ay (az .tuple (ae (fC (.str "value")) (ae (af ixD (aa 1) (af ixD (aa 0) (fC (.int 1)))) ah)))) aD) (ak (dj 2 ah) (ak (bD 3 (bc (b9 (ax (af eqD (af ixD (aa 0) (fC (.int 0))) (fC (.str "row")))) (af ixD (aa 0) (fC (.int 1))) (fSl (aa 0) (fP (fC (.int 1))) cL))) (ak (aE 4 (aq (cE n) (ae (aa 3) (ae (aa 1) ah)))) (ak (fIf (ax (af eqD (af ixD (aa 4) (fC (.int 0))) (fC (.str "fails")))) (ay (aa 4)) aD) (dO 2 (af ixD (aa 4) (fC (.int 1))))))) (ak (fIf (ax (af eqD (af ixD (aa 0) (fC (.int 0))) (fC (.str "row")))) (ay (aq du (ae (fCB bF (ae (aa 2) ah)) ah))) aD) (ak (fIf (ax (af eqD (af ixD (aa 0) (fC (.int 0))) (fC (.str "many")))) (ay (b9 (bg (fUn (bw .int) (af ixD (aa 2) (fC (.int 0))))) (az .tuple (ae (fC (.str "fails")) (ae (fC (.str "kind")) ah))) (az .tuple (ae (fC (.str "value")) (ae (fCB a7 (ae (af ixD (aa 2) (fC (.int 0))) ah)) ah))))) aD) (ay (aq bE (ae (af ixD (aa 0) (fC (.int 0))) (ae (af ixD (aa 2) (fC (.int 0))) (ae (af ixD (aa 2) (fC (.int 1))) ah)))))))))))
def gP:FnM:=aO 1 (ak (fIf (bU (bX (bg (fUn (bw .str) (aa 0)))) (bX (ax (gC leD leD (fC (.int 1)) (fCB a7 (ae (aa 0) ah)) (fC (.int 8)))))) (ay (fC (.bool false))) aD) (ay (fCB jD (ae (bJ (bc (aa 0)) bG (af inD (aa 0) (fC (.str "abcdefghijklmnopqrstuvwxyz")))) ah))))
def fK:FnM:=aO 5 (ak (dj 2 ah) (ak (dj 3 ah) (ak (bS (ax (af inD (af ixD (aa 0) (fC (.int 0))) (az .tuple (ae (fC (.str "want")) (ae (fC (.str "peek")) (ae (fC (.str "when")) ah)))))) (ak (aE 4 (gD (cE 25) (ae (af ixD (aa 0) (fC (.int 1))) (ae (aa 2) ah)))) (ak (fIf (ax (af eqD (af ixD (aa 4) (fC (.int 0))) (fC (.str "fails")))) (ay (az .tuple (ae (fCB bF (ae (aa 3) ah)) (ae (aa 4) ah)))) aD) (fIf (ax (af eqD (af ixD (aa 0) (fC (.int 0))) (fC (.str "when")))) (aE 0 (b9 (ax (af inG (af ixD (aa 4) (fC (.int 1))) (az .tuple (ae (fC (.int 0)) (ae (fC (.str "")) (ae (az .tuple ah) ah)))))) (af ixD (aa 0) (fC (.int 3))) (af ixD (aa 0) (fC (.int 2))))) (fIf (bX (bg (aq gP (ae (af ixD (aa 4) (fC (.int 1))) ah)))) (ay (az .tuple (ae (fCB bF (ae (aa 3) ah)) (ae (az .tuple (ae (fC (.str "fails")) (ae (fC (.str "name")) ah))) ah)))) (fIf (ax (af cy (af ixD (aa 4) (fC (.int 1))) (aa 1))) (ay (az .tuple (ae (fCB bF (ae (aa 3) ah)) (ae (az .tuple (ae (fC (.str "wants")) (ae (af ixD (aa 4) (fC (.int 1))) ah))) ah)))) (ak (dO 2 (af ixA (aa 1) (af ixD (aa 4) (fC (.int 1))))) (ak (fIf (ax (af eqD (af ixD (aa 0) (fC (.int 0))) (fC (.str "want")))) (dO 3 (az .tuple (ae (af ixD (aa 4) (fC (.int 1))) (ae (aq (cO 25) (ae (af ixA (aa 1) (af ixD (aa 4) (fC (.int 1)))) ah)) ah)))) aD) (aE 0 (af ixD (aa 0) (fC (.int 2))))))))))) 100000) (ak (fIf (ax (af eqD (af ixD (aa 0) (fC (.int 0))) (fC (.str "fail")))) (ay (az .tuple (ae (fCB bF (ae (aa 3) ah)) (ae (az .tuple (ae (fC (.str "fails")) (ae (af ixD (aa 0) (fC (.int 1))) ah))) ah)))) aD) (ak (aE 4 (gD (cE 25) (ae (af ixD (aa 0) (fC (.int 1))) (ae (aa 2) ah)))) (ak (fIf (ax (af eqD (af ixD (aa 4) (fC (.int 0))) (fC (.str "fails")))) (ay (az .tuple (ae (fCB bF (ae (aa 3) ah)) (ae (aa 4) ah)))) aD) (ay (az .tuple (ae (fCB bF (ae (aa 3) ah)) (ae (az .tuple (ae (fC (.str "made")) (ae (aq (cO 25) (ae (af ixD (aa 4) (fC (.int 1))) ah)) ah))) (ae (af ixD (aa 4) (fC (.int 1))) ah)))))))))))
def eZ:FnM:=aO 5 (ak (je 1 (af ixD (aa 0) (fC (.int 0)))) (ak (aE 2 (fUn fF (fC (.int 1)))) (ak (bS (ax (af ltD (aa 2) (fCB a7 (ae (aa 1) ah)))) (ak (aE 2 (fCB a7 (ae (aa 1) ah))) (bD 3 (bc (af ixD (aa 0) (fC (.int 1)))) (fIf (ax (af cy (aa 3) (aa 1))) (ak (aE 4 (fu (aq fK (ae (af ixA (af ixD (aa 0) (fC (.int 1))) (aa 3)) (ae (aa 1) ah))))) (fIf (ax (af eqD (af ixD (af ixD (aa 4) (fC (.int 1))) (fC (.int 0))) (fC (.str "made")))) (bL 1 (aa 3) (af ixD (aa 4) (fC (.int 2)))) aD)) aD))) 100000) (ay (aa 1)))))
def eC:Nat->FnM
 |0=>fun _ _=>none
 |n+1=>aO 3 (ak (fIf (ax (af eqD (af ixD (aa 0) (fC (.int 0))) (fC (.str "put")))) (ay (af aT (fC (.str "put ")) (aq (cO 25) (ae (af ixD (aa 0) (fC (.int 1))) ah)))) aD) (ak (fIf (ax (af eqD (af ixD (aa 0) (fC (.int 0))) (fC (.str "got")))) (ay (af aT (fC (.str "got ")) (fCB fE (ae (af ixD (aa 0) (fC (.int 1))) ah)))) aD) (ak (dj 1 (ae (af ixD (aa 0) (fC (.int 0))) ah)) (ak (aE 2 (fSl (aa 0) (fP (fC (.int 1))) cL)) (ak (fIf (ax (af eqD (af ixD (aa 0) (fC (.int 0))) (fC (.str "row")))) (ak (dO 1 (fCB fE (ae (fCB a7 (ae (af ixD (aa 0) (fC (.int 1))) ah)) ah))) (aE 2 (af ixD (aa 0) (fC (.int 1))))) aD) (ay (af eO (fC (.str " ")) (af aT (aa 1) (bJ (bc (aa 2)) bG (aq (eC n) (ae (aa 0) ah)))))))))))
def dr:Nat->FnM
 |0=>fun _ _=>none
 |n+1=>aO 2 (ak (fIf (ax (af eqD (af ixD (aa 0) (fC (.int 0))) (fC (.str "fail")))) (ay (af aT (fC (.str "fail ")) (af ixD (aa 0) (fC (.int 1))))) aD) (ak (aE 1 (az .list (ae (af ixD (aa 0) (fC (.int 0))) (ae (aq (eC 25) (ae (af ixD (aa 0) (fC (.int 1))) ah)) ah)))) (ay (af eO (fC (.str " ")) (af aT (aa 1) (bJ (bc (fSl (aa 0) (fP (fC (.int 2))) cL)) bG (aq (dr n) (ae (aa 0) ah))))))))
def cV:Nat->FnM
 |0=>fun _ _=>none
 |n+1=>aO 7 (ak (aE 4 (aq aP (ae (aa 0) (ae (fC (.int 12)) ah)))) (ak (fIf (cz (ax (af ltD (aa 4) (fC (.int 4)))) (ax (af gtD (aa 1) (fC (.int 0))))) (ay (az .tuple (ae (fC (.str "got")) (ae (aq aP (ae (aa 0) (ae (aa 1) ah))) ah)))) aD) (ak (fIf (bU (ax (af eqD (aa 3) (fC (.int 0)))) (ax (af ltD (aa 4) (fC (.int 7))))) (ay (az .tuple (ae (fC (.str "put")) (ae (aq fL (ae (aa 0) (ae (aa 2) ah))) ah)))) aD) (ak (aE 5 (aq (cV n) (ae (aa 0) (ae (aa 1) (ae (aa 2) (ae (af eS (aa 3) (fC (.int 1))) ah)))))) (ak (fIf (ax (af eqD (aa 4) (fC (.int 7)))) (ay (az .tuple (ae (fC (.str "many")) (ae (aa 5) ah)))) aD) (ak (aE 6 (aq (cV n) (ae (aa 0) (ae (aa 1) (ae (aa 2) (ae (af eS (aa 3) (fC (.int 1))) ah)))))) (ak (fIf (ax (af eqD (aa 4) (fC (.int 8)))) (ay (az .tuple (ae (fC (.str "row")) (ae (fSl (az .tuple (ae (aa 5) (ae (aa 6) ah))) cL (fP (aq aP (ae (aa 0) (ae (fC (.int 3)) ah))))) ah)))) aD) (ay (az .tuple (ae (af ixD (az .list (ae (fC (.str "part")) (ae (fC (.str "sum")) (ae (fC (.str "join")) (ae (fC (.str "same")) (ae (fC (.str "less")) ah)))))) (aq aP (ae (aa 0) (ae (fC (.int 5)) ah)))) (ae (aa 5) (ae (aa 6) ah))))))))))))
def iN:FnM:=aO 4 (ak (aE 3 (aq aP (ae (aa 0) (ae (fC (.int 10)) ah)))) (ak (fIf (ax (af ltD (aa 3) (fC (.int 7)))) (ay (az .tuple (ae (fC (.str "put")) (ae (af ixD (aa 2) (aq aP (ae (aa 0) (ae (fCB a7 (ae (aa 2) ah)) ah)))) ah)))) aD) (ak (fIf (ax (af eqD (aa 3) (fC (.int 7)))) (ay (az .tuple (ae (fC (.str "join")) (ae (az .tuple (ae (fC (.str "put")) (ae (af ixD (aa 2) (aq aP (ae (aa 0) (ae (fCB a7 (ae (aa 2) ah)) ah)))) ah))) (ae (az .tuple (ae (fC (.str "put")) (ae (fC (.str "")) ah))) ah))))) aD) (ay (aq (cV 25) (ae (aa 0) (ae (aa 1) (ae (aa 2) (ae (fC (.int 1)) ah)))))))))
def c5:Nat->FnM
 |0=>fun _ _=>none
 |n+1=>aO 10 (ak (aE 6 (aq aP (ae (aa 0) (ae (fC (.int 8)) ah)))) (ak (fIf (cz (ax (af ltD (aa 6) (fC (.int 4)))) (ax (af gtD (aa 3) (fC (.int 0))))) (ak (aE 7 (b9 (cz (bg (aa 5)) (ax (af eqD (aq aP (ae (aa 0) (ae (fC (.int 3)) ah))) (fC (.int 0))))) (fC (.str "peek")) (fC (.str "want")))) (ak (aE 8 (aq iN (ae (aa 0) (ae (aa 1) (ae (aa 2) ah))))) (ay (az .tuple (ae (aa 7) (ae (aa 8) (ae (aq (c5 n) (ae (aa 0) (ae (af aT (aa 1) (fC (.int 1))) (ae (aa 2) (ae (af eS (aa 3) (fC (.int 1))) (ae (aa 4) (ae (aa 5) ah))))))) ah))))))) aD) (ak (fIf (cz (ax (af inD (aa 6) (az .tuple (ae (fC (.int 4)) (ae (fC (.int 5)) ah))))) (ax (af gtD (aa 4) (fC (.int 0))))) (ak (aE 8 (aq (cV 25) (ae (aa 0) (ae (aa 1) (ae (aa 2) (ae (fC (.int 1)) ah)))))) (ak (aE 9 (aq (c5 n) (ae (aa 0) (ae (aa 1) (ae (aa 2) (ae (aa 3) (ae (af eS (aa 4) (fC (.int 1))) (ae (aa 5) ah)))))))) (ay (az .tuple (ae (fC (.str "when")) (ae (aa 8) (ae (aa 9) (ae (aq (c5 n) (ae (aa 0) (ae (aa 1) (ae (aa 2) (ae (aa 3) (ae (af eS (aa 4) (fC (.int 1))) (ae (aa 5) ah))))))) ah)))))))) aD) (ak (fIf (cz (ax (af eqD (aa 6) (fC (.int 6)))) (ax (af eqD (aq aP (ae (aa 0) (ae (fC (.int 2)) ah))) (fC (.int 0))))) (ay (az .tuple (ae (fC (.str "fail")) (ae (af ixD (aa 2) (aq aP (ae (aa 0) (ae (fCB a7 (ae (aa 2) ah)) ah)))) ah)))) aD) (ay (az .tuple (ae (fC (.str "say")) (ae (aq (cV 25) (ae (aa 0) (ae (aa 1) (ae (aa 2) (ae (fC (.int 1)) ah))))) ah))))))))
def eY:FnM:=aO 5 (ak (c4 3 4 (af ixD (az .list (ae (az .tuple (ae (fC (.int 4)) (ae (fC (.int 1)) ah))) (ae (az .tuple (ae (fC (.int 2)) (ae (fC (.int 2)) ah))) (ae (az .tuple (ae (fC (.int 1)) (ae (fC (.int 1)) ah))) (ae (az .tuple (ae (fC (.int 3)) (ae (fC (.int 1)) ah))) (ae (az .tuple (ae (fC (.int 0)) (ae (fC (.int 1)) ah))) ah)))))) (aq aP (ae (aa 0) (ae (fC (.int 5)) ah))))) (ay (aq (c5 25) (ae (aa 0) (ae (fC (.int 0)) (ae (aa 1) (ae (aa 3) (ae (aa 4) (ae (aa 2) ah)))))))))
def jK:FnM:=aO 9 (ak (cX 4) (ak (cX 5) (ak (bD 6 (d6 (fCB a7 (ae (aa 2) ah))) (jf 7 bN (ae (aa 0) (ae (af aT (aa 1) (aa 6)) ah)) (ak (aE 8 (aq aP (ae (aa 7) (ae (fC (.int 8)) ah)))) (fIf (ax (af ltD (aa 8) (fC (.int 2)))) (bL 4 (af ixD (aa 2) (aa 6)) (aq fL (ae (aa 7) (ae (aa 2) ah)))) (fIf (ax (af ltD (aa 8) (fC (.int 7)))) (bL 5 (af ixD (aa 2) (aa 6)) (aq eY (ae (aa 7) (ae (aa 2) (ae (aa 3) ah))))) aD))))) (ay (az .tuple (ae (aa 4) (ae (aa 5) ah)))))))
def iO:FnM:=aO 8 (ak (aE 4 (af ixD (aa 2) (aq aP (ae (aa 0) (ae (fCB a7 (ae (aa 2) ah)) ah))))) (ak (ki 5 (bJ (bc (af ixD (aa 1) (fC (.int 0)))) (ax (af neD (aa 0) (aa 5))) (az .tuple (ae (aa 0) (ae (af ixA (af ixD (aa 2) (fC (.int 0))) (aa 0)) ah))))) (ak (ki 6 (bJ (bc (af ixD (aa 1) (fC (.int 1)))) (ax (af neD (aa 0) (aa 5))) (az .tuple (ae (aa 0) (ae (af ixA (af ixD (aa 2) (fC (.int 1))) (aa 0)) ah))))) (ak (aE 7 (aq aP (ae (aa 0) (ae (fC (.int 5)) ah)))) (ak (fIf (ax (af ltD (aa 7) (fC (.int 2)))) (bL 5 (aa 4) (aq fL (ae (aa 0) (ae (aa 2) ah)))) (fIf (ax (af ltD (aa 7) (fC (.int 4)))) (bL 6 (aa 4) (aq eY (ae (aa 0) (ae (aa 2) (ae (aa 3) ah))))) aD)) (ay (az .tuple (ae (aa 5) (ae (aa 6) ah)))))))))
def jJ:FnM:=aO 12 (ak (cX 4) (ak (aE 5 (bJ (bc (aa 2)) bG (aq eZ (ae (aa 0) ah)))) (ak (bD 6 (d6 (fCB a7 (ae (aa 3) ah))) (jf 7 bN (ae (aa 0) (ae (af aT (aa 1) (aa 6)) ah)) (ak (aE 8 (aq aP (ae (aa 7) (ae (fCB a7 (ae (aa 2) ah)) ah)))) (ak (aE 9 (af ixD (aa 5) (aa 8))) (ak (fIf (ax (af eqD (aq aP (ae (aa 7) (ae (fC (.int 4)) ah))) (fC (.int 0)))) (ak (cX 9) (bD 10 (bc (aa 3)) (fIf (ax (af gtD (aq aP (ae (aa 7) (ae (fC (.int 4)) ah))) (fC (.int 0)))) (bL 9 (aa 10) (aq fL (ae (aa 7) (ae (aa 3) ah)))) aD))) aD) (fIf (cz (ax (af inA (af ixD (aa 3) (aa 6)) (af ixD (af ixD (aa 2) (aa 8)) (fC (.int 1))))) (ax (af gtD (aq aP (ae (aa 7) (ae (fC (.int 5)) ah))) (fC (.int 0))))) (ak (aE 11 (af ixA (af ixD (af ixD (aa 2) (aa 8)) (fC (.int 1))) (af ixD (aa 3) (aa 6)))) (bL 4 (af ixD (aa 3) (aa 6)) (fu (az .tuple (ae (aq (dr 25) (ae (aa 11) ah)) (ae (af aT (az .tuple (ae (af ixD (aa 3) (aa 6)) ah)) (fSl (aq fK (ae (aa 11) (ae (aa 9) ah))) cL (fP (fC (.int 2))))) ah)))))) aD)))))) (ay (aa 4)))))
def gq:FnM:=aO 3 (ak (fIf (ax (af inA (aa 2) (af ixD (aa 0) (fC (.int 0))))) (ay (az .tuple (ae (fC (.str "made")) (ae (aq (cO 25) (ae (af ixA (af ixD (aa 0) (fC (.int 0))) (aa 2)) ah)) ah)))) aD) (ak (fIf (ax (af inA (aa 2) (af ixD (aa 0) (fC (.int 1))))) (ay (af ixD (aq fK (ae (af ixA (af ixD (aa 0) (fC (.int 1))) (aa 2)) (ae (aa 1) ah))) (fC (.int 1)))) aD) (ay (az .tuple (ae (fC (.str "lacks")) ah)))))
def fJ:FnM:=aO 7 (ak (fIf (bU (ax (af cy (aa 3) (aa 2))) (bU (ax (af cy (aa 3) (af ixD (aa 0) (fC (.int 1))))) (ax (af neD (af ixD (af ixA (aa 2) (aa 3)) (fC (.int 0))) (aq (dr 25) (ae (af ixA (af ixD (aa 0) (fC (.int 1))) (aa 3)) ah)))))) (ay (fC (.bool false))) aD) (ak (aE 4 (af ixD (af ixA (aa 2) (aa 3)) (fC (.int 1)))) (ak (jr 5 6 (bc (af ixD (aa 4) (fC (.int 1)))) (fIf (bU (ax (af cy (aa 5) (aa 1))) (ax (af neD (aq (cO 25) (ae (af ixA (aa 1) (aa 5)) ah)) (aa 6)))) (ay (fC (.bool false))) aD)) (ay (nI (af neD (af ixD (af ixD (aa 4) (fC (.int 2))) (fC (.int 0))) (fC (.str "wants"))) (af cy (af ixD (af ixD (aa 4) (fC (.int 2))) (fC (.int 1))) (aa 1)))))))
def ni:FnM:=aO 11 (ak (aE 1 (b6 iP bN (ae (aa 0) (ae (fC (.int 0)) ah)) (ae (af aT (fC (.int 3)) (b6 aP bN (ae (aa 0) (ae (fC (.int 1)) ah)) (ae (fC (.int 5)) ah))) ah))) (ak (aE 2 (af eqD (b6 aP bN (ae (aa 0) (ae (fC (.int 2)) ah)) (ae (fC (.int 3)) ah)) (fC (.int 0)))) (ak (aE 3 (aq jK (ae (aa 0) (ae (fC (.int 3)) (ae (aa 1) (ae (aa 2) ah)))))) (ak (dj 4 (ae (aa 3) ah)) (ak (bD 5 (d6 (af aT (fC (.int 1)) (b6 aP bN (ae (aa 0) (ae (fC (.int 10)) ah)) (ae (fC (.int 4)) ah)))) (aE 3 (b6 iO bN (ae (aa 0) (ae (af aT (fC (.int 11)) (aa 5)) ah)) (ae (aa 3) (ae (aa 1) (ae (aa 2) ah)))))) (ak (dO 4 (aa 3)) (nJ 4 (ak (aE 6 (aq jJ (ae (aa 0) (ae (fC (.int 16)) (ae (aa 4) (ae (aa 1) ah)))))) (ak (aE 7 (az .tuple (ae (gG (af ixD (aa 3) (fC (.int 0)))) (ae (gG (af ixD (aa 3) (fC (.int 1)))) ah)))) (ak (aE 8 (aq eZ (ae (aa 3) ah))) (ak (bD 9 (bc (af aT (aa 1) (az .list (ae (fC (.str "zzzz")) ah)))) (fIf (bU (ax (af neD (aa 9) (fC (.str "zzzz")))) (ax (af dY (aa 9) (aa 1)))) (ak (aE 10 (aq iS (ae (aa 7) (ae (aa 9) ah)))) (ak (fIf (bU (bX (bg (fUn (bw .tup) (aa 10)))) (ax (af neG (aa 10) (aq gq (ae (aa 3) (ae (aa 8) (ae (aa 9) ah))))))) (ay (fC (.bool false))) aD) (ak (aE 10 (aq gy (ae (aa 7) (ae (gG (aa 6)) (ae (aa 9) ah))))) (fIf (bU (bX (bg (fUn (bw .bl) (aa 10)))) (ax (af neG (aa 10) (aq fJ (ae (aa 3) (ae (aa 8) (ae (aa 6) (ae (aa 9) ah)))))))) (ay (fC (.bool false))) aD)))) aD)) (ay (af eqP (aa 7) (aa 3))))))))))))))
def rA(n:Nat):FS:=(gK 1 (aq (eG n) (ae (aa 2) ah)))
theorem yE(n:Nat):eG (n+1)=aO 3 (ak (fV 1 (az .list (ae (af ixD (aa 0) (fC (.int 0))) ah)) (aq gk (ae (aa 0) ah))) (ak (bD 2 (bc (aq cM (ae (aa 0) ah))) (rA n)) (ay (aa 1)))):=rfl
def rp(n:Nat):FS:=(gK 1 (aq (fH n) (ae (aa 2) ah)))
theorem yA(n:Nat):fH (n+1)=aO 3 (ak (fIf (ax (af eqD (af ixD (aa 0) (fC (.int 0))) (fC (.str "fail")))) (ay (az .list (ae (af ixD (aa 0) (fC (.int 0))) (ae (af ixD (aa 0) (fC (.int 1))) ah)))) aD) (ak (fV 1 (az .list (ae (af ixD (aa 0) (fC (.int 0))) ah)) (aq (eG 25) (ae (af ixD (aa 0) (fC (.int 1))) ah))) (ak (bD 2 (bc (fSl (aa 0) (fP (fC (.int 2))) cL)) (rp n)) (ay (aa 1))))):=rfl
def nR:FS:=(bL 1 (aa 2) (az .tuple (ae (fC (.str "made")) (ae (aq (c6 25) (ae (aa 3) ah)) ah))))
def nQ:FS:=(bL 1 (aa 2) (af ixD (aa 4) (fC (.int 2))))
theorem yP:gW=aO 5 (ak (cX 1) (ak (fW 2 3 (af ixD (aa 0) (fC (.int 0))) nR) (ak (fW 2 4 (aq jN (ae (aa 0) ah)) nQ) (ay (aa 1))))):=rfl
def oh:FS:=(ak (aE 6 (aq aP (ae (aa 0) (ae (fC (.int 5)) ah)))) (ak (aE 7 (af ixD (aa 3) (aq aP (ae (aa 0) (ae (fC (.int 26)) ah))))) (ak (fIf (ax (af eqD (aa 6) (fC (.int 0)))) (aE 7 (af ixD (aa 2) (aq aP (ae (aa 0) (ae (fC (.int 8)) ah))))) aD) (ak (fIf (cz (ax (af eqD (aa 6) (fC (.int 1)))) (ax (af gtD (fCB a7 (ae (aa 4) ah)) (fC (.int 0))))) (aE 7 (fSl (af aT (af ixD (aa 4) (fUn fF (fC (.int 1)))) (aa 7)) cL (fP (fC (.int 8))))) aD) (ak (fIf (ax (af eqD (aa 6) (fC (.int 2)))) (aE 7 (af d9 (af aT (aa 7) (af ixD (aa 3) (aq aP (ae (aa 0) (ae (fC (.int 26)) ah))))) (fC (.int 4)))) aD) (ak (fIf (ax (af inD (aa 7) (aa 4))) (aE 7 (af ixD (bJ (bc (aa 3)) (ax (af dY (aa 0) (aa 5))) (aa 0)) (fC (.int 0)))) aD) (kR 4 (aq aP (ae (aa 0) (ae (af aT (fCB a7 (ae (aa 4) ah)) (fC (.int 1))) ah))) (aa 7))))))))
theorem zP:iP=aO 8 (ak (aE 2 (az .list (ae (fC (.str "made")) (ae (fC (.str "told")) (ae (fC (.str "say")) (ae (fC (.str "want")) (ae (fC (.str "fails")) (ae (fC (.str "got")) (ae (fC (.str "put")) (ae (fC (.str "lacks")) ah)))))))))) (ak (aE 3 (fC (.str "abcdefghijklmnopqrstuvwxyz"))) (ak (dj 4 ah) (ak (bD 5 (d6 (aa 1)) oh) (ay (aa 4)))))):=rfl
def gn:FS:=(ak (aE 4 (gD (cE 25) (ae (af ixD (aa 0) (fC (.int 1))) (ae (aa 2) ah)))) (ak (fIf (ax (af eqD (af ixD (aa 4) (fC (.int 0))) (fC (.str "fails")))) (ay (az .tuple (ae (fCB bF (ae (aa 3) ah)) (ae (aa 4) ah)))) aD) (fIf (ax (af eqD (af ixD (aa 0) (fC (.int 0))) (fC (.str "when")))) (aE 0 (b9 (ax (af inG (af ixD (aa 4) (fC (.int 1))) (az .tuple (ae (fC (.int 0)) (ae (fC (.str "")) (ae (az .tuple ah) ah)))))) (af ixD (aa 0) (fC (.int 3))) (af ixD (aa 0) (fC (.int 2))))) (fIf (bX (bg (aq gP (ae (af ixD (aa 4) (fC (.int 1))) ah)))) (ay (az .tuple (ae (fCB bF (ae (aa 3) ah)) (ae (az .tuple (ae (fC (.str "fails")) (ae (fC (.str "name")) ah))) ah)))) (fIf (ax (af cy (af ixD (aa 4) (fC (.int 1))) (aa 1))) (ay (az .tuple (ae (fCB bF (ae (aa 3) ah)) (ae (az .tuple (ae (fC (.str "wants")) (ae (af ixD (aa 4) (fC (.int 1))) ah))) ah)))) (ak (dO 2 (af ixA (aa 1) (af ixD (aa 4) (fC (.int 1))))) (ak (fIf (ax (af eqD (af ixD (aa 0) (fC (.int 0))) (fC (.str "want")))) (dO 3 (az .tuple (ae (af ixD (aa 4) (fC (.int 1))) (ae (aq (cO 25) (ae (af ixA (aa 1) (af ixD (aa 4) (fC (.int 1)))) ah)) ah)))) aD) (aE 0 (af ixD (aa 0) (fC (.int 2)))))))))))
def dS:FS:=(fIf (ax (af cy (aa 3) (aa 1))) (ak (aE 4 (fu (aq fK (ae (af ixA (af ixD (aa 0) (fC (.int 1))) (aa 3)) (ae (aa 1) ah))))) (fIf (ax (af eqD (af ixD (af ixD (aa 4) (fC (.int 1))) (fC (.int 0))) (fC (.str "made")))) (bL 1 (aa 3) (af ixD (aa 4) (fC (.int 2)))) aD)) aD)
def lC:FS:=(ak (aE 2 (fCB a7 (ae (aa 1) ah))) (bD 3 (bc (af ixD (aa 0) (fC (.int 1)))) dS))
theorem Ax:eZ=aO 5 (ak (je 1 (af ixD (aa 0) (fC (.int 0)))) (ak (aE 2 (fUn fF (fC (.int 1)))) (ak (bS (ax (af ltD (aa 2) (fCB a7 (ae (aa 1) ah)))) lC 100000) (ay (aa 1))))):=rfl
def iT:FS:=(ak (aE 8 (aq aP (ae (aa 7) (ae (fC (.int 8)) ah)))) (fIf (ax (af ltD (aa 8) (fC (.int 2)))) (bL 4 (af ixD (aa 2) (aa 6)) (aq fL (ae (aa 7) (ae (aa 2) ah)))) (fIf (ax (af ltD (aa 8) (fC (.int 7)))) (bL 5 (af ixD (aa 2) (aa 6)) (aq eY (ae (aa 7) (ae (aa 2) (ae (aa 3) ah))))) aD)))
def oG:FS:=(jf 7 bN (ae (aa 0) (ae (af aT (aa 1) (aa 6)) ah)) iT)
theorem Ay:jK=aO 9 (ak (cX 4) (ak (cX 5) (ak (bD 6 (d6 (fCB a7 (ae (aa 2) ah))) oG) (ay (az .tuple (ae (aa 4) (ae (aa 5) ah))))))):=rfl
def jU:FS:=(fIf (ax (af gtD (aq aP (ae (aa 7) (ae (fC (.int 4)) ah))) (fC (.int 0)))) (bL 9 (aa 10) (aq fL (ae (aa 7) (ae (aa 3) ah)))) aD)
def jT:FS:=(ak (aE 8 (aq aP (ae (aa 7) (ae (fCB a7 (ae (aa 2) ah)) ah)))) (ak (aE 9 (af ixD (aa 5) (aa 8))) (ak (fIf (ax (af eqD (aq aP (ae (aa 7) (ae (fC (.int 4)) ah))) (fC (.int 0)))) (ak (cX 9) (bD 10 (bc (aa 3)) jU)) aD) (fIf (cz (ax (af inA (af ixD (aa 3) (aa 6)) (af ixD (af ixD (aa 2) (aa 8)) (fC (.int 1))))) (ax (af gtD (aq aP (ae (aa 7) (ae (fC (.int 5)) ah))) (fC (.int 0))))) (ak (aE 11 (af ixA (af ixD (af ixD (aa 2) (aa 8)) (fC (.int 1))) (af ixD (aa 3) (aa 6)))) (bL 4 (af ixD (aa 3) (aa 6)) (fu (az .tuple (ae (aq (dr 25) (ae (aa 11) ah)) (ae (af aT (az .tuple (ae (af ixD (aa 3) (aa 6)) ah)) (fSl (aq fK (ae (aa 11) (ae (aa 9) ah))) cL (fP (fC (.int 2))))) ah)))))) aD))))
def oF:FS:=(jf 7 bN (ae (aa 0) (ae (af aT (aa 1) (aa 6)) ah)) jT)
theorem Aw:jJ=aO 12 (ak (cX 4) (ak (aE 5 (bJ (bc (aa 2)) bG (aq eZ (ae (aa 0) ah)))) (ak (bD 6 (d6 (fCB a7 (ae (aa 3) ah))) oF) (ay (aa 4))))):=rfl
def gR:FS:=(fIf (bU (ax (af cy (aa 5) (aa 1))) (ax (af neD (aq (cO 25) (ae (af ixA (aa 1) (aa 5)) ah)) (aa 6)))) (ay (fC (.bool false))) aD)
theorem zl:fJ=aO 7 (ak (fIf (bU (ax (af cy (aa 3) (aa 2))) (bU (ax (af cy (aa 3) (af ixD (aa 0) (fC (.int 1))))) (ax (af neD (af ixD (af ixA (aa 2) (aa 3)) (fC (.int 0))) (aq (dr 25) (ae (af ixA (af ixD (aa 0) (fC (.int 1))) (aa 3)) ah)))))) (ay (fC (.bool false))) aD) (ak (aE 4 (af ixD (af ixA (aa 2) (aa 3)) (fC (.int 1)))) (ak (jr 5 6 (bc (af ixD (aa 4) (fC (.int 1)))) gR) (ay (nI (af neD (af ixD (af ixD (aa 4) (fC (.int 2))) (fC (.int 0))) (fC (.str "wants"))) (af cy (af ixD (af ixD (aa 4) (fC (.int 2))) (fC (.int 1))) (aa 1))))))):=rfl
def lM:FS:=(aE 3 (b6 iO bN (ae (aa 0) (ae (af aT (fC (.int 11)) (aa 5)) ah)) (ae (aa 3) (ae (aa 1) (ae (aa 2) ah)))))
def iV:FS:=(fIf (bU (ax (af neD (aa 9) (fC (.str "zzzz")))) (ax (af dY (aa 9) (aa 1)))) (ak (aE 10 (aq iS (ae (aa 7) (ae (aa 9) ah)))) (ak (fIf (bU (bX (bg (fUn (bw .tup) (aa 10)))) (ax (af neG (aa 10) (aq gq (ae (aa 3) (ae (aa 8) (ae (aa 9) ah))))))) (ay (fC (.bool false))) aD) (ak (aE 10 (aq gy (ae (aa 7) (ae (gG (aa 6)) (ae (aa 9) ah))))) (fIf (bU (bX (bg (fUn (bw .bl) (aa 10)))) (ax (af neG (aa 10) (aq fJ (ae (aa 3) (ae (aa 8) (ae (aa 6) (ae (aa 9) ah)))))))) (ay (fC (.bool false))) aD)))) aD)
theorem Bt:ni=aO 11 (ak (aE 1 (b6 iP bN (ae (aa 0) (ae (fC (.int 0)) ah)) (ae (af aT (fC (.int 3)) (b6 aP bN (ae (aa 0) (ae (fC (.int 1)) ah)) (ae (fC (.int 5)) ah))) ah))) (ak (aE 2 (af eqD (b6 aP bN (ae (aa 0) (ae (fC (.int 2)) ah)) (ae (fC (.int 3)) ah)) (fC (.int 0)))) (ak (aE 3 (aq jK (ae (aa 0) (ae (fC (.int 3)) (ae (aa 1) (ae (aa 2) ah)))))) (ak (dj 4 (ae (aa 3) ah)) (ak (bD 5 (d6 (af aT (fC (.int 1)) (b6 aP bN (ae (aa 0) (ae (fC (.int 10)) ah)) (ae (fC (.int 4)) ah)))) lM) (ak (dO 4 (aa 3)) (nJ 4 (ak (aE 6 (aq jJ (ae (aa 0) (ae (fC (.int 16)) (ae (aa 4) (ae (aa 1) ah)))))) (ak (aE 7 (az .tuple (ae (gG (af ixD (aa 3) (fC (.int 0)))) (ae (gG (af ixD (aa 3) (fC (.int 1)))) ah)))) (ak (aE 8 (aq eZ (ae (aa 3) ah))) (ak (bD 9 (bc (af aT (aa 1) (az .list (ae (fC (.str "zzzz")) ah)))) iV) (ay (af eqP (aa 7) (aa 3)))))))))))))):=rfl
end G
namespace K1
open PySem
structure Sh(d:PyData)(k n:Nat):Prop where
 sh:d.showable=true
 lv:d.leavesShort 200=true
 dp:d.depth<=k
 wt:d.weight<=n
theorem Sh.mono{d:PyData}{k n k' n':Nat}(h:Sh d k n)(hk:k<=k')(hn:n<=n'):Sh d k' n':=⟨h.sh,h.lv,Nat.le_trans h.dp hk,Nat.le_trans h.wt hn⟩
theorem Sh.int{i:Int}(h:i.natAbs<10^40):Sh (.int i) 0 200:=by
 have l:i.natAbs.log2<150:=by
  by_cases h0:i.natAbs=0
  .rw[h0];decide
  .exact(Nat.log2_lt h0).mpr (Nat.lt_trans h (by decide))
 refine⟨?_,?_,Nat.le_refl _,?_⟩
 .show decide (i.natAbs.log2<1920)=true
  exact decide_eq_true (by omega)
 .show decide ((PyData.shown (.int i)).length<=200)=true
  refine decide_eq_true ?_;have e:=int_text_length_le10 (k:=40) (by decide) h;show (Str.ofString (toString i)).length<=200;rw[ofString_length];omega
 .show (if i == 0 then 0 else i.natAbs.log2+1)<=200
  split <;> omega
theorem Sh.str{x:Str}{n:Nat}(h:∀c∈x.cps.toList,c<128)(hn:x.length<=n):Sh (.str x) 0 n:=by
 refine⟨rfl,?_,Nat.le_refl _,hn⟩;show (x.cps.toList.all fun c=>decide (c<16^8))=true;exact List.all_eq_true.mpr fun c hc=>decide_eq_true (Nat.lt_trans (h c hc) (by decide))
structure Shs(ds:List PyData)(k n:Nat):Prop where
 sh:PyData.showableAll ds=true
 lv:PyData.leavesShortAll 200 ds=true
 dp:PyData.depthAll ds<=k
 wt:PyData.weightAll ds<=n
theorem Shs.nil(k n:Nat):Shs [] k n:=⟨rfl,rfl,Nat.zero_le _,Nat.zero_le _⟩
theorem Shs.cons{d:PyData}{ds:List PyData}{k n m:Nat}(h:Sh d k n)(t:Shs ds k m):Shs (d::ds) k (n+1+m):=by
 refine⟨?_,?_,?_,?_⟩
 .show (d.showable&&PyData.showableAll ds)=true
  rw[h.sh,t.sh];rfl
 .show (d.leavesShort 200&&PyData.leavesShortAll 200 ds)=true
  rw[h.lv,t.lv];rfl
 .show max d.depth (PyData.depthAll ds)<=k
  exact Nat.max_le.mpr ⟨h.dp,t.dp⟩
 .show d.weight+1+PyData.weightAll ds<=n+1+m
  have:=h.wt;have:=t.wt;omega
theorem Shs.of:∀{ds:List PyData}{k:Nat}{f:PyData->Nat},(∀d∈ds,Sh d k (f d))->Shs ds k ((ds.map fun d=>f d+1).sum)
 |[],k,f,_=>Shs.nil _ _
 |d::r,k,f,h=>by
  have q:=Shs.of (ds:=r) (f:=f) fun x hx=>h x (List.mem_cons_of_mem _ hx);have z:=Shs.cons (h d List.mem_cons_self) q;simpa using z
theorem Sh.tuple{ds:List PyData}{k n:Nat}(h:Shs ds k n):Sh (.tuple ds) (k+1) n:=⟨h.sh,h.lv,Nat.succ_le_succ h.dp,h.wt⟩
theorem il{s x:Str}(hs:∀c∈s.cps.toList,c<128)(h:has s x=true):∀c∈x.cps.toList,c<128:=fun c hc=>
 hs c (of_decide_eq_true (List.all_eq_true.mp h c hc))
theorem ji:∀c∈TXT.cps.toList,c<128:=by decide +kernel
theorem F4:∀c∈LET.cps.toList,c<128:=by decide +kernel
theorem qg:∀(n:Nat) (d:PyData),aN n d=true->Sh d n (201*(aJ n d).toNat)/\1<=aJ n d
 |0,d,h=>by
  cases d with
  |int i=>
   have h':=of_decide_eq_true (p:=(if i<0 then -i else i)<=10^18) h;refine⟨(Sh.int ?_).mono (Nat.le_refl _) (by show 200<=201*(1:Int).toNat;decide),Int.le_refl 1⟩
   have:i.natAbs<=10^18:=by split at h' <;> omega
   exact Nat.lt_of_le_of_lt this (by decide)
  |str x=>
   have h':(decide (x.length<=20)&&has TXT x)=true:=h;rw[Bool.and_eq_true] at h';have:=of_decide_eq_true h'.1;exact⟨(Sh.str (n:=20) (il ji h'.2) this).mono (Nat.le_refl _) (by show 20<=201*(1:Int).toNat;decide),Int.le_refl 1⟩
  |_=>cases h
 |n+1,d,h=>by
  cases d with
  |int i=>
   have h':=of_decide_eq_true (p:=(if i<0 then -i else i)<=10^18) h;refine⟨(Sh.int ?_).mono (Nat.zero_le _) (by show 200<=201*(1:Int).toNat;decide),Int.le_refl 1⟩
   have:i.natAbs<=10^18:=by split at h' <;> omega
   exact Nat.lt_of_le_of_lt this (by decide)
  |str x=>
   have h':(decide (x.length<=20)&&has TXT x)=true:=h;rw[Bool.and_eq_true] at h';have:=of_decide_eq_true h'.1;exact⟨(Sh.str (n:=20) (il ji h'.2) this).mono (Nat.zero_le _) (by show 20<=201*(1:Int).toNat;decide),Int.le_refl 1⟩
  |tuple ds=>
   have h':(decide (ds.length<=8)&&ds.all (aN n))=true:=h;rw[Bool.and_eq_true] at h';have ha:=List.all_eq_true.mp h'.2;have q:=Shs.of (ds:=ds) (k:=n) (f:=fun x=>201*(aJ n x).toNat) fun x hx=>(qg n x (ha x hx)).1
   have key:∀l:List PyData,(∀x∈l,1<=aJ n x)->0<=(l.map (aJ n)).sum/\(l.map fun x=>201*(aJ n x).toNat+1).sum<=201*((l.map (aJ n)).sum).toNat+l.length:=by
    intro l
    induction l with
    |nil=>intro _;exact⟨by simp,by simp⟩
    |cons x r ih=>
     intro hx;have h1:=hx x List.mem_cons_self;have h2:=ih fun y hy=>hx y (List.mem_cons_of_mem _ hy);simp only[List.map_cons,List.sum_cons,List.length_cons];omega
   have kk:=key ds fun x hx=>(qg n x (ha x hx)).2;have hl:=of_decide_eq_true h'.1;have e:aJ (n+1) (.tuple ds)=1+(ds.map (aJ n)).sum:=rfl;refine⟨(Sh.tuple q).mono (Nat.le_refl _) ?_,?_⟩
   .rw[e];omega
   .rw[e];omega
  |_=>cases h
end K1
namespace K1
open PySem
def Good(d:PyData):Prop:=Sh d 60 60000
end K1
namespace G
open PySem PySem.Spec PyProof.Rows L2 D
open K1 (has LET TXT single aN aJ lsz isName aF tdp aX ldp)
mutual
def smB:PyData->Bool
 |.str x=>decide (x.length<=60000)&&x.cps.toList.all fun c=>decide (c<128)
 |.tuple ds=>gH ds
 |_=>true
def gH:List PyData->Bool
 |[]=>true
 |d::r=>smB d&&gH r
end
def Sm(d:PyData):Prop:=smB d=true
theorem Sm.both{x:Str}(h:Sm (.str x)):x.length<=60000/\∀c∈x.cps.toList,c<128:=by
 have h':(decide (x.length<=60000)&&x.cps.toList.all fun c=>decide (c<128))=true:=by
  have:smB (.str x)=true:=h;rw[smB] at this;exact this
 rw[Bool.and_eq_true,List.all_eq_true] at h';exact⟨of_decide_eq_true h'.1,fun c hc=>of_decide_eq_true (h'.2 c hc)⟩
theorem Sm.str{x:Str}(h:Sm (.str x)):x.cps.size<=60000:=h.both.1
theorem Sm.mkS{x:Str}(h:x.length<=60000)(h2:∀c∈x.cps.toList,c<128):Sm (.str x):=by
 show smB (.str x)=true;rw[smB,Bool.and_eq_true,List.all_eq_true];exact⟨decide_eq_true h,fun c hc=>decide_eq_true (h2 c hc)⟩
theorem tL:∀{ds:List PyData}{d:PyData},gH ds=true->d∈ds->smB d=true
 |e::r,d,h,hd=>by
  have h':(smB e&&gH r)=true:=by simpa[gH] using h
  rw[Bool.and_eq_true] at h'
  rcases List.mem_cons.mp hd with z|z
  .rw[z];exact h'.1
  .exact tL h'.2 z
theorem Sm.part{ds:List PyData}{d:PyData}(h:Sm (.tuple ds))(hd:d∈ds):Sm d:=tL (by simpa[Sm,smB] using h) hd
theorem uz:∀{ds:List PyData},(∀d∈ds,Sm d)->gH ds=true
 |[],_=>by simp[gH]
 |d::r,h=>by
  have h1:smB d=true:=h d List.mem_cons_self;simp[gH,h1,uz (ds:=r) fun x hx=>h x (List.mem_cons_of_mem _ hx)]
theorem Sm.tup{ds:List PyData}(h:∀d∈ds,Sm d):Sm (.tuple ds):=by simp[Sm,smB,uz h]
def whole:PyData->Bool
 |.int _=>true
 |_=>false
theorem i4(x:PyData)(T:Tp):eJ [.d x] T=some (.bool (whole x),T):=by cases x <;> rfl
theorem sN(y x:Str):(D.signs x).all (kc y)=has y x:=by
 unfold D.signs has;rw[List.all_map]
 congr 1
 funext c;exact BI y c
theorem xQ{x y:Str}(T:Tp)(h:x.length<=sizeLine):gU [.d (.str x),.d (.str y)] T=some (.bool (has y x),T):=by
 have hc:bC bG (af inD (aa 0) (aa 2)) [some (.d (.str x)),some (.d (.str y))] (D.signs x) T=some ((D.signs x).map fun d=>.bool (kc y d),T):=eK fun d hd=>by
  obtain⟨c,_,rfl⟩:=sM hd;rfl
 simp[gU,h,hc,sN]
theorem Cb{d:PyData}(T:Tp)(h:Sm d):jI [.d d] T=some (.bool (single d),T):=by
 cases d with
 |str x=>
  have hz:x.length<=sizeLine:=Nat.le_trans h.str (by decide);have hh:∀T,gU [.d (.str x),.d (.str "abcdefghijklmnopqrstuvwxyz0123456789-")] T=some (.bool (has TXT x),T):=fun T=>xQ T hz;have e:single (.str x)=(decide (x.length<=20)&&has TXT x):=rfl;have hi:bY .str .str=true:=rfl
  by_cases hk:x.length<=20
  .have hk':(x.length:Int)<=20:=by omega
   simp[jI,i4,whole,hh,hz,hi,e,hk,hk']
  .have hk':¬(x.length:Int)<=20:=by omega
   simp[jI,i4,whole,hh,hz,hi,e,hk,hk']
 |_=>rfl
theorem mJ{d:PyData}(h:kd d=.tup):∃ds,d=.tuple ds:=by cases d <;> first|exact⟨_,rfl⟩|cases h
theorem uO{d:PyData}(h:kd d≠.tup):bY (kd d) .tup=false:=by
 revert h
 cases kd d <;> simp[bY]
theorem rO{n:Nat}{d:PyData}(h:kd d≠.tup):aN n d=single d:=by cases d <;> first|(cases n <;> rfl)|exact absurd rfl h
theorem rZ{n:Nat}{d:PyData}(h:kd d≠.tup):aJ n d=1:=by cases d <;> first|(cases n <;> rfl)|exact absurd rfl h
theorem Hl{d:PyData}(h:tdp 0 d=true):kd d≠.tup:=by
 intro z
 cases d <;> first|cases h;done|cases z
theorem mK:bY .tup .tup=true:=rfl
theorem vL:∀(n k:Nat) (d:PyData) (T:Tp),Sm d->n<k->e9 k [.d d,.d (.int n)] T=some (.bool (aN n d),T)
 |n,0,d,T,_,hk=>absurd hk (Nat.not_lt_zero _)
 |n,k+1,d,T,hg,hk=>by
  by_cases ht:kd d=.tup
  .obtain⟨ds,rfl⟩:=mJ ht
   cases n with
   |zero=>simp[e9,mK,aN]
   |succ n=>
    have e:aN (n+1) (.tuple ds)=(decide (ds.length<=8)&&ds.all (aN n)):=rfl
    have h0:¬((n+1:Nat):Int)=0:=by omega
    have h0':¬(n:Int)+1=0:=by omega
    by_cases h8:ds.length<=8
    .have h8':¬(8:Int)<(ds.length:Int):=by omega
     have hs:((n+1:Nat):Int)-1=(n:Int):=by omega
     have hc:bC bG (aq (e9 k) (ae (aa 0) (ae (af eS (aa 2) (fC (.int 1))) ah))) [some (.d (.tuple ds)),some (.d (.int ((n+1:Nat):Int)))] ds T=some (ds.map fun x=>.bool (aN n x),T):=eK fun x hx=>by
      have:=vL n k x T (hg.part hx) (by omega);simp[hs,this]
     simp[e9,mK,e,h0,h0',h8,h8'] at hc ⊢;simp[hc]
    .have h8':(8:Int)<(ds.length:Int):=by omega
     simp[e9,mK,e,h0,h0',h8,h8']
  .simp[e9,uO ht,rO ht,Cb T hg]
theorem wX:∀(n k:Nat) (d:PyData) (T:Tp),tdp n d=true->n<k->gX k [.d d] T=some (.int (aJ n d),T)
 |n,0,d,T,_,hk=>absurd hk (Nat.not_lt_zero _)
 |n,k+1,d,T,hg,hk=>by
  by_cases ht:kd d=.tup
  .cases n with
   |zero=>exact absurd ht (Hl hg)
   |succ n=>
    obtain⟨ds,rfl⟩:=mJ ht;have hg':ds.all (tdp n)=true:=hg;have e:aJ (n+1) (.tuple ds)=1+(ds.map (aJ n)).sum:=rfl
    have hc:bC bG (aq (gX k) (ae (aa 0) ah)) [some (.d (.tuple ds))] ds T=some (ds.map fun x=>.int (aJ n x),T):=eK fun x hx=>by
     have:=wX n k x T (List.all_eq_true.mp hg' x hx) (by omega);simp[this]
    simp[gX,mK,e,hc]
  .simp[gX,uO ht,rZ ht]
theorem DZ{d:PyData}(T:Tp)(h:Sm d):jO [.d d] T=some (.bool (aF d),T):=by
 have h1:=vL 4 25 d T h (by decide);have h1':e9 25 [.d d,.d (.int 4)] T=some (.bool (aN 4 d),T):=h1;have e:aF d=(aN 4 d&&decide (aJ 4 d<=40)):=rfl
 cases hb:aN 4 d with
 |false=>simp[jO,h1',e,hb]
 |true=>
  have h2:=wX 4 25 d T (K1.tw 4 d hb) (by decide);simp[jO,h1',h2,e,hb]
end G
namespace D
open PySem PySem.Spec PyProof.Rows L2
def cd(x:Str):List Nat:=x.cps.toList
theorem gE{x y:Str}(h:cd x=cd y):x=y:=by
 obtain⟨x⟩:=x;obtain⟨y⟩:=y;have h':x.toList=y.toList:=h;exact congrArg Str.mk (Array.toList_inj.mp h')
theorem fm(x:Str):(cd x).length=x.length:=Array.length_toList
theorem ir(x y:Str):cd (x++y)=cd x++cd y:=cps_toList_append x y
theorem sQ{α:Type}(xs:List α)(a:Nat):∀k:Nat,(List.range k).filterMap (fun m=>xs[a+m]?)=(xs.drop a).take k
 |0=>by simp
 |k+1=>by
  rw[List.range_succ,List.filterMap_append,sQ xs a k,List.take_add_one]
  congr 1
  simp only[List.filterMap_cons,List.filterMap_nil,List.getElem?_drop]
  cases xs[a+k]? <;> rfl
theorem tM{x:Str}{i j:Int}(h0:0<=i)(h1:0<=j):cd (Txt.slice x (some i) (some j))=((cd x).drop i.toNat).take (j.toNat-i.toNat):=by
 have hl:x.cps.toList.length=x.length:=Array.length_toList
 have e:Builtin.Str.strSliceIndices (some i) (some j) 1 x.length=(List.range ((min j.toNat x.length)-(min i.toNat x.length))).map fun k=>min i.toNat x.length+k:=by
  unfold Builtin.Str.strSliceIndices sliceRange;simp only[show (1:Int)>0 by decide,if_true,show ¬i<0 by omega,show ¬j<0 by omega,if_false]
  have ea:max 0 (min i (x.length:Int))=((min i.toNat x.length:Nat):Int):=by omega
  have eb:max 0 (min j (x.length:Int))=((min j.toNat x.length:Nat):Int):=by omega
  rw[ea,eb]
  have ec:(if ((min i.toNat x.length:Nat):Int)<((min j.toNat x.length:Nat):Int) then (((min j.toNat x.length:Nat):Int)-((min i.toNat x.length:Nat):Int)+1-1) / 1 else 0).toNat=(min j.toNat x.length)-(min i.toNat x.length):=by
   split
   .rw[Int.ediv_one];omega
   .omega
  rw[ec];refine List.map_congr_left fun k _=>?_;omega
 have pk:(Builtin.Str.strSliceIndices (some i) (some j) 1 x.length).filterMap (x.cps[·]?)=(x.cps.toList.drop (min i.toNat x.length)).take ((min j.toNat x.length)-(min i.toNat x.length)):=by
  rw[e,List.filterMap_map,←sQ]
  congr 1
  funext m;simp
 have fin:(x.cps.toList.drop (min i.toNat x.length)).take ((min j.toNat x.length)-(min i.toNat x.length))=((cd x).drop i.toNat).take (j.toNat-i.toNat):=by
  unfold cd
  by_cases hi:i.toNat<=x.length
  .have e1:min i.toNat x.length=i.toNat:=by omega
   rw[e1]
   by_cases hj:j.toNat<=x.length
   .have e2:min j.toNat x.length=j.toNat:=by omega
    rw[e2]
   .have e2:min j.toNat x.length=x.length:=by omega
    rw[e2,List.take_of_length_le (by rw[List.length_drop,hl];omega),List.take_of_length_le (by rw[List.length_drop,hl];omega)]
  .have e1:min i.toNat x.length=x.length:=by omega
   rw[e1,List.drop_eq_nil_of_le (by omega),List.drop_eq_nil_of_le (by omega)];simp
 unfold Txt.slice;split
 .rename_i h
  have h':(Builtin.Str.strSliceIndices (some i) (some j) 1 x.length).length=x.length:=by simpa using h
  rw[e,List.length_map,List.length_range] at h';rw[←fin];show x.cps.toList=_
  by_cases hz:x.length=0
  .have:x.cps.toList=[]:=List.length_eq_zero_iff.mp (by omega)
   rw[this];simp
  .have e1:min i.toNat x.length=0:=by omega
   have e2:min j.toNat x.length=x.length:=by omega
   rw[e1,e2,List.drop_zero,Nat.sub_zero,List.take_of_length_le (by omega)]
 .rw[←fin,←pk]
  rfl
def bq(c:List Nat):List (List Nat)->List Nat
 |[]=>[]
 |[x]=>x
 |x::y::r=>x++c++bq c (y::r)
theorem pJ(z:Str):∀ys:List Str,cd (Str.join z ys)=bq (cd z) (ys.map cd)
 |[]=>rfl
 |[x]=>by
  show cd (Str.join z [x])=cd x;simp[Str.join]
 |x::y::r=>by
  have ih:=pJ z (y::r);show cd ((x++z)++Str.join z (y::r))=_;rw[ir,ir,ih];rfl
theorem jL(c x:List Nat)(r:List (List Nat)):bq c (x::r)=x++(r.map (c++·)).flatten:=by
 induction r generalizing x with
 |nil=>simp[bq]
 |cons y r ih=>
  show x++c++bq c (y::r)=_;rw[ih y];simp
end D
namespace G
open PySem PySem.Spec PyProof.Rows L2 D
open K1 (has LET TXT single aN aJ lsz isName aF tdp aX ldp)
def mk(l:List Nat):Str:=⟨l.toArray⟩
theorem d8(l:List Nat):cd (mk l)=l:=by simp[cd,mk]
theorem xq(x:Str):mk (cd x)=x:=gE (d8 _)
theorem c8(l:List Nat):(mk l).length=l.length:=by simp[mk,Str.length]
def dg(m:Nat):List Nat:=(Nat.toDigits 10 m).map Char.toNat
theorem xD(m:Nat):NumText.AllDigits (dg m):=fun c hc=>by
 obtain⟨ch,hch,e⟩:=List.mem_map.mp hc;rw[←e];exact digit_range (Nat.isDigit_of_mem_toDigits (by decide) (by decide) hch)
theorem wN{m:Nat}(h:m<=10^18):(dg m).length<=19:=by
 unfold dg;rw[List.length_map];exact toDigits_len_pow (by decide) (by decide) (Nat.lt_of_le_of_lt h (by decide))
def nc:Int->List Nat
 |.ofNat m=>dg m
 |.negSucc m=>45::dg (m+1)
theorem GI(i:Int):cd (Str.ofString (toString i))=nc i:=by
 cases i with
 |ofNat m=>exact W.KIN.signs_num m
 |negSucc m=>
  have e:toString (Int.negSucc m)="-"++toString (m+1):=rfl;unfold cd;rw[e,signs_ofString];show ("-"++Nat.repr (m+1)).toList.map Char.toNat=_;rw[String.toList_append,List.map_append,Nat.toList_repr];rfl
theorem CZ(i:Int):∀c∈nc i,c=45\/(48<=c/\c<=57):=by
 cases i with
 |ofNat m=>exact fun c hc=>.inr (xD m c hc)
 |negSucc m=>
  intro c hc
  rcases List.mem_cons.mp hc with h|h
  .exact .inl h
  .exact .inr (xD _ c h)
theorem n8{i:Int}(h:single (.int i)=true):i.natAbs<=10^18:=by
 have h':(if i<0 then -i else i)<=10^18:=of_decide_eq_true h
 have e:((10:Int)^18)=1000000000000000000:=by decide
 have e2:((10:Nat)^18)=1000000000000000000:=by decide
 rw[e] at h';rw[e2]
 split at h' <;> omega
theorem vY{i:Int}(h:single (.int i)=true):(nc i).length<=20:=by
 have h:=n8 h
 cases i with
 |ofNat m=>
  have:=wN (m:=m) h;show (dg m).length<=20;omega
 |negSucc m=>
  have:=wN (m:=m+1) h;show (dg (m+1)).length+1<=20;omega
theorem cN{d:PyData}(h:single d=true):(∃i,d=.int i)\/∃x,d=.str x:=by cases d <;> first|exact .inl ⟨_,rfl⟩|exact .inr ⟨_,rfl⟩|cases h
theorem cP{n:Nat}{d:PyData}(h:aN n d=true):single d=true\/∃m ds,n=m+1/\d=.tuple ds/\ds.length<=8/\∀x∈ds,aN m x=true:=by
 by_cases k:kd d=.tup
 .obtain⟨ds,rfl⟩:=mJ k
  cases n with
  |zero=>cases h
  |succ m=>
   right;have h':(decide (ds.length<=8)&&ds.all (aN m))=true:=h;rw[Bool.and_eq_true] at h';exact⟨m,ds,rfl,rfl,of_decide_eq_true h'.1,List.all_eq_true.mp h'.2⟩
 .left
  rw[rO k] at h;exact h
def tl(f:PyData->List Nat)(ds:List PyData)(r:List Nat):List Nat:=(ds.map fun d=>44::32::f d).flatten++41::r
theorem rR{x:Str}(h:single (.str x)=true):has TXT x=true:=by
 have h':(decide (x.length<=20)&&has TXT x)=true:=h;rw[Bool.and_eq_true] at h';exact h'.2
open K1 (has LET TXT single aN aJ lsz isName aF tdp aX ldp Sh Shs)
theorem wg:bY .str .str=true:=rfl
theorem wc:bY .tup .str=false:=rfl
def sam(a b:PyData):Bool:=@decide (a=b) (Classical.propDecidable _)
theorem Cq{a b:PyData}:sam a b=true↔a=b:=by
 unfold sam;exact @decide_eq_true_iff _ (Classical.propDecidable _)
def gt(ds:List PyData)(i:Int):PyData:=(ds[i.toNat]?).getD .none
def both(ds es:List PyData):PyData->Bool
 |.int i=>sam (gt ds i) (gt es i)
 |_=>true
theorem uq:∀(n:Nat) (v:PyData),aN n v=true->Sm v
 |n,v,h=>by
  rcases cP h with h1|⟨m,ds,rfl,rfl,_,hd⟩
  .rcases cN h1 with⟨i,rfl⟩|⟨x,rfl⟩
   .show smB (.int i)=true
    rw[smB];intro _ z;cases z;intro _ z;cases z
   .have h2:(decide (x.length<=20)&&has TXT x)=true:=h1
    rw[Bool.and_eq_true] at h2;exact Sm.mkS (Nat.le_trans (of_decide_eq_true h2.1) (by decide)) (K1.il K1.ji h2.2)
  .exact Sm.tup fun d hx=>uq m d (hd d hx)
termination_by n=>n
theorem mr{v:PyData}(h:aF v=true):Sm v:=by
 have h':(aN 4 v&&decide (aJ 4 v<=40))=true:=h;rw[Bool.and_eq_true] at h';exact uq 4 v h'.1
theorem cF{v:PyData}(h:aF v=true):aN 4 v=true/\aJ 4 v<=40:=by
 have h':(aN 4 v&&decide (aJ 4 v<=40))=true:=h;rw[Bool.and_eq_true] at h';exact⟨h'.1,of_decide_eq_true h'.2⟩
theorem oP(n:Nat):∀d,1<=aJ n d:=by
 induction n with
 |zero=>intro d;cases d <;> exact Int.le_refl _
 |succ n ih=>
  intro d
  by_cases k:kd d=.tup
  .obtain⟨ds,rfl⟩:=mJ k
   have:=K1.vO (aJ n) ih ds;show 1<=1+(ds.map (aJ n)).sum;omega
  .rw[rZ k]
   exact Int.le_refl _
theorem tK{f:PyData->Int}(h:∀d,0<=f d):∀{ds:List PyData}{d:PyData},d∈ds->f d<=(ds.map f).sum
 |e::r,d,hd=>by
  have nn:∀l:List PyData,0<=(l.map f).sum:=fun l=>by
   induction l with
   |nil=>exact Int.le_refl _
   |cons a l ih=>rw[List.map_cons,List.sum_cons];have:=h a;omega
  rw[List.map_cons,List.sum_cons]
  rcases List.mem_cons.mp hd with z|z
  .subst z
   have:=nn r;omega
  .have:=tK h (ds:=r) z
   have:=h e;omega
theorem ot{n:Nat}{ds:List PyData}{d:PyData}(h:d∈ds):aJ n d<=aJ (n+1) (.tuple ds):=by
 have:=tK (f:=aJ n) (fun d=>by have:=oP n d;omega) h;show aJ n d<=1+(ds.map (aJ n)).sum;omega
theorem cj{n:Nat}(h:n<=2000):n<=sizeLine:=Nat.le_trans h (by decide)
theorem sf{P:PyData->Prop}(h:∀a b,P a->P b->(PyData.eqv a b=true↔a=b)):∀(ds es:List PyData),(∀d∈ds,P d)->(∀d∈es,P d)->(PyData.eqvAll ds es=true↔ds=es)
 |[],[],_,_=>by simp[PyData.eqvAll]
 |[],e::es,_,_=>by simp[PyData.eqvAll]
 |d::ds,[],_,_=>by simp[PyData.eqvAll]
 |d::ds,e::es,hd,he=>by
  have ih:=sf h ds es (fun x hx=>hd x (List.mem_cons_of_mem _ hx)) (fun x hx=>he x (List.mem_cons_of_mem _ hx));have i0:=h d e (hd d List.mem_cons_self) (he e List.mem_cons_self);simp only[PyData.eqvAll];rw[Bool.and_eq_true,i0,ih];simp
theorem vj:∀(n:Nat) (a b:PyData),aN n a=true->aN n b=true->(PyData.eqv a b=true↔a=b)
 |n,a,b,ha,hb=>by
  rcases cP ha with h1|⟨m,ds,rfl,rfl,h8,hd⟩
  .rcases cN h1 with⟨i,rfl⟩|⟨x,rfl⟩
   .rcases cP hb with h2|⟨m,es,rfl,rfl,g8,he⟩
    .rcases cN h2 with⟨j,rfl⟩|⟨y,rfl⟩
     .simp[PyData.eqv]
     .simp[PyData.eqv]
    .simp[PyData.eqv]
   .rcases cP hb with h2|⟨m,es,rfl,rfl,g8,he⟩
    .rcases cN h2 with⟨j,rfl⟩|⟨y,rfl⟩
     .simp[PyData.eqv]
     .simp[PyData.eqv]
    .simp[PyData.eqv]
  .rcases cP hb with h2|⟨m',es,e,rfl,g8,he⟩
   .rcases cN h2 with⟨j,rfl⟩|⟨y,rfl⟩
    .simp[PyData.eqv]
    .simp[PyData.eqv]
   .cases e
    have:=sf (P:=fun d=>aN m d=true) (vj m) ds es hd he;simp only[PyData.eqv];rw[this];simp
termination_by n=>n
theorem Dz{a b:PyData}(ha:aF a=true)(hb:aF b=true):PyData.eqv a b=sam a b:=by rw[Bool.eq_iff_iff,vj 4 a b (cF ha).1 (cF hb).1,Cq]
theorem DR{ds:List PyData}(h:∀d∈ds,d.canLay0=true):PyData.canLayAll0 ds=true:=by
 induction ds with
 |nil=>simp[PyData.canLayAll0]
 |cons d r ih=>
  simp only[PyData.canLayAll0];rw[h d List.mem_cons_self,ih fun x hx=>h x (List.mem_cons_of_mem _ hx)];rfl
theorem sy:∀(n:Nat) (d:PyData),aN n d=true->d.canLay0=true
 |n,d,h=>by
  rcases cP h with h1|⟨m,ds,rfl,rfl,h8,hd⟩
  .rcases cN h1 with⟨i,rfl⟩|⟨x,rfl⟩
   .simp[PyData.canLay0]
   .have hx:=rR h1
    simp only[PyData.canLay0];unfold PyData.strOk;rw[←Array.all_toList,List.all_eq_true];intro c hc;have:=K1.il K1.ji hx c hc;exact decide_eq_true (by omega)
  .simp only[PyData.canLay0]
   exact DR fun d hd'=>sy m d (hd d hd')
termination_by n=>n
theorem vN{f:PyData->Int}:∀{ds:List PyData},(∀d∈ds,(d.weight:Int)+1<=61*f d)->(PyData.weightAll ds:Int)<=61*(ds.map f).sum
 |[],_=>by simp[PyData.weightAll]
 |d::r,h=>by
  have h1:=h d List.mem_cons_self;have h2:=vN (ds:=r) fun x hx=>h x (List.mem_cons_of_mem _ hx);simp only[PyData.weightAll,List.map_cons,List.sum_cons];omega
theorem vM:∀(n:Nat) (d:PyData),aN n d=true->(d.weight:Int)+1<=61*aJ n d
 |n,d,h=>by
  have hp:=oP n d
  rcases cP h with h1|⟨m,ds,rfl,rfl,h8,hd⟩
  .rcases cN h1 with⟨i,rfl⟩|⟨x,rfl⟩
   .have ha:=n8 h1
    have:(PyData.int i).weight<=60:=by
     simp only[PyData.weight];split
     .omega
     .rename_i hz
      have z:i.natAbs≠0:=by simp at hz;omega
      have:=(Nat.log2_lt (k:=60) z).mpr (Nat.lt_of_le_of_lt ha (by decide));omega
    omega
   .have h':(decide (x.length<=20)&&has TXT x)=true:=h1
    rw[Bool.and_eq_true] at h';have hx:x.cps.size<=20:=of_decide_eq_true h'.1
    have:(PyData.str x).weight=x.cps.size:=by simp only[PyData.weight]
    omega
  .have:=vN (f:=aJ m) (ds:=ds) fun d hd'=>vM m d (hd d hd')
   have e:(PyData.tuple ds).weight=PyData.weightAll ds:=by simp only[PyData.weight]
   rw[e];show _<=61*(1+(ds.map (aJ m)).sum);omega
termination_by n=>n
theorem A8{n:Nat}{d:PyData}(h:aN n d=true):Sh d n (61*aJ n d).toNat:=by
 obtain⟨s,_⟩:=K1.qg n d h;have:=vM n d h;exact⟨s.sh,s.lv,s.dp,by omega⟩
theorem tN{v:PyData}(h:aF v=true):Sh v 4 2440:=by
 obtain⟨hb,hm⟩:=cF h;exact(A8 hb).mono (Nat.le_refl _) (by omega)
theorem gS{v:PyData}(h:aF v=true):SeqAt.shaped v=true:=by
 have:=(tN h).dp;unfold SeqAt.shaped;rw[sy 4 v (cF h).1,decide_eq_true (by omega)];rfl
theorem wV{α:Type}{xs:List α}{i:Int}(h0:0<=i)(h1:i<(xs.length:Int)):∃a,atI xs i=some a/\a∈xs:=by
 have h:i.toNat<xs.length:=by omega
 refine⟨xs[i.toNat],?_,List.getElem_mem h⟩;unfold atI ixN;rw[if_pos h0,if_pos h1];show xs[i.toNat]? = _;rw[List.getElem?_eq_getElem h]
theorem t7{z:Str}{xs:List PyData}{ys:List Str}(h:d3 xs=some ys):kE (.str z) (.list xs)=if (ys.map (·.length)).sum+ys.length*z.length<=16777216 then some (.str (Str.join z ys)) else none:=by
 show (match d3 xs with|some (ys:List Str)=>if (ys.map fun x:Str=>x.length).sum+ys.length*z.length<=16777216 then some (PyData.str (Str.join z ys)) else none|none=>none)=_;rw[h]
theorem jX(n:Nat):(cI 0 n).length=n:=by simp[cI]
theorem Ae{j:Int}(h0:0<=j)(h1:j<=1000):fq j=true:=decide_eq_true (by omega)
theorem rS{i:Int}(h : -1000000000000000000<=i)(h':i<=1000000000000000000):single (.int i)=true:=by
 show decide ((if i<0 then -i else i)<=10^18)=true;refine decide_eq_true ?_
 split <;> omega
theorem iQ{n:Nat}{d:PyData}(h:single d=true):aN n d=true/\aJ n d=1:=by
 cases d with
 |int i=>exact⟨by cases n <;> exact h,by cases n <;> rfl⟩
 |str x=>exact⟨by cases n <;> exact h,by cases n <;> rfl⟩
 |_=>cases h
open K1 (has LET TXT single aN aJ lsz isName aF tdp aX ldp Good Sh Shs)
@[simp] theorem IY{a b:String}:Str.ofString a=Str.ofString b↔a=b:=by
 constructor
 .intro h
  have h2:(Str.ofString a).cps.toList=(Str.ofString b).cps.toList:=by rw[h]
  rw[signs_ofString,signs_ofString] at h2;have inj:Function.Injective Char.toNat:=fun x y e=>Char.ext (UInt32.toNat_inj.mp e);exact String.toList_inj.mp ((List.map_inj_right (fun x y e=>inj e)).mp h2)
 .rintro rfl;rfl
theorem ph:∀(n:Nat) (d:PyData),aN n d=true->aN (n+1) d=true/\aJ (n+1) d=aJ n d
 |n,d,h=>by
  rcases cP h with h1|⟨m,ds,rfl,rfl,h8,hd⟩
  .exact⟨(iQ h1).1,by rw[(iQ (n:=n+1) h1).2,(iQ (n:=n) h1).2]⟩
  .have ih:=fun d hd'=>ph m d (hd d hd')
   refine⟨?_,?_⟩
   .show (decide (ds.length<=8)&&ds.all (aN (m+1)))=true
    rw[decide_eq_true h8,List.all_eq_true.mpr fun d hd'=>(ih d hd').1];rfl
   .show 1+(ds.map (aJ (m+1))).sum=1+(ds.map (aJ m)).sum
    rw[List.map_congr_left fun d hd'=>(ih d hd').2]
termination_by n=>n
@[simp] theorem Js{f:FE}{ρ:Rho}{T:Tp}:G6 f ρ T=bnd (f ρ T) fun w T1=>xh T1 w:=rfl
def vl(v:PyData):PyData:=.tuple [.str "value",v]
def fl(w:String):PyData:=.tuple [.str "fails",.str (Str.ofString w)]
def FW:List String:=["kind","part","great"]
def dh(R:PyData):Prop:=(∃v,R=vl v/\aF v=true)\/∃w∈FW,R=fl w
theorem cG:dh (fl "kind"):=.inr ⟨_,by simp[FW],rfl⟩
theorem Cj:dh (fl "part"):=.inr ⟨_,by simp[FW],rfl⟩
theorem zG:dh (fl "great"):=.inr ⟨_,by simp[FW],rfl⟩
def bd(d:PyData):PyData:=if aF d=true then vl d else fl "great"
theorem lP(d:PyData):dh (bd d):=by
 unfold bd;split
 .rename_i h;exact .inl ⟨d,rfl,h⟩
 .exact zG
theorem lB{d:PyData}(T:Tp)(h:Sm d):gu [.d d] T=some (bd d,T):=by
 have:=DZ T h;unfold bd
 cases hv:aF d with
 |true=>rw[hv] at this;simp[gu,this,vl]
 |false=>rw[hv] at this;simp[gu,this,fl]
theorem jV{ds:List PyData}{d:PyData}(h:aF (.tuple ds)=true)(hd:d∈ds):aF d=true:=by
 obtain⟨hb,hm⟩:=cF h
 rcases cP hb with h1|⟨m,ds',e,e',h8,hb'⟩
 .rcases cN h1 with⟨i,z⟩|⟨x,z⟩ <;> cases z
 .cases e;cases e'
  obtain⟨u1,u2⟩:=ph 3 d (hb' d hd);have:aJ 3 d<=aJ 4 (.tuple ds):=ot (n:=3) hd;show (aN 4 d&&decide (aJ 4 d<=40))=true;rw[u1,u2,decide_eq_true (by omega)];rfl
theorem dR{v:PyData}(h:aF v=true):(∃i,v=.int i/\single (.int i)=true)\/(∃x,v=.str x/\x.length<=20/\∀c∈x.cps.toList,c<128)\/∃ds,v=.tuple ds/\ds.length<=8:=by
 rcases cP (cF h).1 with h1|⟨m,ds,e,rfl,h8,hd⟩
 .rcases cN h1 with⟨i,rfl⟩|⟨x,rfl⟩
  .exact .inl ⟨i,rfl,h1⟩
  .have h':(decide (x.length<=20)&&has TXT x)=true:=h1
   rw[Bool.and_eq_true] at h';exact .inr (.inl ⟨x,rfl,of_decide_eq_true h'.1,K1.il K1.ji h'.2⟩)
 .exact .inr (.inr ⟨ds,rfl,h8⟩)
theorem lO{i:Int}(h : -1000000000000000000<=i)(h':i<=1000000000000000000):aF (.int i)=true:=by
 show (single (.int i)&&decide ((1:Int)<=40))=true;rw[rS h h'];rfl
theorem Ep(i:Int):Sm (.int i):=by simp[Sm,smB]
theorem Fy{x y:PyData}(h1:aF x=true)(h2:aF y=true):eqG x y=some (.bool (sam x y)):=by
 unfold eqG;rw[if_pos ⟨gS h1,gS h2⟩,Dz h1 h2]
@[simp] theorem Km{α:Type}{a b:α}:atI [a,b] 0=some a:=rfl
@[simp] theorem Kl{α:Type}{a b:α}:atI [a,b] 1=some b:=rfl
@[simp] theorem Kn{α:Type}{a:α}:atI [a] 0=some a:=rfl
@[simp] theorem Kk{α:Type}{a b c:α}:atI [a,b,c] 0=some a:=rfl
@[simp] theorem Kj{α:Type}{a b c:α}:atI [a,b,c] 1=some b:=rfl
@[simp] theorem Ki{α:Type}{a b c:α}:atI [a,b,c] 2=some c:=rfl
@[simp] theorem LI:bY .int .int=true:=rfl
@[simp] theorem LH:bY .int .str=false:=rfl
@[simp] theorem LG:bY .int .tup=false:=rfl
@[simp] theorem LJ:bY .int .bl=false:=rfl
@[simp] theorem LD:bY .str .str=true:=rfl
@[simp] theorem LC:bY .str .tup=false:=rfl
@[simp] theorem LF:bY .str .int=false:=rfl
@[simp] theorem Lz:bY .tup .tup=true:=rfl
@[simp] theorem LB:bY .tup .int=false:=rfl
@[simp] theorem LA:bY .tup .str=false:=rfl
@[simp] theorem IX(x:PyData)(T:Tp):eJ [.d x] T=some (.bool (whole x),T):=i4 x T
@[simp] theorem Ly(i:Int):whole (.int i)=true:=rfl
@[simp] theorem Lx(x:Str):whole (.str x)=false:=rfl
@[simp] theorem Lv(x:List PyData):whole (.tuple x)=false:=rfl
def Pairs(w:String)(a b:PyData):Prop:=∃R,dh R/\∀T,bi [.d (.str (Str.ofString w)),.d (.list [a,b])] T=some (R,T)
theorem FN{ds:List PyData}{i:Int}(h:aF (.tuple ds)=true)(h0:0<=i)(h1:i<(ds.length:Int)):∃d,atI ds i=some d/\aF d=true:=by
 obtain⟨d,e,hd⟩:=wV h0 h1;exact⟨d,e,jV h hd⟩
def PW:List String:=["part","sum","join","same","less"]
inductive Ex(m:Int):Nat->PyData->Prop where
 |put {n:Nat}{v:PyData}:aF v=true->Ex m n (.tuple [.str "put",v])
 |got {n:Nat}{i:Int}:0<=i->i<m->Ex m n (.tuple [.str "got",.int i])
 |row {n:Nat}{es:List PyData}:es.length<=8->(∀e∈es,Ex m n e)->Ex m (n+1) (.tuple [.str "row",.tuple es])
 |many {n:Nat}{e:PyData}:Ex m n e->Ex m (n+1) (.tuple [.str "many",e])
 |pair {n:Nat}{w:String}{a b:PyData}:w∈PW->Ex m n a->Ex m n b->Ex m (n+1) (.tuple [.str (Str.ofString w),a,b])
def isF:PyData->Bool
 |.tuple (.str x::_)=>decide (x=Str.ofString "fails")
 |_=>false
def vOf:PyData->PyData
 |.tuple [_,v]=>v
 |_=>.none
theorem Fi(v:PyData):isF (vl v)=false:=by
 show decide (Str.ofString "value"=Str.ofString "fails")=false
 decide +kernel
theorem Fj(w:String):isF (fl w)=true:=by
 show decide (Str.ofString "fails"=Str.ofString "fails")=true;exact decide_eq_true rfl
theorem sG{R:PyData}(h:dh R):(isF R=true/\∃w∈FW,R=fl w)\/(isF R=false/\R=vl (vOf R)/\aF (vOf R)=true):=by
 rcases h with⟨v,rfl,hv⟩|⟨w,hw,rfl⟩
 .exact .inr ⟨Fi v,rfl,hv⟩
 .exact .inl ⟨Fj w,w,hw,rfl⟩
def iu(m:FnM)(ws:List D.W)(T1:Tp):Option (D.W×Tp):=if kN ws=true then (match m (ws.map jC) [] with
 |some (x,_)=>if aY x=true then some (.d x,T1) else none
 | none=>none) else none
@[simp] theorem IV{m:FnM}{a:FA}{ρ:Rho}{T:Tp}:gD m a ρ T=bnd (a ρ T) (iu m):=rfl
theorem lA{m:FnM}{ws:List D.W}{T T':Tp}{x:PyData}(h1:kN ws=true)(h2:m (ws.map jC) []=some (x,T'))(h3:aY x=true):iu m ws T=some (.d x,T):=by
 unfold iu;rw[if_pos h1,h2];exact if_pos h3
theorem gZ:∀{ds:List PyData},(∀d∈ds,aY d=true)->bj ds=true
 |[],_=>by simp[bj]
 |d::r,h=>by simp[bj,h d List.mem_cons_self,gZ (ds:=r) fun x hx=>h x (List.mem_cons_of_mem _ hx)]
theorem sE:∀(n:Nat) (d:PyData),aN n d=true->aY d=true
 |n,d,h=>by
  rcases cP h with h1|⟨m,ds,rfl,rfl,_,hd⟩
  .rcases cN h1 with⟨i,rfl⟩|⟨x,rfl⟩ <;> simp[aY]
  .simp[aY,gZ fun x hx=>sE m x (hd x hx)]
termination_by n=>n
theorem iW{v:PyData}(h:aF v=true):aY v=true:=sE 4 v (cF h).1
theorem lD{R:PyData}(h:dh R):aY R=true:=by
 rcases h with⟨v,rfl,hv⟩|⟨w,_,rfl⟩
 .simp[vl,aY,bj,iW hv]
 .simp[fl,aY,bj]
def w6(k:Nat):FS:=(ak (aE 4 (aq (dD k) (ae (aa 3) (ae (aa 1) ah)))) (ak (fIf (ax (af eqD (af ixD (aa 4) (fC (.int 0))) (fC (.str "fails")))) (ay (aa 4)) aD) (dO 2 (af ixD (aa 4) (fC (.int 1))))))
def qY(k:FS)(p:Fl×Rho)(T:Tp):Option ((Fl×Rho)×Tp):=match p with
 |(.nx,ρ1)=>k ρ1 T
 |(.ct,ρ1)=>k ρ1 T
 |(.bk,ρ1)=>some ((.nx,ρ1),T)
 |(.rt x,ρ1)=>some ((.rt x,ρ1),T)
 |(.ro x,ρ1)=>some ((.ro x,ρ1),T)
theorem Dt{k:FS}{ρ:Rho}{T:Tp}:qY k (.nx,ρ) T=k ρ T:=rfl
theorem AR{i:Nat}{b:FS}{d:PyData}{r:List PyData}{ρ:Rho}{T:Tp}:forL i b (d::r) ρ T=bnd (b (ρ.set i (some (.d d))) T) (qY (forL i b r)):=rfl
structure Node(e0:PyData)(w0:Str)(es:List PyData):Prop where
 w1:∀T,cM [.d e0] T=some (.list es,T)
 ix:ixD e0 (.int 0)=some (.str w0)
 np:(w0=Str.ofString "put")=False
 ng:(w0=Str.ofString "got")=False
 ln:es.length<=8
def xR(G:PyData)(gs:List PyData):Prop:=∀i:Int,ixD G (.int i)=atI gs i
theorem oz(gs:List PyData):xR (.tuple gs) gs:=fun _=>rfl
theorem sH(n:Nat):dD (n+1)=aO 5 (ak (fIf (ax (af eqD (af ixD (aa 0) (fC (.int 0))) (fC (.str "put")))) (ay (az .tuple (ae (fC (.str "value")) (ae (af ixD (aa 0) (fC (.int 1))) ah)))) aD) (ak (fIf (ax (af eqD (af ixD (aa 0) (fC (.int 0))) (fC (.str "got")))) (ay (az .tuple (ae (fC (.str "value")) (ae (af ixD (aa 1) (af ixD (aa 0) (fC (.int 1)))) ah)))) aD) (ak (dj 2 ah) (ak (bD 3 (bc (aq cM (ae (aa 0) ah))) (w6 n)) (ay (gD bi (ae (af ixD (aa 0) (fC (.int 0))) (ae (aa 2) ah)))))))):=by rw[dD];rfl
theorem iL{a:PyData}{r:List PyData}:cD (a::r) (some 1) none=r:=by
 have e:HT.sIx (a::r).length 0 (some 1)=1:=by
  have:=HT.uD (a::r).length 0 1;rw[show ((1:Nat):Int)=1 from rfl] at this;rw[this];simp
 have e2:HT.sIx (a::r).length (a::r).length none=(a::r).length:=rfl;unfold cD;rw[e,e2];simp
theorem uR:∀(l:List Int) (b n:Int),K1.dw b l<=n↔b<=n/\∀x∈l,x<=n
 |[],b,n=>by simp[K1.dw]
 |a::r,b,n=>by
  show K1.dw (if a>b then a else b) r<=n↔_;rw[uR r];simp only[List.mem_cons,forall_eq_or_imp]
  split <;> constructor <;> (rintro⟨h1,h2⟩;constructor <;> first|omega|exact h2|exact h2.2|exact⟨by omega,h2⟩)
theorem uT{l:List Int}{n:Int}(h:0<=n):K1.cC 0 l<=n↔∀x∈l,x<=n:=by
 cases l with
 |nil=>simp[K1.cC,h]
 |cons a r=>
  show K1.dw a r<=n↔_;rw[uR];simp
theorem k9:∀(n:Nat) (d:PyData),aN (n+1) d=true->(aX (n+1) d<=n↔aN n d=true)
 |n,d,h=>by
  rcases cP h with h1|⟨m,ds,e,rfl,h8,hd⟩
  .rcases cN h1 with⟨i,rfl⟩|⟨x,rfl⟩
   .exact⟨fun _=>(iQ h1).1,fun _=>Int.natCast_nonneg n⟩
   .exact⟨fun _=>(iQ h1).1,fun _=>Int.natCast_nonneg n⟩
  .cases e
   have q:aX (n+1) (.tuple ds)=1+K1.cC 0 (ds.map (aX n)):=rfl
   have nn:=K1.uS (ds.map (aX n)) fun x hx=>by
    obtain⟨y,_,rfl⟩:=List.mem_map.mp hx;exact K1.uh n y
   rw[q]
   cases n with
   |zero=>exact⟨fun z=>absurd z (by omega),fun z=>nomatch z⟩
   |succ n=>
    have ml:=uT (l:=ds.map (aX (n+1))) (n:=n) (Int.natCast_nonneg n);have eb:aN (n+1) (.tuple ds)=(decide (ds.length<=8)&&ds.all (aN n)):=rfl;rw[eb,decide_eq_true h8,Bool.true_and,List.all_eq_true];constructor
    .intro z d hd'
     exact(k9 n d (hd d hd')).mp (ml.mp (by omega) _ (List.mem_map.mpr ⟨d,hd',rfl⟩))
    .intro z
     have:=ml.mpr fun x hx=>by
      obtain⟨d,hd',rfl⟩:=List.mem_map.mp hx;exact(k9 n d (hd d hd')).mpr (z d hd')
     omega
termination_by n=>n
theorem n9{α:Type}{e:FE}{ρ:Rho}{T:Tp}{q:α->PyData}{g:α->PyData}:∀{ds:List α},(∀d∈ds,e (some (.d (q d))::ρ) T=some (.d (g d),T))->bC bG e ρ (ds.map q) T=some (ds.map g,T)
 |[],_=>rfl
 |d::r,h=>by
  have ih:=n9 (ds:=r) fun x hx=>h x (List.mem_cons_of_mem _ hx);have h0:=h d List.mem_cons_self;simp[bC,h0,ih]
theorem mx0:kz (.list []) (.int 0)=some (.int 0):=rfl
theorem sm0:jx [.list []]=some (.int 0):=rfl
theorem mL(b:Bool):intD [.bool b]=some (.int (if b then 1 else 0)):=rfl
theorem w4{n k:Nat}{ds:List PyData}(h:∀d∈ds,∀T,eE k [.d d] T=some (.tuple [.int (aX n d),.int (aJ n d)],T))(T:Tp):eE (k+1) [.d (.tuple ds)] T=some (.tuple [.int (1+K1.cC 0 (ds.map (aX n))),.int (1+(ds.map (aJ n)).sum)],T):=by
 have c:∀T,bC bG (aq (eE k) (ae (aa 0) ah)) [some (.d (.tuple ds)),none,none] ds T=some (ds.map fun d=>.tuple [.int (aX n d),.int (aJ n d)],T):=fun T=>eK (g:=fun d=>.tuple [.int (aX n d),.int (aJ n d)]) fun d hd=>by simp[h d hd T]
 have cs:∀(ρ:Rho) (T:Tp),bC bG (af ixD (aa 0) (fC (.int 0))) ρ (ds.map fun d=>.tuple [.int (aX n d),.int (aJ n d)]) T=some (ds.map fun d=>.int (aX n d),T):=fun ρ T=>n9 (q:=fun d=>.tuple [.int (aX n d),.int (aJ n d)]) (g:=fun d=>.int (aX n d)) fun d hd=>by simp
 have ct:∀(ρ:Rho) (T:Tp),bC bG (af ixD (aa 0) (fC (.int 1))) ρ (ds.map fun d=>.tuple [.int (aX n d),.int (aJ n d)]) T=some (ds.map fun d=>.int (aJ n d),T):=fun ρ T=>n9 (q:=fun d=>.tuple [.int (aX n d),.int (aJ n d)]) (g:=fun d=>.int (aJ n d)) fun d hd=>by simp
 unfold eE;simp[c,cs,ct,mL]
theorem qv{d:PyData}(h:(∃i,d=.int i)\/∃x,d=.str x)(k:Nat)(T:Tp):eE (k+1) [.d d] T=some (.tuple [.int 0,.int 1],T):=by rcases h with⟨i,rfl⟩|⟨x,rfl⟩ <;> simp[eE,bC,mx0,sm0,mL]
theorem ut:∀(n k:Nat) (d:PyData) (T:Tp),aN n d=true->n<k->eE k [.d d] T=some (.tuple [.int (aX n d),.int (aJ n d)],T)
 |n,k,d,T,h,hk=>by
  obtain⟨k,rfl⟩:=bh k (by omega)
  rcases cP h with h1|⟨m,ds,rfl,rfl,h8,hd⟩
  .rw[qv (cN h1),(iQ h1).2]
   rcases cN h1 with⟨i,rfl⟩|⟨x,rfl⟩ <;> cases n <;> rfl
  .exact w4 (fun d hd' T=>ut m k d T (hd d hd') (by omega)) T
termination_by n=>n
def BQ(d:PyData):Prop:=(∃i,d=.int i)\/(∃x,d=.str x/\x.length<=60000/\has TXT x=true)\/∃ds,d=.tuple ds/\∀x∈ds,aN 4 x=true
theorem mZ{d:PyData}(T:Tp)(h:BQ d):du [.d d] T=some (bd d,T):=by
 rcases h with⟨i,rfl⟩|⟨x,rfl,hl,hx⟩|⟨ds,rfl,hd⟩
 .have e:aF (.int i)=decide ((if i<0 then -i else i)<=1000000000000000000):=by
   show (decide ((if i<0 then -i else i)<=10^18)&&decide ((1:Int)<=40))=_;rw[Bool.and_comm];rfl
  have w:=qv (d:=.int i) (.inl ⟨i,rfl⟩) 24
  by_cases c:(if i<0 then -i else i)<=1000000000000000000
  .simp[du,c4,w,bd,e,c,vl]
  .simp[du,c4,w,bd,e,c,fl]
 .have e:aF (.str x)=decide (x.length<=20):=by
   show (decide (x.length<=20)&&has TXT x&&decide ((1:Int)<=40))=_;rw[hx];simp
  have w:=qv (d:=.str x) (.inr ⟨x,rfl⟩) 24;have hz:x.length<=sizeLine:=Nat.le_trans hl (by decide)
  by_cases c:x.length<=20
  .have c':(x.length:Int)<=20:=by omega
   simp[du,c4,w,bd,e,c,c',vl,hz]
  .have c':¬(x.length:Int)<=20:=by omega
   simp[du,c4,w,bd,e,c,c',fl,hz]
 .have w:∀T,eE 25 [.d (.tuple ds)] T=_:=w4 (n:=4) fun d hd' T=>ut 4 24 d T (hd d hd') (by decide)
  have ml:=uT (l:=ds.map (aX 4)) (n:=3) (by decide);have e:aF (.tuple ds)=(decide (ds.length<=8)&&ds.all (aN 3)&&decide (1+(ds.map (aJ 3)).sum<=40)):=rfl
  have e3:ds.all (aN 3)=decide (1+K1.cC 0 (ds.map (aX 4))<=4):=by
   rw[Bool.eq_iff_iff,List.all_eq_true,decide_eq_true_iff];constructor
   .intro z
    have:=ml.mpr fun x hx=>by
     obtain⟨d,hd',rfl⟩:=List.mem_map.mp hx;exact(k9 3 d (hd d hd')).mpr (z d hd')
    omega
   .intro z d hd'
    exact(k9 3 d (hd d hd')).mp (ml.mp (by omega) _ (List.mem_map.mpr ⟨d,hd',rfl⟩))
  by_cases h8:ds.length<=8
  .have h8':(ds.length:Int)<=8:=by omega
   by_cases h4:1+K1.cC 0 (ds.map (aX 4))<=4
   .have b3:∀d∈ds,aN 3 d=true:=List.all_eq_true.mp (e3.trans (decide_eq_true h4))
    have em:ds.map (aJ 4)=ds.map (aJ 3):=List.map_congr_left fun d hd'=>(ph 3 d (b3 d hd')).2;rw[em] at w
    by_cases h40:1+(ds.map (aJ 3)).sum<=40
    .simp[du,c4,w,bd,e,e3,h8,h8',h4,h40,vl]
    .simp[du,c4,w,bd,e,e3,h8,h8',h4,h40,fl]
   .simp[du,c4,w,bd,e,e3,h8,h8',h4,fl]
  .have h8':¬(ds.length:Int)<=8:=by omega
   simp[du,c4,w,bd,e,h8,h8',fl]
theorem ct2{α:Type}{a b c d:α}:cD [a,b,c,d] none (some 2)=[a,b]:=rfl
theorem nM{α:Type}{a b c d:α}:atI [a,b,c,d] 2=some c:=rfl
theorem nL{α:Type}{a b c d:α}:atI [a,b,c,d] 3=some d:=rfl
theorem ktt{a b:Bool}:neG (.list [.bool a,.bool b]) (.list [.bool true,.bool true])=some (.bool (!(a&&b))):=by cases a <;> cases b <;> rfl
theorem kff{a b:Bool}:neG (.list [.bool a,.bool b]) (.list [.bool false,.bool false])=some (.bool (a||b)):=by cases a <;> cases b <;> rfl
theorem uw{x:Str}(h:aF (.str x)=true):has TXT x=true:=by
 have:=(cF h).1;have h':(decide (x.length<=20)&&has TXT x)=true:=this;rw[Bool.and_eq_true] at h';exact h'.2
def jj(w:String)(a b:PyData):Prop:=∃R,dh R/\(∀T,bi [.d (.str (Str.ofString w)),.d (.list [a,b])] T=some (R,T))/\∀T,bE [.d (.str (Str.ofString w)),.d a,.d b] T=some (R,T)
theorem FQ{a b:PyData}(ha:aF a=true)(hb:aF b=true):jj "same" a b:=by
 have e1:=Fy ha hb;refine⟨vl (.int (if sam a b=true then 1 else 0)),.inl ⟨_,rfl,by split <;> exact lO (by decide) (by decide)⟩,fun T=>?_,fun T=>?_⟩
 .cases hs:sam a b with
  |true=>rw[hs] at e1;simp[bi,e1,vl]
  |false=>rw[hs] at e1;simp[bi,e1,vl]
 .simp[bE,e1,vl,mL]
theorem FR{a b:PyData}(ha:aF a=true)(hb:aF b=true):jj "part" a b:=by
 rcases dR ha with⟨i,rfl,hi⟩|⟨x,rfl,hx,hx2⟩|⟨ds,rfl,hd⟩
 .refine⟨_,cG,fun T=>?_,fun T=>?_⟩ <;> simp[bi,fM,bE,fl]
 .refine⟨_,cG,fun T=>?_,fun T=>?_⟩ <;> simp[bi,fM,bE,fl]
 .rcases dR hb with⟨j,rfl,hj⟩|⟨y,rfl,hy,hy2⟩|⟨es,rfl,he⟩
  .by_cases c:0<=j/\j<(ds.length:Int)
   .obtain⟨d,e,hv⟩:=FN ha c.1 c.2
    refine⟨vl d,.inl ⟨d,rfl,hv⟩,fun T=>?_,fun T=>?_⟩ <;> simp[bi,fM,bE,vl,c.1,c.2,e]
   .refine⟨_,Cj,fun T=>?_,fun T=>?_⟩
    .by_cases c0:0<=j
     .have c1:¬j<(ds.length:Int):=fun z=>c ⟨c0,z⟩
      simp[bi,fM,fl,c0,c1]
     .simp[bi,fM,fl,c0]
    .by_cases c0:0<=j
     .have c1:¬j<(ds.length:Int):=fun z=>c ⟨c0,z⟩
      simp[bE,fl,c0,c1]
     .simp[bE,fl,c0]
  .refine⟨_,cG,fun T=>?_,fun T=>?_⟩ <;> simp[bi,fM,bE,fl]
  .refine⟨_,cG,fun T=>?_,fun T=>?_⟩ <;> simp[bi,fM,bE,fl]
theorem Hi{a b:PyData}(ha:aF a=true)(hb:aF b=true):jj "sum" a b:=by
 rcases dR ha with⟨i,rfl,hi⟩|⟨x,rfl,hx,hx2⟩|⟨ds,rfl,hd⟩
 .rcases dR hb with⟨j,rfl,hj⟩|⟨y,rfl,hy,hy2⟩|⟨es,rfl,he⟩
  .have b1:=fun T=>lB T (Ep (i+j))
   have b2:=fun T=>mZ T (.inl ⟨i+j,rfl⟩);refine⟨_,lP (.int (i+j)),fun T=>?_,fun T=>?_⟩
   .simp[bi,gT,b1]
   .simp[bE,ct2,ktt,b2]
  .refine⟨_,cG,fun T=>?_,fun T=>?_⟩ <;> simp[bi,gT,bE,ct2,ktt,fl]
  .refine⟨_,cG,fun T=>?_,fun T=>?_⟩ <;> simp[bi,gT,bE,ct2,ktt,fl]
 .refine⟨_,cG,fun T=>?_,fun T=>?_⟩ <;> simp[bi,gT,bE,ct2,ktt,fl]
 .refine⟨_,cG,fun T=>?_,fun T=>?_⟩ <;> simp[bi,gT,bE,ct2,ktt,fl]
theorem FU{a b:PyData}(ha:aF a=true)(hb:aF b=true):jj "less" a b:=by
 rcases dR ha with⟨i,rfl,hi⟩|⟨x,rfl,hx,hx2⟩|⟨ds,rfl,hd⟩
 .rcases dR hb with⟨j,rfl,hj⟩|⟨y,rfl,hy,hy2⟩|⟨es,rfl,he⟩
  .refine⟨vl (.int (if i<j then 1 else 0)),.inl ⟨_,rfl,by split <;> exact lO (by decide) (by decide)⟩,fun T=>?_,fun T=>?_⟩
   .by_cases c:i<j
    .simp[bi,gm,c,vl]
    .simp[bi,gm,c,vl]
   .simp[bE,ct2,ktt,vl,mL]
  .refine⟨_,cG,fun T=>?_,fun T=>?_⟩ <;> simp[bi,gm,bE,ct2,ktt,fl]
  .refine⟨_,cG,fun T=>?_,fun T=>?_⟩ <;> simp[bi,gm,bE,ct2,ktt,fl]
 .refine⟨_,cG,fun T=>?_,fun T=>?_⟩ <;> simp[bi,gm,bE,ct2,ktt,fl]
 .refine⟨_,cG,fun T=>?_,fun T=>?_⟩ <;> simp[bi,gm,bE,ct2,ktt,fl]
theorem FV{a b:PyData}(ha:aF a=true)(hb:aF b=true):jj "join" a b:=by
 rcases dR ha with⟨i,rfl,hi⟩|⟨x,rfl,hx,hx2⟩|⟨ds,rfl,hd⟩
 .refine⟨_,cG,fun T=>?_,fun T=>?_⟩
  .simp[bi,fN,fl]
  .rcases dR hb with⟨j,rfl,hj⟩|⟨y,rfl,hy,hy2⟩|⟨es,rfl,he⟩ <;> simp[bE,ct2,kff,fl]
 .rcases dR hb with⟨j,rfl,hj⟩|⟨y,rfl,hy,hy2⟩|⟨es,rfl,he⟩
  .refine⟨_,cG,fun T=>?_,fun T=>?_⟩ <;> simp[bi,fN,bE,ct2,kff,fl]
  .have l:x.length+y.length<=sizeLine:=cj (by omega)
   have ll:(x++y).length<=60000:=by rw[←fm,ir,List.length_append,fm,fm];omega
   have sx:Sm (.str (x++y)):=Sm.mkS ll fun c hc=>by
    have hc':c∈cd (x++y):=hc;rw[ir] at hc';exact(List.mem_append.mp hc').elim (hx2 c) (hy2 c)
   have hh:has TXT (x++y)=true:=by
    refine List.all_eq_true.mpr fun c hc=>?_;have hc':c∈cd (x++y):=hc;rw[ir] at hc';exact(List.mem_append.mp hc').elim (List.all_eq_true.mp (uw ha) c) (List.all_eq_true.mp (uw hb) c)
   have b1:=fun T=>lB T sx;have b2:=fun T=>mZ (d:=.str (x++y)) T (.inr (.inl ⟨_,rfl,ll,hh⟩));refine⟨_,lP (.str (x++y)),fun T=>?_,fun T=>?_⟩
   .simp[bi,fN,b1,l]
   .simp[bE,ct2,kff,nM,nL,b2,l]
  .refine⟨_,cG,fun T=>?_,fun T=>?_⟩ <;> simp[bi,fN,bE,ct2,kff,nM,nL,fl]
 .rcases dR hb with⟨j,rfl,hj⟩|⟨y,rfl,hy,hy2⟩|⟨es,rfl,he⟩
  .refine⟨_,cG,fun T=>?_,fun T=>?_⟩ <;> simp[bi,fN,bE,ct2,kff,fl]
  .refine⟨_,cG,fun T=>?_,fun T=>?_⟩ <;> simp[bi,fN,bE,ct2,kff,nM,nL,fl]
  .have l:ds.length+es.length<=sizeLine:=cj (by omega)
   have sx:Sm (.tuple (ds++es)):=Sm.tup fun d hd=>by
    rcases List.mem_append.mp hd with z|z
    .exact mr (jV ha z)
    .exact mr (jV hb z)
   have b1:=fun T=>lB T sx;have b2:=fun T=>mZ (d:=.tuple (ds++es)) T (.inr (.inr ⟨_,rfl,fun z hz=>(List.mem_append.mp hz).elim (fun q=>(cF (jV ha q)).1) fun q=>(cF (jV hb q)).1⟩));refine⟨_,lP (.tuple (ds++es)),fun T=>?_,fun T=>?_⟩
   .simp[bi,fN,b1,l]
   .simp[bE,ct2,kff,nM,nL,b2,l]
theorem Hj{w:String}{a b:PyData}(hw:w∈PW)(ha:aF a=true)(hb:aF b=true):jj w a b:=by
 simp[PW] at hw
 rcases hw with rfl|rfl|rfl|rfl|rfl
 .exact FR ha hb
 .exact Hi ha hb
 .exact FV ha hb
 .exact FQ ha hb
 .exact FU ha hb
def eM(M:FnM):FS:=(ak (aE 4 (aq M (ae (aa 3) (ae (aa 1) ah)))) (ak (fIf (ax (af eqD (af ixD (aa 4) (fC (.int 0))) (fC (.str "fails")))) (ay (aa 4)) aD) (dO 2 (af ixD (aa 4) (fC (.int 1))))))
def gF:FI:=(bc (b9 (ax (af eqD (af ixD (aa 0) (fC (.int 0))) (fC (.str "row")))) (af ixD (aa 0) (fC (.int 1))) (fSl (aa 0) (fP (fC (.int 1))) cL)))
def ij:FS:=(ak (fIf (ax (af eqD (af ixD (aa 0) (fC (.int 0))) (fC (.str "row")))) (ay (aq du (ae (fCB bF (ae (aa 2) ah)) ah))) aD) (ak (fIf (ax (af eqD (af ixD (aa 0) (fC (.int 0))) (fC (.str "many")))) (ay (b9 (bg (fUn (bw .int) (af ixD (aa 2) (fC (.int 0))))) (az .tuple (ae (fC (.str "fails")) (ae (fC (.str "kind")) ah))) (az .tuple (ae (fC (.str "value")) (ae (fCB a7 (ae (af ixD (aa 2) (fC (.int 0))) ah)) ah))))) aD) (ay (aq bE (ae (af ixD (aa 0) (fC (.int 0))) (ae (af ixD (aa 2) (fC (.int 0))) (ae (af ixD (aa 2) (fC (.int 1))) ah)))))))
theorem r6(n:Nat):cE (n+1)=aO 5 (ak (fIf (ax (af eqD (af ixD (aa 0) (fC (.int 0))) (fC (.str "put")))) (ay (az .tuple (ae (fC (.str "value")) (ae (af ixD (aa 0) (fC (.int 1))) ah)))) aD) (ak (fIf (ax (af eqD (af ixD (aa 0) (fC (.int 0))) (fC (.str "got")))) (ay (az .tuple (ae (fC (.str "value")) (ae (af ixD (aa 1) (af ixD (aa 0) (fC (.int 1)))) ah)))) aD) (ak (dj 2 ah) (ak (bD 3 gF (eM (cE n))) ij)))):=by rw[cE];rfl
theorem tJ(k:Nat):w6 k=eM (dD k):=rfl
theorem kA{M:FnM}{T:Tp}{e0 G:PyData}{f:PyData->PyData}:∀(es:List PyData) (acc:List PyData) (o3 o4:Option D.W),(∀e∈es,dh (f e)/\M [.d e,.d G] T=some (f e,T))->acc.length+es.length<=1000 ->
  match (es.map f).filter isF with
  |R::_=>∃ρ',forL 3 (eM M) es [some (.d e0),some (.d G),some (.loc (.list acc)),o3,o4] T=some ((.rt R,ρ'),T)
  |[]=>∃o3' o4',forL 3 (eM M) es [some (.d e0),some (.d G),some (.loc (.list acc)),o3,o4] T=some ((.nx,[some (.d e0),some (.d G),some (.loc (.list (acc++es.map fun e=>vOf (f e)))),(o3':Option D.W),o4']),T)
 |[],acc,o3,o4,_,_=>⟨o3,o4,by simp[forL]⟩
 |e::es,acc,o3,o4,h,hl=>by
  obtain⟨t,ht⟩:=h e List.mem_cons_self;have hl':acc.length<sizeLine:=Nat.lt_of_lt_of_le (by simp at hl;omega:acc.length<1000) (by decide);have go:forL 3 (eM M) (e::es) [some (.d e0),some (.d G),some (.loc (.list acc)),o3,o4] T=bnd (eM M [some (.d e0),some (.d G),some (.loc (.list acc)),some (.d e),o4] T) (qY (forL 3 (eM M) es)):=rfl;rw[go]
  rcases sG t with⟨hf,w,_,hw⟩|⟨hf,hv,_⟩
  .rw[List.map_cons,List.filter_cons,if_pos hf]
   rw[hw] at ht
   have hb:eM M [some (.d e0),some (.d G),some (.loc (.list acc)),some (.d e),o4] T=some ((.rt (fl w),[some (.d e0),some (.d G),some (.loc (.list acc)),some (.d e),some (.d (fl w))]),T):=by
    simp[eM,ht,fl]
   rw[hb,hw];exact⟨_,rfl⟩
  .rw[List.map_cons,List.filter_cons,hf]
   have ih:=kA (e0:=e0) es (acc++[vOf (f e)]) (some (.d e)) (some (.d (f e))) (fun x hx=>h x (List.mem_cons_of_mem _ hx)) (by simp at hl ⊢;omega)
   have hb:eM M [some (.d e0),some (.d G),some (.loc (.list acc)),some (.d e),o4] T=some ((.nx,[some (.d e0),some (.d G),some (.loc (.list (acc++[vOf (f e)]))),some (.d e),some (.d (f e))]),T):=by
    generalize hV:vOf (f e)=v at hv;rw[hv] at ht ⊢;simp[eM,ht,vl,hl']
   rw[hb,fj,Dt];simp only[Bool.false_eq_true,if_false]
   cases hF:(es.map f).filter isF with
   |nil=>
    rw[hF] at ih;obtain⟨o3',o4',hi⟩:=ih;exact⟨o3',o4',by rw[hi];simp⟩
   |cons R r=>
    rw[hF] at ih;exact ih
def TBB(G:PyData)(gs:List PyData)(n:Nat)(e:PyData):Prop:=∃R,dh R/\(∀k T,n<k->cE k [.d e,.d (.list gs)] T=some (R,T))/\∀k T,n<k->dD k [.d e,.d G] T=some (R,T)
structure NodeB(e0:PyData)(w0:Str)(es:List PyData):Prop where
 nd:Node e0 w0 es
 w2:∀G T,gF [some (.d e0),some (.d G),some (.loc (.list [])),none,none] T=some (es,T)
theorem nZ{G:PyData}{gs:List PyData}{e0:PyData}{w0:Str}{es:List PyData}{f:PyData->PyData}{n:Nat}(N:NodeB e0 w0 es)
  (hf:∀e∈es,dh (f e)/\(∀k T,n<k->cE k [.d e,.d (.list gs)] T=some (f e,T))/\∀k T,n<k->dD k [.d e,.d G] T=some (f e,T))
  (fin:(∀e∈es,f e=vl (vOf (f e))/\aF (vOf (f e))=true)->∃R,dh R/\(∀T,bi [.d (.str w0),.d (.list (es.map fun e=>vOf (f e)))] T=some (R,T))/\∀o3 o4 T,dI (ij [some (.d e0),some (.d (.list gs)),some (.loc (.list (es.map fun e=>vOf (f e)))),o3,o4] T)=some (R,T)):TBB G gs (n+1) e0:=by
 have ix:=N.nd.ix;have np:=N.nd.np;have ng:=N.nd.ng;have byP:∀k T,n<k->(∀e∈es,dh (f e)/\dD k [.d e,.d G] T=some (f e,T)):=fun k T hk e he=>⟨(hf e he).1,(hf e he).2.2 k T hk⟩;have byL:∀k T,n<k->(∀e∈es,dh (f e)/\cE k [.d e,.d (.list gs)] T=some (f e,T)):=fun k T hk e he=>⟨(hf e he).1,(hf e he).2.1 k T hk⟩
 cases hF:(es.map f).filter isF with
 |cons R r=>
  have hR:R∈(es.map f).filter isF:=by rw[hF];exact List.mem_cons_self
  obtain⟨e,he,eR⟩:=List.mem_map.mp (List.mem_filter.mp hR).1;refine⟨R,by rw[←eR];exact(hf e he).1,fun k T hk=>?_,fun k T hk=>?_⟩
  .obtain⟨k,rfl⟩:=bh k (by omega)
   have lp:=kA (e0:=e0) es [] none none (byL k T (by omega)) (by have:=N.nd.ln;simp;omega);rw[hF] at lp;obtain⟨ρ',lp⟩:=lp;rw[r6];simp[ix,np,ng,N.w2,lp]
  .obtain⟨k,rfl⟩:=bh k (by omega)
   have lp:=kA (e0:=e0) es [] none none (byP k T (by omega)) (by have:=N.nd.ln;simp;omega);rw[hF] at lp;obtain⟨ρ',lp⟩:=lp;rw[sH];simp[ix,np,ng,N.nd.w1,tJ,lp]
 |nil=>
  have all:∀e∈es,f e=vl (vOf (f e))/\aF (vOf (f e))=true:=fun e he=>by
   rcases sG (hf e he).1 with⟨h1,_⟩|⟨_,h2⟩
   .have:f e∈(es.map f).filter isF:=List.mem_filter.mpr ⟨List.mem_map.mpr ⟨e,he,rfl⟩,h1⟩
    rw[hF] at this;cases this
   .exact h2
  obtain⟨R,t,q1,q2⟩:=fin all;refine⟨R,t,fun k T hk=>?_,fun k T hk=>?_⟩
  .obtain⟨k,rfl⟩:=bh k (by omega)
   have lp:=kA (e0:=e0) es [] none none (byL k T (by omega)) (by have:=N.nd.ln;simp;omega);rw[hF] at lp;obtain⟨o3',o4',lp⟩:=lp;rw[r6];have q:=q2 o3' o4' T;simp[ix,np,ng,N.w2,lp,q]
  .obtain⟨k,rfl⟩:=bh k (by omega)
   have lp:=kA (e0:=e0) es [] none none (byP k T (by omega)) (by have:=N.nd.ln;simp;omega);rw[hF] at lp;obtain⟨o3',o4',lp⟩:=lp;have cf:∀T,iu bi [.d (.str w0),.d (.list (es.map fun e=>vOf (f e)))] T=some (.d R,T):=fun T=>lA rfl (q1 []) (lD t);rw[sH];simp[ix,np,ng,N.nd.w1,tJ,lp,cf]
theorem nV{G:PyData}{gs:List PyData}{n:Nat}{es:List PyData}(h:∀e∈es,TBB G gs n e):∃f:PyData->PyData,∀e∈es,dh (f e)/\(∀k T,n<k->cE k [.d e,.d (.list gs)] T=some (f e,T))/\∀k T,n<k->dD k [.d e,.d G] T=some (f e,T):=by
 classical
 refine⟨fun e=>if h':e∈es then (h e h').choose else .none,fun e he=>?_⟩;simp only[dif_pos he];exact(h e he).choose_spec
theorem Ex.tup{m:Int}{n:Nat}{e:PyData}(h:Ex m n e):∃xs,e=.tuple xs:=by cases h <;> exact⟨_,rfl⟩
theorem oi{m:Int}{G:PyData}{gs:List PyData}(hG:xR G gs)(hg:∀g∈gs,aF g=true)(hm:m<=(gs.length:Int)):∀(n:Nat) (e:PyData),Ex m n e->TBB G gs n e:=by
 intro n e h
 induction h with
 |put hv=>
  rename_i n v;refine⟨vl v,.inl ⟨v,rfl,hv⟩,fun k T hk=>?_,fun k T hk=>?_⟩
  .obtain⟨k,rfl⟩:=bh k (by omega)
   simp[cE,vl]
  .obtain⟨k,rfl⟩:=bh k (by omega)
   simp[dD,vl]
 |got h0 h1=>
  rename_i n i;obtain⟨g,e,hgm⟩:=wV (xs:=gs) h0 (by omega);refine⟨vl g,.inl ⟨g,rfl,hg g hgm⟩,fun k T hk=>?_,fun k T hk=>?_⟩
  .obtain⟨k,rfl⟩:=bh k (by omega)
   simp[cE,vl,e]
  .obtain⟨k,rfl⟩:=bh k (by omega)
   simp[dD,vl,hG i,e]
 |row hl _ ih=>
  rename_i n es _;obtain⟨f,hf⟩:=nV ih
  have e1:∀T,cM [.d (.tuple [.str "row",.tuple es])] T=some (.list es,T):=fun T=>by simp[cM]
  have e2:∀G T,gF [some (.d (.tuple [.str "row",.tuple es])),some (.d G),some (.loc (.list [])),none,none] T=some (es,T):=fun G T=>by simp[gF,iL,D.intD,D.fT]
  refine nZ (w0:=Str.ofString "row") (es:=es) (f:=f) ⟨⟨e1,rfl,by simp,by simp,hl⟩,e2⟩ hf fun all=>?_
  have sx:Sm (.tuple (es.map fun e=>vOf (f e))):=Sm.tup fun d hd=>by
   obtain⟨e,he,rfl⟩:=List.mem_map.mp hd;exact mr (all e he).2
  have bp:BQ (.tuple (es.map fun e=>vOf (f e))):=.inr (.inr ⟨_,rfl,fun d hd=>by
   obtain⟨e,he,rfl⟩:=List.mem_map.mp hd
   exact(cF (all e he).2).1⟩)
  refine⟨bd (.tuple (es.map fun e=>vOf (f e))),lP _,fun T=>?_,fun o3 o4 T=>?_⟩
  .simp[bi,lB T sx]
  .have lv:=mZ T bp
   generalize es.map (fun e=>vOf (f e))=ps at lv ⊢;simp[ij,lv,D.bF]
 |many _ ih=>
  rename_i n e he;obtain⟨xs,hxs⟩:=Ex.tup he;obtain⟨f,hf⟩:=nV (es:=[e]) (fun x hx=>by rw[List.mem_singleton.mp hx];exact ih)
  have e1:∀T,cM [.d (.tuple [.str "many",e])] T=some (.list [e],T):=fun T=>by simp[cM,iL]
  have e2:∀G T,gF [some (.d (.tuple [.str "many",e])),some (.d G),some (.loc (.list [])),none,none] T=some ([e],T):=fun G T=>by subst hxs;simp[gF,iL,D.intD,D.fT]
  refine nZ (w0:=Str.ofString "many") (es:=[e]) (f:=f) ⟨⟨e1,rfl,by simp,by simp,by simp⟩,e2⟩ hf fun all=>?_;obtain⟨a1,a2⟩:=all e (by simp);generalize hV:vOf (f e)=v at a1 a2
  rcases dR a2 with⟨i,rfl,hi⟩|⟨x,rfl,hx,_⟩|⟨ds,rfl,hd⟩
  .refine⟨fl "kind",cG,fun T=>?_,fun o3 o4 T=>?_⟩
   .simp[bi,jG,hV,fl]
   .simp[ij,hV,fl]
  .have hx':x.length<=sizeLine:=cj (by omega)
   refine⟨vl (.int x.length),.inl ⟨_,rfl,lO (by omega) (by omega)⟩,fun T=>?_,fun o3 o4 T=>?_⟩
   .simp[bi,jG,hV,vl,hx']
   .simp[ij,hV,vl,hx']
  .refine⟨vl (.int ds.length),.inl ⟨_,rfl,lO (by omega) (by omega)⟩,fun T=>?_,fun o3 o4 T=>?_⟩
   .simp[bi,jG,hV,vl]
   .simp[ij,hV,vl]
 |pair hw ha hb iha ihb=>
  rename_i n w a b;obtain⟨xs,hxs⟩:=Ex.tup ha
  obtain⟨f,hf⟩:=nV (es:=[a,b]) (fun x hx=>by
   simp at hx
   rcases hx with rfl|rfl
   .exact iha
   .exact ihb)
  have ne:¬w="put"/\¬w="got"/\¬w="row"/\¬w="many":=by
   simp[PW] at hw
   rcases hw with rfl|rfl|rfl|rfl|rfl <;> simp
  obtain⟨n1,n2,n4,n5⟩:=ne
  have e1:∀T,cM [.d (.tuple [.str (Str.ofString w),a,b])] T=some (.list [a,b],T):=fun T=>by simp[cM,iL,n1,n2,n4]
  have e2:∀G T,gF [some (.d (.tuple [.str (Str.ofString w),a,b])),some (.d G),some (.loc (.list [])),none,none] T=some ([a,b],T):=fun G T=>by subst hxs;simp[gF,iL,D.intD,D.fT,n4]
  refine nZ (w0:=Str.ofString w) (es:=[a,b]) (f:=f) ⟨⟨e1,rfl,by simp[n1],by simp[n2],by simp⟩,e2⟩ hf fun all=>?_;obtain⟨a1,a2⟩:=all a (by simp);obtain⟨b1,b2⟩:=all b (by simp);obtain⟨R,t,q1,q2⟩:=Hj hw a2 b2;refine⟨R,t,fun T=>q1 T,fun o3 o4 T=>?_⟩;simp[ij,n4,n5,q2]
inductive Rg(p:Bool):Nat->Nat->PyData->Prop where
 |fail {g n:Nat}{x:Str}:isName (.str x)=true->Rg p g n (.tuple [.str "fail",.str x])
 |say {g n:Nat}{e:PyData}:Ex (g:Int) n e->Rg p g (n+1) (.tuple [.str "say",e])
 |ask {g n:Nat}{w:String}{e r:PyData}:(w="want"\/(w="peek"/\p=true))->g<12->Ex (g:Int) n e->Rg p (g+1) n r->Rg p g (n+1) (.tuple [.str (Str.ofString w),e,r])
 |whn {g n:Nat}{e r s:PyData}:Ex (g:Int) n e->Rg p g n r->Rg p g n s->Rg p g (n+1) (.tuple [.str "when",e,r,s])
def mdT(v:PyData):PyData:=.tuple [.str "made",v]
def flT(x:Str):PyData:=.tuple [.str "fails",.str x]
def asT(b:Bool)(x:Str)(r:PyData):PyData:=.tuple [.str (Str.ofString (if b then "peek" else "want")),.str x,r]
inductive StepOk(p:Bool)(g n:Nat):PyData->Prop where
 |md {v:PyData}:aF v=true->StepOk p g n (mdT v)
 |fl {x:Str}:isName (.str x)=true->StepOk p g n (flT x)
 |ask {b:Bool}{x:Str}{r:PyData}{n':Nat}:(b=true->p=true)->isName (.str x)=true->g<12->n'<=n->Rg p (g+1) n' r->StepOk p g n (asT b x r)
theorem StepOk.up{p:Bool}{g n m:Nat}{S:PyData}(h:StepOk p g n S)(l:n<=m):StepOk p g m S:=by
 cases h with
 |md a=>exact .md a
 |fl a=>exact .fl a
 |ask a b c d e=>exact .ask a b c (Nat.le_trans d l) e
theorem pM:∀w∈FW,isName (.str (Str.ofString w))=true:=by decide +kernel
theorem CW:isName (.str "name")=true:=by decide +kernel
theorem AF{v:PyData}(h:aF v=true):∃b,inG v (.tuple [.int 0,.str "",.tuple []])=some (.bool b):=by
 have h2:([PyData.int 0,.str "",.tuple []]).all SeqAt.shaped=true:=by
  have a:SeqAt.shaped (.int 0)=true:=gS (by decide +kernel);have b:SeqAt.shaped (.str "")=true:=gS (by decide +kernel);have c:SeqAt.shaped (.tuple [])=true:=gS (by decide +kernel);simp[a,b,c]
 exact⟨_,if_pos ⟨gS h,h2⟩⟩
theorem Cd{d:PyData}(T:Tp)(h:Sm d):iR [.d d] T=some (.bool (isName d),T):=by
 cases d with
 |str x=>
  have hz:x.length<=sizeLine:=Nat.le_trans h.str (by decide);have hh:∀T,gU [.d (.str x),.d (.str "abcdefghijklmnopqrstuvwxyz")] T=some (.bool (has LET x),T):=fun T=>xQ T hz;have e:isName (.str x)=(decide (1<=x.length)&&decide (x.length<=8)&&has LET x):=rfl
  by_cases h1:1<=x.length
  .have h1':(1:Int)<=(x.length:Int):=by omega
   by_cases h8:x.length<=8
   .have h8':(x.length:Int)<=8:=by omega
    simp[iR,hz,hh,e,h1,h1',h8,h8']
   .have h8':¬(x.length:Int)<=8:=by omega
    simp[iR,hz,hh,e,h1,h1',h8,h8']
  .have h1':¬(1:Int)<=(x.length:Int):=by omega
   simp[iR,hz,hh,e,h1,h1']
 |_=>rfl
theorem nz{α:Type}{a b c d:α}:atI [a,b,c,d] 0=some a:=rfl
theorem nv{α:Type}{a b c d:α}:atI [a,b,c,d] 1=some b:=rfl
theorem xU{α:Type}{a b c d:α}:atI [a,b,c,d] 2=some c:=rfl
theorem xT{α:Type}{a b c d:α}:atI [a,b,c,d] 3=some d:=rfl
def cst:Nat->PyData->List Nat
 |n+1,.tuple ds=>40::(bq [44] (ds.map (cst n))++[41])
 |0,.tuple _=>[]
 |_,.int i=>nc i
 |_,.str x=>39::cd x
 |_,_=>[]
theorem me(n:Nat)(i:Int):cst n (.int i)=nc i:=by cases n <;> rfl
theorem ma(n:Nat)(x:Str):cst n (.str x)=39::cd x:=by cases n <;> rfl
theorem A7{d:PyData}{n:Nat}(h:single d=true):(cst n d).length<=21:=by
 rcases cN h with⟨i,rfl⟩|⟨x,rfl⟩
 .rw[me]
  have:=vY h;omega
 .rw[ma]
  have h':(decide (x.length<=20)&&has TXT x)=true:=h;rw[Bool.and_eq_true] at h';have:=of_decide_eq_true h'.1;rw[List.length_cons,fm];omega
theorem og(f:PyData->List Nat):∀ds:List PyData,(ds.map fun d=>(f d).length).sum+ds.length<=(bq [44] (ds.map f)).length+1/\(bq [44] (ds.map f)).length<=(ds.map fun d=>(f d).length).sum+ds.length
 |[]=>by simp[bq]
 |[d]=>by simp[bq]
 |d::e::r=>by
  have ih:=og f (e::r);have e1:bq [44] ((d::e::r).map f)=f d++[44]++bq [44] ((e::r).map f):=rfl;rw[e1];simp only[List.map_cons,List.sum_cons,List.length_cons,List.length_append,List.length_nil] at ih ⊢;omega
theorem pI{n:Nat}:∀{ds:List PyData},(∀d∈ds,((cst n d).length:Int)+1<=25*aJ n d)->(((ds.map fun d=>(cst n d).length).sum+ds.length:Nat):Int)<=25*(ds.map (aJ n)).sum
 |[],_=>by simp
 |d::r,h=>by
  have h1:=h d List.mem_cons_self;have h2:=pI (ds:=r) fun x hx=>h x (List.mem_cons_of_mem _ hx);simp only[List.map_cons,List.sum_cons,List.length_cons];omega
theorem p0:∀(n:Nat) (d:PyData),aN n d=true->((cst n d).length:Int)+1<=25*aJ n d
 |n,d,h=>by
  rcases cP h with h1|⟨m,ds,rfl,rfl,h8,hb⟩
  .have:=A7 (n:=n) h1
   have:=oP n d;omega
  .have ih:=p0 m
   have h1:=pI (ds:=ds) fun d hd=>ih d (hb d hd);have h2:=(og (cst m) ds).2;show (((40::(bq [44] (ds.map (cst m))++[41])).length:Nat):Int)+1<=25*(1+(ds.map (aJ m)).sum);simp only[List.length_cons,List.length_append,List.length_nil];omega
termination_by n=>n
theorem pS{i:Int}(h:single (.int i)=true):fE [.int i]=some (.str (mk (nc i))):=by
 have h1:=n8 h
 have h2:i.natAbs.log2<1920:=by
  by_cases z:i.natAbs=0
  .rw[z];decide
  .exact Nat.lt_of_lt_of_le ((Nat.log2_lt (k:=64) z).mpr (Nat.lt_of_le_of_lt h1 (by decide))) (by decide)
 have e:Str.ofString (toString i)=mk (nc i):=gE (by rw[GI,d8]);show (if i.natAbs.log2<1920 then some (PyData.str (Str.ofString (toString i))) else none)=_;rw[if_pos h2,e]
theorem i9(a b:List Nat):mk a++mk b=mk (a++b):=gE (by rw[ir,d8,d8,d8])
theorem lit{s:String}{l:List Nat}(h:cd (Str.ofString s)=l):Str.ofString s=mk l:=gE (by rw[h,d8])
theorem uP(f:PyData->List Nat)(ds:List PyData):((ds.map fun d=>mk (f d)).map (·.length)).sum=(ds.map fun d=>(f d).length).sum:=by
 rw[List.map_map];exact congrArg List.sum (List.map_congr_left fun d _=>c8 _)
theorem uZ(f:PyData->List Nat)(ds:List PyData):Str.join (mk [44]) (ds.map fun d=>mk (f d))=mk (bq [44] (ds.map f)):=gE (by
 rw[pJ,d8,d8,List.map_map]
 exact congrArg (bq [44]) (List.map_congr_left fun d _=>d8 _))
theorem uk{m:Nat}{ds:List PyData}(hm:aJ (m+1) (.tuple ds)<=40)(hb:∀x∈ds,aN m x=true):(bq [44] (ds.map (cst m))).length<=1000/\(ds.map fun d=>(cst m d).length).sum+ds.length<=1000:=by
 have h1:=pI (ds:=ds) fun d hd=>p0 m d (hb d hd);have h2:=(og (cst m) ds).2;have h3:1+(ds.map (aJ m)).sum<=40:=hm;omega
theorem str_len{n:Nat}{x:Str}(h:single (.str x)=true):x.length<=20:=by
 have h':(decide (x.length<=20)&&has TXT x)=true:=h;rw[Bool.and_eq_true] at h';exact of_decide_eq_true h'.1
theorem vI:∀(n k:Nat) (d:PyData) (T:Tp),aN n d=true->aJ n d<=40->n<k->c6 k [.d d] T=some (.str (mk (cst n d)),T)
 |n,0,d,T,h,hm,hk=>absurd hk (Nat.not_lt_zero _)
 |n,k+1,d,T,h,hm,hk=>by
  have q1:=lit (s:="'") (l:=[39]) (by decide +kernel);have q2:=lit (s:="(") (l:=[40]) (by decide +kernel);have q3:=lit (s:=")") (l:=[41]) (by decide +kernel);have q4:=lit (s:=",") (l:=[44]) (by decide +kernel)
  rcases cP h with h1|⟨m,ds,rfl,rfl,h8,hb⟩
  .rcases cN h1 with⟨i,rfl⟩|⟨x,rfl⟩
   .simp[c6,i4,whole,pS h1,me]
   .have e:mk [39]++x=mk (39::cd x):=by rw[←xq x,i9,d8];rfl
    have l:(mk [39]).length+x.length<=sizeLine:=cj (by rw[c8];have:=str_len (n:=0) h1;simp;omega);simp[c6,i4,whole,ma,wg,q1,l,e]
  .obtain⟨l1,l2⟩:=uk hm hb
   have c:=eK (e:=aq (c6 k) (ae (aa 0) ah)) (ρ:=[some (.d (.tuple ds))]) (T:=T) (g:=fun d=>.str (mk (cst m d))) (ds:=ds) fun d hd=>by
    have:=vI m k d T (hb d hd) (Int.le_trans (ot hd) hm) (by omega);simp[this]
   have j:=t7 (z:=mk [44]) (lc (fun d=>mk (cst m d)) ds);rw[uP,uZ,List.length_map,c8] at j;rw[if_pos (by simp;omega)] at j;have a1:(mk [40]).length+(mk (bq [44] (ds.map (cst m)))).length<=sizeLine:=cj (by rw[c8,c8];simp;omega);have a2:(mk (40::bq [44] (ds.map (cst m)))).length+(mk [41]).length<=sizeLine:=cj (by rw[c8,c8];simp;omega)
   have e1:mk [40]++mk (bq [44] (ds.map (cst m)))=mk (40::bq [44] (ds.map (cst m))):=by rw[i9];rfl
   have e2:mk (40::bq [44] (ds.map (cst m)))++mk [41]=mk (cst (m+1) (.tuple ds)):=by rw[i9];rfl
   simp[c6,i4,whole,wc,q2,q3,q4,c,j,a1,a2,e1,e2]
def dB(w:String)(x:PyData):PyData:=.tuple [.str (Str.ofString w),x]
def cZ(b:Bool)(x:Str)(v:PyData):List PyData:=if b then [] else [.tuple [.str x,v]]
def stS(v:PyData):PyData:=.str (mk (cst 4 v))
def rdS:PyData->PyData
 |.tuple [.str x,v]=>.tuple [.str x,stS v]
 |d=>d
theorem ms{v:PyData}(T:Tp)(h:aF v=true):c6 25 [.d v] T=some (stS v,T):=vI 4 25 v T (cF h).1 (cF h).2 (by decide)
theorem uv:∀(n k:Nat) (d:PyData) (T:Tp),aN n d=true->aJ n d<=40->n<k->cO k [.d d] T=some (.str (mk (cst n d)),T)
 |n,0,d,T,h,hm,hk=>absurd hk (Nat.not_lt_zero _)
 |n,k+1,d,T,h,hm,hk=>by
  have q1:=lit (s:="'") (l:=[39]) (by decide +kernel);have q2:=lit (s:="(") (l:=[40]) (by decide +kernel);have q3:=lit (s:=")") (l:=[41]) (by decide +kernel);have q4:=lit (s:=",") (l:=[44]) (by decide +kernel)
  rcases cP h with h1|⟨m,ds,rfl,rfl,h8,hb⟩
  .rcases cN h1 with⟨i,rfl⟩|⟨x,rfl⟩
   .simp[cO,pS h1,me]
   .have e:mk [39]++x=mk (39::cd x):=by rw[←xq x,i9,d8];rfl
    have l:(mk [39]).length+x.length<=sizeLine:=cj (by rw[c8];have:=str_len (n:=0) h1;simp;omega);simp[cO,ma,wg,q1,l,e]
  .obtain⟨l1,l2⟩:=uk hm hb
   have c:=eK (e:=aq (cO k) (ae (aa 0) ah)) (ρ:=[some (.d (.tuple ds))]) (T:=T) (g:=fun d=>.str (mk (cst m d))) (ds:=ds) fun d hd=>by
    have:=uv m k d T (hb d hd) (Int.le_trans (ot hd) hm) (by omega);simp[this]
   have j:=t7 (z:=mk [44]) (lc (fun d=>mk (cst m d)) ds);rw[uP,uZ,List.length_map,c8] at j;rw[if_pos (by simp;omega)] at j;have a1:(mk [40]).length+(mk (bq [44] (ds.map (cst m)))).length<=sizeLine:=cj (by rw[c8,c8];simp;omega);have a2:(mk (40::bq [44] (ds.map (cst m)))).length+(mk [41]).length<=sizeLine:=cj (by rw[c8,c8];simp;omega)
   have e1:mk [40]++mk (bq [44] (ds.map (cst m)))=mk (40::bq [44] (ds.map (cst m))):=by rw[i9];rfl
   have e2:mk (40::bq [44] (ds.map (cst m)))++mk [41]=mk (cst (m+1) (.tuple ds)):=by rw[i9];rfl
   simp[cO,wc,q2,q3,q4,c,j,a1,a2,e1,e2]
theorem j6{v:PyData}(T:Tp)(h:aF v=true):cO 25 [.d v] T=some (stS v,T):=uv 4 25 v T (cF h).1 (cF h).2 (by decide)
theorem D4{v:PyData}(T:Tp)(h:aF v=true):gP [.d v] T=some (.bool (isName v),T):=by
 rcases dR h with⟨i,rfl,_⟩|⟨x,rfl,hx,hx2⟩|⟨ds,rfl,_⟩
 .rfl
 .have z:x.length<=sizeLine:=Nat.le_trans hx (by decide)
  have e:isName (.str x)=(decide (1<=x.length)&&decide (x.length<=8)&&has LET x):=rfl
  have c:∀(ρ:Rho) (T:Tp),bC bG (af inD (aa 0) (fC (.str "abcdefghijklmnopqrstuvwxyz"))) ρ (D.signs x) T=some ((D.signs x).map fun d=>.bool (kc LET d),T):=fun ρ T=>eK (g:=fun d=>.bool (kc LET d)) fun d hd=>by
   obtain⟨c,_,rfl⟩:=sM hd;simp[kc];rfl
  by_cases h1:1<=x.length
  .have h1':(1:Int)<=x.length:=by omega
   by_cases h8:x.length<=8
   .have h8':(x.length:Int)<=8:=by omega
    have sa:=sN LET x;simp[gP,z,h1,h1',h8,h8',c,e,sa]
   .have h8':¬(x.length:Int)<=8:=by omega
    simp[gP,z,h1,h1',h8,h8',e]
  .have h1':¬(1:Int)<=x.length:=by omega
   have h0:x.length=0:=by omega
   simp[gP,z,h0,e]
 .rfl
theorem kP(x a b c:Str):inD (.str x) (.tuple [.str a,.str b,.str c])=some (.bool (decide (x=a)||decide (x=b)||decide (x=c))):=by
 have e:inD (.str x) (.tuple [.str a,.str b,.str c])=some (.bool (decide (a=x)||(decide (b=x)||(decide (c=x)||false)))):=rfl;rw[e,Bool.or_false,Bool.or_assoc]
 congr 2
 rw[decide_eq_decide.mpr (show a=x↔x=a from⟨fun z=>z.symm,fun z=>z.symm⟩),decide_eq_decide.mpr (show b=x↔x=b from⟨fun z=>z.symm,fun z=>z.symm⟩),decide_eq_decide.mpr (show c=x↔x=c from⟨fun z=>z.symm,fun z=>z.symm⟩)]
def eA:FT:=(ax (af inD (af ixD (aa 0) (fC (.int 0))) (az .tuple (ae (fC (.str "want")) (ae (fC (.str "peek")) (ae (fC (.str "when")) ah))))))
abbrev nG:FS:=gn
def jA:FS:=(ak (fIf (ax (af eqD (af ixD (aa 0) (fC (.int 0))) (fC (.str "fail")))) (ay (az .tuple (ae (fCB bF (ae (aa 3) ah)) (ae (az .tuple (ae (fC (.str "fails")) (ae (af ixD (aa 0) (fC (.int 1))) ah))) ah)))) aD) (ak (aE 4 (gD (cE 25) (ae (af ixD (aa 0) (fC (.int 1))) (ae (aa 2) ah)))) (ak (fIf (ax (af eqD (af ixD (aa 4) (fC (.int 0))) (fC (.str "fails")))) (ay (az .tuple (ae (fCB bF (ae (aa 3) ah)) (ae (aa 4) ah)))) aD) (ay (az .tuple (ae (fCB bF (ae (aa 3) ah)) (ae (az .tuple (ae (fC (.str "made")) (ae (aq (cO 25) (ae (af ixD (aa 4) (fC (.int 1))) ah)) ah))) (ae (af ixD (aa 4) (fC (.int 1))) ah))))))))
theorem Av:fK=aO 5 (ak (dj 2 ah) (ak (dj 3 ah) (ak (bS eA nG 100000) jA))):=rfl
def ρL(r:PyData)(G:List (PyData×PyData))(gs rd:List PyData)(o:Option D.W):Rho:=[some (.d r),some (.d (.dict G)),some (.loc (.list gs)),some (.loc (.list (rd.map rdS))),o]
def goL(m:Nat)(r:PyData)(G:List (PyData×PyData))(gs rd:List PyData)(o:Option D.W)(T:Tp):Option (PyData×Tp):=dI (bnd (bS eA nG m (ρL r G gs rd o) T) (iF jA))
def nN(n:Nat)(r:PyData)(gs:List PyData)(S:PyData):Prop:=∀(G:List (PyData×PyData)) (m:Nat) (rd:List PyData) (o:Option D.W) (T:Tp),n<m->rd.length<1000->(∀x v,aA G x=some v->aF v=true) ->
 (∀v,S=mdT v->goL m r G gs rd o T=some (.tuple [.tuple (rd.map rdS),.tuple [.str "made",stS v],v],T)) /\
 (∀x,S=flT x->goL m r G gs rd o T=some (.tuple [.tuple (rd.map rdS),dB "fails" (.str x)],T)) /\
 (∀b x r',S=asT b x r'->(aA G x=none->goL m r G gs rd o T=some (.tuple [.tuple (rd.map rdS),dB "wants" (.str x)],T)) /\
  ∀v,aA G x=some v->∃m' o',m<=m' + n/\goL m r G gs rd o T=goL m' r' G (gs++[v]) (rd++cZ b x v) o' T)
theorem fS{v:PyData}{x:Str}:mdT v≠flT x:=by simp[mdT,flT]
theorem whl{c:FT}{b:FS}{m:Nat}{ρ:Rho}{T:Tp}(h:c ρ T=some (true,T)):bS c b (m+1) ρ T=bnd (b ρ T) fun p T2=>match p with
   |(.nx,ρ1)=>bS c b m ρ1 T2
   |(.ct,ρ1)=>bS c b m ρ1 T2
   |(.bk,ρ1)=>some ((.nx,ρ1),T2)
   |(.rt x,ρ1)=>some ((.rt x,ρ1),T2)
   |(.ro x,ρ1)=>some ((.ro x,ρ1),T2):=by
 show bnd (c ρ T) _=_;rw[h];rfl
theorem D8{c:FT}{b:FS}{m:Nat}{ρ ρ':Rho}{T:Tp}{x:PyData}(h:c ρ T=some (true,T))(hb:b ρ T=some ((.rt x,ρ'),T)):bS c b (m+1) ρ T=some ((.rt x,ρ'),T):=by rw[whl h,hb];rfl
theorem mq{c:FT}{b:FS}{m:Nat}{ρ ρ':Rho}{T:Tp}(h:c ρ T=some (true,T))(hb:b ρ T=some ((.nx,ρ'),T)):bS c b (m+1) ρ T=bS c b m ρ' T:=by rw[whl h,hb];rfl
theorem lN{c:FT}{b:FS}{m:Nat}{ρ:Rho}{T:Tp}(h:c ρ T=some (false,T)):bS c b (m+1) ρ T=some ((.nx,ρ),T):=by
 show bnd (c ρ T) _=_;rw[h];rfl
theorem mN{m:Nat}{r:PyData}{G:List (PyData×PyData)}{gs rd:List PyData}{o:Option D.W}{T:Tp}{ρ':Rho}{x:PyData}(h:eA (ρL r G gs rd o) T=some (true,T))(hb:nG (ρL r G gs rd o) T=some ((.rt x,ρ'),T)):goL (m+1) r G gs rd o T=some (x,T):=by
 unfold goL;rw[D8 h hb];rfl
theorem wB{m:Nat}{r r':PyData}{G:List (PyData×PyData)}{gs rd gs' rd':List PyData}{o o':Option D.W}{T:Tp}(h:eA (ρL r G gs rd o) T=some (true,T))(hb:nG (ρL r G gs rd o) T=some ((.nx,ρL r' G gs' rd' o'),T)):goL (m+1) r G gs rd o T=goL m r' G gs' rd' o' T:=by
 unfold goL;rw[mq h hb]
theorem pL{m:Nat}{r:PyData}{G:List (PyData×PyData)}{gs rd:List PyData}{o:Option D.W}{T:Tp}(h:eA (ρL r G gs rd o) T=some (false,T)):goL (m+1) r G gs rd o T=dI (jA (ρL r G gs rd o) T):=by
 unfold goL;rw[lN h];rfl
theorem BJ{m:Nat}{x:Str}{G:List (PyData×PyData)}{gs rd:List PyData}{o:Option D.W}{T:Tp}:goL (m+1) (.tuple [.str "fail",.str x]) G gs rd o T=some (.tuple [.tuple (rd.map rdS),dB "fails" (.str x)],T):=by
 rw[pL (by simp[eA,ρL,kP])];simp[ρL,jA,dB,D.bF]
theorem BB{p:Bool}:∀(n g:Nat) (r:PyData),Rg p g n r->∀gs:List PyData,gs.length=g->(∀v∈gs,aF v=true)->n<=20->∃S,StepOk p g n S/\(∀k T,n<k->cQ k [.d r,.d (.tuple gs)] T=some (S,T))/\nN n r gs S:=by
 intro n g r h
 induction h with
 |fail hx=>
  rename_i g n x;intro gs hl hv hn;refine⟨flT x,.fl hx,fun k T hk=>?_,fun G m rd o T hm hr hG=>⟨fun v e=>absurd e.symm fS,fun y e=>?_,fun b y r' e=>?_⟩⟩
  .obtain⟨k,rfl⟩:=bh k (by omega)
   simp[cQ,flT]
  .obtain⟨m,rfl⟩:=bh m (by omega)
   have:x=y:=by simpa[flT] using e
   subst this;exact BJ
  .cases b <;> simp[flT,asT] at e
 |say he=>
  rename_i g n e;intro gs hl hv hn;have hls:gs.length<=12\/True:=.inr trivial;obtain⟨R,t,hL,hP⟩:=oi (oz gs) hv (by rw[hl];exact Int.le_refl _) n e he;have tb:=fun T=>hP 25 T (by omega);have tl:∀T,iu (cE 25) [.d e,.loc (.list gs)] T=some (.d R,T):=fun T=>lA rfl (hL 25 [] (by omega)) (lD t)
  rcases t with⟨v,rfl,hv'⟩|⟨w,hw,rfl⟩
  .refine⟨mdT v,.md hv',fun k T hk=>?_,fun G m rd o T hm hr hG=>⟨fun u e'=>?_,fun y e'=>absurd e' fS,fun b y r' e'=>?_⟩⟩
   .obtain⟨k,rfl⟩:=bh k (by omega)
    simp[cQ,mdT,tb,vl]
   .obtain⟨m,rfl⟩:=bh m (by omega)
    have:v=u:=by simpa[mdT] using e'
    subst this;rw[pL (by simp[eA,ρL,kP])];simp[ρL,jA,tl,vl,j6 _ hv',D.bF]
   .cases b <;> simp[mdT,asT] at e'
  .refine⟨flT (Str.ofString w),.fl (pM w hw),fun k T hk=>?_,fun G m rd o T hm hr hG=>⟨fun u e'=>absurd e'.symm fS,fun y e'=>?_,fun b y r' e'=>?_⟩⟩
   .obtain⟨k,rfl⟩:=bh k (by omega)
    simp[cQ,flT,tb,fl]
   .obtain⟨m,rfl⟩:=bh m (by omega)
    have:Str.ofString w=y:=by simpa[flT] using e'
    subst this;rw[pL (by simp[eA,ρL,kP])];simp[ρL,jA,tl,fl,dB,D.bF]
   .cases b <;> simp[flT,asT] at e'
 |ask hw hg he hr ih=>
  rename_i g n w e r;intro gs hl hv hn;obtain⟨R,t,hL,hP⟩:=oi (oz gs) hv (by rw[hl];exact Int.le_refl _) n e he;have tb:=fun T=>hP 25 T (by omega);have tl:∀T,iu (cE 25) [.d e,.loc (.list gs)] T=some (.d R,T):=fun T=>lA rfl (hL 25 [] (by omega)) (lD t)
  have nw:¬w="fail"/\¬w="when"/\¬w="say":=by rcases hw with rfl|⟨rfl,_⟩ <;> simp
  obtain⟨n1,n2,n3⟩:=nw
  have hcA:∀G rd o T,eA (ρL (.tuple [.str (Str.ofString w),e,r]) G gs rd o) T=some (true,T):=fun G rd o T=>by rcases hw with rfl|⟨rfl,_⟩ <;> simp[eA,ρL,kP]
  have hgl:gs.length<sizeLine:=Nat.lt_of_lt_of_le (by omega:gs.length<1000) (by decide)
  rcases t with⟨v,rfl,hv'⟩|⟨u,hu,rfl⟩
  .have ln:=fun T=>Cd (d:=v) T (mr hv')
   have ll:=fun T=>D4 (v:=v) T hv'
   cases hi:isName v with
   |false=>
    refine⟨flT "name",.fl CW,fun k T hk=>?_,fun G m rd o T hm hr hG=>⟨fun u e'=>absurd e'.symm fS,fun y e'=>?_,fun b y r' e'=>?_⟩⟩
    .obtain⟨k,rfl⟩:=bh k (by omega)
     simp[cQ,flT,tb,vl,n1,n2,n3,ln,hi]
    .obtain⟨m,rfl⟩:=bh m (by omega)
     have:Str.ofString "name"=y:=by simpa[flT] using e'
     subst this;exact mN (hcA G rd o T) (by simp[gn,ρL,tl,vl,dB,n2,n3,ll,hi,D.bF];rfl)
    .cases b <;> simp[flT,asT] at e'
   |true=>
    obtain⟨x,rfl⟩:∃x,v=.str x:=by cases v <;> first|exact⟨_,rfl⟩|cases hi
    obtain⟨b,hb,hbp⟩:∃b:Bool,w=(if b then "peek" else "want")/\(b=true->p=true):=by
     rcases hw with rfl|⟨rfl,hp⟩
     .exact⟨false,rfl,fun z=>by cases z⟩
     .exact⟨true,rfl,fun _=>hp⟩
    refine⟨asT b x r,.ask hbp hi hg (Nat.le_succ n) hr,fun k T hk=>?_,fun G m rd o T hm hrd hG=>⟨fun u e'=>?_,fun y e'=>?_,fun b' y r' e'=>?_⟩⟩
    .obtain⟨k,rfl⟩:=bh k (by omega)
     simp[cQ,asT,tb,vl,n1,n2,n3,ln,hi,hb]
     cases b <;> simp
    .cases b <;> simp[mdT,asT] at e'
    .cases b <;> simp[flT,asT] at e'
    .obtain⟨m,rfl⟩:=bh m (by omega)
     have hc:=hcA G rd o T
     obtain⟨rfl,rfl,rfl⟩:b=b'/\x=y/\r=r':=by
      cases b <;> cases b' <;> simp[asT] at e' <;> simp[e']
     have hrl:rd.length<sizeLine:=Nat.lt_of_lt_of_le hrd (by decide);refine⟨fun hk=>mN hc (by simp[gn,ρL,tl,vl,dB,n2,n3,ll,hi,cy,hk,D.bF];rfl),fun v hk=>⟨m,some (.d (vl (.str x))),by omega,?_⟩⟩;refine wB hc ?_
     cases b with
     |true=>
      subst hb;simp[gn,ρL,tl,vl,n2,n3,ll,hi,cy,ixA,hk,hgl,cZ]
     |false=>
      subst hb;simp[gn,ρL,tl,vl,n2,n3,ll,hi,cy,ixA,hk,hgl,hrl,cZ,rdS,j6 T (hG x v hk)]
  .refine⟨flT (Str.ofString u),.fl (pM u hu),fun k T hk=>?_,fun G m rd o T hm hr hG=>⟨fun u e'=>absurd e'.symm fS,fun y e'=>?_,fun b y r' e'=>?_⟩⟩
   .obtain⟨k,rfl⟩:=bh k (by omega)
    simp[cQ,flT,tb,fl,n1]
   .obtain⟨m,rfl⟩:=bh m (by omega)
    have:Str.ofString u=y:=by simpa[flT] using e'
    subst this;exact mN (hcA G rd o T) (by simp[gn,ρL,tl,fl,dB,D.bF];rfl)
   .cases b <;> simp[flT,asT] at e'
 |whn he hr hs ihr ihs=>
  rename_i g n e r s;intro gs hl hv hn;obtain⟨R,t,hL,hP⟩:=oi (oz gs) hv (by rw[hl];exact Int.le_refl _) n e he;have tb:=fun T=>hP 25 T (by omega);have tl:∀T,iu (cE 25) [.d e,.loc (.list gs)] T=some (.d R,T):=fun T=>lA rfl (hL 25 [] (by omega)) (lD t)
  have hc:∀G rd o T,eA (ρL (.tuple [.str "when",e,r,s]) G gs rd o) T=some (true,T):=fun G rd o T=>by simp[eA,ρL,nz,kP]
  rcases t with⟨v,rfl,hv'⟩|⟨u,hu,rfl⟩
  .obtain⟨b,hb⟩:=AF hv'
   have key:∀q,q=(if b=true then s else r)->∀S,StepOk p g n S->(∀k T,n<k->cQ k [.d q,.d (.tuple gs)] T=some (S,T))->nN n q gs S->∃S,StepOk p g (n+1) S/\(∀k T,n+1<k->cQ k [.d (.tuple [.str "when",e,r,s]),.d (.tuple gs)] T=some (S,T))/\nN (n+1) (.tuple [.str "when",e,r,s]) gs S:=by
    intro q hq S hS hq2 hq3;refine⟨S,hS.up (Nat.le_succ n),fun k T hk=>?_,fun G m rd o T hm hrd hG=>?_⟩
    .obtain⟨k,rfl⟩:=bh k (by omega)
     have:=hq2 k T (by omega)
     cases b <;> (simp at hq;subst hq;simp[cQ,tb,vl,hb,nz,nv,xU,xT,this])
    .obtain⟨m,rfl⟩:=bh m (by omega)
     have st:goL (m+1) (.tuple [.str "when",e,r,s]) G gs rd o T=goL m q G gs rd (some (.d (vl v))) T:=by
      refine wB (hc G rd o T) ?_
      cases b <;> (simp at hq;subst hq;simp[gn,ρL,tl,vl,hb,nz,nv,xU,xT])
     obtain⟨a1,a2,a3⟩:=hq3 G m rd (some (.d (vl v))) T (by omega) hrd hG;refine⟨fun u e'=>by rw[st];exact a1 u e',fun y e'=>by rw[st];exact a2 y e',fun b' y r' e'=>?_⟩;obtain⟨c1,c2⟩:=a3 b' y r' e';refine⟨fun hk=>by rw[st];exact c1 hk,fun w hk=>?_⟩;obtain⟨m',o',l,q'⟩:=c2 w hk;exact⟨m',o',by omega,by rw[st];exact q'⟩
   cases b with
   |true=>
    obtain⟨S,h1,h2,h3⟩:=ihs gs hl hv (by omega);exact key s rfl S h1 h2 h3
   |false=>
    obtain⟨S,h1,h2,h3⟩:=ihr gs hl hv (by omega);exact key r rfl S h1 h2 h3
  .refine⟨flT (Str.ofString u),.fl (pM u hu),fun k T hk=>?_,fun G m rd o T hm hr hG=>⟨fun u e'=>absurd e'.symm fS,fun y e'=>?_,fun b y r' e'=>?_⟩⟩
   .obtain⟨k,rfl⟩:=bh k (by omega)
    simp[cQ,flT,tb,fl,nz,nv]
   .obtain⟨m,rfl⟩:=bh m (by omega)
    have:Str.ofString u=y:=by simpa[flT] using e'
    subst this;exact mN (hc G rd o T) (by simp[gn,ρL,tl,fl,dB,nv,D.bF];rfl)
   .cases b <;> simp[flT,asT] at e'
@[simp] theorem JH{f:FE}{ρ:Rho}{T:Tp}:fu f ρ T=kB T (f (cS ρ) []):=rfl
@[simp] theorem Ii:cS []=[]:=rfl
@[simp] theorem Ie{r:Rho}:cS (none::r)=none::cS r:=rfl
@[simp] theorem Ih{x:PyData}{r:Rho}:cS (some (.d x)::r)=some (.d x)::cS r:=rfl
@[simp] theorem Ig{x:PyData}{r:Rho}:cS (some (.loc x)::r)=some (.d x)::cS r:=rfl
@[simp] theorem Ic{i:Nat}{r:Rho}:cS (some (.tp i)::r)=none::cS r:=rfl
theorem oR{T T':Tp}{x:PyData}(h:aY x=true):kB T (some (.d x,T'))=some (.d x,T):=if_pos h
theorem qc{m:Int}{n:Nat}{e:PyData}(h:Ex m n e):aY e=true:=by
 induction h with
 |put hv=>simp[aY,bj,iW hv]
 |got _ _=>simp[aY,bj]
 |row _ _ ih=>simp[aY,bj,gZ ih]
 |many _ ih=>simp[aY,bj,ih]
 |pair _ _ _ iha ihb=>simp[aY,bj,iha,ihb]
theorem Eg{p:Bool}{g n:Nat}{r:PyData}(h:Rg p g n r):aY r=true:=by
 induction h with
 |fail _=>simp[aY,bj]
 |say he=>simp[aY,bj,qc he]
 |ask _ _ he _ ih=>simp[aY,bj,qc he,ih]
 |whn he _ _ ih1 ih2=>simp[aY,bj,qc he,ih1,ih2]
theorem A2{p:Bool}{g n:Nat}{S:PyData}(h:StepOk p g n S):aY S=true:=by
 cases h with
 |md hv=>simp[mdT,aY,bj,iW hv]
 |fl _=>simp[flT,aY,bj]
 |ask _ _ _ _ hr=>simp[asT,aY,bj,Eg hr]
def stp(r:PyData)(gs:List PyData):PyData:=match cQ 25 [.d r,.d (.tuple gs)] [] with
 |some (S,_)=>S
 |none=>.none
theorem i5{p:Bool}{n g:Nat}{r:PyData}{gs:List PyData}(h:Rg p g n r)(hl:gs.length=g)(hv:∀v∈gs,aF v=true)(hn:n<=20) :
  StepOk p g n (stp r gs)/\(∀k T,n<k->cQ k [.d r,.d (.tuple gs)] T=some (stp r gs,T))/\nN n r gs (stp r gs):=by
 obtain⟨S,h1,h2,h3⟩:=BB n g r h gs hl hv hn
 have e:stp r gs=S:=by
  unfold stp;rw[h2 25 [] (by omega)]
 rw[e];exact⟨h1,h2,h3⟩
def fB:PyData->Option (Bool×Str×PyData)
 |.tuple [.str w,.str x,r]=>if w=Str.ofString "want" then some (false,x,r) else if w=Str.ofString "peek" then some (true,x,r) else none
 |_=>none
@[simp] theorem wW{b:Bool}{x:Str}{r:PyData}:fB (asT b x r)=some (b,x,r):=by cases b <;> simp[asT,fB]
@[simp] theorem Li{v:PyData}:fB (mdT v)=none:=by simp[mdT,fB]
@[simp] theorem Lj{x:Str}:fB (flT x)=none:=by simp[flT,fB]
structure St3 where
 gs:List PyData
 rd:List PyData
 S:PyData
abbrev Dc:=List (PyData×PyData)
def iH:Nat->Dc->St3->St3
 |0,_,s=>s
 |f+1,G,s=>match fB s.S with
  |none=>s
  |some (b,x,r)=>match aA G x with
   |none=>s
   |some v=>iH f G ⟨s.gs++[v],s.rd++cZ b x v,stp r (s.gs++[v])⟩
def run(G:Dc)(s:St3):St3:=iH (12-s.gs.length) G s
structure OkS(p:Bool)(n:Nat)(s:St3):Prop where
 v:∀v∈s.gs,aF v=true
 st:StepOk p s.gs.length n s.S
 rd:s.rd.length<=s.gs.length
 rv:∀d∈s.rd,∃x v,d=.tuple [.str x,v]/\aF v=true
 le:s.gs.length<=12
def GV(G:Dc):Prop:=∀x v,aA G x=some v->aF v=true
theorem lS{G:Dc}{s:St3}(h:fB s.S=none):run G s=s:=by
 unfold run
 cases 12-s.gs.length with
 |zero=>rfl
 |succ f=>rw[iH,h]
theorem oN{G:Dc}{s:St3}{b:Bool}{x:Str}{r:PyData}(h:s.S=asT b x r)(hk:aA G x=none):run G s=s:=by
 unfold run
 cases 12-s.gs.length with
 |zero=>rfl
 |succ f=>rw[iH,h,wW];simp only[hk]
theorem fO{G:Dc}{s:St3}{b:Bool}{x:Str}{r v:PyData}(h:s.S=asT b x r)(hl:s.gs.length<12)(hk:aA G x=some v):run G s=run G ⟨s.gs++[v],s.rd++cZ b x v,stp r (s.gs++[v])⟩:=by
 have e:12-s.gs.length=(12-(s.gs++[v]).length)+1:=by simp;omega
 show iH (12-s.gs.length) G s=_;rw[e,iH,h,wW];simp only[hk];rfl
theorem OkS.next{p:Bool}{n:Nat}{s:St3}{b:Bool}{x:Str}{r v:PyData}(h:OkS p n s)(e:s.S=asT b x r)(hn:n<=20)(hv:aF v=true):s.gs.length<12/\OkS p n ⟨s.gs++[v],s.rd++cZ b x v,stp r (s.gs++[v])⟩:=by
 have st:=h.st;rw[e] at st;generalize hS:asT b x r=S at st
 cases st with
 |md _=>cases b <;> simp[asT,mdT] at hS
 |fl _=>cases b <;> simp[asT,flT] at hS
 |@ask b' x' r' n' hp hx hg hn' hr=>
  obtain⟨rfl,rfl,rfl⟩:b=b'/\x=x'/\r=r':=by
   cases b <;> cases b' <;> simp[asT] at hS <;> simp[hS]
  have hv':∀u∈s.gs++[v],aF u=true:=fun u hu=>(List.mem_append.mp hu).elim (h.v u) fun z=>by rw[List.mem_singleton.mp z];exact hv
  obtain⟨a1,_,_⟩:=i5 hr (by simp) hv' (by omega:n'<=20);refine⟨hg,hv',by have:=a1.up hn';simpa using this,?_,fun d hd=>?_,by simp;omega⟩
  .have:=h.rd
   cases b <;> simp[cZ] <;> omega
  .rcases List.mem_append.mp hd with z|z
   .exact h.rv d z
   .cases b with
    |true=>simp[cZ] at z
    |false=>simp[cZ] at z;exact⟨x,v,z,hv⟩
def qS(G:Dc)(S:PyData):Prop:=fB S=none\/∃b x r,S=asT b x r/\aA G x=none
theorem e8{p:Bool}{g n:Nat}{S:PyData}(h:StepOk p g n S):(∃v,S=mdT v/\aF v=true)\/(∃x,S=flT x/\isName (.str x)=true)\/∃b x r,S=asT b x r/\isName (.str x)=true:=by
 cases h with
 |md hv=>exact .inl ⟨_,rfl,hv⟩
 |fl hx=>exact .inr (.inl ⟨_,rfl,hx⟩)
 |ask _ hx _ _ _=>exact .inr (.inr ⟨_,_,_,rfl,hx⟩)
theorem g7{p:Bool}{n:Nat}{G:Dc}(hG:GV G)(hn:n<=20)(Q:St3->St3->Prop)(h0:∀s,OkS p n s->qS G s.S->Q s s)(h1:∀s b x r v,OkS p n s->s.S=asT b x r->aA G x=some v->s.gs.length<12->OkS p n ⟨s.gs++[v],s.rd++cZ b x v,stp r (s.gs++[v])⟩ ->
  Q ⟨s.gs++[v],s.rd++cZ b x v,stp r (s.gs++[v])⟩ (run G ⟨s.gs++[v],s.rd++cZ b x v,stp r (s.gs++[v])⟩)->Q s (run G s)):∀(f:Nat) (s:St3),OkS p n s->12-s.gs.length=f->Q s (run G s)
 |f,s,h,hf=>by
  rcases e8 h.st with⟨v,e,_⟩|⟨x,e,_⟩|⟨b,x,r,e,_⟩
  .rw[lS (by rw[e];simp)]
   exact h0 s h (.inl (by rw[e];simp))
  .rw[lS (by rw[e];simp)]
   exact h0 s h (.inl (by rw[e];simp))
  .cases hk:aA G x with
   |none=>
    rw[oN e hk];exact h0 s h (.inr ⟨b,x,r,e,hk⟩)
   |some v=>
    obtain⟨hl,h'⟩:=h.next e hn (hG x v hk);exact h1 s b x r v h e hk hl h' (g7 hG hn Q h0 h1 (f-1) _ h' (by simp;omega))
termination_by f=>f
decreasing_by omega
theorem hW{p:Bool}{n:Nat}{G:Dc}{s:St3}(hG:GV G)(hn:n<=20)(h:OkS p n s):OkS p n (run G s)/\qS G (run G s).S:=g7 hG hn (fun _ s'=>OkS p n s'/\qS G s'.S) (fun s h e=>⟨h,e⟩) (fun s b x r v _ e hk hl _ q=>by rw[fO e hl hk];exact q) _ s h rfl
def cm(s:St3):PyData:=.tuple [.tuple s.gs,.tuple s.rd,s.S]
theorem Eh{p:Bool}{n:Nat}{s:St3}(h:OkS p n s):aY (cm s)=true:=by
 have h1:bj s.gs=true:=gZ fun d hd=>iW (h.v d hd)
 have h2:bj s.rd=true:=gZ fun d hd=>by
  obtain⟨x,v,rfl,hv⟩:=h.rv d hd;simp[aY,bj,iW hv]
 simp[cm,aY,bj,h1,h2,A2 h.st]
theorem pq{gs rd:List PyData}{b:Bool}{x:Str}{r:PyData}(T:Tp):dP [.d (cm ⟨gs,rd,asT b x r⟩)] T=some (.str x,T):=by cases b <;> simp[dP,cm,asT,inD,inS,cw,eqF]
theorem B7{gs rd:List PyData}{v:PyData}(T:Tp):dP [.d (cm ⟨gs,rd,mdT v⟩)] T=some (.none,T):=by simp[dP,cm,mdT,inD,inS,cw,eqF]
theorem B8{gs rd:List PyData}{x:Str}(T:Tp):dP [.d (cm ⟨gs,rd,flT x⟩)] T=some (.none,T):=by simp[dP,cm,flT,inD,inS,cw,eqF]
theorem D6{p:Bool}{n:Nat}{s:St3}{b:Bool}{x:Str}{r v:PyData}(T:Tp)(h:OkS p n s)(e:s.S=asT b x r)(hn:n<=20)(hv:aF v=true) :
  iY [.d (cm s),.d v] T=some (cm ⟨s.gs++[v],s.rd++cZ b x v,stp r (s.gs++[v])⟩,T):=by
 have st:=h.st;rw[e] at st;generalize hS:asT b x r=S at st
 cases st with
 |md _=>cases b <;> simp[asT,mdT] at hS
 |fl _=>cases b <;> simp[asT,flT] at hS
 |@ask b' x' r' n' hp hx hg hn' hr=>
  obtain⟨rfl,rfl,rfl⟩:b=b'/\x=x'/\r=r':=by
   cases b <;> cases b' <;> simp[asT] at hS <;> simp[hS]
  have hv':∀u∈s.gs++[v],aF u=true:=fun u hu=>(List.mem_append.mp hu).elim (h.v u) fun z=>by rw[List.mem_singleton.mp z];exact hv
  obtain⟨_,a2,_⟩:=i5 hr (by simp) hv' (by omega:n'<=20);have st:=a2 25 T (by omega);have l1:s.gs.length+1<=sizeLine:=cj (by omega);have l2:s.rd.length+1<=sizeLine:=cj (by have:=h.rd;omega);obtain⟨gs,rd,S0⟩:=s;subst e
  cases b with
  |true=>simp[iY,cm,asT,l1,st,cZ]
  |false=>simp[iY,cm,asT,l1,l2,st,cZ]
def goC:FT:=(ax (af inA (aq dP (ae (aa 0) ah)) (aa 1)))
def goB:FS:=(aE 0 (aq iY (ae (aa 0) (ae (af ixA (aa 1) (aq dP (ae (aa 0) ah))) ah))))
theorem Do:jR=aO 2 (ak (bS goC goB 100000) (ay (aa 0))):=rfl
theorem AJ{p:Bool}{n:Nat}{G:Dc}(hG:GV G)(hn:n<=20)(T:Tp)(s:St3)(h:OkS p n s):∀m,12-s.gs.length<m->bS goC goB m [some (.d (cm s)),some (.d (.dict G))] T=some ((.nx,[some (.d (cm (run G s))),some (.d (.dict G))]),T):=by
 refine g7 hG hn (fun s s'=>∀m,12-s.gs.length<m->bS goC goB m [some (.d (cm s)),some (.d (.dict G))] T=some ((.nx,[some (.d (cm s')),some (.d (.dict G))]),T)) (fun s h e m hm=>?_) (fun s b x r v h e hk hl h' q m hm=>?_) _ s h rfl
 .obtain⟨m,rfl⟩:=bh m (by omega)
  refine lN ?_;obtain⟨gs,rd,S⟩:=s
  rcases e8 h.st with⟨v,e1,_⟩|⟨x,e1,_⟩|⟨b,x,r,e1,_⟩
  .have e1:S=mdT v:=e1
   subst e1;simp[goC,B7,inA,inB,inK]
  .have e1:S=flT x:=e1
   subst e1;simp[goC,B8,inA,inB,inK]
  .have e1:S=asT b x r:=e1
   subst e1
   rcases e with e|⟨b',x',r',e2,hk⟩
   .simp at e
   .have:x=x':=by
     have e2:asT b x r=asT b' x' r':=e2
     cases b <;> cases b' <;> simp[asT] at e2 <;> simp[e2]
    subst this;simp[goC,pq,inA,inB,inK,hk]
 .obtain⟨m,rfl⟩:=bh m (by omega)
  have gv:=D6 T h e hn (hG x v hk);rw[fO e hl hk]
  have hc:goC [some (.d (cm s)),some (.d (.dict G))] T=some (true,T):=by
   obtain⟨gs,rd,S⟩:=s;have e1:S=asT b x r:=e;subst e1;simp[goC,pq,inA,inB,inK,hk]
  have hb:goB [some (.d (cm s)),some (.d (.dict G))] T=some ((.nx,[some (.d (cm ⟨s.gs++[v],s.rd++cZ b x v,stp r (s.gs++[v])⟩)),some (.d (.dict G))]),T):=by
   have aw:dP [.d (cm s)] T=some (.str x,T):=by
    obtain⟨gs,rd,S⟩:=s;have e1:S=asT b x r:=e;subst e1;exact pq T
   simp[goB,aw,ixA,hk,gv]
  rw[mq hc hb];exact q m (by simp;omega)
theorem F1{p:Bool}{n:Nat}{G:Dc}{s:St3}(T:Tp)(hG:GV G)(hn:n<=20)(h:OkS p n s):jR [.d (cm s),.d (.dict G)] T=some (cm (run G s),T):=by
 rw[Do];have:=AJ hG hn T s h 100000 (by omega);simp[this]
def s0(r:PyData):St3:=⟨[],[],stp r []⟩
theorem di{p:Bool}{n:Nat}{r:PyData}(h:Rg p 0 n r)(hn:n<=20):OkS p n (s0 r):=by
 obtain⟨a1,_,_⟩:=i5 (gs:=[]) h rfl (by simp) hn;exact⟨by simp[s0],a1,by simp[s0],by simp[s0],by simp[s0]⟩
theorem D1{p:Bool}{n:Nat}{r:PyData}(T:Tp)(h:Rg p 0 n r)(hn:n<=20):jM [.d r] T=some (cm (s0 r),T):=by
 obtain⟨_,a2,_⟩:=i5 (gs:=[]) h rfl (by simp) hn;simp[jM,a2 25 T (by omega),cm,s0]
def dC:PyData->PyData
 |.tuple [.str w,v]=>if w=Str.ofString "made" then .tuple [.str w,stS v] else .tuple [.str w,v]
 |.tuple [_,.str x,_]=>dB "wants" (.str x)
 |_=>.none
@[simp] theorem pT{v:PyData}:dC (mdT v)=.tuple [.str "made",stS v]:=by simp[mdT,dC]
@[simp] theorem pU{x:Str}:dC (flT x)=flT x:=by simp[flT,dC]
@[simp] theorem pV{b:Bool}{x:Str}{r:PyData}:dC (asT b x r)=dB "wants" (.str x):=rfl
def vMd:PyData->List PyData
 |.tuple [.str w,v]=>if w=Str.ofString "made" then [v] else []
 |_=>[]
@[simp] theorem Ea{v:PyData}:vMd (mdT v)=[v]:=by simp[mdT,vMd]
@[simp] theorem Eb{x:Str}:vMd (flT x)=[]:=by simp[flT,vMd]
@[simp] theorem Ec{b:Bool}{x:Str}{r:PyData}:vMd (asT b x r)=[]:=rfl
def cJ(s:St3):PyData:=.tuple (.tuple (s.rd.map rdS)::dC s.S::vMd s.S)
def AtL(p:Bool)(n:Nat)(s:St3)(r:PyData):Prop:=∃n',n'<=n/\Rg p s.gs.length n' r/\s.S=stp r s.gs
theorem BD{p:Bool}{n:Nat}{G:Dc}(hG:GV G)(hn:n<=20)(T:Tp)(s:St3)(h:OkS p n s):∀r m o,AtL p n s r->(13-s.gs.length)*21<m->goL m r G s.gs s.rd o T=some (cJ (run G s),T):=by
 refine g7 hG hn (fun s s'=>∀r m o,AtL p n s r->(13-s.gs.length)*21<m->goL m r G s.gs s.rd o T=some (cJ s',T)) (fun s h e r m o a hm=>?_) (fun s b x r0 v h e hk hl h' q r m o a hm=>?_) _ s h rfl
 .obtain⟨n',hn',hr,hs⟩:=a
  obtain⟨_,_,a3⟩:=i5 hr rfl h.v (by omega);obtain⟨c1,c2,c3⟩:=a3 G m s.rd o T (by have:=h.le;omega) (by have:=h.rd;have:=h.le;omega) hG;rw[←hs] at c1 c2 c3
  rcases e8 h.st with⟨v,e1,_⟩|⟨x,e1,_⟩|⟨b,x,r,e1,_⟩
  .rw[c1 v e1,cJ,e1];simp
  .rw[c2 x e1,cJ,e1];simp;rfl
  .rcases e with e|⟨b',x',r',e2,hk⟩
   .rw[e1] at e;simp at e
   .rw[(c3 b' x' r' e2).1 hk,cJ,e2];simp
 .obtain⟨n',hn',hr,hs⟩:=a
  obtain⟨a1,_,a3⟩:=i5 hr rfl h.v (by omega);obtain⟨_,_,c3⟩:=a3 G m s.rd o T (by omega) (by have:=h.rd;omega) hG;rw[←hs] at c3 a1;obtain⟨m',o',l,go⟩:=(c3 b x r0 e).2 v hk;rw[go,fO e hl hk];rw[e] at a1;generalize hS:asT b x r0=S at a1
  cases a1 with
  |md _=>cases b <;> simp[asT,mdT] at hS
  |fl _=>cases b <;> simp[asT,flT] at hS
  |@ask b' x' r' n2 hp hx hg hn2 hr2=>
   obtain⟨rfl,rfl,rfl⟩:b=b'/\x=x'/\r0=r':=by
    cases b <;> cases b' <;> simp[asT] at hS <;> simp[hS]
   refine q r0 m' o' ⟨n2,by omega,by simpa using hr2,rfl⟩ ?_;simp;omega
theorem pz{p:Bool}{n:Nat}{G:Dc}{r:PyData}(T:Tp)(hG:GV G)(hn:n<=20)(h:Rg p 0 n r):fK [.d r,.d (.dict G)] T=some (cJ (run G (s0 r)),T):=by
 have:=BD hG hn T (s0 r) (di h hn) r 100000 none ⟨n,Nat.le_refl _,h,rfl⟩ (by simp[s0]);rw[←this,Av];simp[goL,ρL,s0]
theorem pA{v:PyData}:aY (stS v)=true:=by simp[stS,aY]
theorem A3{p:Bool}{n:Nat}{s:St3}(h:OkS p n s):aY (cJ s)=true:=by
 have h2:bj (s.rd.map rdS)=true:=gZ fun d hd=>by
  obtain⟨e,he,rfl⟩:=List.mem_map.mp hd;obtain⟨x,v,rfl,hv⟩:=h.rv e he;simp[rdS,aY,bj,pA]
 rcases e8 h.st with⟨v,e,hv⟩|⟨y,e,_⟩|⟨b',y,r',e,_⟩
 .simp[cJ,e,aY,bj,h2,pA,iW hv]
 .simp[cJ,e,aY,bj,h2]
  simp[flT,aY,bj]
 .simp[cJ,e,aY,bj,h2,dB]
theorem AD{ds:Dc}{x y:Str}{v:PyData}:aA (ds++[(.str x,v)]) y=match aA ds y with
  |some u=>some u
  |none=>if x=y then some v else none:=by
 induction ds with
 |nil=>rfl
 |cons q r ih=>
  obtain⟨k,d⟩:=q
  cases k with
  |str k=>
   show (if k=y then some d else aA (r++[(.str x,v)]) y)=_
   by_cases h:k=y
   .rw[if_pos h]
    have:aA ((PyData.str k,d)::r) y=some d:=if_pos h;rw[this]
   .rw[if_neg h,ih]
    have:aA ((PyData.str k,d)::r) y=aA r y:=if_neg h;rw[this]
  |_=>exact ih
theorem AC{ds:Dc}{x y:Str}{v:PyData}:aA (bP ds x v) y=if x=y then (aA ds x).map (fun _=>v) else aA ds y:=by
 induction ds with
 |nil=>by_cases h:x=y <;> simp[bP,aA,h]
 |cons q r ih=>
  obtain⟨k,d⟩:=q
  cases k with
  |str k=>
   by_cases hk:k=x
   .subst hk
    have e1:bP ((PyData.str k,d)::r) k v=(.str k,v)::bP r k v:=if_pos rfl;rw[e1]
    by_cases h:k=y
    .subst h
     simp[aA]
    .simp[aA,h,ih]
   .have e1:bP ((PyData.str k,d)::r) x v=(.str k,d)::bP r x v:=if_neg hk
    rw[e1]
    by_cases h:x=y
    .subst h
     simp[aA,hk,ih]
    .simp[aA,h] at ih ⊢
     rw[ih]
  |_=>exact ih
theorem rV{ds:Dc}{x:Str}{v:PyData}:(bP ds x v).length=ds.length:=by
 induction ds with
 |nil=>rfl
 |cons q r ih=>
  obtain⟨k,d⟩:=q
  cases k with
  |str k=>
   by_cases hk:k=x
   .have e1:bP ((PyData.str k,d)::r) x v=(.str k,v)::bP r x v:=if_pos hk
    rw[e1,List.length_cons,List.length_cons,ih]
   .have e1:bP ((PyData.str k,d)::r) x v=(.str k,d)::bP r x v:=if_neg hk
    rw[e1,List.length_cons,List.length_cons,ih]
  |_=>exact congrArg (· + 1) ih
theorem jP{ds:Dc}{x y:Str}{v:PyData}:aA (putN ds x v) y=if x=y then some v else aA ds y:=by
 unfold putN
 cases h:aA ds x with
 |some u=>
  rw[if_pos (by rfl),AC,h];rfl
 |none=>
  rw[if_neg (by simp),AD]
  by_cases hx:x=y
  .subst hx;rw[h,if_pos rfl]
  .rw[if_neg hx,if_neg hx]
   cases aA ds y <;> rfl
def Sub(G G':Dc):Prop:=∀x v,aA G x=some v->aA G' x=some v
theorem Sub.refl(G:Dc):Sub G G:=fun _ _ h=>h
theorem Sub.trans{A B C:Dc}(h:Sub A B)(g:Sub B C):Sub A C:=fun x v q=>g x v (h x v q)
theorem Sub.new{G:Dc}{x:Str}{v:PyData}(h:aA G x=none):Sub G (putN G x v):=fun y u q=>by
 rw[jP]
 by_cases e:x=y
 .subst e;rw[h] at q;cases q
 .rw[if_neg e];exact q
theorem oM{p:Bool}{n:Nat}{G G':Dc}{s:St3}(hs:Sub G G')(hG:GV G)(hn:n<=20)(h:OkS p n s):run G' (run G s)=run G' s:=
 g7 hG hn (fun s s'=>run G' s'=run G' s) (fun _ _ _=>rfl) (fun s b x r v _ e hk hl _ q=>by
  rw[fO e hl hk,q,fO e hl (hs x v hk)]) _ s h rfl
theorem oO{G':Dc}{s:St3}{v:PyData}(h:s.S=mdT v):run G' s=s:=lS (by rw[h];simp)
theorem lj{p:Bool}{n:Nat}{G G':Dc}{s:St3}(hs:∀x,aA G x=aA G' x)(hG:GV G)(hn:n<=20)(h:OkS p n s):run G s=run G' s:=
 g7 hG hn (fun s s'=>s'=run G' s) (fun s h e=>by
  rcases e with e|⟨b,x,r,e,hk⟩
  .exact(lS e).symm
  .rw[hs] at hk;exact(oN e hk).symm) (fun s b x r v _ e hk hl _ q=>by
  rw[fO e hl hk,q,←fO e hl (by rw[←hs];exact hk)]) _ s h rfl
structure Bk(p:Bool)(n:Nat)(D0 R0:Dc):Prop where
 dk:∀q∈D0,∃x v,q=(.str x,v)/\aF v=true
 rk:∀q∈R0,∃x r,q=(.str x,r)/\Rg p 0 n r/\aA R0 x=some r/\aA D0 x=none
 rnd:(R0.map (·.1)).Nodup
 len:D0.length+R0.length<=900
 n20:n<=20
inductive Der(D0 R0:Dc):Str->PyData->Prop where
 |told {x:Str}{v:PyData}:aA D0 x=some v->Der D0 R0 x v
 |made {x:Str}{v r:PyData}{G:Dc}:aA R0 x=some r->GV G->(∀y u,aA G y=some u->Der D0 R0 y u)->(run G (s0 r)).S=mdT v->Der D0 R0 x v
theorem jS{ds:Dc}{x:Str}{v:PyData}(h:aA ds x=some v):(.str x,v)∈ds:=by
 induction ds with
 |nil=>cases h
 |cons q r ih=>
  obtain⟨k,d⟩:=q
  cases k with
  |str k=>
   by_cases hk:k=x
   .have e:aA ((PyData.str k,d)::r) x=some d:=if_pos hk
    rw[e] at h;cases h;rw[hk];exact List.mem_cons_self
   .have e:aA ((PyData.str k,d)::r) x=aA r x:=if_neg hk
    rw[e] at h;exact List.mem_cons_of_mem _ (ih h)
  |_=>exact List.mem_cons_of_mem _ (ih h)
section
variable {p:Bool}{n:Nat}{D0 R0:Dc}
theorem Bk.rg(b:Bk p n D0 R0){x:Str}{r:PyData}(h:aA R0 x=some r):Rg p 0 n r/\aA D0 x=none:=by
 obtain⟨x',r',e,h1,h2,h3⟩:=b.rk _ (jS h);cases e;exact⟨h1,h3⟩
theorem Bk.gv(b:Bk p n D0 R0):GV D0:=fun x v h=>by
 obtain⟨x',v',e,h1⟩:=b.dk _ (jS h);cases e;exact h1
theorem Der.val(b:Bk p n D0 R0){x:Str}{v:PyData}(h:Der D0 R0 x v):aF v=true:=by
 cases h with
 |told h=>exact b.gv _ _ h
 |made hr hG _ e=>
  obtain⟨h1,_⟩:=hW hG b.n20 (di (b.rg hr).1 b.n20)
  rcases e8 h1.st with⟨v',e1,hv⟩|⟨x,e1,_⟩|⟨b,x,r,e1,_⟩
  .rw[e1] at e
   have:v'=v:=by simpa[mdT] using e
   rw[←this];exact hv
  .rw[e1] at e;exact absurd e.symm fS
  .rw[e1] at e;cases b <;> simp[asT,mdT] at e
def Snd(D0 R0 G:Dc):Prop:=∀x v,aA G x=some v->Der D0 R0 x v
def ClsAt(R0 G:Dc)(x:Str):Prop:=∀r v,aA R0 x=some r->(run G (s0 r)).S=mdT v->aA G x=some v
theorem Snd.gv(b:Bk p n D0 R0){G:Dc}(h:Snd D0 R0 G):GV G:=fun x v q=>(h x v q).val b
theorem qq(b:Bk p n D0 R0){G:Dc}(hd:Sub D0 G)(hs:Snd D0 R0 G)(hc:∀x,ClsAt R0 G x){x:Str}{v:PyData}(h:Der D0 R0 x v):aA G x=some v:=by
 induction h with
 |told h=>exact hd _ _ h
 |made hr hG hall e ih=>
  rename_i x v r G1;refine hc x r v hr ?_;have hsub:Sub G1 G:=fun y u q=>ih y u q;have h1:=oM hsub hG b.n20 (di (b.rg hr).1 b.n20);rw[oO e] at h1;rw[←h1];exact e
theorem AI(b:Bk p n D0 R0){G G':Dc}(hd:Sub D0 G)(hs:Snd D0 R0 G)(hc:∀x,ClsAt R0 G x)(hd':Sub D0 G')(hs':Snd D0 R0 G')(hc':∀x,ClsAt R0 G' x)(x:Str):aA G x=aA G' x:=by
 cases h:aA G x with
 |some v=>exact(qq b hd' hs' hc' (hs x v h)).symm
 |none=>
  cases h':aA G' x with
  |none=>rfl
  |some v=>rw[qq b hd hs hc (hs' x v h')] at h;cases h
def mu(R0 G:Dc):Nat:=R0.countP fun q=>match q.1 with
 |.str x=>(aA G x).isNone
 |_=>false
theorem countP_le{α:Type}{f g:α->Bool}:∀{l:List α},(∀a∈l,g a=true->f a=true)->l.countP g<=l.countP f
 |[],_=>Nat.le_refl _
 |a::r,h=>by
  have ih:=countP_le (l:=r) fun x hx=>h x (List.mem_cons_of_mem _ hx);rw[List.countP_cons,List.countP_cons];have h1:=h a List.mem_cons_self
  cases hg:g a with
  |true=>rw[h1 hg];simp;exact ih
  |false=>simp;omega
theorem tj{α:Type}{f g:α->Bool}{a:α}:∀{l:List α},(∀a∈l,g a=true->f a=true)->a∈l->f a=true->g a=false->l.countP g<l.countP f
 |[],_,h,_,_=>by cases h
 |b::r,h,hm,hf,hg=>by
  have hr:∀x∈r,g x=true->f x=true:=fun x hx=>h x (List.mem_cons_of_mem _ hx);rw[List.countP_cons,List.countP_cons]
  rcases List.mem_cons.mp hm with e|e
  .subst e
   have:=countP_le hr;rw[hf,hg];simp;omega
  .have ih:=tj hr e hf hg
   have h1:=h b List.mem_cons_self
   cases hb:g b with
   |true=>rw[h1 hb];simp;exact ih
   |false=>simp;omega
theorem qz{G G':Dc}(h:Sub G G'):mu R0 G'<=mu R0 G:=countP_le fun q _ hq=>by
 split at hq
 .rename_i x e
  cases hk:aA G x with
  |none=>rfl
  |some v=>rw[h x v hk] at hq;cases hq
 .cases hq
theorem xp{G:Dc}{x:Str}{r v:PyData}(hr:aA R0 x=some r)(h:aA G x=none):mu R0 (putN G x v)+1<=mu R0 G:=by
 have hs:=Sub.new (v:=v) h;refine tj (a:=(.str x,r)) (fun q _ hq=>?_) (jS hr) (by simp[h]) (by simp[jP]);split at hq
 .rename_i x e
  cases hk:aA G x with
  |none=>rfl
  |some v=>rw[hs x v hk] at hq;cases hq
 .cases hq
theorem tR{G:Dc}{x:Str}{v:PyData}(h:aA G x=none):(putN G x v).length=G.length+1:=by
 unfold putN;rw[h,if_neg (by simp)];simp
end
theorem lX{i:Nat}{b:FS}{d:PyData}{r:List PyData}{ρ ρ':Rho}{T:Tp}(h:b (ρ.set i (some (.d d))) T=some ((.nx,ρ'),T)):forL i b (d::r) ρ T=forL i b r ρ' T:=by
 rw[AR,h];rfl
@[simp] theorem Jt{i:Nat}{fk fv:FE}{ρ:Rho}{T:Tp}:bL i fk fv ρ T=bnd (fv ρ T) fun w T1=>m8 i fk ρ w T1 ρ[i]?:=rfl
@[simp] theorem ID{i:Nat}{fk:FE}{ρ:Rho}{w:D.W}{T:Tp}{ds:Dc}:m8 i fk ρ w T (some (some (.loc (.dict ds))))=bnd (fk ρ T) (m9 i ρ ds w):=rfl
@[simp] theorem IE{i:Nat}{ρ:Rho}{T:Tp}{ds:Dc}{x:PyData}{s:Str}:m9 i ρ ds (.d x) (.d (.str s)) T=if ds.length<=1000 then some ((.nx,ρ.set i (some (.loc (.dict (putN ds s x))))),T) else none:=rfl
@[simp] theorem IA{i:Nat}{f:FE}{ρ:Rho}{T:Tp}:je i f ρ T=bnd (f ρ T) fun w T1=>mz i ρ (iJ (view T1 w)) T1:=rfl
@[simp] theorem J3{ds:Dc}:iJ (some (.dict ds))=some ds:=rfl
@[simp] theorem H8{i:Nat}{ρ:Rho}{ds:Dc}{T:Tp}:mz i ρ (some ds) T=some ((.nx,ρ.set i (some (.loc (.dict ds)))),T):=rfl
@[simp] theorem Ji{i:Nat}{ρ:Rho}{T:Tp}:cX i ρ T=some ((.nx,ρ.set i (some (.loc (.dict [])))),T):=rfl
@[simp] theorem Ib{s:Str}{ds:Dc}:cy (.str s) (.dict ds)=some (.bool (!(aA ds s).isSome)):=rfl
@[simp] theorem JQ{s:Str}{ds:Dc}:inA (.str s) (.dict ds)=some (.bool (aA ds s).isSome):=rfl
@[simp] theorem JL{s:Str}{ds:Dc}:ixA (.dict ds) (.str s)=aA ds s:=rfl
@[simp] theorem IG{o:PyData->PyData->Option PyData}{T:Tp}{x:PyData}{ds:Dc}:op2 o T (.d x) (.loc (.dict ds))=mkD T (o x (.dict ds)):=rfl
@[simp] theorem IF{o:PyData->PyData->Option PyData}{T:Tp}{y:PyData}{ds:Dc}:op2 o T (.loc (.dict ds)) (.d y)=mkD T (o (.dict ds) y):=rfl
@[simp] theorem IH{o:PyData->Option PyData}{T:Tp}{ds:Dc}:op1 o T (.loc (.dict ds))=mkD T (o (.dict ds)):=rfl
@[simp] theorem ev_viewLD{T:Tp}{ds:Dc}:view T (.loc (.dict ds))=some (.dict ds):=rfl
@[simp] theorem HU{T:Tp}{ds:Dc}{r:List D.W}:views T (.loc (.dict ds)::r)=kL (.dict ds) (views T r):=rfl
def bkD(D0 R0:Dc):PyData:=.tuple [.dict D0,.dict R0]
def ρG(D0 R0 G:Dc)(m:Int)(on o4:Option D.W):Rho:=[some (.d (bkD D0 R0)),some (.loc (.dict G)),some (.d (.int m)),on,o4]
section
variable {p:Bool}{n:Nat}{D0 R0:Dc}
def kM(R0:Dc)(k:PyData):Prop:=∃x r,k=.str x/\aA R0 x=some r
theorem Snd.put(B:Bk p n D0 R0){G:Dc}{x:Str}{r v:PyData}(hs:Snd D0 R0 G)(hr:aA R0 x=some r)(e:(run G (s0 r)).S=mdT v):Snd D0 R0 (putN G x v):=fun y u q=>by
 rw[jP] at q
 by_cases h:x=y
 .subst h
  rw[if_pos rfl] at q;cases q;exact .made hr (hs.gv B) hs e
 .rw[if_neg h] at q
  exact hs y u q
theorem BY(B:Bk p n D0 R0){x:Str}{v:PyData}(h:Der D0 R0 x v):∀u,Der D0 R0 x u->v=u:=by
 induction h with
 |told h=>
  intro u hu
  cases hu with
  |told h'=>rw[h] at h';cases h';rfl
  |made hr _ _ _=>rw[(B.rg hr).2] at h;cases h
 |made hr hG hall e ih=>
  rename_i x v r G1;intro u hu
  cases hu with
  |told h'=>rw[(B.rg hr).2] at h';cases h'
  |made hr' hG' hall' e'=>
   rename_i r' G2;rw[hr] at hr';cases hr'
   have key:∀(s:St3),OkS p n s->∀v u,(run G1 s).S=mdT v->(run G2 s).S=mdT u->v=u:=fun s hs=>by
    refine g7 hG B.n20 (fun s s'=>∀v u,s'.S=mdT v->(run G2 s).S=mdT u->v=u) (fun s h st v u e1 e2=>?_) (fun s b x r w h e hk hl h' q v u e1 e2=>?_) _ s hs rfl
    .rw[oO e1,e1] at e2
     simpa[mdT] using e2
    .rw[fO e hl hk] at e1
     cases hk2:aA G2 x with
     |none=>rw[oN e hk2,e] at e2;cases b <;> simp[asT,mdT] at e2
     |some w'=>
      have:w=w':=ih x w hk w' (hall' x w' hk2);subst this;rw[fO e hl hk2] at e2;exact q v u e1 e2
   exact key _ (di (B.rg hr).1 B.n20) v u e e'
theorem sj(B:Bk p n D0 R0){G:Dc}{x:Str}{r v u:PyData}(hs:Snd D0 R0 G)(hr:aA R0 x=some r)(h:aA G x=some v)(e:(run G (s0 r)).S=mdT u):v=u:=BY B (hs x v h) u (.made hr (hs.gv B) hs e)
theorem G0{G:Dc}{m:Int}{x:Str}{o4:Option D.W}{T:Tp}{v:PyData}(h:aA G x=some v):dS (ρG D0 R0 G m (some (.d (.str x))) o4) T=some ((.nx,ρG D0 R0 G m (some (.d (.str x))) o4),T):=by simp[dS,ρG,h]
theorem Fq(B:Bk p n D0 R0){G:Dc}{m:Int}{x:Str}{r:PyData}{o4:Option D.W}{T:Tp}(hs:Snd D0 R0 G)(hr:aA R0 x=some r)(h:aA G x=none)(hl:G.length<=1000) :
  ∃o,(∃v,(run G (s0 r)).S=mdT v/\dS (ρG D0 R0 G m (some (.d (.str x))) o4) T=some ((.nx,ρG D0 R0 (putN G x v) m (some (.d (.str x))) o),T)) \/
  ((∀v,(run G (s0 r)).S≠mdT v)/\dS (ρG D0 R0 G m (some (.d (.str x))) o4) T=some ((.nx,ρG D0 R0 G m (some (.d (.str x))) o),T)):=by
 have hG:=hs.gv B;have lr:=pz [] hG B.n20 (B.rg hr).1;obtain⟨ok,_⟩:=hW hG B.n20 (di (B.rg hr).1 B.n20);have lk:=oR (T:=T) (T':=[]) (A3 ok);refine⟨some (.d (cJ (run G (s0 r)))),?_⟩
 rcases e8 ok.st with⟨v,e,hv⟩|⟨y,e,_⟩|⟨b',y,r',e,_⟩
 .refine .inl ⟨v,e,?_⟩
  simp[dS,ρG,h,bkD,hr,lr,lk];simp[cJ,e,hl]
 .refine .inr ⟨fun v q=>fS (q.symm.trans e),?_⟩
  simp[dS,ρG,h,bkD,hr,lr,lk];simp[cJ,e];simp[flT]
 .refine .inr ⟨fun v q=>by rw[e] at q;cases b' <;> simp[asT,mdT] at q,?_⟩
  simp[dS,ρG,h,bkD,hr,lr,lk];simp[cJ,e,dB]
theorem mO(B:Bk p n D0 R0){T:Tp}{m:Int}:∀(ks:List PyData) (G:Dc) (on o4:Option D.W),(∀k∈ks,kM R0 k)->Snd D0 R0 G->G.length+mu R0 G<=900 ->
  ∃G' on' o4',forL 3 dS ks (ρG D0 R0 G m on o4) T=some ((.nx,ρG D0 R0 G' m on' o4'),T)/\Snd D0 R0 G'/\Sub G G'/\G'.length+mu R0 G'<=900/\((G'=G/\∀x,.str x∈ks->ClsAt R0 G x)\/(G.length<G'.length/\mu R0 G' < mu R0 G))
 |[],G,on,o4,_,hs,hl=>⟨G,on,o4,by simp[forL],hs,.refl G,hl,.inl ⟨rfl,fun x h=>by cases h⟩⟩
 |k::ks,G,on,o4,hk,hs,hl=>by
  obtain⟨x,r,rfl,hr⟩:=hk _ List.mem_cons_self;have hk':∀k∈ks,kM R0 k:=fun k h=>hk k (List.mem_cons_of_mem _ h);have st:∀{ρ':Rho},dS (ρG D0 R0 G m (some (.d (.str x))) o4) T=some ((.nx,ρ'),T)->forL 3 dS (.str x::ks) (ρG D0 R0 G m on o4) T=forL 3 dS ks ρ' T:=fun h=>lX h
  cases h:aA G x with
  |some v=>
   rw[st (G0 h)];obtain⟨G',on',o4',e1,e2,e3,e4,e5⟩:=mO B ks G (some (.d (.str x))) o4 hk' hs hl;refine⟨G',on',o4',e1,e2,e3,e4,e5.imp (fun⟨q2,q3⟩=>⟨q2,fun y hy=>?_⟩) id⟩
   rcases List.mem_cons.mp hy with z|z
   .cases z
    intro r' v' hr' e;have:=sj B hs hr' h e;rw[h,this]
   .exact q3 y z
  |none=>
   obtain⟨o,⟨v,e,go⟩|⟨ne,go⟩⟩:=Fq B (m:=m) (o4:=o4) (T:=T) hs hr h (by omega)
   .rw[st go]
    have m1:=xp (v:=v) hr h;have l1:=tR (v:=v) h;obtain⟨G',on',o4',e1,e2,e3,e4,e5⟩:=mO B ks (putN G x v) (some (.d (.str x))) o hk' (hs.put B hr e) (by omega);refine⟨G',on',o4',e1,e2,(Sub.new h).trans e3,e4,.inr ?_⟩
    rcases e5 with⟨rfl,_⟩|⟨q1,q2⟩
    .exact⟨by omega,by omega⟩
    .exact⟨by omega,by omega⟩
   .rw[st go]
    obtain⟨G',on',o4',e1,e2,e3,e4,e5⟩:=mO B ks G (some (.d (.str x))) o hk' hs hl;refine⟨G',on',o4',e1,e2,e3,e4,e5.imp (fun⟨q2,q3⟩=>⟨q2,fun y hy=>?_⟩) id⟩
    rcases List.mem_cons.mp hy with z|z
    .cases z
     intro r' v' hr' e;rw[hr] at hr';cases hr';exact absurd e (ne v')
    .exact q3 y z
theorem uX(B:Bk p n D0 R0):∀k∈R0.map (·.1),kM R0 k:=fun k hk=>by
 obtain⟨q,hq,rfl⟩:=List.mem_map.mp hk;obtain⟨x,r,rfl,_,h,_⟩:=B.rk q hq;exact⟨x,r,rfl,h⟩
theorem qm{x:Str}{r:PyData}(h:aA R0 x=some r):PyData.str x∈R0.map (·.1):=List.mem_map.mpr ⟨_,jS h,rfl⟩
theorem vZ(G:Dc):mu R0 G<=R0.length:=List.countP_le_length
def gdC:FT:=(ax (af ltD (aa 2) (fCB a7 (ae (aa 1) ah))))
@[simp] theorem IM{ds:Dc}:a7 [.dict ds]=some (.int ds.length):=rfl
theorem t5(B:Bk p n D0 R0){T:Tp}:∀(f:Nat) (G:Dc) (m:Int) (on o4:Option D.W),m<G.length->mu R0 G+1<f->Snd D0 R0 G->G.length+mu R0 G<=900 ->
  ∃G' m' on' o4',bS gdC lC f (ρG D0 R0 G m on o4) T=some ((.nx,ρG D0 R0 G' m' on' o4'),T)/\Snd D0 R0 G'/\Sub G G'/\∀x,ClsAt R0 G' x
 |0,G,m,on,o4,_,h,_,_=>by omega
 |f+1,G,m,on,o4,hm,h,hs,hl=>by
  obtain⟨G',on',o4',e1,e2,e3,e4,e5⟩:=mO B (T:=T) (m:=G.length) (R0.map (·.1)) G on o4 (uX B) hs hl
  have hc:∀(G:Dc) (m:Int) on o4,gdC (ρG D0 R0 G m on o4) T=some (decide (m<G.length),T):=fun G m on o4=>by simp[gdC,ρG]
  have hb:lC (ρG D0 R0 G m on o4) T=some ((.nx,ρG D0 R0 G' G.length on' o4'),T):=by
   simp[ρG] at e1;simp[lC,ρG,bkD] at e1 ⊢;exact e1
  rw[mq ((hc _ _ _ _).trans (by rw[decide_eq_true hm])) hb]
  rcases e5 with⟨rfl,q3⟩|⟨q1,q2⟩
  .obtain⟨f,rfl⟩:=bh f (by omega)
   rw[lN ((hc _ _ _ _).trans (by rw[decide_eq_false (by omega)]))];exact⟨G',_,on',o4',rfl,e2,e3,fun x r v hr e=>q3 x (qm hr) r v hr e⟩
  .obtain⟨G2,m2,on2,o42,f1,f2,f3,f4⟩:=t5 B f G' G.length on' o4' (by omega) (by omega) e2 e4
   exact⟨G2,m2,on2,o42,f1,f2,e3.trans f3,f4⟩
theorem x8(B:Bk p n D0 R0):Snd D0 R0 D0:=fun _ _ h=>.told h
theorem qb(B:Bk p n D0 R0)(T:Tp):∃G,eZ [.d (bkD D0 R0)] T=some (.dict G,T)/\Snd D0 R0 G/\Sub D0 G/\∀x,ClsAt R0 G x:=by
 have hl:=B.len;have hm:=vZ (R0:=R0) D0;obtain⟨G,m,on,o4,e1,e2,e3,e4⟩:=t5 B (T:=T) 100000 D0 (-1) none none (by omega) (by omega) (x8 B) (by omega);refine⟨G,?_,e2,e3,e4⟩;rw[Ax];simp[ρG,gdC] at e1;simp[bkD] at e1 ⊢;rw[e1];simp
end
def mdS:FS:=(bL 2 (aa 3) (aq jM (ae (aa 4) ah)))
def mdI:FS:=(ak (bL 2 (aa 3) (fu (aq jR (ae (af ixA (aa 2) (aa 3)) (ae (aa 1) ah))))) (fIf (ax (af eqD (af ixD (af ixD (af ixA (aa 2) (aa 3)) (fC (.int 2))) (fC (.int 0))) (fC (.str "made")))) (bL 1 (aa 3) (af ixD (af ixD (af ixA (aa 2) (aa 3)) (fC (.int 2))) (fC (.int 1)))) aD))
def mdB:FS:=(ak (aE 6 (fCB a7 (ae (aa 1) ah))) (ak (bD 3 (bc (af ixD (aa 0) (fC (.int 1)))) mdI) (aE 5 (af gtD (fCB a7 (ae (aa 1) ah)) (aa 6)))))
theorem C3:kY=aO 7 (ak (je 1 (af ixD (aa 0) (fC (.int 0)))) (ak (cX 2) (ak (fW 3 4 (af ixD (aa 0) (fC (.int 1))) mdS) (ak (aE 5 (fC (.bool true))) (ak (bS (bg (aa 5)) mdB 100000) (ay (az .tuple (ae (aa 1) (ae (aa 2) ah))))))))):=rfl
def nm:PyData->Str
 |.str x=>x
 |_=>Str.ofString ""
def cmL(R0:Dc)(st:Str->St3):Dc:=R0.map fun q=>(q.1,cm (st (nm q.1)))
def cB(st:Str->St3)(x:Str)(s:St3):Str->St3:=fun y=>if y=x then s else st y
section
variable {p:Bool}{n:Nat}{D0 R0:Dc}
theorem mV{st:Str->St3}{x:Str}:aA (cmL R0 st) x=(aA R0 x).map fun _=>cm (st x):=by
 induction R0 with
 |nil=>rfl
 |cons q r ih=>
  obtain⟨k,d⟩:=q
  cases k with
  |str k=>
   by_cases hk:k=x
   .subst hk
    simp[cmL,aA,nm]
   .have:=ih
    simp[cmL] at this;simp[cmL,aA,hk,this]
  |_=>exact ih
theorem DN{st:Str->St3}:(cmL R0 st).length=R0.length:=by simp[cmL]
theorem DM{st:Str->St3}{x:Str}{s:St3}(hk:∀q∈R0,∃y r,q=(PyData.str y,r)):bP (cmL R0 st) x (cm s)=cmL R0 (cB st x s):=by
 induction R0 with
 |nil=>rfl
 |cons q r ih=>
  obtain⟨y,d,rfl⟩:=hk q List.mem_cons_self;have ih':=ih fun q hq=>hk q (List.mem_cons_of_mem _ hq);have e:cmL ((PyData.str y,d)::r) st=(.str y,cm (st y))::cmL r st:=rfl;have e2:cmL ((PyData.str y,d)::r) (cB st x s)=(.str y,cm (cB st x s y))::cmL r (cB st x s):=rfl;rw[e,e2,←ih']
  by_cases h:y=x
  .have e3:bP ((PyData.str y,cm (st y))::cmL r st) x (cm s)=(.str y,cm s)::bP (cmL r st) x (cm s):=if_pos h
   rw[e3];simp[cB,h]
  .have e3:bP ((PyData.str y,cm (st y))::cmL r st) x (cm s)=(.str y,cm (st y))::bP (cmL r st) x (cm s):=if_neg h
   rw[e3];simp[cB,h]
theorem B2(B:Bk p n D0 R0){st:Str->St3}{x:Str}{r:PyData}{s:St3}(h:aA R0 x=some r):putN (cmL R0 st) x (cm s)=cmL R0 (cB st x s):=by
 unfold putN;rw[mV,h,if_pos (by rfl)]
 exact DM fun q hq=>by
  obtain⟨y,r,e,_⟩:=B.rk q hq;exact⟨y,r,e⟩
def ρM(D0 R0 G:Dc)(st:Str->St3)(on o4 o5 o6:Option D.W):Rho:=[some (.d (bkD D0 R0)),some (.loc (.dict G)),some (.loc (.dict (cmL R0 st))),on,o4,o5,o6]
def SI(R0 G:Dc)(st:Str->St3):Prop:=∀x r,aA R0 x=some r->∃G1,Sub G1 G/\GV G1/\st x=run G1 (s0 r)
theorem SI.sub{G G':Dc}{st:Str->St3}(h:SI R0 G st)(hs:Sub G G'):SI R0 G' st:=fun x r hr=>by
 obtain⟨G1,h1,h2,h3⟩:=h x r hr;exact⟨G1,h1.trans hs,h2,h3⟩
theorem SI.go(B:Bk p n D0 R0){G:Dc}{st:Str->St3}(h:SI R0 G st){x:Str}{r:PyData}(hr:aA R0 x=some r):OkS p n (st x)/\run G (st x)=run G (s0 r):=by
 obtain⟨G1,h1,h2,h3⟩:=h x r hr;have ok:=di (B.rg hr).1 B.n20;rw[h3];exact⟨(hW h2 B.n20 ok).1,oM h1 h2 B.n20 ok⟩
theorem SI.upd(B:Bk p n D0 R0){G:Dc}{st:Str->St3}(h:SI R0 G st)(hG:GV G){x:Str}{r:PyData}(hr:aA R0 x=some r):SI R0 G (cB st x (run G (s0 r))):=fun y r' hr'=>by
 by_cases e:y=x
 .subst e
  rw[hr] at hr';cases hr';exact⟨G,.refl G,hG,by simp[cB]⟩
 .obtain⟨G1,h1,h2,h3⟩:=h y r' hr'
  exact⟨G1,h1,h2,by simp[cB,e];exact h3⟩
theorem E6(B:Bk p n D0 R0){G:Dc}{st:Str->St3}{x:Str}{r:PyData}{o4 o5 o6:Option D.W}{T:Tp}(hs:Snd D0 R0 G)(hi:SI R0 G st)(hr:aA R0 x=some r)(hl:G.length<=1000) :
  (∃v,(run G (s0 r)).S=mdT v/\mdI (ρM D0 R0 G st (some (.d (.str x))) o4 o5 o6) T=some ((.nx,ρM D0 R0 (putN G x v) (cB st x (run G (s0 r))) (some (.d (.str x))) o4 o5 o6),T)) \/
  ((∀v,(run G (s0 r)).S≠mdT v)/\mdI (ρM D0 R0 G st (some (.d (.str x))) o4 o5 o6) T=some ((.nx,ρM D0 R0 G (cB st x (run G (s0 r))) (some (.d (.str x))) o4 o5 o6),T)):=by
 have hG:=hs.gv B;obtain⟨ok,er⟩:=hi.go B hr;obtain⟨ok2,_⟩:=hW hG B.n20 (di (B.rg hr).1 B.n20);have lg:=F1 [] hG B.n20 ok;rw[er] at lg;have lk:=oR (T:=T) (T':=[]) (Eh ok2)
 have c1:aA (cmL R0 st) x=some (cm (st x)):=by rw[mV,hr];rfl
 have c2:=B2 B (st:=st) (s:=run G (s0 r)) hr
 have c3:aA (cmL R0 (cB st x (run G (s0 r)))) x=some (cm (run G (s0 r))):=by rw[mV,hr];simp[cB]
 have l2:(cmL R0 st).length<=1000:=by rw[DN];have:=B.len;omega
 have e2:∀s:St3,ixD (cm s) (.int 2)=some s.S:=fun s=>rfl;generalize hs':run G (s0 r)=s' at *
 rcases e8 ok2.st with⟨v,e,hv⟩|⟨y,e,_⟩|⟨b',y,r',e,_⟩
 .refine .inl ⟨v,e,?_⟩
  simp[mdI,ρM,c1,lg,lk,c2,l2,c3,e2,e,mdT,hl]
 .refine .inr ⟨fun v q=>fS (q.symm.trans e),?_⟩
  simp[mdI,ρM,c1,lg,lk,c2,l2,c3,e2,e,flT]
 .refine .inr ⟨fun v q=>by rw[e] at q;cases b' <;> simp[asT,mdT] at q,?_⟩
  cases b' <;> simp[mdI,ρM,c1,lg,lk,c2,l2,c3,e2,e,asT]
theorem Bb{G:Dc}{x:Str}{v:PyData}(h:aA G x=some v):(∀y,aA (putN G x v) y=aA G y)/\(putN G x v).length=G.length:=by
 refine⟨fun y=>?_,?_⟩
 .rw[jP]
  by_cases e:x=y
  .subst e;rw[if_pos rfl,h]
  .rw[if_neg e]
 .unfold putN
  rw[h,if_pos (by rfl),rV]
theorem Sub.of{G G':Dc}(h:∀y,aA G' y=aA G y):Sub G G':=fun x v q=>by rw[h];exact q
structure Rnd(D0 R0:Dc)(ks:List PyData)(G:Dc)(st:Str->St3)(G':Dc)(st':Str->St3):Prop where
 snd:Snd D0 R0 G'
 sub:Sub G G'
 si:SI R0 G' st'
 bd:G'.length+mu R0 G'<=900
 le:G.length<=G'.length
 lt:G.length<G'.length->mu R0 G' < mu R0 G
 same:G'.length=G.length->(∀y,aA G' y=aA G y)/\(∀x r,.str x∈ks->aA R0 x=some r->st' x=run G (s0 r)/\ClsAt R0 G x)/\∀x,.str x∉ks->st' x=st x
theorem v4(B:Bk p n D0 R0){T:Tp}{o4 o5 o6:Option D.W}:∀(ks:List PyData) (G:Dc) (st:Str->St3) (on:Option D.W),(∀k∈ks,kM R0 k)->Snd D0 R0 G->SI R0 G st->G.length+mu R0 G<=900 ->
  ∃G' st' on',forL 3 mdI ks (ρM D0 R0 G st on o4 o5 o6) T=some ((.nx,ρM D0 R0 G' st' on' o4 o5 o6),T)/\Rnd D0 R0 ks G st G' st'
 |[],G,st,on,_,hs,hi,hl=>⟨G,st,on,by simp[forL],hs,.refl G,hi,hl,Nat.le_refl _,fun h=>absurd h (Nat.lt_irrefl _),fun _=>⟨fun _=>rfl,fun x r h=>(by cases h),fun _ _=>rfl⟩⟩
 |k::ks,G,st,on,hk,hs,hi,hl=>by
  obtain⟨x,r,rfl,hr⟩:=hk _ List.mem_cons_self;have hk':∀k∈ks,kM R0 k:=fun k h=>hk k (List.mem_cons_of_mem _ h);have hG:=hs.gv B;have st0:∀{ρ':Rho},mdI (ρM D0 R0 G st (some (.d (.str x))) o4 o5 o6) T=some ((.nx,ρ'),T)->forL 3 mdI (.str x::ks) (ρM D0 R0 G st on o4 o5 o6) T=forL 3 mdI ks ρ' T:=fun h=>lX h
  have fin:∀(G1:Dc),Snd D0 R0 G1->Sub G G1->G1.length+mu R0 G1<=900->G.length<=G1.length->(G.length<G1.length->mu R0 G1<mu R0 G)->(G1.length=G.length->(∀y,aA G1 y=aA G y)/\ClsAt R0 G x)->SI R0 G1 (cB st x (run G (s0 r))) ->
    ∃G' st' on',forL 3 mdI ks (ρM D0 R0 G1 (cB st x (run G (s0 r))) (some (.d (.str x))) o4 o5 o6) T=some ((.nx,ρM D0 R0 G' st' on' o4 o5 o6),T)/\Rnd D0 R0 (.str x::ks) G st G' st':=by
   intro G1 h1 h2 h3 h4 h5 h6 h7;obtain⟨G',st',on',e1,R⟩:=v4 B (T:=T) (o4:=o4) (o5:=o5) (o6:=o6) ks G1 (cB st x (run G (s0 r))) (some (.d (.str x))) hk' h1 h7 h3;refine⟨G',st',on',e1,R.snd,h2.trans R.sub,R.si,R.bd,Nat.le_trans h4 R.le,fun h=>?_,fun h=>?_⟩
   .have m1:=qz (R0:=R0) R.sub
    have m2:=qz (R0:=R0) h2
    by_cases c:G.length<G1.length
    .have:=h5 c;omega
    .have:=R.lt (by omega);omega
   .have c1:G1.length=G.length:=by have:=R.le;omega
    obtain⟨q1,q2⟩:=h6 c1;obtain⟨r1,r2,r3⟩:=R.same (by omega);have same:∀r',aA R0 x=some r'\/True->True:=fun _ _=>trivial;refine⟨fun y=>(r1 y).trans (q1 y),fun y r' hy hr'=>?_,fun y hy=>?_⟩
    .by_cases hy2:PyData.str y∈ks
     .obtain⟨a1,a2⟩:=r2 y r' hy2 hr'
      have cg:=lj q1 (h1.gv B) B.n20 (di (B.rg hr').1 B.n20);refine⟨by rw[a1,cg],fun r2' v hr2 e=>?_⟩;rw[hr'] at hr2;cases hr2;rw[←q1];exact a2 r' v hr' (by rw[cg];exact e)
     .have hxy:y=x:=by
       rcases List.mem_cons.mp hy with z|z
       .cases z;rfl
       .exact absurd z hy2
      subst hxy;rw[hr] at hr';cases hr';exact⟨by rw[r3 y hy2];simp[cB],q2⟩
    .have n1:PyData.str y∉ks:=fun z=>hy (List.mem_cons_of_mem _ z)
     have n2:¬y=x:=fun z=>hy (by rw[z];exact List.mem_cons_self);rw[r3 y n1];simp[cB,n2]
  rcases E6 B (T:=T) (o4:=o4) (o5:=o5) (o6:=o6) hs hi hr (by omega) with⟨v,e,go⟩|⟨ne,go⟩
  .rw[st0 go]
   have sp:=hs.put B hr e
   cases h:aA G x with
   |none=>
    have m1:=xp (v:=v) hr h;have l1:=tR (v:=v) h;have sb:=Sub.new (v:=v) h;exact fin (putN G x v) sp sb (by omega) (by omega) (fun _=>by omega) (fun c=>by omega) ((hi.upd B hG hr).sub sb)
   |some u=>
    have:=sj B hs hr h e;subst this;obtain⟨o1,o2⟩:=Bb h;have sb:=Sub.of o1;have m1:=qz (R0:=R0) sb;refine fin (putN G x u) sp sb (by omega) (by omega) (fun c=>by omega) (fun _=>⟨o1,fun r' v' hr' e'=>?_⟩) ((hi.upd B hG hr).sub sb);rw[hr] at hr';cases hr';rw[e] at e'
    have:u=v':=by simpa[mdT] using e'
    rw[←this];exact h
  .rw[st0 go]
   exact fin G hs (.refl G) hl (Nat.le_refl _) (fun c=>absurd c (Nat.lt_irrefl _)) (fun _=>⟨fun _=>rfl,fun r' v' hr' e'=>by
    rw[hr] at hr';cases hr'
    exact absurd e' (ne v')⟩) (hi.upd B hG hr)
theorem tY(B:Bk p n D0 R0){T:Tp}:∀(m:Nat) (G:Dc) (st:Str->St3) (on o4 o6:Option D.W),mu R0 G+1<m->Snd D0 R0 G->SI R0 G st->G.length+mu R0 G<=900 ->
  ∃G' st' on' o5' o6',bS (bg (aa 5)) mdB m (ρM D0 R0 G st on o4 (some (.d (.bool true))) o6) T=some ((.nx,ρM D0 R0 G' st' on' o4 o5' o6'),T)/\Snd D0 R0 G'/\Sub G G'/\(∀x,ClsAt R0 G' x)/\∀x r,aA R0 x=some r->st' x=run G' (s0 r)
 |0,G,st,on,o4,o6,h,_,_,_=>by omega
 |m+1,G,st,on,o4,o6,h,hs,hi,hl=>by
  obtain⟨G',st',on',e1,R⟩:=v4 B (T:=T) (o4:=o4) (o5:=some (.d (.bool true))) (o6:=some (.d (.int G.length))) (R0.map (·.1)) G st on (uX B) hs hi hl
  have hc:∀b G st on o4 o6,bg (aa 5) (ρM D0 R0 G st on o4 (some (.d (.bool b))) o6) T=some (b,T):=fun b G st on o4 o6=>by simp[ρM]
  have hb:mdB (ρM D0 R0 G st on o4 (some (.d (.bool true))) o6) T=some ((.nx,ρM D0 R0 G' st' on' o4 (some (.d (.bool (decide (G.length<G'.length))))) (some (.d (.int G.length)))),T):=by
   simp only[ρM,bkD] at e1;simp[mdB,ρM,bkD,e1]
  rw[mq (hc _ _ _ _ _ _) hb]
  by_cases c:G.length<G'.length
  .rw[decide_eq_true c]
   have:=R.lt c;obtain⟨G2,st2,on2,o52,o62,f1,f2,f3,f4,f5⟩:=tY B (T:=T) m G' st' on' o4 (some (.d (.int G.length))) (by omega) R.snd R.si R.bd;exact⟨G2,st2,on2,o52,o62,f1,f2,R.sub.trans f3,f4,f5⟩
  .rw[decide_eq_false c]
   obtain⟨m,rfl⟩:=bh m (by omega);rw[lN (hc _ _ _ _ _ _)];obtain⟨q1,q2,_⟩:=R.same (by have:=R.le;omega);refine⟨G',st',on',_,_,rfl,R.snd,R.sub,fun x r v hr e=>?_,fun x r hr=>?_⟩
   .have cg:=lj q1 (R.snd.gv B) B.n20 (di (B.rg hr).1 B.n20)
    rw[q1];exact(q2 x r (qm hr) hr).2 r v hr (by rw[←cg];exact e)
   .have cg:=lj q1 (R.snd.gv B) B.n20 (di (B.rg hr).1 B.n20)
    rw[(q2 x r (qm hr) hr).1,cg]
theorem oS{ds:Dc}{x:Str}(h:PyData.str x∉ds.map (·.1)):aA ds x=none:=by
 cases e:aA ds x with
 |none=>rfl
 |some v=>exact absurd (List.mem_map.mpr ⟨_,jS e,rfl⟩) h
def eV(q:PyData×PyData):PyData×PyData:=(q.1,cm (s0 q.2))
def ρ0(D0 R0:Dc)(c:Dc)(on o4:Option D.W):Rho:=[some (.d (bkD D0 R0)),some (.loc (.dict D0)),some (.loc (.dict c)),on,o4,none,none]
theorem ve{i j:Nat}{b:FS}{d:PyData×PyData}{r:Dc}{ρ ρ':Rho}{T:Tp}(h:b ((ρ.set i (some (.d d.1))).set j (some (.d d.2))) T=some ((.nx,ρ'),T)):eW i j b (d::r) ρ T=eW i j b r ρ' T:=by
 show bnd (b ((ρ.set i (some (.d d.1))).set j (some (.d d.2))) T) _=_;rw[h];rfl
theorem uQ(B:Bk p n D0 R0){T:Tp}:∀(rest P:Dc) (on o4:Option D.W),R0=P++rest->∃on' o4',eW 3 4 mdS rest (ρ0 D0 R0 (P.map eV) on o4) T=some ((.nx,ρ0 D0 R0 (R0.map eV) on' o4'),T)
 |[],P,on,o4,e=>⟨on,o4,by rw[e];simp[eW]⟩
 |q::rest,P,on,o4,e=>by
  have hq:q∈R0:=by rw[e];simp
  obtain⟨x,r,rfl,hr,hk,_⟩:=B.rk q hq;have ls:=D1 T hr B.n20
  have nk:aA (P.map eV) x=none:=oS fun z=>by
   have nd:=B.rnd;rw[e,List.map_append,List.nodup_append] at nd;obtain⟨q,hq1,hq2⟩:=List.mem_map.mp z;obtain⟨q',hq3,rfl⟩:=List.mem_map.mp hq1;exact nd.2.2 q'.1 (List.mem_map.mpr ⟨q',hq3,rfl⟩) (.str x) (by simp) hq2
  have pn:putN (P.map eV) x (cm (s0 r))=(P++[(PyData.str x,r)]).map eV:=by
   unfold putN;rw[nk,if_neg (by simp)];simp[eV]
  have pl:(P.map eV).length<=1000:=by
   have:=B.len
   have e2:R0.length=P.length+(rest.length+1):=by rw[e];simp
   simp;omega
  have st:mdS (((ρ0 D0 R0 (P.map eV) on o4).set 3 (some (.d (.str x)))).set 4 (some (.d r))) T=some ((.nx,ρ0 D0 R0 ((P++[(PyData.str x,r)]).map eV) (some (.d (.str x))) (some (.d r))),T):=by
   rw[←pn];simp at pl;simp[mdS,ρ0,ls,pl]
  rw[ve st];exact uQ B rest (P++[(.str x,r)]) _ _ (by rw[e];simp)
def stI(R0:Dc)(x:Str):St3:=match aA R0 x with
 |some r=>s0 r
 |none=>⟨[],[],.none⟩
theorem Dj(B:Bk p n D0 R0):R0.map eV=cmL R0 (stI R0):=by
 unfold cmL;refine List.map_congr_left fun q hq=>?_;obtain⟨x,r,rfl,_,hk,_⟩:=B.rk q hq;simp[eV,nm,stI,hk]
theorem Cr(s:St3):run [] s=s:=by
 unfold run
 cases 12-s.gs.length with
 |zero=>rfl
 |succ f=>
  rw[iH]
  cases fB s.S with
  |none=>rfl
  |some q=>rfl
theorem Cp:SI R0 D0 (stI R0):=fun x r hr=>⟨[],fun y v h=>(by cases h),fun y v h=>(by cases h),by simp[stI,hr,Cr]⟩
theorem FX(B:Bk p n D0 R0)(T:Tp):∃G st,kY [.d (bkD D0 R0)] T=some (.tuple [.dict G,.dict (cmL R0 st)],T)/\Snd D0 R0 G/\Sub D0 G/\(∀x,ClsAt R0 G x)/\∀x r,aA R0 x=some r->st x=run G (s0 r):=by
 have hl:=B.len;have hm:=vZ (R0:=R0) D0;obtain⟨on,o4,i1⟩:=uQ B (T:=T) R0 [] none none rfl;obtain⟨G,st,on',o5,o6,e1,e2,e3,e4,e5⟩:=tY B (T:=T) 100000 D0 (stI R0) on o4 none (by omega) (x8 B) Cp (by omega);refine⟨G,st,?_,e2,e3,e4,e5⟩;rw[Dj B] at i1;rw[C3];simp only[ρ0,bkD] at i1;simp only[ρM,bkD] at e1;have fi:∀ρ T,fW 3 4 (af ixD (aa 0) (fC (.int 1))) mdS ρ T=bnd (af ixD (aa 0) (fC (.int 1)) ρ T) (kJ 3 4 mdS ρ):=fun _ _=>rfl;have fk:∀ρ T,kJ 3 4 mdS ρ (.d (.dict R0)) T=eW 3 4 mdS R0 ρ T:=fun _ _=>rfl;simp[bkD,fi,fk];simp at i1;simp[i1,e1]
end
def lfI:FS:=(bL 1 (aa 2) (aq jH (ae (aa 2) (ae (af ixA (aa 0) (aa 2)) ah))))
theorem GT:kZ=aO 3 (ak (cX 1) (ak (bD 2 (bc (aa 0)) lfI) (ay (aa 1)))):=rfl
def ln(x:Str)(s:St3):PyData:=.tuple [.str x,.tuple (s.rd.map rdS),dC s.S]
theorem D7{p:Bool}{g n:Nat}{S:PyData}(T:Tp)(h:StepOk p g n S):iU [.d S] T=some (dC S,T):=by
 rcases e8 h with⟨v,rfl,hv⟩|⟨x,rfl,_⟩|⟨b,x,r,rfl,_⟩
 .rw[pT]
  simp[iU,mdT,ms T hv]
 .rw[pU]
  simp[iU,flT]
 .rw[pV]
  cases b <;> simp[iU,asT,dB]
theorem FY{p:Bool}{n:Nat}{s:St3}{x:Str}(T:Tp)(h:OkS p n s):jH [.d (.str x),.d (cm s)] T=some (ln x s,T):=by
 have c:bC bG (az .tuple (ae (af ixD (aa 0) (fC (.int 0))) (ae (aq (c6 25) (ae (af ixD (aa 0) (fC (.int 1))) ah)) ah))) [some (.d (.str x)),some (.d (cm s)),none] s.rd T=some (s.rd.map rdS,T):=eK fun d hd=>by
  obtain⟨y,v,rfl,hv⟩:=h.rv d hd;simp[ms T hv,rdS]
 have e:=D7 T h.st;have e1:ixD (cm s) (.int 1)=some (.tuple s.rd):=rfl;have e2:ixD (cm s) (.int 2)=some s.S:=rfl;simp[jH,e1,e2,c,e,ln,D.bF]
def lnL(R0:Dc)(st:Str->St3):Dc:=R0.map fun q=>(q.1,ln (nm q.1) (st (nm q.1)))
theorem E8{R0:Dc}{st:Str->St3}{x:Str}:aA (lnL R0 st) x=(aA R0 x).map fun _=>ln x (st x):=by
 induction R0 with
 |nil=>rfl
 |cons q r ih=>
  obtain⟨k,d⟩:=q
  cases k with
  |str k=>
   by_cases hk:k=x
   .subst hk
    simp[lnL,aA,nm]
   .have:=ih
    simp[lnL] at this;simp[lnL,aA,hk,this]
  |_=>exact ih
section
variable {p:Bool}{n:Nat}{D0 R0:Dc}
theorem v6(B:Bk p n D0 R0){st:Str->St3}(ok:∀x r,aA R0 x=some r->OkS p n (st x)){T:Tp}:∀(rest P:Dc) (on:Option D.W),R0=P++rest->∃on',forL 2 lfI (rest.map (·.1)) [some (.d (.dict (cmL R0 st))),some (.loc (.dict (lnL P st))),on] T=some ((.nx,[some (.d (.dict (cmL R0 st))),some (.loc (.dict (lnL R0 st))),on']),T)
 |[],P,on,e=>⟨on,by rw[e];simp[forL]⟩
 |q::rest,P,on,e=>by
  have hq:q∈R0:=by rw[e];simp
  obtain⟨x,r,rfl,hr,hk,_⟩:=B.rk q hq
  have nk:aA (lnL P st) x=none:=oS fun z=>by
   have nd:=B.rnd;rw[e,List.map_append,List.nodup_append] at nd;obtain⟨q,hq1,hq2⟩:=List.mem_map.mp z;obtain⟨q',hq3,rfl⟩:=List.mem_map.mp hq1;exact nd.2.2 q'.1 (List.mem_map.mpr ⟨q',hq3,rfl⟩) (.str x) (by simp) hq2
  have pn:putN (lnL P st) x (ln x (st x))=lnL (P++[(PyData.str x,r)]) st:=by
   unfold putN;rw[nk,if_neg (by simp)];simp[lnL,nm]
  have pl:(lnL P st).length<=1000:=by
   have:=B.len
   have e2:R0.length=P.length+(rest.length+1):=by rw[e];simp
   simp[lnL];omega
  have c1:aA (cmL R0 st) x=some (cm (st x)):=by rw[mV,hk];rfl
  have ll:=FY (x:=x) T (ok x r hk)
  have st1:lfI (List.set [some (.d (.dict (cmL R0 st))),some (.loc (.dict (lnL P st))),on] 2 (some (.d (.str x)))) T=some ((.nx,[some (.d (.dict (cmL R0 st))),some (.loc (.dict (lnL (P++[(PyData.str x,r)]) st))),some (.d (.str x))]),T):=by
   rw[←pn];simp[lfI,c1,ll,pl]
  rw[List.map_cons,lX st1];exact v6 B ok rest (P++[(.str x,r)]) _ (by rw[e];simp)
theorem D5(B:Bk p n D0 R0){st:Str->St3}(ok:∀x r,aA R0 x=some r->OkS p n (st x))(T:Tp):kZ [.d (.dict (cmL R0 st))] T=some (.dict (lnL R0 st),T):=by
 obtain⟨on,e⟩:=v6 B ok (T:=T) R0 [] none rfl
 have ek:(cmL R0 st).map (·.1)=R0.map (·.1):=by simp[cmL]
 rw[GT];have e0:lnL ([]:Dc) st=[]:=rfl;rw[e0] at e;simp[ek,e]
end
theorem szL:sizeLine=16777216:=by decide
theorem len_app(a b:Str):(a++b).length=a.length+b.length:=by
 show (a++b).cps.size=_;rw[PySem.Str.cps_append,Array.size_append];rfl
theorem rng_ok{j:Int}(h0:0<=j)(h1:j<=1000):fq j=true:=Ae h0 h1
theorem mW{α:Type}{xs:List α}{i:Int}(h0:0<=i)(h1:i<xs.length):∃x,atI xs i=some x/\x∈xs:=by
 unfold atI ixN;rw[if_pos h0,if_pos h1]
 have hl:i.toNat<xs.length:=by omega
 exact⟨xs[i.toNat],by simp[hl],List.getElem_mem hl⟩
theorem iZ{i:Nat}{body:FS}{I:Nat->Rho->Tp->Prop}{N:Nat}:∀(ds:List PyData) (k:Nat) (ρ:Rho) (T:Tp),k+ds.length<=N->I k ρ T ->
  (∀k d ρ T,d∈ds->k<N->I k ρ T->∃ρ' T',body (ρ.set i (some (.d d))) T=some ((.nx,ρ'),T')/\I (k+1) ρ' T')->∃ρ' T',forL i body ds ρ T=some ((.nx,ρ'),T')/\I (k+ds.length) ρ' T'
 |[],k,ρ,T,_,h,_=>⟨ρ,T,rfl,h⟩
 |d::r,k,ρ,T,hN,h,hs=>by
  rw[List.length_cons] at hN;obtain⟨ρ1,T1,e1,h1⟩:=hs k d ρ T List.mem_cons_self (by omega) h;obtain⟨ρ2,T2,e2,h2⟩:=iZ (body:=body) (I:=I) r (k+1) ρ1 T1 (by omega) h1 fun k d ρ T hd=>hs k d ρ T (List.mem_cons_of_mem _ hd);refine⟨ρ2,T2,?_,by rw[List.length_cons,show k+(r.length+1)=k+1+r.length by omega];exact h2⟩;unfold forL;rw[e1];exact e2
theorem tW{n:Nat}{d:PyData}(h:d∈cI 0 n):∃j:Int,d=.int j/\0<=j/\j<n:=by
 obtain⟨k,hk,rfl⟩:=List.mem_map.mp h;have:=List.mem_range.mp hk;exact⟨0+(k:Int),rfl,by omega,by omega⟩
def Fr(xs:List PyData):Prop:=∃c n k:Int,xs=[.int c,.int n,.int k]
theorem yh{o:PyData->PyData->Option PyData}{c:Int}{xs:List PyData}{r:Tp}{y:PyData}:op2 o ((.int c::xs)::r) (.tp 0) (.d y)=mkD ((.int c::xs)::r) (o (.list (.int c::xs)) y):=rfl
theorem u6{c:Int}{r:List PyData}:isO (.int c::r)=false:=rfl
theorem BS{i j:Int}:qK (.int i) (.int j)=if 0<j/\j<18446744073709551616 then some (.int (i / j)) else none:=rfl
theorem ix0:ixN 3 0=some 0:=rfl
theorem qy:eU (.int 10) (.int 18)=some (.int 1000000000000000000):=rfl
theorem bB{xs:List PyData}(h:Fr xs){m:Int}(h1:0<m)(h2:m<=1000000000000000000):∃r xs',aP [.tp 0,.d (.int m)] [xs]=some (.int r,[xs'])/\Fr xs'/\0<=r/\r<m:=by
 obtain⟨c,n,k,rfl⟩:=h
 by_cases hc:1000000000000000000<=c
 .refine⟨c % m,[.int (c / m),.int (n+1),.int k],?_,⟨_,_,_,rfl⟩,Int.emod_nonneg _ (by omega),Int.emod_lt_of_pos _ h1⟩
  have h3:m<18446744073709551616:=by omega
  simp[aP,kQ,yh,u6,at0,at1,at2,ix0,ix1,ix2,qy,hc,h1,h3,BS]
 .have e:∃z:Int,aP [.tp 0,.d (.int m)] [[.int c,.int n,.int k]]=some (.int (z % m),[[.int c,.int (n+1),.int k]]):=by
   refine⟨?_,?_⟩
   rotate_left
   .simp[aP,kQ,yh,u6,at0,at1,at2,ix0,ix1,ix2,qy,hc,h1]
    rfl
  obtain⟨z,e⟩:=e;exact⟨z % m,_,e,⟨_,_,_,rfl⟩,Int.emod_nonneg _ (by omega),Int.emod_lt_of_pos _ h1⟩
@[simp] theorem KI{N:Nat}{s:FS}{ws:List W}{T:Tp}:ku N s ws T=if dy ws=true then qo (s (ws.map some++List.replicate (N-ws.length) none) T) else none:=rfl
@[simp] theorem J0{x:PyData}{r:Rho}{T:Tp}:qo (some ((.ro x,r),T))=some (x,T):=rfl
@[simp] theorem IC{a:FA}{ρ:Rho}{T:Tp}:mP a ρ T=bnd (a ρ T) fun ws T1=>mB ρ (dM ws) T1:=rfl
@[simp] theorem Ia{xs:List PyData}{ρ:Rho}{T:Tp}:mB ρ (some xs) T=if xs.length<=1000 then some ((.ro (.list xs),ρ),T) else none:=rfl
@[simp] theorem IB{s:FS}{x:PyData}{ρ:Rho}{T:Tp}:iF s (.ro x,ρ) T=some ((.ro x,ρ),T):=rfl
theorem iy(ns:List Int)(k:Int)(hk:0<=k):∃xs,Fr xs/\∀T,bN [.d (.list (ns.map PyData.int)),.d (.int k)] T=some (.list xs,T):=by
 cases ns with
 |nil=>exact⟨_,⟨0,0,k,rfl⟩,fun T=>by simp[bN]⟩
 |cons a r=>
  have hp:(0:Int)<(((a::r).map PyData.int).length:Int):=by simp
  obtain⟨d,e1,hm⟩:=mW (xs:=(a::r).map PyData.int) (i:=k % (((a::r).map PyData.int).length:Int)) (Int.emod_nonneg _ (by omega)) (Int.emod_lt_of_pos _ hp);obtain⟨c,_,rfl⟩:=List.mem_map.mp hm;refine⟨_,⟨c,0,k,rfl⟩,fun T=>?_⟩;generalize (a::r).map PyData.int=l at hp e1
  have h0:¬(l.length:Int)=0:=by omega
  have h3:0<l.length:=by omega
  have h0':l≠[]:=fun z=>by rw[z] at hp;simp at hp
  simp[bN,hp,e1,h0,h0',h3]
def nl(l:List Str):List PyData:=l.map PyData.str
theorem cu(l:List Str):(nl l).length=l.length:=by simp[nl]
theorem qI(w:Str)(xs:List Str):inD (.str w) (.list (nl xs))=some (.bool (decide (w∈xs))):=by
 have h:(xs.map PyData.str).all cw=true:=by simp[cw]
 show (if cw (.str w)&&(xs.map PyData.str).all cw then some ((xs.map PyData.str).any fun y=>eqF y (.str w)) else none).map PyData.bool=_;rw[h];simp[cw,eqF,List.any_map]
 induction xs with
 |nil=>simp
 |cons a r ih=>
  have ih':=ih (by simp[cw]);simp only[List.any_cons,ih',List.mem_cons,Function.comp,eqF]
  by_cases e:w=a
  .subst e;simp
  .have e':¬a=w:=fun z=>e z.symm
   simp[e,e']
theorem qj(w:Str)(xs:List Str):dY (.str w) (.list (nl xs))=some (.bool (!decide (w∈xs))):=by
 have h:=qI w xs;unfold inD at h;unfold dY
 cases hb:inS (.str w) (.list (nl xs)) with
 |none=>rw[hb] at h;cases h
 |some b=>
  rw[hb] at h;simp at h;simp[h]
theorem nu{l:List Str}{i:Int}(h0:0<=i)(h1:i<(l.length:Int)):∃x,atI (nl l) i=some (.str x)/\x∈l:=by
 obtain⟨d,e,hm⟩:=mW (xs:=nl l) h0 (by rw[cu];exact h1);obtain⟨x,hx,rfl⟩:=List.mem_map.mp hm;exact⟨x,e,hx⟩
def sfC(c:Nat):Bool:=decide (c∈K1.LET.cps.toList)
def Sf(x:Str):Prop:=∀c∈x.cps.toList,sfC c=true
theorem xf{x:Str}(h:(x.cps.toList.all sfC)=true):Sf x:=fun c hc=>List.all_eq_true.mp h c hc
theorem Sf.app{x y:Str}(h:Sf x)(g:Sf y):Sf (x++y):=fun c hc=>by
 rw[PySem.Str.cps_append,Array.toList_append] at hc
 rcases List.mem_append.mp hc with z|z
 .exact h c z
 .exact g c z
def Nx(n:Nat)(x:Str):Prop:=x.length<=n/\Sf x/\1<=x.length
theorem Nx.mono{n m:Nat}{x:Str}(h:Nx n x)(l:n<=m):Nx m x:=⟨Nat.le_trans h.1 l,h.2⟩
def Ns(l:List Str):Prop:=∀x∈l,Nx 8 x
def LT:Str:=Str.ofString "abcdefghijklmnopqrstuvwxyz"
def LTs:List Str:=LT.cps.toList.map fun c=>(⟨#[c]⟩:Str)
theorem E7:LTs.Nodup:=by decide +kernel
theorem C5:LTs.length=26:=by decide +kernel
theorem uU{x:Str}(h:x∈LTs):x.length=1:=by
 obtain⟨c,_,rfl⟩:=List.mem_map.mp h;rfl
theorem ql{x:Str}(h:x∈LTs):Nx 1 x:=by
 have:(LTs.all fun x=>x.cps.toList.all sfC)=true:=by decide +kernel
 exact⟨by rw[uU h];exact Nat.le_refl 1,xf (List.all_eq_true.mp this x h),by rw[uU h];exact Nat.le_refl 1⟩
theorem oQ:D.signs LT=nl LTs:=by
 unfold D.signs nl LTs;rw[List.map_map];rfl
theorem v5:LT.length=26:=by decide +kernel
theorem xr{i:Int}(h0:0<=i)(h1:i<26):∃x∈LTs,ixD (.str LT) (.int i)=some (.str x):=by
 have hl:LT.cps.toList.length=26:=by decide +kernel
 obtain⟨c,e,hm⟩:=mW (xs:=LT.cps.toList) h0 (by rw[hl];exact h1);refine⟨⟨#[c]⟩,List.mem_map.mpr ⟨c,hm,rfl⟩,?_⟩;rw[Fu,if_pos (by rw[v5,szL];decide),e];rfl
theorem qk{α:Type}[DecidableEq α]:∀{L N:List α},L.Nodup->N.length<L.length->∃x∈L,x∉N
 |[],N,_,h=>absurd h (by simp)
 |a::L,N,nd,h=>by
  rw[List.nodup_cons] at nd
  by_cases ha:a∈N
  .have hp:(N.erase a).length<L.length:=by
    have h1:=List.length_erase_of_mem ha;have h2:0<N.length:=List.length_pos_of_mem ha;rw[List.length_cons] at h;omega
   obtain⟨x,hx,nx⟩:=qk nd.2 hp;refine⟨x,List.mem_cons_of_mem _ hx,fun z=>nx ?_⟩;exact(List.mem_erase_of_ne (fun(q:x=a)=>nd.1 (q ▸ hx))).mpr z
  .exact⟨a,List.mem_cons_self,ha⟩
theorem zy{l:List Str}(h:l.length<26)(ρ:Rho)(T:Tp)(hv:∀d,aa 5 (some (.d d)::ρ) T=some (.loc (.list (nl l)),T)) :
  ∃x ys,(x∈LTs/\x∉l)/\bC (ax (af dY (aa 0) (aa 5))) (aa 0) ρ (D.signs LT) T=some (.str x::ys,T):=by
 have c:bC (ax (af dY (aa 0) (aa 5))) (aa 0) ρ (D.signs LT) T=some ((D.signs LT).filter (fun d=>match d with | .str x=>!decide (x∈l)|_=>false),T):=rG fun d hd=>by
  rw[oQ] at hd;obtain⟨x,hx,rfl⟩:=List.mem_map.mp hd;have:op2 dY T (.d (.str x)) (.loc (.list (nl l)))=mkD T (dY (.str x) (.list (nl l))):=rfl;simp[hv,this,qj]
 rw[c];obtain⟨x,hx,nx⟩:=qk (N:=l) E7 (by rw[C5];exact h)
 have hm:PyData.str x∈(D.signs LT).filter (fun d=>match d with | .str x=>!decide (x∈l)|_=>false):=by
  rw[List.mem_filter,oQ];exact⟨List.mem_map.mpr ⟨x,hx,rfl⟩,by simp[nx]⟩
 cases hf:(D.signs LT).filter (fun d=>match d with | .str x=>!decide (x∈l)|_=>false) with
 |nil=>rw[hf] at hm;cases hm
 |cons d r=>
  have hd:d∈(D.signs LT).filter (fun d=>match d with | .str x=>!decide (x∈l)|_=>false):=by rw[hf];exact List.mem_cons_self
  rw[List.mem_filter,oQ] at hd;obtain⟨y,hy,rfl⟩:=List.mem_map.mp hd.1;exact⟨y,r,⟨hy,by simpa using hd.2⟩,rfl⟩
theorem A4(z:Str)(n:Nat):(Txt.slice z none (some (n:Int))).length<=n:=by
 have e:Builtin.Str.strSliceIndices none (some (n:Int)) 1 z.length=Builtin.Str.strSliceIndices (some 0) (some (n:Int)) 1 z.length:=by
  have hm:max 0 (min (0:Int) (z.length:Int))=0:=by omega
  unfold Builtin.Str.strSliceIndices sliceRange;simp[hm]
 have e2:Txt.slice z none (some (n:Int))=Txt.slice z (some 0) (some (n:Int)):=by
  unfold Txt.slice;rw[e]
 rw[e2,←fm,tM (by omega) (by omega),List.length_take];omega
theorem A6{z:Str}(h:1<=z.length):1<=(Txt.slice z none (some (8:Int))).length:=by
 have e:Builtin.Str.strSliceIndices none (some (8:Int)) 1 z.length=Builtin.Str.strSliceIndices (some 0) (some (8:Int)) 1 z.length:=by
  have hm:max 0 (min (0:Int) (z.length:Int))=0:=by omega
  unfold Builtin.Str.strSliceIndices sliceRange;simp[hm]
 have e2:Txt.slice z none (some (8:Int))=Txt.slice z (some 0) (some (8:Int)):=by
  unfold Txt.slice;rw[e]
 rw[e2,←fm,tM (by omega) (by omega),List.length_take,List.length_drop,fm];show 1<=min ((8:Int).toNat-(0:Int).toNat) _;simp;omega
theorem C1(x:Str):x.length<=(Txt.mul x 4).length:=by
 unfold Txt.mul
 by_cases h:x.length=0
 .simp[h]
 .have h2:¬((4:Int) == 1||x.length == 0)=true:=by simp[h]
  rw[if_neg (by decide),if_neg h2];show _<=((List.replicate 4 x.cps).foldl (·++·) #[]).size;have e:x.length=x.cps.size:=rfl;rw[e];simp[List.replicate]
theorem Bw(x:Str):(Txt.mul x 4).length<=4*x.length:=by
 unfold Txt.mul
 by_cases h:x.length=0
 .simp[h]
 .have h2:¬((4:Int) == 1||x.length == 0)=true:=by simp[h]
  rw[if_neg (by decide),if_neg h2];show ((List.replicate 4 x.cps).foldl (·++·) #[]).size<=_;have e:x.length=x.cps.size:=rfl;rw[e];simp[List.replicate];omega
theorem C0{x:Str}(h:Sf x):Sf (Txt.mul x 4):=by
 unfold Txt.mul
 by_cases h0:x.length=0
 .simp[h0];exact h
 .have h2:¬((4:Int) == 1||x.length == 0)=true:=by simp[h0]
  rw[if_neg (by decide),if_neg h2];intro c hc;have hc':c∈((List.replicate 4 x.cps).foldl (·++·) #[]).toList:=hc;simp[List.replicate] at hc';exact h c (by simpa using hc')
theorem A5{x:Str}{l u:Option Int}(h:Sf x):Sf (Txt.slice x l u):=fun c hc=>h c (Ac hc)
def WD:List Str:=["made","told","say","want","fails","got","put","lacks"]
theorem D9{x:Str}(h:x∈WD):Nx 8 x:=by
 have h1:(WD.all fun x=>decide (x.length<=8))=true:=by decide +kernel
 have h2:(WD.all fun x=>x.cps.toList.all sfC)=true:=by decide +kernel
 have h3:(WD.all fun x=>decide (1<=x.length))=true:=by decide +kernel
 exact⟨of_decide_eq_true (List.all_eq_true.mp h1 x h),xf (List.all_eq_true.mp h2 x h),of_decide_eq_true (List.all_eq_true.mp h3 x h)⟩
theorem bH{a b:FS}{ρ ρ1:Rho}{T T1:Tp}(h:a ρ T=some ((.nx,ρ1),T1)):ak a b ρ T=b ρ1 T1:=by
 rw[Ft,h];rfl
def ρN(m:PyData)(l:List Str)(o5:Option W)(w:Int)(x:Str):Rho:=[some (.tp 0),some (.d m),some (.d (.list (nl WD))),some (.d (.str LT)),some (.loc (.list (nl l))),o5,some (.d (.int w)),some (.d (.str x))]
section
variable {m:PyData}{l:List Str}{o5:Option W}{w:Int}{x:Str}{xs:List PyData}
theorem E3(hf:Fr xs)(hx:Nx 1 x):∃x' xs',fIf (ax (af eqD (aa 6) (fC (.int 0)))) (aE 7 (af ixD (aa 2) (aq aP (ae (aa 0) (ae (fC (.int 8)) ah))))) aD (ρN m l o5 w x) [xs]=some ((.nx,ρN m l o5 w x'),[xs'])/\Nx 8 x'/\(w≠0->x'=x)/\Fr xs':=by
 by_cases hw:w=0
 .obtain⟨r,xs',e,h',r0,r1⟩:=bB hf (m:=8) (by decide) (by decide)
  obtain⟨y,ey,my⟩:=nu (l:=WD) r0 (by simpa[WD] using r1);refine⟨y,xs',?_,D9 my,fun z=>absurd hw z,h'⟩;simp[ρN,hw,e,ey]
 .exact⟨x,xs,by simp[ρN,hw],hx.mono (by decide),fun _=>rfl,hf⟩
theorem DV{l:List Str}(h:0<l.length):∃y∈l,atI (nl l) (-1)=some (.str y):=by
 unfold atI ixN;rw[cu,if_neg (by omega),if_pos (by omega)]
 have hl:(-1+(l.length:Int)).toNat<l.length:=by omega
 exact⟨l[(-1+(l.length:Int)).toNat],List.getElem_mem hl,by simp[nl,hl]⟩
theorem GC{o:PyData->PyData->Option PyData}{ys:List PyData}{T:Tp}{y:PyData}:op2 o T (.loc (.list ys)) (.d y)=mkD T (o (.list ys) y):=rfl
theorem xk{o:PyData->PyData->Option PyData}{ys:List PyData}{T:Tp}{y:PyData}:op2 o T (.d y) (.loc (.list ys))=mkD T (o y (.list ys)):=rfl
theorem E4(hl:Ns l)(hx:Nx 8 x):∃x',fIf (cz (ax (af eqD (aa 6) (fC (.int 1)))) (ax (af gtD (fCB a7 (ae (aa 4) ah)) (fC (.int 0))))) (aE 7 (fSl (af aT (af ixD (aa 4) (fUn fF (fC (.int 1)))) (aa 7)) cL (fP (fC (.int 8))))) aD (ρN m l o5 w x) [xs]=some ((.nx,ρN m l o5 w x'),[xs])/\Nx 8 x'/\(w≠1->x'=x):=by
 by_cases hw:w=1
 .by_cases h0:0<l.length
  .obtain⟨y,my,ey⟩:=DV h0
   have hy:=hl y my
   have z:y.length+x.length<=sizeLine:=by have:=hy.1;have:=hx.1;rw[szL];omega
   have z2:(y++x).length<=sizeLine:=by rw[len_app];exact z
   refine⟨Txt.slice (y++x) none (some 8),?_,⟨A4 (y++x) 8,A5 (hy.2.1.app hx.2.1),A6 (by rw[len_app];have:=hx.2.2;omega)⟩,fun z=>absurd hw z⟩;simp[ρN,hw,cu,h0,GC,ey,z,z2]
  .have h1:l=[]:=List.eq_nil_of_length_eq_zero (by omega)
   exact⟨x,by simp[ρN,hw,h1,nl],hx,fun z=>absurd hw z⟩
 .exact⟨x,by simp[ρN,hw],hx,fun _=>rfl⟩
theorem GJ(hf:Fr xs)(hx:Nx 8 x)(h2:w=2->x.length<=1):∃x' xs',fIf (ax (af eqD (aa 6) (fC (.int 2)))) (aE 7 (af d9 (af aT (aa 7) (af ixD (aa 3) (aq aP (ae (aa 0) (ae (fC (.int 26)) ah))))) (fC (.int 4)))) aD (ρN m l o5 w x) [xs]=some ((.nx,ρN m l o5 w x'),[xs'])/\Nx 8 x'/\Fr xs':=by
 by_cases hw:w=2
 .obtain⟨r,xs',e,h',r0,r1⟩:=bB hf (m:=26) (by decide) (by decide)
  obtain⟨y,my,ey⟩:=xr r0 r1;have hy:=ql my;have hy1:=hy.1;have hx1:=hx.1
  have z:x.length+y.length<=sizeLine:=by rw[szL];omega
  have z2:(x++y).length<=1000:=by rw[len_app];omega
  have z3:=Bw (x++y);rw[len_app] at z3;have h2':=h2 hw;have z4:=C1 (x++y);rw[len_app] at z4;have hx3:=hx.2.2;refine⟨Txt.mul (x++y) 4,xs',?_,⟨by omega,C0 (hx.2.1.app hy.2.1),by omega⟩,h'⟩;simp only[ρN,hw,G7,Fs,mU,l6,l3,l0,lZ,pR,pQ,pP,Dv,fj,l8,yn,mR,Fx,mT,Dw,Fv,decide_true,if_true,mQ,vh,l7,lI,mS,e,ey,Dy,z,Dx,z2,vg];rfl
 .exact⟨x,xs,by simp[ρN,hw],hx.mono (by decide),hf⟩
theorem GL(h26:l.length<26)(hx:Nx 8 x):∃x',fIf (ax (af inD (aa 7) (aa 4))) (aE 7 (af ixD (bJ (bc (aa 3)) (ax (af dY (aa 0) (aa 5))) (aa 0)) (fC (.int 0)))) aD (ρN m l o5 w x) [xs]=some ((.nx,ρN m l o5 w x'),[xs])/\Nx 8 x'/\x'∉l:=by
 by_cases hi:x∈l
 .obtain⟨y,ys,⟨my,ny⟩,c⟩:=zy h26 (ρN m l o5 w x) [xs] (fun d=>rfl)
  have hy:=ql my;refine⟨y,?_,hy.mono (by decide),ny⟩
  have z:LT.length<=sizeLine:=by rw[v5,szL];decide
  have a0:atI (PyData.str y::ys) 0=some (.str y):=by simp[atI,ixN]
  unfold ρN at c;simp[ρN,xk,qI,hi,z,c,a0]
 .exact⟨x,by simp[ρN,xk,qI,hi],hx,hi⟩
theorem GK(hf:Fr xs)(h6:l.length<=20)(nd:l.Nodup)(nx:x∉l):∃l' xs',kR 4 (aq aP (ae (aa 0) (ae (af aT (fCB a7 (ae (aa 4) ah)) (fC (.int 1))) ah))) (aa 7) (ρN m l o5 w x) [xs]=some ((.nx,ρN m l' o5 w x),[xs'])/\Fr xs'/\l'.length=l.length+1/\l'.Nodup/\∀y∈l',y=x\/y∈l:=by
 obtain⟨r,xs',e,h',r0,r1⟩:=bB hf (m:=(l.length:Int)+1) (by omega) (by omega);refine⟨l.take r.toNat++x::l.drop r.toNat,xs',?_,h',by simp;omega,?_,fun y hy=>?_⟩
 .have h3:0<=r/\r<=((nl l).length:Int)/\(nl l).length<=1000:=⟨r0,by rw[cu];omega,by rw[cu];omega⟩
  have k:kO 4 (ρN m l o5 w x) (.d (.int r)) (.d (.str x)) [xs'] (some (some (.loc (.list (nl l)))))=some ((.nx,(ρN m l o5 w x).set 4 (some (.loc (.list ((nl l).take r.toNat++.str x::(nl l).drop r.toNat))))),[xs']):=by
   unfold kO;dsimp only;rw[if_pos h3]
  unfold kR
  have e1:aq aP (ae (aa 0) (ae (af aT (fCB a7 (ae (aa 4) ah)) (fC (.int 1))) ah)) (ρN m l o5 w x) [xs]=some (.d (.int r),[xs']):=by
   simp[ρN,cu,e]
  have e2:aa 7 (ρN m l o5 w x) [xs']=some (.d (.str x),[xs']):=rfl;rw[e1];dsimp only[fj];rw[e2];refine Eq.trans k ?_;simp[ρN,nl]
 .have e:(x::(l.take r.toNat++l.drop r.toNat)).Nodup:=by
   rw[List.take_append_drop];exact List.nodup_cons.mpr ⟨nx,nd⟩
  exact List.perm_middle.symm.nodup e
 .rcases List.mem_append.mp hy with q|q
  .exact .inr (List.mem_of_mem_take q)
  .rcases List.mem_cons.mp q with q|q
   .exact .inl q
   .exact .inr (List.mem_of_mem_drop q)
end
theorem D3{xs:List PyData}(hf:Fr xs){m:Int}(h0:0<=m)(h1:m<=20):∃l xs',iP [.tp 0,.d (.int m)] [xs]=some (.list (nl l),[xs'])/\Ns l/\l.Nodup/\(l.length:Int)=m:=by
 have lp:=iZ (i:=5) (body:=oh) (N:=20) (I:=fun k ρ T=>∃l xs o5 o6 o7,ρ=[some (.tp 0),some (.d (.int m)),some (.d (.list (nl WD))),some (.d (.str LT)),some (.loc (.list (nl l))),o5,o6,o7]/\T=[xs]/\Fr xs/\Ns l/\l.length=k/\l.Nodup)
  (cI 0 m.toNat) 0 [some (.tp 0),some (.d (.int m)),some (.d (.list (nl WD))),some (.d (.str LT)),some (.loc (.list (nl []))),none,none,none] [xs] (by rw[jX];omega) ⟨[],xs,none,none,none,rfl,rfl,hf,(fun _ z=>nomatch z),rfl,by simp⟩ (fun k d ρ T hd hk hI=>by
   obtain⟨l,xs,o5,o6,o7,rfl,rfl,hf,hn,hl,hnd⟩:=hI;obtain⟨w,x1,e1,f1,_,_⟩:=bB hf (m:=5) (by decide) (by decide);obtain⟨r,x2,e2,f2,r0,r1⟩:=bB f1 (m:=26) (by decide) (by decide);obtain⟨y,my,ey⟩:=xr r0 r1;have hy:=ql my;obtain⟨y3,x3,e3,h3,u3,f3⟩:=E3 (m:=.int m) (l:=l) (o5:=some (.d d)) (w:=w) f2 hy;obtain⟨y4,e4,h4,u4⟩:=E4 (m:=.int m) (o5:=some (.d d)) (w:=w) (xs:=x3) hn h3;obtain⟨y5,x5,e5,h5,f5⟩:=GJ (m:=.int m) (l:=l) (o5:=some (.d d)) (w:=w) f3 h4 (fun z=>by rw[u4 (by omega),u3 (by omega)];exact hy.1);obtain⟨y6,e6,h6,n6⟩:=GL (m:=.int m) (o5:=some (.d d)) (w:=w) (xs:=x5) (show l.length<26 by omega) h5;obtain⟨l',x7,e7,f7,h7,d7,m7⟩:=GK (m:=.int m) (l:=l) (o5:=some (.d d)) (w:=w) (x:=y6) f5 (by omega) hnd n6;refine⟨ρN (.int m) l' (some (.d d)) w y6,[x7],?_,⟨l',x7,_,_,_,rfl,rfl,f7,fun y hy=>?_,by omega,d7⟩⟩
   .unfold oh
    have s1:aE 6 (aq aP (ae (aa 0) (ae (fC (.int 5)) ah))) (List.set [some (.tp 0),some (.d (.int m)),some (.d (.list (nl WD))),some (.d (.str LT)),some (.loc (.list (nl l))),o5,o6,o7] 5 (some (.d d))) [xs]=some ((.nx,[some (.tp 0),some (.d (.int m)),some (.d (.list (nl WD))),some (.d (.str LT)),some (.loc (.list (nl l))),some (.d d),some (.d (.int w)),o7]),[x1]):=by
     simp[e1]
    have s2:aE 7 (af ixD (aa 3) (aq aP (ae (aa 0) (ae (fC (.int 26)) ah)))) [some (.tp 0),some (.d (.int m)),some (.d (.list (nl WD))),some (.d (.str LT)),some (.loc (.list (nl l))),some (.d d),some (.d (.int w)),o7] [x1]=some ((.nx,ρN (.int m) l (some (.d d)) w y),[x2]):=by
     simp only[mQ,mU,l6,l3,l0,lZ,fj,l8,vh,l7,lI,mS,yn,e2,mR,ey,mT,vg];rfl
    rw[bH s1,bH s2,bH e3,bH e4,bH e5,bH e6,e7]
   .rcases m7 y hy with rfl|q
    .exact h6
    .exact hn y q)
 obtain⟨ρ',T',e,l,xs',o5,o6,o7,rfl,rfl,_,hn,hl,hnd⟩:=lp;rw[jX] at hl;refine⟨l,xs',?_,hn,hnd,by omega⟩;have ro:fq m=true:=rng_ok h0 (by omega);have wd:(PyData.list [.str "made",.str "told",.str "say",.str "want",.str "fails",.str "got",.str "put",.str "lacks"])=.list (nl WD):=rfl;have lt:Str.ofString "abcdefghijklmnopqrstuvwxyz"=LT:=rfl;have n0:([]:List PyData)=nl []:=rfl;rw[zP];simp[wd,lt,ro];rw[n0,e];simp
open K1 (isName aF single aN aJ)
def MN:List PyData:=[.int 0,.int 1,.str "",.tuple [],.int 2,.str "a",.tuple [.int 0],.tuple [.int 1,.str ""],.int (-7),.int 1000000000000000000,.str "x-0",.tuple [.tuple [],.tuple [.str "b",.int 3]],.tuple [.int 0,.int 1,.int 2],.int (1-1000000000000000000)]
theorem GM{v:PyData}(h:v∈MN):aF v=true:=by
 have:(MN.all aF)=true:=by decide +kernel
 exact List.all_eq_true.mp this v h
theorem Dg{i:Int}(h0:0<=i)(h1:i<=1000000000000000000):aF (.int i)=true:=by
 show (single (.int i)&&decide ((1:Int)<=40))=true;have:single (.int i)=true:=decide_eq_true (by rw[if_neg (by omega)];exact h1);rw[this];rfl
theorem Nx.val{x:Str}(h:Nx 8 x):aF (.str x)=true:=by
 have sub:∀c∈K1.LET.cps.toList,c∈K1.TXT.cps.toList:=by decide +kernel
 have h3:K1.has K1.TXT x=true:=List.all_eq_true.mpr fun c hc=>decide_eq_true (sub c (of_decide_eq_true (h.2.1 c hc)));show ((decide (x.length<=20)&&K1.has K1.TXT x)&&decide ((1:Int)<=40))=true;rw[h3,decide_eq_true (by have:=h.1;omega)];rfl
theorem km{xs:List PyData}(hf:Fr xs){l:List Str}(hn:Ns l)(h0:0<l.length)(h1:l.length<=20):∃v xs',fL [.tp 0,.d (.list (nl l))] [xs]=some (v,[xs'])/\aF v=true/\Fr xs':=by
 have mn:(PyData.list [.int 0,.int 1,.str "",.tuple [],.int 2,.str "a",.tuple [.int 0],.tuple [.int 1,.str ""],.int (-7),.int 1000000000000000000,.str "x-0",.tuple [.tuple [],.tuple [.str "b",.int 3]],.tuple [.int 0,.int 1,.int 2],.int (1-1000000000000000000)])=.list MN:=rfl;obtain⟨k,x1,e1,f1,k0,k1⟩:=bB hf (m:=18) (by decide) (by decide);have s1:aE 2 (az .list (ae (fC (.int 0)) (ae (fC (.int 1)) (ae (fC (.str "")) (ae (az .tuple ah) (ae (fC (.int 2)) (ae (fC (.str "a")) (ae (az .tuple (ae (fC (.int 0)) ah)) (ae (az .tuple (ae (fC (.int 1)) (ae (fC (.str "")) ah))) (ae (fUn fF (fC (.int 7))) (ae (af eU (fC (.int 10)) (fC (.int 18))) (ae (fC (.str "x-0")) (ae (az .tuple (ae (az .tuple ah) (ae (az .tuple (ae (fC (.str "b")) (ae (fC (.int 3)) ah))) ah))) (ae (az .tuple (ae (fC (.int 0)) (ae (fC (.int 1)) (ae (fC (.int 2)) ah)))) (ae (af eS (fC (.int 1)) (af eU (fC (.int 10)) (fC (.int 18)))) ah))))))))))))))) [some (.tp 0),some (.d (.list (nl l))),none,none] [xs]=some ((.nx,[some (.tp 0),some (.d (.list (nl l))),some (.d (.list MN)),none]),[xs]):=rfl
 have s2:aE 3 (aq aP (ae (aa 0) (ae (fC (.int 18)) ah))) [some (.tp 0),some (.d (.list (nl l))),some (.d (.list MN)),none] [xs]=some ((.nx,[some (.tp 0),some (.d (.list (nl l))),some (.d (.list MN)),some (.d (.int k))]),[x1]):=by simp[e1]
 unfold fL;rw[qM];simp only[sY,oA,oB,if_true];show ∃v xs',dI (ak _ _ [some (.tp 0),some (.d (.list (nl l))),none,none] [xs])=_/\_;rw[bH s1,bH s2]
 by_cases h14:k<14
 .obtain⟨v,ev,mv⟩:=mW (xs:=MN) k0 (by simpa[MN] using h14)
  exact⟨v,x1,by simp[h14,ev],GM mv,f1⟩
 .by_cases he:k=14
  .obtain⟨r,x2,e2,f2,r0,r1⟩:=bB f1 (m:=1000000000000000000) (by decide) (by decide)
   exact⟨.int r,x2,by simp[h14,he,qy,e2],Dg r0 (by omega),f2⟩
  .obtain⟨r,x2,e2,f2,r0,r1⟩:=bB f1 (m:=(l.length:Int)) (by omega) (by omega)
   obtain⟨y,ey,my⟩:=nu r0 r1;exact⟨.str y,x2,by simp[h14,he,cu,e2,ey],(hn y my).val,f2⟩
def twoW(w:String):Prop:=w="sum"\/w="join"\/w="same"\/w="part"\/w="less"
def exP(v:PyData):PyData:=.tuple [.str "put",v]
def exG(k:Int):PyData:=.tuple [.str "got",.int k]
def exM(a:PyData):PyData:=.tuple [.str "many",a]
def exR(es:List PyData):PyData:=.tuple [.str "row",.tuple es]
def ex2(w:String)(a b:PyData):PyData:=.tuple [.str (Str.ofString w),a,b]
inductive Ld(k:Nat):PyData->Prop where
 |put {v:PyData}:aF v=true->Ld k (exP v)
 |got {i:Int}:0<=i->i<k->Ld k (exG i)
inductive Xd(k:Nat):PyData->Prop where
 |lf {e:PyData}:Ld k e->Xd k e
 |two {w:String}{a b:PyData}:twoW w->Ld k a->Ld k b->Xd k (ex2 w a b)
 |row {es:List PyData}:es.length<=2->(∀e∈es,Ld k e)->Xd k (exR es)
 |many {a:PyData}:Ld k a->Xd k (exM a)
section
variable {l:List Str}(hn:Ns l)(h0:0<l.length)(h1:l.length<=20)
include hn h0 h1 in
theorem mY{xs:List PyData}(hf:Fr xs):∃y xs' r,aP [.tp 0,.d (.int (l.length:Int))] [xs]=some (.int r,[xs'])/\atI (nl l) r=some (.str y)/\y∈l/\Fr xs':=by
 obtain⟨r,x2,e2,f2,r0,r1⟩:=bB hf (m:=(l.length:Int)) (by omega) (by omega);obtain⟨y,ey,my⟩:=nu r0 r1;exact⟨y,x2,r,e2,ey,my,f2⟩
include hn h0 h1 in
theorem vK{xs:List PyData}(hf:Fr xs)(k:Nat)(hk:k<=1000)(n:Nat):∃e xs',cV (n+1) [.tp 0,.d (.int k),.d (.list (nl l)),.d (.int 0)] [xs]=some (e,[xs'])/\Ld k e/\Fr xs':=by
 obtain⟨w,x1,e1,f1,w0,w1⟩:=bB hf (m:=12) (by decide) (by decide)
 by_cases hg:w<4/\0<k
 .obtain⟨r,x2,e2,f2,r0,r1⟩:=bB f1 (m:=(k:Int)) (by omega) (by omega)
  exact⟨exG r,x2,by simp[cV,e1,hg.1,hg.2,e2,exG],.got r0 r1,f2⟩
 .obtain⟨v,x2,e2,hv,f2⟩:=km f1 hn h0 h1
  refine⟨exP v,x2,?_,.put hv,f2⟩
  by_cases h4:w<4
  .have hk0:¬0<k:=fun z=>hg ⟨h4,z⟩
   simp[cV,e1,h4,hk0,e2,exP]
  .simp[cV,e1,h4,e2,exP]
theorem HK{r:Int}(h0:0<=r)(h1:r<5):∃w,twoW w/\atI [PyData.str "part",.str "sum",.str "join",.str "same",.str "less"] r=some (.str (Str.ofString w)):=by
 have:r=0\/r=1\/r=2\/r=3\/r=4:=by omega
 rcases this with rfl|rfl|rfl|rfl|rfl
 .exact⟨"part",.inr (.inr (.inr (.inl rfl))),rfl⟩
 .exact⟨"sum",.inl rfl,rfl⟩
 .exact⟨"join",.inr (.inl rfl),rfl⟩
 .exact⟨"same",.inr (.inr (.inl rfl)),rfl⟩
 .exact⟨"less",.inr (.inr (.inr (.inr rfl))),rfl⟩
theorem HN{r:Int}(h0:0<=r)(h1:r<3)(a b:PyData):(cD [a,b] none (some r)).length<=2/\∀e∈cD [a,b] none (some r),e=a\/e=b:=by
 have:r=0\/r=1\/r=2:=by omega
 rcases this with rfl|rfl|rfl
 .have e:cD [a,b] none (some 0)=[]:=rfl
  rw[e];exact⟨by simp,fun _ h=>nomatch h⟩
 .have e:cD [a,b] none (some 1)=[a]:=rfl
  rw[e];exact⟨by simp,fun e h=>by simp at h;exact .inl h⟩
 .have e:cD [a,b] none (some 2)=[a,b]:=rfl
  rw[e];exact⟨by simp,fun e h=>by simpa using h⟩
include hn h0 h1 in
theorem mj{xs:List PyData}(hf:Fr xs)(k:Nat)(hk:k<=1000)(n:Nat):∃e xs',cV (n+2) [.tp 0,.d (.int k),.d (.list (nl l)),.d (.int 1)] [xs]=some (e,[xs'])/\Xd k e/\Fr xs':=by
 obtain⟨w,x1,e1,f1,w0,w1⟩:=bB hf (m:=12) (by decide) (by decide)
 by_cases hg:w<4/\0<k
 .obtain⟨r,x2,e2,f2,r0,r1⟩:=bB f1 (m:=(k:Int)) (by omega) (by omega)
  refine⟨exG r,x2,?_,.lf (.got r0 r1),f2⟩;unfold cV;simp[e1,hg.1,hg.2,e2,exG]
 .by_cases h7:w<7
  .obtain⟨v,x2,e2,hv,f2⟩:=km f1 hn h0 h1
   refine⟨exP v,x2,?_,.lf (.put hv),f2⟩;unfold cV
   by_cases h4:w<4
   .have hk0:¬0<k:=fun z=>hg ⟨h4,z⟩
    simp[e1,h4,h7,hk0,e2,exP]
   .simp[e1,h4,h7,e2,exP]
  .have h4:¬w<4:=by omega
   obtain⟨a,x2,e2,ha,f2⟩:=vK hn h0 h1 f1 k hk n
   by_cases h8:w=7
   .refine⟨exM a,x2,?_,.many ha,f2⟩
    unfold cV;simp[e1,h4,h7,e2,h8,exM]
   .obtain⟨b,x3,e3,hb,f3⟩:=vK hn h0 h1 f2 k hk n
    by_cases h9:w=8
    .obtain⟨r,x4,e4,f4,r0,r1⟩:=bB f3 (m:=3) (by decide) (by decide)
     obtain⟨c1,c2⟩:=HN r0 r1 a b;refine⟨exR (cD [a,b] none (some r)),x4,?_,.row c1 fun e he=>?_,f4⟩
     .unfold cV
      simp[e1,h4,h7,e2,h8,e3,h9,e4,exR]
     .rcases c2 e he with rfl|rfl
      .exact ha
      .exact hb
    .obtain⟨r,x4,e4,f4,r0,r1⟩:=bB f3 (m:=5) (by decide) (by decide)
     obtain⟨v,hv,ev⟩:=HK r0 r1;refine⟨ex2 v a b,x4,?_,.two hv ha hb,f4⟩;unfold cV;simp[e1,h4,h7,e2,h8,e3,h9,e4,ev,ex2]
include hn h0 h1 in
theorem uu{xs:List PyData}(hf:Fr xs)(k:Nat)(hk:k<=1000):∃e xs',iN [.tp 0,.d (.int k),.d (.list (nl l))] [xs]=some (e,[xs'])/\Xd k e/\Fr xs':=by
 obtain⟨w,x1,e1,f1,w0,w1⟩:=bB hf (m:=10) (by decide) (by decide)
 by_cases h7:w<7
 .obtain⟨y,x2,r,e2,ey,my,f2⟩:=mY hn h0 h1 f1
  exact⟨exP (.str y),x2,by simp[iN,e1,h7,cu,e2,ey,exP],.lf (.put (hn y my).val),f2⟩
 .by_cases h8:w=7
  .obtain⟨y,x2,r,e2,ey,my,f2⟩:=mY hn h0 h1 f1
   exact⟨ex2 "join" (exP (.str y)) (exP (.str "")),x2,by simp[iN,e1,h7,h8,cu,e2,ey,exP,ex2],.two (.inr (.inl rfl)) (.put (hn y my).val) (.put (by decide +kernel)),f2⟩
  .obtain⟨e,x2,e2,he,f2⟩:=mj hn h0 h1 f1 k hk 23
   exact⟨e,x2,by simp[iN,e1,h7,h8,e2],he,f2⟩
def iG(e:PyData):PyData:=.tuple [.str "say",e]
def kK(w:Str):PyData:=.tuple [.str "fail",.str w]
def iz(b:Bool)(e r:PyData):PyData:=.tuple [.str (Str.ofString (if b then "peek" else "want")),e,r]
def m5(e p q:PyData):PyData:=.tuple [.str "when",e,p,q]
def R:Nat->Nat->Nat
 |a,0=>4*a+4
 |a,b+1=>2*R a b+4
theorem rj:∀a b,4<=R a b
 |a,0=>by simp[R]
 |a,b+1=>by simp[R]
theorem mX(a:Nat):∀b,R a b+4<=R (a+1) b
 |0=>by simp[R];omega
 |b+1=>by have:=mX a b;simp only[R];omega
inductive RC:Nat->Nat->Nat->PyData->Prop where
 |say {h k c:Nat}{e:PyData}:4<=c->Xd k e->RC h k c (iG e)
 |fail {h k c:Nat}{w:Str}:4<=c->Nx 8 w->RC h k c (kK w)
 |want {h k c c':Nat}{b:Bool}{e r:PyData}:c' + 4<=c->Xd k e->RC h (k+1) c' r->RC (h+1) k c (iz b e r)
 |when {h k c c1 c2:Nat}{e p q:PyData}:c1+c2+4<=c->Xd k e->RC h k c1 p->RC h k c2 q->RC (h+1) k c (m5 e p q)
theorem RC.up{h k c m d:Nat}{r:PyData}(x:RC h k c r)(l:h<=m)(l2:c<=d):RC m k d r:=by
 induction x generalizing m d with
 |say z h=>exact .say (by omega) h
 |fail z h=>exact .fail (by omega) h
 |want z h _ ih=>
  obtain⟨j,rfl⟩:∃j,m=j+1:=⟨m-1,by omega⟩;exact .want (Nat.le_trans z l2) h (ih (by omega) (Nat.le_refl _))
 |when z h _ _ i1 i2=>
  obtain⟨j,rfl⟩:∃j,m=j+1:=⟨m-1,by omega⟩;exact .when (Nat.le_trans z l2) h (i1 (by omega) (Nat.le_refl _)) (i2 (by omega) (Nat.le_refl _))
theorem iI(w:Int):inD (.int w) (.tuple [.int 4,.int 5])=some (.bool (decide (w=4)||decide (w=5))):=by
 have e:inD (.int w) (.tuple [.int 4,.int 5])=some (.bool (decide ((4:Int)=w)||(decide ((5:Int)=w)||false))):=rfl;rw[e,Bool.or_false]
 congr 2
 rw[decide_eq_decide.mpr (show (4:Int)=w↔w=4 from⟨fun z=>z.symm,fun z=>z.symm⟩),decide_eq_decide.mpr (show (5:Int)=w↔w=5 from⟨fun z=>z.symm,fun z=>z.symm⟩)]
include hn h0 h1 in
theorem vP{xs:List PyData}{pk:Bool}{h k a b n:Nat}{w:Int}{x1:List PyData}(hk:k<=1000)(e1:aP [.tp 0,.d (.int 8)] [xs]=some (.int w,[x1]))(f1:Fr x1)(hA:¬(w<4/\0<a))(hB:¬((w=4\/w=5)/\0<b)):∃r xs',c5 (n+1) [.tp 0,.d (.int k),.d (.list (nl l)),.d (.int a),.d (.int b),.d (.bool pk)] [xs]=some (r,[xs'])/\RC h k (R a b) r/\Fr xs':=by
 have cA:∀{α:Type} (p q:α),(if w<4 then (if 0<a then p else q) else q)=q:=fun p q=>by
  by_cases z:w<4
  .rw[if_pos z,if_neg fun y=>hA ⟨z,y⟩]
  .rw[if_neg z]
 by_cases h6:w=6
 .obtain⟨r,x2,e2,f2,r0,r1⟩:=bB f1 (m:=2) (by decide) (by decide)
  by_cases hr:r=0
  .obtain⟨y,x3,r3,e3,ey,my,f3⟩:=mY hn h0 h1 f2
   refine⟨kK y,x3,?_,.fail (rj a b) (hn y my),f3⟩;unfold c5;simp[e1,h6,iI,e2,hr,cu,e3,ey,kK]
  .obtain⟨e,x3,e3,he,f3⟩:=mj hn h0 h1 f2 k (by omega) 23
   refine⟨iG e,x3,?_,.say (rj a b) he,f3⟩;unfold c5;simp[e1,h6,iI,e2,hr,e3,iG]
 .obtain⟨e,x3,e3,he,f3⟩:=mj hn h0 h1 f1 k (by omega) 23
  refine⟨iG e,x3,?_,.say (rj a b) he,f3⟩;unfold c5
  by_cases h45:w=4\/w=5
  .have hb:¬0<b:=fun z=>hB ⟨h45,z⟩
   rcases h45 with rfl|rfl <;> simp[e1,iI,e3,iG,hb]
  .have h4:¬w=4:=fun z=>h45 (.inl z)
   have h5:¬w=5:=fun z=>h45 (.inr z)
   by_cases hw:w<4
   .have ha:¬0<a:=fun z=>hA ⟨hw,z⟩
    simp[e1,hw,ha,h4,h5,h6,iI,e3,iG]
   .simp[e1,hw,h4,h5,h6,iI,e3,iG]
include hn h0 h1 in
theorem Cc(pk:Bool):∀(h:Nat) {xs:List PyData} (_:Fr xs) (k a b n:Nat),a+b=h->k+h<=100->h<=n->∃r xs',c5 (n+1) [.tp 0,.d (.int k),.d (.list (nl l)),.d (.int a),.d (.int b),.d (.bool pk)] [xs]=some (r,[xs'])/\RC h k (R a b) r/\Fr xs':=by
 intro h
 induction h with
 |zero=>
  intro xs hf k a b n hab hk hn';obtain⟨w,x1,e1,f1,w0,w1⟩:=bB hf (m:=8) (by decide) (by decide);exact vP hn h0 h1 (by omega) e1 f1 (by omega) (by omega)
 |succ h ih=>
  intro xs hf k a b n hab hk hn';obtain⟨j,rfl⟩:∃j,n=j+1:=⟨n-1,by omega⟩;obtain⟨w,x1,e1,f1,w0,w1⟩:=bB hf (m:=8) (by decide) (by decide)
  by_cases hA:w<4/\0<a
  .obtain⟨a',rfl⟩:∃a',a=a' + 1:=⟨a-1,by omega⟩
   have hpi:(0:Int)<(a':Int)+1:=by omega
   have ca:(a':Int)+1-1=a':=by omega
   have ck:((k+1:Nat):Int)=(k:Int)+1:=by omega
   cases pk with
   |false=>
    obtain⟨e,x3,e3,he,f3⟩:=uu hn h0 h1 f1 k (by omega);obtain⟨r,x4,e4,hr,f4⟩:=ih f3 (k+1) a' b j (by omega) (by omega) (by omega);rw[ck] at e4;refine⟨iz false e r,x4,?_,.want (mX a' b) he hr,f4⟩;unfold c5;simp[e1,hA.1,hpi,e3,e4,ca,iz]
   |true=>
    obtain⟨r2,x2,e2,f2,r0,r1⟩:=bB f1 (m:=3) (by decide) (by decide);obtain⟨e,x3,e3,he,f3⟩:=uu hn h0 h1 f2 k (by omega);obtain⟨r,x4,e4,hr,f4⟩:=ih f3 (k+1) a' b j (by omega) (by omega) (by omega);rw[ck] at e4
    by_cases hr0:r2=0
    .refine⟨iz true e r,x4,?_,.want (mX a' b) he hr,f4⟩
     unfold c5;simp[e1,hA.1,hpi,e2,hr0,e3,e4,ca,iz]
    .refine⟨iz false e r,x4,?_,.want (mX a' b) he hr,f4⟩
     unfold c5;simp[e1,hA.1,hpi,e2,hr0,e3,e4,ca,iz]
  .by_cases hB:(w=4\/w=5)/\0<b
   .obtain⟨b',rfl⟩:∃b',b=b' + 1:=⟨b-1,by omega⟩
    have hpi:(0:Int)<(b':Int)+1:=by omega
    have cb:(b':Int)+1-1=b':=by omega
    obtain⟨e,x2,e2,he,f2⟩:=mj hn h0 h1 f1 k (by omega) 23;obtain⟨p,x3,e3,hp,f3⟩:=ih f2 k a b' j (by omega) (by omega) (by omega);obtain⟨q,x4,e4,hq,f4⟩:=ih f3 k a b' j (by omega) (by omega) (by omega);refine⟨m5 e p q,x4,?_,.when (by simp only[R];omega) he hp hq,f4⟩;unfold c5
    rcases hB.1 with rfl|rfl
    .simp[e1,iI,hpi,e2,cb,e3,e4,m5]
    .simp[e1,iI,hpi,e2,cb,e3,e4,m5]
   .exact vP hn h0 h1 (by omega) e1 f1 hA hB
include hn h0 h1 in
theorem wY{xs:List PyData}(hf:Fr xs)(pk:Bool):∃r xs',eY [.tp 0,.d (.list (nl l)),.d (.bool pk)] [xs]=some (r,[xs'])/\RC 5 0 60 r/\Fr xs':=by
 obtain⟨w,x1,e1,f1,w0,w1⟩:=bB hf (m:=5) (by decide) (by decide)
 have hw:w=0\/w=1\/w=2\/w=3\/w=4:=by omega
 have run:∀a b:Nat,a+b<=5->R a b<=60->∃r xs',c5 25 [.tp 0,.d (.int 0),.d (.list (nl l)),.d (.int a),.d (.int b),.d (.bool pk)] [x1]=some (r,[xs'])/\RC 5 0 60 r/\Fr xs':=fun a b hab hR=>by
  obtain⟨r,x2,e2,hr,f2⟩:=Cc hn h0 h1 pk (a+b) f1 0 a b 24 rfl (by omega) (by omega);exact⟨r,x2,e2,hr.up hab hR,f2⟩
 have a5:∀(a b c d e:PyData),atI [a,b,c,d,e] 0=some a/\atI [a,b,c,d,e] 1=some b/\atI [a,b,c,d,e] 2=some c/\atI [a,b,c,d,e] 3=some d/\atI [a,b,c,d,e] 4=some e:=fun _ _ _ _ _=>⟨rfl,rfl,rfl,rfl,rfl⟩
 rcases hw with rfl|rfl|rfl|rfl|rfl
 .obtain⟨r,x2,e2,h2⟩:=run 4 1 (by decide) (by decide)
  exact⟨r,x2,by simp at e2;simp[eY,c4,e1,a5,e2],h2⟩
 .obtain⟨r,x2,e2,h2⟩:=run 2 2 (by decide) (by decide)
  exact⟨r,x2,by simp at e2;simp[eY,c4,e1,a5,e2],h2⟩
 .obtain⟨r,x2,e2,h2⟩:=run 1 1 (by decide) (by decide)
  exact⟨r,x2,by simp at e2;simp[eY,c4,e1,a5,e2],h2⟩
 .obtain⟨r,x2,e2,h2⟩:=run 3 1 (by decide) (by decide)
  exact⟨r,x2,by simp at e2;simp[eY,c4,e1,a5,e2],h2⟩
 .obtain⟨r,x2,e2,h2⟩:=run 0 1 (by decide) (by decide)
  exact⟨r,x2,by simp at e2;simp[eY,c4,e1,a5,e2],h2⟩
end
theorem Ld.ex{k n:Nat}{e:PyData}(h:Ld k e):Ex (k:Int) n e:=by
 cases h with
 |put h=>exact .put h
 |got h0 h1=>exact .got h0 h1
theorem twoW.pw{w:String}(h:twoW w):w∈PW:=by rcases h with rfl|rfl|rfl|rfl|rfl <;> simp[PW]
theorem Xd.ex{k n:Nat}{e:PyData}(h:Xd k e):Ex (k:Int) (n+1) e:=by
 cases h with
 |lf h=>exact h.ex
 |two hw ha hb=>exact .pair hw.pw ha.ex hb.ex
 |row hl h=>exact .row (by omega) fun e he=>(h e he).ex
 |many h=>exact .many h.ex
theorem Nx.isNm{x:Str}(h:Nx 8 x):isName (.str x)=true:=by
 have h3:has LET x=true:=List.all_eq_true.mpr fun c hc=>h.2.1 c hc;show (decide (1<=x.length)&&decide (x.length<=8)&&has LET x)=true;rw[decide_eq_true h.1,decide_eq_true h.2.2,h3];rfl
theorem RC.rg{h k c:Nat}{r:PyData}(x:RC h k c r):k+h<=12->Rg true k (h+2) r:=by
 induction x with
 |say _ he=>exact fun _=>.say he.ex
 |fail _ hw=>exact fun _=>.fail hw.isNm
 |@want h k c c' b e r _ he _ ih=>
  intro l
  cases b with
  |true=>exact .ask (.inr ⟨rfl,rfl⟩) (by omega) he.ex (ih (by omega))
  |false=>exact .ask (.inl rfl) (by omega) he.ex (ih (by omega))
 |when _ he _ _ ih1 ih2=>exact fun l=>.whn he.ex (ih1 (by omega)) (ih2 (by omega))
def SP:Str:=Str.ofString " "
def jw(ws:List Str):Str:=Str.join SP ws
theorem ju(ws:List Str):cd (jw ws)=bq [32] (ws.map cd):=by
 have e:cd SP=[32]:=by decide +kernel
 unfold jw;rw[pJ,e]
theorem B1(ws:List (List Nat))(h:ws≠[]):32::bq [32] ws=(ws.map (32::·)).flatten:=by
 cases ws with
 |nil=>exact absurd rfl h
 |cons w r=>rw[jL];rfl
theorem Dd(x:Str)(wss:List (List Str))(h:∀ws∈wss,ws≠[]):jw (x::wss.map jw)=jw (x::wss.flatten):=by
 refine gE ?_;rw[ju,ju,List.map_cons,List.map_cons,jL,jL,List.map_map]
 congr 1
 induction wss with
 |nil=>rfl
 |cons ws r ih=>
  have i2:=ih fun q hq=>h q (List.mem_cons_of_mem _ hq);have c:=B1 (ws.map cd) (by simpa using h ws List.mem_cons_self);simp only[List.map_cons,List.flatten_cons,List.map_append,List.flatten_append,Function.comp_apply];rw[←i2,ju];show (32::bq [32] (ws.map cd))++_=_;rw[c];rfl
theorem qw{p w x:Str}(h:cd p=cd w++[32]):p++x=jw [w,x]:=gE (by rw[ir,ju,h];simp[bq])
structure Wd(ws:List Str)(m:Nat):Prop where
 ne:ws≠[]
 ln:ws.length<=m
 sz:∀w∈ws,w.length<=1100
theorem Fc{ws:List Str}(h:∀w∈ws,w.length<=1100):(jw ws).length<=1101*ws.length:=by
 rw[←fm,ju]
 cases ws with
 |nil=>simp[bq]
 |cons w r=>
  rw[List.map_cons,jL,List.length_append,fm];have h1:=h w List.mem_cons_self
  have h2:∀r:List Str,(∀w∈r,w.length<=1100)->((r.map cd).map ([32]++·)).flatten.length<=1101*r.length:=fun r=>by
   induction r with
   |nil=>intro _;simp
   |cons a r ih=>
    intro h;have:=ih fun x hx=>h x (List.mem_cons_of_mem _ hx);have h1:=h a List.mem_cons_self;rw[List.map_cons,List.map_cons,List.flatten_cons,List.length_append,List.length_append,fm,List.length_cons];simp;simp at this;omega
  have h3:=h2 r fun x hx=>h x (List.mem_cons_of_mem _ hx);rw[List.length_cons];omega
theorem Cm(xs:List Str):d3 (nl xs)=some xs:=by have:=lc (fun x:Str=>x) xs;simpa[nl] using this
theorem JA{x:Str}{wss:List (List Str)}(hx:x.length<=1100)(hw:∀ws∈wss,ws≠[]/\∀w∈ws,w.length<=1100)(hN:wss.flatten.length<=10000):eO (.str " ") (.list (.str x::wss.map fun ws=>.str (jw ws)))=some (.str (jw (x::wss.flatten))):=by
 have s:∀wss:List (List Str),(∀ws∈wss,ws≠[]/\∀w∈ws,w.length<=1100)->((wss.map jw).map fun y:Str=>y.length).sum<=1101*wss.flatten.length/\wss.length<=wss.flatten.length:=fun wss=>by
  induction wss with
  |nil=>intro _;simp
  |cons a r ih=>
   intro h;obtain⟨i1,i2⟩:=ih fun q hq=>h q (List.mem_cons_of_mem _ hq);have l:=Fc (h a List.mem_cons_self).2;have n:0<a.length:=List.length_pos_iff.mpr (h a List.mem_cons_self).1;simp only[List.map_cons,List.sum_cons,List.flatten_cons,List.length_append,List.length_cons];omega
 obtain⟨s1,s2⟩:=s wss hw
 have e:(PyData.str x::wss.map fun ws=>PyData.str (jw ws))=nl (x::wss.map jw):=by simp[nl]
 have c1:(Str.ofString " ").length=1:=by decide
 rw[e];show (match d3 (nl (x::wss.map jw)) with|some ys=>if (ys.map fun y:Str=>y.length).sum+ys.length*(Str.ofString " ").length<=16777216 then some (PyData.str (Str.join " " ys)) else none|none=>none)=_;rw[Cm];dsimp only;rw[c1,List.map_cons,List.sum_cons,List.length_cons,List.length_map,if_pos (by omega)];exact congrArg (fun z=>some (PyData.str z)) (Dd x wss fun q hq=>(hw q hq).1)
theorem Fw{i:Nat}{f:FE}{ρ:Rho}{T T1:Tp}{ys xs:List PyData}(h:f ρ T=some (.d (.list ys),T1))(h2:ρ[i]? = some (some (.loc (.list xs))))(h3:xs.length+ys.length<=sizeLine):gK i f ρ T=some ((.nx,ρ.set i (some (.loc (.list (xs++ys))))),T1):=by
 unfold gK;rw[h,fj];simp only[h2];rw[if_pos h3]
theorem EZ(a b:List Str):nl a++nl b=nl (a++b):=by simp[nl]
theorem pO{M:FnM}{f:PyData->List Str}{T:Tp}{o0:Option D.W}:∀(es:List PyData) (acc:List Str) (o:Option D.W),(∀e∈es,M [.d e] T=some (.list (nl (f e)),T))->acc.length+(es.map f).flatten.length<=10000 ->
  ∃o',forL 2 (gK 1 (aq M (ae (aa 2) ah))) es [o0,some (.loc (.list (nl acc))),o] T=some ((.nx,[o0,some (.loc (.list (nl (acc++(es.map f).flatten)))),o']),T)
 |[],acc,o,_,_=>⟨o,by simp[forL]⟩
 |e::es,acc,o,h,hl=>by
  have h1:=h e List.mem_cons_self;rw[List.map_cons,List.flatten_cons,List.length_append] at hl;obtain⟨o',ih⟩:=pO (f:=f) es (acc++f e) (some (.d e)) (fun x hx=>h x (List.mem_cons_of_mem _ hx)) (by rw[List.length_append];omega);refine⟨o',?_⟩;rw[lX (ρ':=[o0,some (.loc (.list (nl (acc++f e)))),some (.d e)]),ih]
  .rw[List.map_cons,List.flatten_cons,List.append_assoc]
  .rw[←EZ]
   exact Fw (xs:=nl acc) (ys:=nl (f e)) (by simp[h1]) rfl (by rw[cu,cu];exact Nat.le_trans (show _<=10000 by omega) (by decide))
def SE(k:Nat)(m:Nat)(e:PyData):Prop:=∃ws,Wd ws m/\(∀n T,k<=n->eG n [.d e] T=some (.list (nl ws),T))/\∀n T,k<=n->eC n [.d e] T=some (.str (jw ws),T)
theorem FL{v:PyData}(h:aF v=true):(mk (cst 4 v)).length<=1000:=by
 have:=p0 4 v (cF h).1;have:=(cF h).2;rw[c8];omega
theorem wm{i:Int}(h0:0<=i)(h1:i<=1000):∃t:Str,t.length<=1000/\fE [.int i]=some (.str t):=by
 have s:single (.int i)=true:=rS (by omega) (by omega);refine⟨mk (nc i),?_,pS s⟩;rw[c8];have:=vY s;omega
theorem l4(s:String)(h:(Str.ofString s).length=4):(Str.ofString s).length=4:=h
theorem s2:2<=sizeLine:=by decide
theorem pC{k:Nat}{e:PyData}(h:Ld k e)(hk:k<=1000):SE 1 2 e:=by
 cases h with
 |@put v hv=>
  have z:=FL hv;refine⟨[Str.ofString "put",mk (cst 4 v)],⟨by simp,by simp,fun w hw=>?_⟩,fun n T hn=>?_,fun n T hn=>?_⟩
  .simp at hw
   rcases hw with rfl|rfl
   .decide +kernel
   .omega
  .obtain⟨n,rfl⟩:=bh n (by omega)
   have s:∀T,c6 25 [.d v] T=some (.str (mk (cst 4 v)),T):=fun T=>ms T hv;simp[eG,gk,cM,exP,s,fV,jk,nl,forL,s2]
  .obtain⟨n,rfl⟩:=bh n (by omega)
   have s:∀T,cO 25 [.d v] T=some (.str (mk (cst 4 v)),T):=fun T=>j6 T hv;have l:(Str.ofString "put ").length+(mk (cst 4 v)).length<=sizeLine:=cj (by rw[l4 "put " (by decide +kernel)];omega);simp[eC,exP,s,l,qw (w:=Str.ofString "put") (p:=Str.ofString "put ") (by decide +kernel)]
 |@got i h0 h1=>
  obtain⟨t,z,st⟩:=wm (i:=i) h0 (by omega);refine⟨[Str.ofString "got",t],⟨by simp,by simp,fun w hw=>?_⟩,fun n T hn=>?_,fun n T hn=>?_⟩
  .simp at hw
   rcases hw with rfl|rfl
   .decide +kernel
   .omega
  .obtain⟨n,rfl⟩:=bh n (by omega)
   simp[eG,gk,cM,exG,st,fV,jk,nl,forL,s2]
  .obtain⟨n,rfl⟩:=bh n (by omega)
   have l:(Str.ofString "got ").length+t.length<=sizeLine:=cj (by rw[l4 "got " (by decide +kernel)];omega);simp[eC,exG,st,l,qw (w:=Str.ofString "got") (p:=Str.ofString "got ") (by decide +kernel)]
theorem Fb(x:Str):jw [x]=x:=gE (by rw[ju];simp[bq])
theorem lY{α:Type}{f:α->List Str}{m:Nat}:∀{es:List α},(∀e∈es,(f e).length<=m)->(es.map f).flatten.length<=m*es.length
 |[],_=>by simp
 |a::r,h=>by
  have h1:=h a List.mem_cons_self;have h2:=lY (f:=f) (es:=r) fun x hx=>h x (List.mem_cons_of_mem _ hx);rw[List.map_cons,List.flatten_cons,List.length_append,List.length_cons,Nat.mul_add];omega
theorem vf{α:Type}{f:α->List Str}{es:List α}(h:∀e∈es,∀w∈f e,w.length<=1100):∀w∈(es.map f).flatten,w.length<=1100:=fun w hw=>by
 obtain⟨l,hl,hw'⟩:=List.mem_flatten.mp hw;obtain⟨e,he,rfl⟩:=List.mem_map.mp hl;exact h e he w hw'
theorem oY:∀fw:List Str,(fw.map fun x=>[x]).flatten=fw
 |[]=>rfl
 |a::r=>by rw[List.map_cons,List.flatten_cons,oY r];rfl
theorem JB{α:Type}{f:α->List Str}{w:Str}{fw:List Str}{es:List α}{m:Nat}(hw:w.length<=1100)(hf:∀x∈fw,x.length<=1100)(h:∀e∈es,Wd (f e) m)(hN:fw.length+m*es.length<=10000) :
  eO (.str " ") (.list (nl (w::fw)++es.map fun e=>.str (jw (f e))))=some (.str (jw (w::(fw++(es.map f).flatten)))):=by
 have j:=JA (x:=w) (wss:=(fw.map fun x=>[x])++es.map f) hw (fun ws hws=>by
  rcases List.mem_append.mp hws with z|z
  .obtain⟨x,hx,rfl⟩:=List.mem_map.mp z
   exact⟨by simp,fun y hy=>by rw[List.mem_singleton.mp hy];exact hf x hx⟩
  .obtain⟨e,he,rfl⟩:=List.mem_map.mp z
   exact⟨(h e he).ne,(h e he).sz⟩) (by
  rw[List.flatten_append,List.length_append];have:=lY (f:=f) fun e he=>(h e he).ln;rw[oY]
  omega)
 rw[List.flatten_append,oY] at j;rw[←j];simp[nl,Fb,Function.comp_def]
theorem AY{k m:Nat}{es:List PyData}(h:∀e∈es,SE k m e):∃f:PyData->List Str,∀e∈es,Wd (f e) m/\(∀n T,k<=n->eG n [.d e] T=some (.list (nl (f e)),T))/\∀n T,k<=n->eC n [.d e] T=some (.str (jw (f e)),T):=by
 classical
 refine⟨fun e=>if h':e∈es then (h e h').choose else [],fun e he=>?_⟩;simp only[dif_pos he];exact(h e he).choose_spec
theorem uB{e0:PyData}{w:Str}{fw:List Str}{es:List PyData}(hs:∀e∈es,SE 1 2 e)(l2:es.length<=2)(hw:w.length<=1100)(hfl:fw.length<=1)(hf:∀x∈fw,x.length<=1100)(ix:ixD e0 (.int 0)=some (.str w))
  (h1:∀T,gk [.d e0] T=some (.list (nl fw),T)) (h2:∀T,cM [.d e0] T=some (.list es,T))
  (h3:∀n T ys t,ys.length=es.length->(∀ρ,bC bG (aq (eC n) (ae (aa 0) ah)) ρ es T=some (ys,T))->eO (.str " ") (.list (nl (w::fw)++ys))=some (.str t)->eC (n+1) [.d e0] T=some (.str t,T)):SE 2 7 e0:=by
 obtain⟨f,hf'⟩:=AY hs;have fl:=lY (f:=f) (m:=2) fun e he=>(hf' e he).1.ln;refine⟨w::(fw++(es.map f).flatten),⟨by simp,?_,fun x hx=>?_⟩,fun n T hn=>?_,fun n T hn=>?_⟩
 .rw[List.length_cons,List.length_append];omega
 .rcases List.mem_cons.mp hx with rfl|hx
  .exact hw
  .exact(List.mem_append.mp hx).elim (hf x) (vf (fun e he=>(hf' e he).1.sz) x)
 .obtain⟨n,rfl⟩:=bh n (by omega)
  obtain⟨o',lp⟩:=pO (M:=eG n) (f:=f) (T:=T) (o0:=some (.d e0)) es (w::fw) none (fun e he=>(hf' e he).2.1 n T (by omega)) (by rw[List.length_cons];omega);have s3:fw.length+1<=sizeLine:=cj (by omega);have e1:PyData.str w::nl fw=nl (w::fw):=rfl;rw[yE];simp[ix,h1,h2,fV,jk,cu,Nat.add_comm,s3,e1,rA,lp]
 .obtain⟨n,rfl⟩:=bh n (by omega)
  exact h3 n T _ _ (by simp) (fun ρ=>eK (g:=fun e=>.str (jw (f e))) fun e he=>by simp[(hf' e he).2.2 n T (by omega)]) (JB hw hf (fun e he=>(hf' e he).1) (by omega))
theorem SE.up{k m k' m':Nat}{e:PyData}(h:SE k m e)(a:k<=k')(b:m<=m'):SE k' m' e:=by
 obtain⟨ws,w,h1,h2⟩:=h;exact⟨ws,⟨w.ne,Nat.le_trans w.ln b,w.sz⟩,fun n T hn=>h1 n T (Nat.le_trans a hn),fun n T hn=>h2 n T (Nat.le_trans a hn)⟩
theorem Ef{w:String}(h:twoW w):¬w="put"/\¬w="got"/\¬w="row"/\(Str.ofString w).length<=1100:=by rcases h with rfl|rfl|rfl|rfl|rfl <;> exact⟨by decide,by decide,by decide,by decide +kernel⟩
theorem uC{w:String}(hw:¬w="put"/\¬w="got"/\¬w="row"/\(Str.ofString w).length<=1100){es:List PyData}{k:Nat}(hk:k<=1000)(h:∀e∈es,Ld k e)(l2:es.length<=2):SE 2 7 (.tuple (.str (Str.ofString w)::es)):=by
 obtain⟨n1,n2,n3,n4⟩:=hw
 have ix:∀(a:PyData) (r:List PyData),atI (a::r) 0=some a:=fun a r=>by simp[atI,ixN]
 refine uB (w:=Str.ofString w) (fw:=[]) (es:=es) (fun e he=>pC (h e he) hk) l2 n4 (by simp) (fun _ z=>nomatch z) (ix _ _) (fun T=>?_) (fun T=>?_) (fun n T ys t q hc hj=>?_)
 .simp[gk,ix,n1,n2,n3,nl]
 .simp[cM,ix,n1,n2,n3,iL]
 .have hj':eO (.str " ") (.list (.str (Str.ofString w)::ys))=some (.str t):=hj
  have l:1+ys.length<=sizeLine:=by
   rw[q];exact cj (by omega)
  simp[eC,ix,n1,n2,n3,iL,hc,l,hj']
theorem Et{es:List PyData}{k:Nat}(hk:k<=1000)(h:∀e∈es,Ld k e)(l2:es.length<=2):SE 2 7 (exR es):=by
 obtain⟨t0,z,st⟩:=wm (i:=es.length) (by omega) (by omega);refine uB (w:=Str.ofString "row") (fw:=[t0]) (es:=es) (fun e he=>pC (h e he) hk) l2 (by decide +kernel) (by simp) (fun x hx=>by rw[List.mem_singleton.mp hx];omega) rfl (fun T=>?_) (fun T=>?_) (fun n T ys t q hc hj=>?_)
 .simp[gk,exR,st,nl]
 .simp[cM,exR]
 .have hj':eO (.str " ") (.list (.str "row"::.str t0::ys))=some (.str t):=hj
  have l:ys.length+1+1<=sizeLine:=by
   rw[q];exact cj (by omega)
  have l1:1<sizeLine:=by decide
  simp[eC,exR,st,hc,l1,hj',Nat.add_comm,Nat.add_assoc];simp[Nat.add_comm,Nat.add_assoc] at l;exact fun z=>absurd l (by omega)
theorem pE{k:Nat}{e:PyData}(h:Xd k e)(hk:k<=1000):SE 2 7 e:=by
 cases h with
 |lf h=>exact(pC h hk).up (by omega) (by omega)
 |two hw ha hb=>
  refine uC (Ef hw) hk (fun e he=>?_) (by simp)
  rcases List.mem_cons.mp he with rfl|he
  .exact ha
  .rw[List.mem_singleton.mp he];exact hb
 |row l h=>exact Et hk h l
 |many h=>exact uC (w:="many") ⟨by decide,by decide,by decide,by decide +kernel⟩ hk (fun e he=>by rw[List.mem_singleton.mp he];exact h) (by simp)
theorem yo{a b:PyData}{r:List PyData}:cD (a::b::r) (some 2) none=r:=by
 have e:HT.sIx (a::b::r).length 0 (some 2)=2:=by
  have:=HT.uD (a::b::r).length 0 2;rw[show ((2:Nat):Int)=2 from rfl] at this;rw[this];simp
 have e2:HT.sIx (a::b::r).length (a::b::r).length none=(a::b::r).length:=rfl;unfold cD;rw[e,e2];simp
def SR(h:Nat)(r:PyData):Prop:=∃ws,Wd ws (8*2^(h+1)-8)/\(∀n T,h<n->fH n [.d r] T=some (.list (nl ws),T))/\∀n T,h<n->dr n [.d r] T=some (.str (jw ws),T)
theorem AX{h:Nat}{es:List PyData}(hs:∀e∈es,SR h e):∃f:PyData->List Str,∀e∈es,Wd (f e) (8*2^(h+1)-8)/\(∀n T,h<n->fH n [.d e] T=some (.list (nl (f e)),T))/\∀n T,h<n->dr n [.d e] T=some (.str (jw (f e)),T):=by
 classical
 refine⟨fun e=>if h':e∈es then (hs e h').choose else [],fun e he=>?_⟩;simp only[dif_pos he];exact(hs e he).choose_spec
theorem xM{α:Type}{a:α}{r:List α}:atI (a::r) 0=some a:=by simp[atI,ixN]
theorem qR{α:Type}{a b:α}{r:List α}:atI (a::b::r) 1=some b:=by
 unfold atI ixN;rw[if_pos (by decide),if_pos (by simp;omega)];rfl
theorem pB{w:String}{e:PyData}{ps:List PyData}{h j:Nat}(hw:¬w="fail")(hl:(Str.ofString w).length<=1100)(he:SE 2 7 e)(hp:∀p∈ps,SR h p)(l2:ps.length<=2)(h6:h<=6)(hj:ps=[]\/h+1<=j):SR j (.tuple (.str (Str.ofString w)::e::ps)):=by
 obtain⟨f,hf⟩:=AX hp;obtain⟨we,wd,e1,e2⟩:=he;have fl:=lY (f:=f) fun e he=>(hf e he).1.ln;have pw:2^(h+1)<=128:=Nat.le_trans (Nat.pow_le_pow_right (by decide) (by omega:h+1<=7)) (by decide)
 have pj:(ps.map f).flatten.length+8<=8*2^(j+1)-8:=by
  rcases hj with rfl|hj
  .have:2^1<=2^(j+1):=Nat.pow_le_pow_right (by decide) (by omega)
   simp;omega
  .have p1:2^(h+1+1)<=2^(j+1):=Nat.pow_le_pow_right (by decide) (by omega)
   rw[Nat.pow_succ] at p1;have p2:(8*2^(h+1)-8)*ps.length<=(8*2^(h+1)-8)*2:=Nat.mul_le_mul_left _ l2;have p3:1<=2^(h+1):=Nat.one_le_two_pow;omega
 have big:(8*2^(h+1)-8)*ps.length<=2100:=Nat.le_trans (Nat.mul_le_mul_left _ l2) (by omega);have wl:=wd.ln;refine⟨Str.ofString w::(we++(ps.map f).flatten),⟨by simp,?_,fun x hx=>?_⟩,fun n T hn=>?_,fun n T hn=>?_⟩
 .rw[List.length_cons,List.length_append];omega
 .rcases List.mem_cons.mp hx with rfl|hx
  .exact hl
  .exact(List.mem_append.mp hx).elim (wd.sz x) (vf (fun e he=>(hf e he).1.sz) x)
 .obtain⟨n,rfl⟩:=bh n (by omega)
  obtain⟨o',lp⟩:=pO (M:=fH n) (f:=f) (T:=T) (o0:=some (.d (.tuple (.str (Str.ofString w)::e::ps)))) ps (Str.ofString w::we) none (fun p hp'=>(hf p hp').2.1 n T (by
   rcases hj with rfl|hj
   .cases hp'
   .omega)) (by rw[List.length_cons];omega)
  have s3:we.length+1<=sizeLine:=cj (by omega);have q:PyData.str (Str.ofString w)::nl we=nl (Str.ofString w::we):=rfl;have ew:=fun T=>e1 25 T (by decide);rw[yA];simp[xM,qR,hw,ew,yo,fV,jk,cu,Nat.add_comm,s3,q,rp,lp]
 .obtain⟨n,rfl⟩:=bh n (by omega)
  have ew:=fun T=>e2 25 T (by decide)
  have hc:∀ρ,bC bG (aq (dr n) (ae (aa 0) ah)) ρ ps T=some (ps.map fun p=>.str (jw (f p)),T):=fun ρ=>eK (g:=fun p=>.str (jw (f p))) fun p hp'=>by
   have:=(hf p hp').2.2 n T (by
    rcases hj with rfl|hj
    .cases hp'
    .omega)
   simp[this]
  have J:=JA (x:=Str.ofString w) (wss:=we::ps.map f) hl (fun ws hws=>by
   rcases List.mem_cons.mp hws with rfl|z
   .exact⟨wd.ne,wd.sz⟩
   .obtain⟨p,hp',rfl⟩:=List.mem_map.mp z
    exact⟨(hf p hp').1.ne,(hf p hp').1.sz⟩) (by rw[List.flatten_cons,List.length_append];omega)
  rw[List.map_cons,List.map_map] at J;have J':eO (.str " ") (.list (.str (Str.ofString w)::.str (jw we)::ps.map fun p=>.str (jw (f p))))=some (.str (jw (Str.ofString w::(we++(ps.map f).flatten)))):=J;have l:ps.length+2<=sizeLine:=cj (by omega)
  have l':2+ps.length<=sizeLine:=by omega
  simp[dr,xM,qR,hw,ew,yo,hc,l',J']
theorem Gb{h k c:Nat}{r:PyData}(x:RC h k c r):h<=6->k+h<=1000->SR h r:=by
 induction x with
 |say _ he=>exact fun a b=>pB (w:="say") (h:=0) (ps:=[]) (by decide) (by decide +kernel) (pE he (by omega)) (fun _ z=>nomatch z) (by simp) (by omega) (.inl rfl)
 |@fail h k c w _ hw=>
  intro a b;have z:w.length<=8:=hw.1;have p:2^1<=2^(h+1):=Nat.pow_le_pow_right (by decide) (by omega);refine⟨[Str.ofString "fail",w],⟨by simp,by simp;omega,fun x hx=>?_⟩,fun n T hn=>?_,fun n T hn=>?_⟩
  .simp at hx
   rcases hx with rfl|rfl
   .decide +kernel
   .omega
  .obtain⟨n,rfl⟩:=bh n (by omega)
   simp[fH,kK,nl]
  .obtain⟨n,rfl⟩:=bh n (by omega)
   have l5:(Str.ofString "fail ").length=5:=by decide +kernel
   have l:(Str.ofString "fail ").length+w.length<=sizeLine:=cj (by omega);simp[dr,kK,l,qw (w:=Str.ofString "fail") (p:=Str.ofString "fail ") (by decide +kernel)]
 |@want h k c c' b e r _ he _ ih=>
  intro a b';refine pB (h:=h) (ps:=[r]) ?_ ?_ (pE he (by omega)) (fun p hp=>by rw[List.mem_singleton.mp hp];exact ih (by omega) (by omega)) (by simp) (by omega) (.inr (Nat.le_refl _))
  .cases b <;> decide
  .cases b <;> decide +kernel
 |@when h k c c1 c2 e p q _ he _ _ ih1 ih2=>
  intro a b;refine pB (w:="when") (h:=h) (ps:=[p,q]) (by decide) (by decide +kernel) (pE he (by omega)) (fun x hx=>?_) (by simp) (by omega) (.inr (Nat.le_refl _))
  rcases List.mem_cons.mp hx with rfl|hx
  .exact ih1 (by omega) (by omega)
  .rw[List.mem_singleton.mp hx];exact ih2 (by omega) (by omega)
theorem vJ{k c:Nat}{r:PyData}(x:RC 5 k c r)(hk:k<=900):∃t,(∀T,jE [.d r] T=some (.str t,T))/\∀T,dr 25 [.d r] T=some (.str t,T):=by
 obtain⟨ws,wd,h1,h2⟩:=Gb x (by decide) (by omega);refine⟨jw ws,fun T=>?_,fun T=>h2 25 T (by decide)⟩;have hl:=wd.ln
 obtain⟨w,fw,rfl⟩:∃w fw,ws=w::fw:=by
  cases ws with
  |nil=>exact absurd rfl wd.ne
  |cons a r=>exact⟨a,r,rfl⟩
 have J:=JB (α:=PyData) (f:=fun _=>[]) (es:=[]) (m:=0) (wd.sz w List.mem_cons_self) (fun y hy=>wd.sz y (List.mem_cons_of_mem _ hy)) (fun _ z=>nomatch z) (by simp at hl;simp;omega);simp at J;simp[jE,h1 25 T (by decide),J]
open K1 (isName aF)
abbrev Dl:=List (Str×PyData)
def ky(l:Dl):List Str:=l.map (·.1)
theorem dU(s:Str):∀l:Dl,aA (aL l) s=l.lookup s
 |[]=>rfl
 |(k,d)::r=>by
  have ih:=dU s r;show (if k=s then some d else aA (aL r) s)=_;rw[List.lookup_cons,ih]
  by_cases h:k=s
  .subst h;simp
  .have h':(s == k)=false:=beq_eq_false_iff_ne.mpr fun z=>h z.symm
   rw[if_neg h,h']
theorem lG{s:Str}{d:PyData}:∀{l:Dl},l.lookup s=some d->(s,d)∈l
 |[],h=>nomatch h
 |(k,e)::r,h=>by
  rw[List.lookup_cons] at h
  by_cases hk:s=k
  .subst hk
   simp at h;subst h;exact List.mem_cons_self
  .have h':(s == k)=false:=beq_eq_false_iff_ne.mpr hk
   rw[h'] at h;exact List.mem_cons_of_mem _ (lG h)
theorem ou{s:Str}:∀{l:Dl},s∈ky l->∃d,l.lookup s=some d
 |[],h=>nomatch h
 |(k,e)::r,h=>by
  rw[List.lookup_cons]
  by_cases hk:s=k
  .subst hk;exact⟨e,by simp⟩
  .have h':(s == k)=false:=beq_eq_false_iff_ne.mpr hk
   rw[h']
   exact ou (by
    rcases List.mem_cons.mp h with z|z
    .exact absurd z hk
    .exact z)
theorem uY{s:Str}{d:PyData}{l:Dl}(h:l.lookup s=some d):s∈ky l:=List.mem_map.mpr ⟨_,lG h,rfl⟩
theorem t4{s:Str}{l:Dl}:(l.lookup s).isSome=decide (s∈ky l):=by
 by_cases h:s∈ky l
 .obtain⟨d,e⟩:=ou h
  rw[e,decide_eq_true h];rfl
 .rw[decide_eq_false h]
  cases e:l.lookup s with
  |none=>rfl
  |some d=>exact absurd (uY e) h
theorem j7{s:Str}{d:PyData}:∀{l:Dl},(ky l).Nodup->(s,d)∈l->l.lookup s=some d
 |[],_,h=>nomatch h
 |(k,e)::r,nd,h=>by
  have nd':k∉ky r/\(ky r).Nodup:=List.nodup_cons.mp nd;rw[List.lookup_cons]
  rcases List.mem_cons.mp h with z|z
  .cases z;simp
  .have hk:s∈ky r:=List.mem_map.mpr ⟨_,z,rfl⟩
   have h':(s == k)=false:=beq_eq_false_iff_ne.mpr fun q=>nd'.1 (q ▸ hk);rw[h'];exact j7 nd'.2 z
theorem uH(s:Str)(x:PyData):∀l:Dl,bP (aL l) s x=aL (l.map fun p=>if p.1=s then (p.1,x) else p)
 |[]=>rfl
 |(k,d)::r=>by
  have ih:=uH s x r;show (if k=s then (PyData.str k,x)::bP (aL r) s x else (PyData.str k,d)::bP (aL r) s x)=_;rw[ih,List.map_cons]
  by_cases h:k=s
  .simp[h,aL]
  .simp[h,aL]
def putL(l:Dl)(s:Str)(x:PyData):Dl:=if s∈ky l then l.map fun p=>if p.1=s then (p.1,x) else p else l++[(s,x)]
theorem ke(l:Dl)(s:Str)(x:PyData):putN (aL l) s x=aL (putL l s x):=by
 unfold putN putL;rw[dU,t4]
 by_cases h:s∈ky l
 .rw[decide_eq_true h,if_pos rfl,if_pos h,uH]
 .rw[decide_eq_false h,if_neg (by decide),if_neg h]
  simp[aL]
theorem mC(l:Dl)(s:Str)(x:PyData):ky (putL l s x)=if s∈ky l then ky l else ky l++[s]:=by
 unfold putL
 by_cases h:s∈ky l
 .rw[if_pos h,if_pos h]
  unfold ky;rw[List.map_map];refine List.map_congr_left fun p _=>?_;simp only[Function.comp]
  split <;> rfl
 .rw[if_neg h,if_neg h]
  simp[ky]
theorem uI{l:Dl}{s:Str}{x:PyData}{p:Str×PyData}(h:p∈putL l s x):p∈l\/p=(s,x):=by
 unfold putL at h;split at h
 .obtain⟨q,hq,e⟩:=List.mem_map.mp h
  split at e
  .rename_i z
   exact .inr (by rw[←e,z])
  .exact .inl (e ▸ hq)
 .rcases List.mem_append.mp h with z|z
  .exact .inl z
  .exact .inr (by simpa using z)
structure Dq(P:PyData->Prop)(K:List Str)(l:Dl):Prop where
 nd:(ky l).Nodup
 ok:∀p∈l,P p.2/\p.1∈K
theorem Dq.nil{P:PyData->Prop}{K:List Str}:Dq P K []:=⟨by simp[ky],fun _ h=>nomatch h⟩
theorem Dq.put{P:PyData->Prop}{K:List Str}{l:Dl}(h:Dq P K l){s:Str}{x:PyData}(hx:P x)(hs:s∈K):Dq P K (putL l s x):=by
 refine⟨?_,fun p hp=>?_⟩
 .rw[mC]
  split
  .exact h.nd
  .rename_i z
   rw[List.nodup_append];exact⟨h.nd,by simp,fun a ha b hb=>by simp at hb;subst hb;exact fun q=>z (q ▸ ha)⟩
 .rcases uI hp with z|rfl
  .exact h.ok p z
  .exact⟨hx,hs⟩
theorem Dq.look{P:PyData->Prop}{K:List Str}{l:Dl}(h:Dq P K l){s:Str}{x:PyData}(e:l.lookup s=some x):P x:=(h.ok _ (lG e)).1
theorem xo{α:Type}[DecidableEq α]{L N:List α}(nd:L.Nodup)(h:∀x∈L,x∈N):L.length<=N.length:=by
 apply Nat.le_of_not_lt;intro z;obtain⟨x,hx,nx⟩:=qk nd z;exact nx (h x hx)
theorem Dq.len{P:PyData->Prop}{K:List Str}{l:Dl}(h:Dq P K l):l.length<=K.length:=by
 have:=xo h.nd (N:=K) fun x hx=>by
  obtain⟨p,hp,rfl⟩:=List.mem_map.mp hx;exact(h.ok p hp).2
 simpa[ky] using this
theorem gA(l:Dl):(aL l).length=l.length:=by simp[aL]
@[simp] theorem t6{i:Nat}{m:FnM}{g:FA}{fr:FS}{ρ:Rho}{T:Tp}:jf i m g fr ρ T=bnd (g ρ T) fun ws T1=>bnd (m ws T1) (mG i fr ρ):=rfl
theorem tV{i:Nat}{fr:FS}{ρ ρ':Rho}{xs xs':List PyData}{fl:Fl}(h:fr (ρ.set i (some (.tp 0))) [xs]=some ((fl,ρ'),[xs'])):mG i fr ρ (.list xs) []=some ((fl,jt 0 ρ'),[]):=by
 show j5 0 (fr (ρ.set i (some (.tp 0))) [xs])=_;rw[h];rfl
def pr(p:Str×PyData):PyData:=.tuple [.str p.1,p.2]
theorem uK:∀l:Dl,ic (l.map pr)=some l
 |[]=>rfl
 |(s,d)::r=>by
  have ih:=uK r;show (match pairD (pr (s,d)) with|some p=>(match ic (r.map pr) with|some ps=>some (p::ps)|none=>none)|none=>none)=_;rw[ih];rfl
theorem lH(l:Dl):(aL l).map (·.1)=nl (ky l):=by
 unfold aL nl ky;rw[List.map_map,List.map_map];rfl
theorem ul{c:FT}{e:FE}{ρ:Rho}{T:Tp}{y:Str}{l:Dl}(hc:∀s,c (some (.d (.str s))::ρ) T=some (!decide (s=y),T))(he:∀s d,(s,d)∈l->e (some (.d (.str s))::ρ) T=some (.d (.tuple [.str s,d]),T)):bC c e ρ (nl (ky l)) T=some ((l.filter fun p=>!decide (p.1=y)).map pr,T):=by
 induction l with
 |nil=>rfl
 |cons p r ih=>
  obtain⟨s,d⟩:=p;have ih':=ih fun s d h=>he s d (List.mem_cons_of_mem _ h);have h1:=hc s;have h2:=he s d List.mem_cons_self;show bC c e ρ (.str s::nl (ky r)) T=_;unfold bC;rw[h1]
  by_cases hs:s=y
  .simp[hs,ih']
  .simp[hs,h2,ih',pr]
theorem Dq.drop{P:PyData->Prop}{K:List Str}{l:Dl}(h:Dq P K l)(f:Str×PyData->Bool):Dq P K (l.filter f):=by
 refine⟨?_,fun p hp=>h.ok p (List.mem_filter.mp hp).1⟩;exact List.Nodup.sublist (List.Sublist.map _ List.filter_sublist) h.nd
theorem jW{mf mh:FnM}{g1 g2:FA}{ρ:Rho}{ws ws2:List W}{xs xs':List PyData}{y:PyData}(h1:g1 ρ []=some (ws,[]))(h2:mh ws []=some (.list xs,[]))(h3:g2 ρ []=some (ws2,[]))(h4:dy ws2=true)(h5:mf (.tp 0::ws2) [xs]=some (y,[xs'])):b6 mf mh g1 g2 ρ []=some (.d y,[]):=by
 unfold b6;rw[h1,fj,h2,fj];show bnd (g2 ρ []) (kg mf xs)=_;rw[h3,fj];unfold kg;rw[if_pos h4];show qt 0 (mf (.tp 0::ws2) [xs])=_;rw[h5];rfl
theorem iM{α:Type}{a b:α}:atI [a,b] 0=some a/\atI [a,b] 1=some b:=⟨rfl,rfl⟩
def fzO(o:Option W):Option W:=(bV [o]).headD none
theorem i3{o:Option W}{r:Rho}:bV (o::r)=fzO o::bV r:=rfl
@[simp] theorem K5:fzO none=none:=rfl
@[simp] theorem K7{x:PyData}:fzO (some (.d x))=some (.d x):=rfl
@[simp] theorem K4{i:Nat}:fzO (some (.tp i))=some (.tp i):=rfl
@[simp] theorem K6{x:PyData}:fzO (some (.loc x))=some (.d x):=rfl
@[simp] theorem J4{f:FE}{ρ:Rho}{T:Tp}:gG f ρ T=bnd (f ρ T) fun w T1=>nq (iJ (view T1 w)) T1:=rfl
@[simp] theorem IR{ds:Dc}{T:Tp}:nq (some ds) T=some (.d (.dict ds),T):=rfl
@[simp] theorem IK{ds:Dc}:GQ [.dict ds]=some (.list (xw ds)):=rfl
theorem wD{i:Nat}{body:FS}{I:Nat->Rho->Tp->Prop}:∀(ds:List PyData) (k:Nat) (ρ:Rho) (T:Tp),I k ρ T ->
  (∀j d ρ T,ds[j]? = some d->I (k+j) ρ T->∃ρ' T',body (ρ.set i (some (.d d))) T=some ((.nx,ρ'),T')/\I (k+j+1) ρ' T')->∃ρ' T',forL i body ds ρ T=some ((.nx,ρ'),T')/\I (k+ds.length) ρ' T'
 |[],k,ρ,T,h,_=>⟨ρ,T,rfl,h⟩
 |d::r,k,ρ,T,h,hs=>by
  obtain⟨ρ1,T1,e1,h1⟩:=hs 0 d ρ T rfl h
  obtain⟨ρ2,T2,e2,h2⟩:=wD (body:=body) (I:=I) r (k+1) ρ1 T1 h1 fun j d ρ T hd hI=>by
   rw[show k+1+j=k+(j+1) by omega] at hI ⊢;exact hs (j+1) d ρ T (by simpa using hd) hI
  refine⟨ρ2,T2,?_,by rw[List.length_cons,show k+(r.length+1)=k+1+r.length by omega];exact h2⟩;unfold forL;rw[e1];exact e2
theorem CV{n j:Nat}{d:PyData}(h:(cI 0 n)[j]? = some d):d=.int (j:Int)/\j<n:=by
 unfold cI at h;rw[List.getElem?_map] at h
 by_cases hj:j<n
 .rw[List.getElem?_range hj] at h
  simp at h;exact⟨h.symm,hj⟩
 .rw[List.getElem?_eq_none (by simp;omega)] at h
  cases h
structure Bd(l:List Str)(d0 r0:Dl):Prop where
 t:Dq (fun v=>aF v=true) l d0
 m:Dq (RC 5 0 60) l r0
 no:∀s∈ky d0,s∉ky r0
def bkL(d0 r0:Dl):PyData:=.tuple [.dict (aL d0),.dict (aL r0)]
def scr(ns:List Int):PyData:=.list (ns.map PyData.int)
theorem Dq.up{P:PyData->Prop}{K L:List Str}{l:Dl}(h:Dq P K l)(s:∀x∈K,x∈L):Dq P L l:=⟨h.nd,fun p hp=>⟨(h.ok p hp).1,s _ (h.ok p hp).2⟩⟩
theorem Bd.up{K L:List Str}{d0 r0:Dl}(h:Bd K d0 r0)(s:∀x∈K,x∈L):Bd L d0 r0:=⟨h.t.up s,h.m.up s,h.no⟩
theorem Dq.out{P:PyData->Prop}{K:List Str}{l:Dl}(h:Dq P K l){y:Str}(hy:y∉K):y∉ky l:=fun z=>by
 obtain⟨p,hp,rfl⟩:=List.mem_map.mp z;exact hy (h.ok p hp).2
theorem v7{l:Dl}{s:Str}{x:PyData}:ky (l++[(s,x)])=ky l++[s]:=by simp[ky]
theorem Dq.add{P:PyData->Prop}{K:List Str}{l:Dl}(h:Dq P K l){s:Str}{x:PyData}(hx:P x)(hs:s∈K)(ho:s∉ky l):Dq P K (l++[(s,x)]):=by
 have:=h.put hx hs;unfold putL at this
 rwa [if_neg ho] at this
theorem uJ{l:Dl}{s:Str}{x:PyData}(ho:s∉ky l):putN (aL l) s x=aL (l++[(s,x)]):=by
 rw[ke];unfold putL;rw[if_neg ho]
theorem Bd.addT{K:List Str}{d0 r0:Dl}(h:Bd K d0 r0){y:Str}{v:PyData}(hv:aF v=true)(hy:y∈K)(o1:y∉ky d0)(o2:y∉ky r0):Bd K (d0++[(y,v)]) r0:=⟨h.t.add hv hy o1,h.m,fun s hs=>by
 rw[v7] at hs
 rcases List.mem_append.mp hs with z|z
 .exact h.no s z
 .rw[List.mem_singleton.mp z];exact o2⟩
theorem Bd.addM{K:List Str}{d0 r0:Dl}(h:Bd K d0 r0){y:Str}{v:PyData}(hv:RC 5 0 60 v)(hy:y∈K)(o1:y∉ky d0)(o2:y∉ky r0):Bd K d0 (r0++[(y,v)]):=⟨h.t,h.m.add hv hy o2,fun s hs z=>by
 rw[v7] at z
 rcases List.mem_append.mp z with z|z
 .exact h.no s hs z
 .rw[List.mem_singleton.mp z] at hs;exact o1 hs⟩
section
variable {l:List Str}(hn:Ns l)(h0:0<l.length)(h1:l.length<=20)
include hn h0 h1 in
theorem DU{K:List Str}(hKl:K.length<=20){d0 r0:Dl}(hb:Bd K d0 r0){y:Str}(hy:y∈K)(o1:y∉ky d0)(o2:y∉ky r0){xs:List PyData}(hf:Fr xs){sc ba:PyData}{pk:Bool}{j:Int}(ey:atI (nl l) j=some (.str y)){o8:Option W} :
  ∃d1 r1 w xs',iT [some (.d sc),some (.d ba),some (.d (.list (nl l))),some (.d (.bool pk)),some (.loc (.dict (aL d0))),some (.loc (.dict (aL r0))),some (.d (.int j)),some (.tp 0),o8] [xs]=some ((.nx,[some (.d sc),some (.d ba),some (.d (.list (nl l))),some (.d (.bool pk)),some (.loc (.dict (aL d1))),some (.loc (.dict (aL r1))),some (.d (.int j)),some (.tp 0),some (.d (.int w))]),[xs'])/\Bd K d1 r1:=by
 obtain⟨w,x1,e1,f1,w0,w1⟩:=bB hf (m:=8) (by decide) (by decide)
 have z1:(aL d0).length<=1000:=by rw[gA];have:=hb.1.len;omega
 have z2:(aL r0).length<=1000:=by rw[gA];have:=hb.2.len;omega
 by_cases h2:w<2
 .obtain⟨v,x2,e2,hv,f2⟩:=km f1 hn h0 h1
  exact⟨d0++[(y,v)],r0,w,x2,by simp[iT,e1,h2,e2,ey,z1,uJ o1],hb.addT hv hy o1 o2⟩
 .by_cases h7:w<7
  .obtain⟨r,x2,e2,hr,f2⟩:=wY hn h0 h1 f1 pk
   exact⟨d0,r0++[(y,r)],w,x2,by simp[iT,e1,h2,h7,e2,ey,z2,uJ o2],hb.addM hr hy o1 o2⟩
  .exact⟨d0,r0,w,x1,by simp[iT,e1,h2,h7],hb⟩
include hn h0 h1 in
theorem F3(nd:l.Nodup)(ns:List Int){ba:Int}(hba:0<=ba)(pk:Bool):∃d0 r0,jK [.d (scr ns),.d (.int ba),.d (.list (nl l)),.d (.bool pk)] []=some (bkL d0 r0,[])/\Bd l d0 r0:=by
 have lp:=wD (i:=6) (body:=oG) (I:=fun k ρ T=>∃d0 r0 o6 w8,ρ=[some (.d (scr ns)),some (.d (.int ba)),some (.d (.list (nl l))),some (.d (.bool pk)),some (.loc (.dict (aL d0))),some (.loc (.dict (aL r0))),o6,none,w8]/\T=[]/\Bd (l.take k) d0 r0)
  (cI 0 l.length) 0 [some (.d (scr ns)),some (.d (.int ba)),some (.d (.list (nl l))),some (.d (.bool pk)),some (.loc (.dict [])),some (.loc (.dict [])),none,none,none] [] ⟨[],[],none,none,rfl,rfl,.nil,.nil,fun _ h=>nomatch h⟩ (fun j d ρ T hd hI=>by
   obtain⟨d0,r0,o6,w8,rfl,rfl,hb⟩:=hI;obtain⟨rfl,hj⟩:=CV hd;rw[Nat.zero_add] at hb ⊢;obtain⟨xs,hf,ef⟩:=iy ns (ba+j) (by omega);have tk:l.take (j+1)=l.take j++[l[j]]:=List.take_succ_eq_append_getElem hj
   have ny:l[j]∉l.take j:=by
    have nd2:(l.take (j+1)).Nodup:=List.Nodup.sublist (List.take_sublist _ _) nd;rw[tk,List.nodup_append] at nd2;exact fun z=>nd2.2.2 _ z _ (List.mem_singleton.mpr rfl) rfl
   have ey:atI (nl l) (j:Int)=some (.str l[j]):=by
    have:(nl l)[j]? = some (.str l[j]):=by simp[nl,hj]
    exact DX this
   have hb':Bd (l.take (j+1)) d0 r0:=hb.up fun x hx=>by rw[tk];exact List.mem_append_left _ hx
   obtain⟨d1,r1,w,xs',e,hb2⟩:=DU hn h0 h1 (by rw[List.length_take];omega) hb' (by rw[tk];exact List.mem_append_right _ (List.mem_singleton.mpr rfl)) (hb.t.out ny) (hb.m.out ny) hf (sc:=scr ns) (ba:=.int ba) (pk:=pk) ey (o8:=w8);refine⟨[some (.d (scr ns)),some (.d (.int ba)),some (.d (.list (nl l))),some (.d (.bool pk)),some (.loc (.dict (aL d1))),some (.loc (.dict (aL r1))),some (.d (.int j)),none,some (.d (.int w))],[],?_,d1,r1,_,_,rfl,rfl,hb2⟩;have oo:=tV (i:=7) (fr:=iT) (ρ:=[some (.d (scr ns)),some (.d (.int ba)),some (.d (.list (nl l))),some (.d (.bool pk)),some (.loc (.dict (aL d0))),some (.loc (.dict (aL r0))),some (.d (.int j)),none,w8]) e;have ef':=ef [];unfold oG;unfold scr at ef' oo ⊢;simp only[t6,List.set_cons_succ,List.set_cons_zero,l7,l6,l3,l0,lZ,pR,pQ,pP,fj,lI,mU,l8,mR,vi,mT,mS,ef',oo]
   rfl)
 obtain⟨ρ',T',e,d0,r0,o6,w8,rfl,rfl,hb⟩:=lp;rw[jX,Nat.zero_add,List.take_length] at hb;refine⟨d0,r0,?_,hb⟩;have ro:fq (l.length:Int)=true:=rng_ok (by omega) (by omega)
 have tn:((l.length:Int)).toNat=l.length:=by omega
 rw[Ay];simp[cu,ro,tn];rw[e];simp[bkL,i3]
end
theorem tO{i:Nat}{fe:FE}{ρ:Rho}{T:Tp}{l:Dl}(h:fe ρ T=some (.d (.list (l.map pr)),T))(nd:(ky l).Nodup)(hl:l.length<=1000):ki i fe ρ T=some ((.nx,ρ.set i (some (.loc (.dict (aL l))))),T):=by
 unfold ki;rw[h];show mx i ρ T (ic (l.map pr))=_;rw[uK]
 have:qW l=true:=by
  unfold qW;have nd':(l.map fun x=>x.1).Nodup:=nd;rw[decide_eq_true nd',decide_eq_true hl];rfl
 unfold mx;dsimp only;rw[if_pos this]
section
variable {l:List Str}(hn:Ns l)(h0:0<l.length)(h1:l.length<=20)
include hn h0 h1 in
theorem B9{d0 r0:Dl}(hb:Bd l d0 r0){xs:List PyData}(hf:Fr xs)(pk:Bool):∃d1 r1 xs',iO [.tp 0,.d (bkL d0 r0),.d (.list (nl l)),.d (.bool pk)] [xs]=some (bkL d1 r1,[xs'])/\Bd l d1 r1:=by
 obtain⟨y,x1,r,e1,ey,my,f1⟩:=mY hn h0 h1 hf;obtain⟨w,x2,e2,f2,w0,w1⟩:=bB f1 (m:=5) (by decide) (by decide)
 let d1:=d0.filter fun p=>!decide (p.1=y)
 let r1:=r0.filter fun p=>!decide (p.1=y)
 have hd1:Dq (fun v=>aF v=true) l d1:=hb.t.drop _;have hr1:Dq (RC 5 0 60) l r1:=hb.m.drop _
 have mem1:∀{m:Dl}{s:Str},s∈ky (m.filter fun p=>!decide (p.1=y))->s∈ky m/\s≠y:=fun hs=>by
  obtain⟨q,hq,rfl⟩:=List.mem_map.mp hs;obtain⟨q1,q2⟩:=List.mem_filter.mp hq;exact⟨List.mem_map.mpr ⟨q,q1,rfl⟩,by simpa using q2⟩
 have hn1:∀s∈ky d1,s∉ky r1:=fun s hs z=>hb.no s (mem1 hs).1 (mem1 z).1
 have z1:d1.length<=1000:=by have:=hd1.len;omega
 have z2:r1.length<=1000:=by have:=hr1.len;omega
 have s1:aE 4 (af ixD (aa 2) (aq aP (ae (aa 0) (ae (fCB a7 (ae (aa 2) ah)) ah)))) [some (.tp 0),some (.d (bkL d0 r0)),some (.d (.list (nl l))),some (.d (.bool pk)),none,none,none,none] [xs]=some ((.nx,[some (.tp 0),some (.d (bkL d0 r0)),some (.d (.list (nl l))),some (.d (.bool pk)),some (.d (.str y)),none,none,none]),[x1]):=by
  simp[cu,e1,ey]
 have s2:=tO (i:=5) (fe:=bJ (bc (af ixD (aa 1) (fC (.int 0)))) (ax (af neD (aa 0) (aa 5))) (az .tuple (ae (aa 0) (ae (af ixA (af ixD (aa 2) (fC (.int 0))) (aa 0)) ah)))) (ρ:=[some (.tp 0),some (.d (bkL d0 r0)),some (.d (.list (nl l))),some (.d (.bool pk)),some (.d (.str y)),none,none,none]) (T:=[x1]) (l:=d1) (by
  have c:=ul (c:=ax (af neD (aa 0) (aa 5))) (e:=az .tuple (ae (aa 0) (ae (af ixA (af ixD (aa 2) (fC (.int 0))) (aa 0)) ah))) (ρ:=[some (.tp 0),some (.d (bkL d0 r0)),some (.d (.list (nl l))),some (.d (.bool pk)),some (.d (.str y)),none,none,none]) (T:=[x1]) (y:=y) (l:=d0) (fun s=>by simp) (fun s d hm=>by
   have k:=j7 hb.t.nd hm
   simp[bkL,iM,dU,k])
  unfold bkL at c ⊢;simp[iM,lH,c]
  rfl) hd1.nd z1
 have s3:=tO (i:=6) (fe:=bJ (bc (af ixD (aa 1) (fC (.int 1)))) (ax (af neD (aa 0) (aa 5))) (az .tuple (ae (aa 0) (ae (af ixA (af ixD (aa 2) (fC (.int 1))) (aa 0)) ah)))) (ρ:=[some (.tp 0),some (.d (bkL d0 r0)),some (.d (.list (nl l))),some (.d (.bool pk)),some (.d (.str y)),some (.loc (.dict (aL d1))),none,none]) (T:=[x1]) (l:=r1) (by
  have c:=ul (c:=ax (af neD (aa 0) (aa 5))) (e:=az .tuple (ae (aa 0) (ae (af ixA (af ixD (aa 2) (fC (.int 1))) (aa 0)) ah))) (ρ:=[some (.tp 0),some (.d (bkL d0 r0)),some (.d (.list (nl l))),some (.d (.bool pk)),some (.d (.str y)),some (.loc (.dict (aL d1))),none,none]) (T:=[x1]) (y:=y) (l:=r0) (fun s=>by simp) (fun s d hm=>by
   have k:=j7 hb.m.nd hm
   simp[bkL,iM,dU,k])
  unfold bkL at c ⊢;simp[iM,lH,c]
  rfl) hr1.nd z2
 have s4:aE 7 (aq aP (ae (aa 0) (ae (fC (.int 5)) ah))) [some (.tp 0),some (.d (bkL d0 r0)),some (.d (.list (nl l))),some (.d (.bool pk)),some (.d (.str y)),some (.loc (.dict (aL d1))),some (.loc (.dict (aL r1))),none] [x1]=some ((.nx,[some (.tp 0),some (.d (bkL d0 r0)),some (.d (.list (nl l))),some (.d (.bool pk)),some (.d (.str y)),some (.loc (.dict (aL d1))),some (.loc (.dict (aL r1))),some (.d (.int w))]),[x2]):=by simp[e2]
 have y1:(aL d1).length<=1000:=by rw[gA];exact z1
 have y2:(aL r1).length<=1000:=by rw[gA];exact z2
 unfold iO;rw[qM];simp only[sY,oA,oB,if_true];show ∃d1 r1 xs',dI (ak _ _ [some (.tp 0),some (.d (bkL d0 r0)),some (.d (.list (nl l))),some (.d (.bool pk)),none,none,none,none] [xs])=_/\_;rw[bH s1,bH s2];simp only[List.set_cons_succ,List.set_cons_zero];rw[bH s3];simp only[List.set_cons_succ,List.set_cons_zero];rw[bH s4]
 by_cases h2:w<2
 .obtain⟨v,x3,e3,hv,f3⟩:=km f2 hn h0 h1
  refine⟨putL d1 y v,r1,x3,by simp[h2,e3,y1,ke,bkL,i3],hd1.put hv my,hr1,fun s hs z=>?_⟩;rw[mC] at hs;split at hs
  .exact hn1 s hs z
  .rcases List.mem_append.mp hs with q|q
   .exact hn1 s q z
   .exact(mem1 z).2 (List.mem_singleton.mp q)
 .by_cases h4:w<4
  .obtain⟨r,x3,e3,hr,f3⟩:=wY hn h0 h1 f2 pk
   refine⟨d1,putL r1 y r,x3,by simp[h2,h4,e3,y2,ke,bkL,i3],hd1,hr1.put hr my,fun s hs z=>?_⟩;rw[mC] at z;split at z
   .exact hn1 s hs z
   .rcases List.mem_append.mp z with q|q
    .exact hn1 s hs q
    .exact(mem1 hs).2 (List.mem_singleton.mp q)
  .exact⟨d1,r1,x2,by simp[h2,h4,bkL,i3],hd1,hr1,fun s hs z=>hn1 s hs z⟩
end
theorem vB{l:Dl}{q:PyData×PyData}(h:q∈aL l):∃s v,q=(.str s,v)/\(s,v)∈l:=by
 obtain⟨p,hp,rfl⟩:=List.mem_map.mp h;exact⟨p.1,p.2,rfl,hp⟩
theorem xn{l:List Str}(h:l.Nodup):(nl l).Nodup:=List.Pairwise.map _ (fun a b n e=>n (by cases e;rfl)) h
theorem Bd.bk{l:List Str}(h1:l.length<=20){d0 r0:Dl}(h:Bd l d0 r0):Bk true 7 (aL d0) (aL r0):=by
 refine⟨fun q hq=>?_,fun q hq=>?_,?_,?_,by decide⟩
 .obtain⟨s,v,rfl,m⟩:=vB hq
  exact⟨s,v,rfl,(h.t.ok _ m).1⟩
 .obtain⟨s,v,rfl,m⟩:=vB hq
  refine⟨s,v,rfl,(h.m.ok _ m).1.rg (by decide),by rw[dU];exact j7 h.m.nd m,?_⟩;rw[dU]
  cases e:d0.lookup s with
  |none=>rfl
  |some u=>exact absurd (List.mem_map.mpr ⟨_,m,rfl⟩) (h.no s (uY e))
 .have:=lH r0
  rw[this];exact xn h.m.nd
 .rw[gA,gA]
  have:=h.t.len;have:=h.m.len;omega
@[simp] theorem Iw{o:Option W}{r:Rho}{T:Tp}:aa 10 (o::r) T=aa 9 r T:=dX
@[simp] theorem Iv{o:Option W}{r:Rho}{T:Tp}:aa 11 (o::r) T=aa 10 r T:=dX
@[simp] theorem Iu{o:Option W}{r:Rho}{T:Tp}:aa 12 (o::r) T=aa 11 r T:=dX
def rdP(p:Str×PyData):PyData:=.tuple [.str p.1,stS p.2]
def tlD(a b:Str):PyData:=.tuple [.str a,.str b]
def lnD(n:Str)(rs:List (Str×PyData))(a b:Str):PyData:=.tuple [.str n,.tuple (rs.map rdP),tlD a b]
def Hx(x:PyData):Prop:=∃t n rs a b,x=.tuple [.str t,lnD n rs a b]/\∀p∈rs,aF p.2=true
theorem GD{p:Bool}{n:Nat}{s:St3}(h:OkS p n s):∃rs:List (Str×PyData),s.rd.map rdS=rs.map rdP/\∀p∈rs,aF p.2=true:=by
 have:∀l:List PyData,(∀d∈l,∃x v,d=.tuple [.str x,v]/\aF v=true)->∃rs:List (Str×PyData),l.map rdS=rs.map rdP/\∀p∈rs,aF p.2=true:=fun l=>by
  induction l with
  |nil=>exact fun _=>⟨[],rfl,fun _ z=>nomatch z⟩
  |cons d r ih=>
   intro h;obtain⟨x,v,rfl,hv⟩:=h d List.mem_cons_self;obtain⟨rs,e,q⟩:=ih fun d hd=>h d (List.mem_cons_of_mem _ hd);refine⟨(x,v)::rs,by rw[List.map_cons,List.map_cons,e];rfl,fun p hp=>?_⟩
   rcases List.mem_cons.mp hp with rfl|hp
   .exact hv
   .exact q p hp
 exact this s.rd h.rv
theorem EY{p:Bool}{g n:Nat}{S:PyData}(h:StepOk p g n S):∃a b,dC S=tlD a b/\(vMd S=[]\/∃v,vMd S=[v]):=by
 rcases e8 h with⟨v,rfl,hv⟩|⟨y,rfl,_⟩|⟨b',y,r',rfl,_⟩
 .exact⟨_,mk (cst 4 v),pT,.inr ⟨v,Ea⟩⟩
 .exact⟨_,y,pU,.inl Eb⟩
 .exact⟨_,y,pV,.inl Ec⟩
theorem By{p:Bool}{n:Nat}{s:St3}(h:OkS p n s):∃(rs:List (Str×PyData)) (a b:Str),(∀p∈rs,aF p.2=true)/\i6 (cJ s) none (some 2)=some (.tuple [.tuple (rs.map rdP),tlD a b]):=by
 obtain⟨rs,e,q⟩:=GD h;obtain⟨a,b,e2,e3⟩:=EY h.st;refine⟨rs,a,b,q,?_⟩;unfold cJ;rw[e,e2]
 rcases e3 with z|⟨v,z⟩
 .rw[z];rfl
 .rw[z];rfl
theorem C6{t n:Str}{rs:List (Str×PyData)}{a b:Str}:aY (.tuple [.str t,lnD n rs a b])=true:=by
 have:bj (rs.map rdP)=true:=gZ fun d hd=>by
  obtain⟨p,_,rfl⟩:=List.mem_map.mp hd;simp[rdP,aY,bj,pA]
 simp[lnD,tlD,aY,bj,this]
structure Hq(l:List Str)(h:Dl):Prop where
 nd:(ky h).Nodup
 ok:∀p∈h,p.1∈l/\Hx p.2
theorem Hq.nil{l:List Str}:Hq l []:=⟨by simp[ky],fun _ h=>nomatch h⟩
theorem Hq.put{l:List Str}{h:Dl}(q:Hq l h){s:Str}{x:PyData}(hs:s∈l)(hx:Hx x):Hq l (putL h s x):=by
 refine⟨?_,fun p hp=>?_⟩
 .rw[mC]
  split
  .exact q.nd
  .rename_i z
   rw[List.nodup_append];exact⟨q.nd,by simp,fun a ha b hb=>by simp at hb;subst hb;exact fun w=>z (w ▸ ha)⟩
 .rcases uI hp with z|rfl
  .exact q.ok p z
  .exact⟨hs,hx⟩
theorem Hq.len{l:List Str}{h:Dl}(q:Hq l h):h.length<=l.length:=by
 have:=xo q.nd (N:=l) fun x hx=>by
  obtain⟨p,hp,rfl⟩:=List.mem_map.mp hx;exact(q.ok p hp).1
 simpa[ky] using this
def ρH(sc ba bs:PyData)(l:List Str)(h:Dl)(gs:PyData)(k:Int)(o8 o9 o10 o11:Option W):Rho:=[some (.d sc),some (.d ba),some (.d bs),some (.d (.list (nl l))),some (.loc (.dict (aL h))),some (.d gs),some (.d (.int k)),some (.tp 0),o8,o9,o10,o11]
theorem Dq.gv{K:List Str}{g:Dl}(h:Dq (fun v=>aF v=true) K g):GV (aL g):=fun s v e=>by
 rw[dU] at e;exact h.look e
section
variable {l:List Str}(hn:Ns l)(h0:0<l.length)(h1:l.length<=20)
variable {sc ba bs gs:PyData}{h:Dl}{k:Int}{o8 o11:Option W}
include hn h0 h1 in
theorem Da{xs:List PyData}(hf:Fr xs){o10:Option W}:∃g xs' p10,forL 10 jU (nl l) (ρH sc ba bs l h gs k o8 (some (.loc (.dict []))) o10 o11) [xs]=some ((.nx,ρH sc ba bs l h gs k o8 (some (.loc (.dict (aL g)))) p10 o11),[xs'])/\Dq (fun v=>aF v=true) l g/\Fr xs':=by
 have lp:=iZ (i:=10) (body:=jU) (N:=20) (I:=fun _ ρ T=>∃g xs p10,ρ=ρH sc ba bs l h gs k o8 (some (.loc (.dict (aL g)))) p10 o11/\T=[xs]/\Fr xs/\Dq (fun v=>aF v=true) l g) (nl l) 0 (ρH sc ba bs l h gs k o8 (some (.loc (.dict []))) o10 o11) [xs] (by rw[cu];omega) ⟨[],xs,o10,rfl,rfl,hf,.nil⟩ (fun _ d ρ T hd _ hI=>by
  obtain⟨g,xs,p10,rfl,rfl,hf,hg⟩:=hI;obtain⟨s,hs,rfl⟩:=List.mem_map.mp hd;obtain⟨w,x1,e1,f1,w0,w1⟩:=bB hf (m:=4) (by decide) (by decide)
  have z:(aL g).length<=1000:=by rw[gA];have:=hg.len;omega
  by_cases hw:0<w
  .obtain⟨v,x2,e2,hv,f2⟩:=km f1 hn h0 h1
   exact⟨ρH sc ba bs l h gs k o8 (some (.loc (.dict (aL (putL g s v))))) (some (.d (.str s))) o11,[x2],by simp[jU,ρH,e1,hw,e2,z,ke],_,_,_,rfl,rfl,f2,hg.put hv hs⟩
  .exact⟨ρH sc ba bs l h gs k o8 (some (.loc (.dict (aL g)))) (some (.d (.str s))) o11,[x1],by simp[jU,ρH,e1,hw],_,_,_,rfl,rfl,f1,hg⟩)
 obtain⟨ρ',T',e,g,xs',p10,rfl,rfl,f,hg⟩:=lp;exact⟨g,xs',p10,e,hg,f⟩
theorem C8{x:PyData}:jp (.d x)=some (.d x):=rfl
theorem C7{x:PyData}:jp (.loc x)=some (.d x):=rfl
theorem C9{o:Option W}{r:Rho}:cS (o::r)=o.bind jp::cS r:=rfl
theorem wu(hn:Ns l)(h1:l.length<=20)(hh:Hq l h){d0 r0:Dl}(hb:Bd l d0 r0){b0 b1:PyData}{i:Int}(hbs:atI [b0,b1] i=some (bkL d0 r0)){kn:Dc}(hkn:GV kn){W9:W}(h9:jp W9=some (.d (.dict kn)))(k0:0<=k)(k1:k<l.length){xs:List PyData}(hf:Fr xs){o10:Option W} :
  ∃h' xs' p11,fIf (cz (ax (af inA (af ixD (aa 3) (aa 6)) (af ixD (af ixD (aa 2) (aa 8)) (fC (.int 1))))) (ax (af gtD (aq aP (ae (aa 7) (ae (fC (.int 5)) ah))) (fC (.int 0))))) (ak (aE 11 (af ixA (af ixD (af ixD (aa 2) (aa 8)) (fC (.int 1))) (af ixD (aa 3) (aa 6)))) (bL 4 (af ixD (aa 3) (aa 6)) (fu (az .tuple (ae (aq (dr 25) (ae (aa 11) ah)) (ae (af aT (az .tuple (ae (af ixD (aa 3) (aa 6)) ah)) (fSl (aq fK (ae (aa 11) (ae (aa 9) ah))) cL (fP (fC (.int 2))))) ah)))))) aD (ρH sc ba (.list [b0,b1]) l h gs k (some (.d (.int i))) (some W9) o10 o11) [xs]=some ((.nx,ρH sc ba (.list [b0,b1]) l h' gs k (some (.d (.int i))) (some W9) o10 p11),[xs'])/\Hq l h':=by
 obtain⟨y,ey,my⟩:=nu k0 k1
 have z:(aL h).length<=1000:=by rw[gA];have:=hh.len;omega
 have ib:∀s,inA (.str s) (.dict (aL r0))=some (.bool (decide (s∈ky r0))):=fun s=>by
  show (some (aA (aL r0) s).isSome).map PyData.bool=_;rw[dU,t4];rfl
 by_cases hi:y∈ky r0
 .obtain⟨r,er⟩:=ou hi
  obtain⟨w,x1,e1,f1,w0,w1⟩:=bB hf (m:=5) (by decide) (by decide)
  by_cases hw:0<w
  .have rc:=hb.m.look er
   obtain⟨t,_,et⟩:=vJ rc (by decide);have rg:=rc.rg (by decide);have ex:=pz [] hkn (by decide) rg;obtain⟨rs,a,b,fk,sl⟩:=By (hW hkn (by decide) (di rg (by decide))).1;have et':=et [];have lk:kB [x1] (some (.d (.tuple [.str t,lnD y rs a b]),[]))=some (.d (.tuple [.str t,lnD y rs a b]),[x1]):=oR C6
   have z4:1+2<=sizeLine:=by rw[szL];decide
   refine⟨putL h y (.tuple [.str t,lnD y rs a b]),x1,some (.d r),?_,hh.put my ⟨t,y,rs,a,b,rfl,fk⟩⟩;unfold lnD at lk ⊢;simp[ρH,ey,hbs,bkL,iM,ib,hi,e1,hw,dU,er,C9,C8,C7,h9,et',ex,sl,z4,lk,z,ke]
  .exact⟨h,x1,o11,by simp[ρH,ey,hbs,bkL,iM,ib,hi,e1,hw],hh⟩
 .exact⟨h,xs,o11,by simp[ρH,ey,hbs,bkL,iM,ib,hi],hh⟩
include hn h0 h1 in
theorem Dm(hh:Hq l h){d0 r0 d1 r1:Dl}{g0 g1:Dc}(b0:Bd l d0 r0)(b1:Bd l d1 r1)(hg0:GV g0)(hg1:GV g1)(k0:0<=k)(k1:k<l.length){xs:List PyData}(hf:Fr xs){o9 o10:Option W} :
  ∃h' xs' p8 p9 p10 p11,jT (ρH sc ba (.list [bkL d0 r0,bkL d1 r1]) l h (.list [.dict g0,.dict g1]) k o8 o9 o10 o11) [xs]=some ((.nx,ρH sc ba (.list [bkL d0 r0,bkL d1 r1]) l h' (.list [.dict g0,.dict g1]) k p8 p9 p10 p11),[xs'])/\Hq l h':=by
 obtain⟨i,x1,e1,f1,i0,i1⟩:=bB hf (m:=2) (by decide) (by decide)
 obtain⟨dd,rr,gg,hb,hbb,hg,hgg⟩:∃dd rr gg,atI [bkL d0 r0,bkL d1 r1] i=some (bkL dd rr)/\Bd l dd rr/\atI [PyData.dict g0,.dict g1] i=some (.dict gg)/\GV gg:=by
  have:i=0\/i=1:=by omega
  rcases this with rfl|rfl
  .exact⟨d0,r0,g0,rfl,b0,rfl,hg0⟩
  .exact⟨d1,r1,g1,rfl,b1,rfl,hg1⟩
 have s1:aE 8 (aq aP (ae (aa 7) (ae (fCB a7 (ae (aa 2) ah)) ah))) (ρH sc ba (.list [bkL d0 r0,bkL d1 r1]) l h (.list [.dict g0,.dict g1]) k o8 o9 o10 o11) [xs]=some ((.nx,ρH sc ba (.list [bkL d0 r0,bkL d1 r1]) l h (.list [.dict g0,.dict g1]) k (some (.d (.int i))) o9 o10 o11),[x1]):=by
  simp[ρH,e1]
 have s2:aE 9 (af ixD (aa 5) (aa 8)) (ρH sc ba (.list [bkL d0 r0,bkL d1 r1]) l h (.list [.dict g0,.dict g1]) k (some (.d (.int i))) o9 o10 o11) [x1]=some ((.nx,ρH sc ba (.list [bkL d0 r0,bkL d1 r1]) l h (.list [.dict g0,.dict g1]) k (some (.d (.int i))) (some (.d (.dict gg))) o10 o11),[x1]):=by
  simp[ρH,hg]
 obtain⟨w,x2,e2,f2,w0,w1⟩:=bB f1 (m:=4) (by decide) (by decide)
 by_cases hw:w=0
 .obtain⟨g,x3,p10,e3,hg3,f3⟩:=Da hn h0 h1 (sc:=sc) (ba:=ba) (bs:=.list [bkL d0 r0,bkL d1 r1]) (gs:=.list [.dict g0,.dict g1]) (h:=h) (k:=k) (o8:=some (.d (.int i))) (o11:=o11) f2 (o10:=o10)
  obtain⟨h',x4,p11,e4,hh'⟩:=wu (sc:=sc) (ba:=ba) (gs:=.list [.dict g0,.dict g1]) (o11:=o11) hn h1 hh hbb hb hg3.gv (W9:=.loc (.dict (aL g))) rfl k0 k1 f3 (o10:=p10);refine⟨h',x4,some (.d (.int i)),some (.loc (.dict (aL g))),p10,p11,?_,hh'⟩;unfold jT
  rw[bH s1,bH s2,bH (a:=fIf _ _ _) (ρ1:=ρH sc ba (.list [bkL d0 r0,bkL d1 r1]) l h (.list [.dict g0,.dict g1]) k (some (.d (.int i))) (some (.loc (.dict (aL g)))) p10 o11) (T1:=[x3]) (by
   unfold ρH at e3 ⊢
   simp[e2,hw,e3])]
  exact e4
 .obtain⟨h',x4,p11,e4,hh'⟩:=wu (sc:=sc) (ba:=ba) (gs:=.list [.dict g0,.dict g1]) (o11:=o11) hn h1 hh hbb hb hgg (W9:=.d (.dict gg)) rfl k0 k1 f2 (o10:=o10)
  refine⟨h',x4,some (.d (.int i)),some (.d (.dict gg)),o10,p11,?_,hh'⟩;unfold jT
  rw[bH s1,bH s2,bH (a:=fIf _ _ _) (ρ1:=ρH sc ba (.list [bkL d0 r0,bkL d1 r1]) l h (.list [.dict g0,.dict g1]) k (some (.d (.int i))) (some (.d (.dict gg))) o10 o11) (T1:=[x2]) (by
   unfold ρH
   simp[e2,hw])]
  exact e4
def ρI(sc ba bs:PyData)(l:List Str)(h:Dl)(gs:PyData)(o6 o8 o9 o10 o11:Option W):Rho:=[some (.d sc),some (.d ba),some (.d bs),some (.d (.list (nl l))),some (.loc (.dict (aL h))),some (.d gs),o6,none,o8,o9,o10,o11]
include hn h0 h1 in
theorem F0(ns:List Int){b:Int}(hb:0<=b){d0 r0 d1 r1:Dl}(b0:Bd l d0 r0)(b1:Bd l d1 r1):∃h,jJ [.d (scr ns),.d (.int b),.d (.list [bkL d0 r0,bkL d1 r1]),.d (.list (nl l))] []=some (.dict (aL h),[])/\Hq l h:=by
 obtain⟨g0,eg0,sg0,_,_⟩:=qb (b0.bk h1) [];have hg0:=sg0.gv (b0.bk h1);obtain⟨g1,eg1,sg1,_,_⟩:=qb (b1.bk h1) [];have hg1:=sg1.gv (b1.bk h1)
 have lp:=iZ (i:=6) (body:=oF) (N:=20) (I:=fun _ ρ T=>∃h o6 o8 o9 o10 o11,ρ=ρI (scr ns) (.int b) (.list [bkL d0 r0,bkL d1 r1]) l h (.list [.dict g0,.dict g1]) o6 o8 o9 o10 o11/\T=[]/\Hq l h)
  (cI 0 l.length) 0 (ρI (scr ns) (.int b) (.list [bkL d0 r0,bkL d1 r1]) l [] (.list [.dict g0,.dict g1]) none none none none none) [] (by rw[jX];omega) ⟨[],none,none,none,none,none,rfl,rfl,.nil⟩ (fun _ d ρ T hd _ hI=>by
   obtain⟨h,o6,o8,o9,o10,o11,rfl,rfl,hh⟩:=hI;obtain⟨j,rfl,j0,j1⟩:=tW hd;obtain⟨xs,hf,ef⟩:=iy ns (b+j) (by omega);obtain⟨h',xs',p8,p9,p10,p11,e,hh'⟩:=Dm hn h0 h1 hh b0 b1 hg0 hg1 j0 j1 hf (sc:=scr ns) (ba:=.int b) (o8:=o8) (o9:=o9) (o10:=o10) (o11:=o11);refine⟨ρI (scr ns) (.int b) (.list [bkL d0 r0,bkL d1 r1]) l h' (.list [.dict g0,.dict g1]) (some (.d (.int j))) (p8.bind (js 0)) (p9.bind (js 0)) (p10.bind (js 0)) (p11.bind (js 0)),[],?_,h',_,_,_,_,_,rfl,rfl,hh'⟩;have oo:=tV (i:=7) (fr:=jT) (ρ:=(ρI (scr ns) (.int b) (.list [bkL d0 r0,bkL d1 r1]) l h (.list [.dict g0,.dict g1]) (some (.d (.int j))) o8 o9 o10 o11)) e;have ef':=ef [];unfold oF;unfold scr ρI at oo ⊢;simp only[t6,List.set_cons_succ,List.set_cons_zero,l7,l6,l3,l0,lZ,pR,pQ,pP,fj,lI,mU,l8,mR,vi,mT,mS,ef',oo]
   rfl)
 obtain⟨ρ',T',e,h,o6,o8,o9,o10,o11,rfl,rfl,hh⟩:=lp;refine⟨h,?_,hh⟩;have ro:fq (l.length:Int)=true:=rng_ok (by omega) (by omega)
 have tn:((l.length:Int)).toNat=l.length:=by omega
 have d0':aL ([]:Dl)=[]:=rfl;rw[Aw];unfold ρI at e;rw[d0'] at e;have q0:eZ [.d (bkL d0 r0)] []=some (.dict g0,[]):=eg0;have q1:eZ [.d (bkL d1 r1)] []=some (.dict g1,[]):=eg1;simp[bC,q0,q1,cu,ro,tn];rw[e];simp[i3]
end
theorem zL{s:List Nat}{c:Nat}:∀{l:List (List Nat)},c∈bq s l->c∈s\/∃x∈l,c∈x
 |[],h=>by simp[bq] at h
 |x::r,h=>by
  rw[jL] at h
  rcases List.mem_append.mp h with z|z
  .exact .inr ⟨x,List.mem_cons_self,z⟩
  .obtain⟨y,hy,hc⟩:=List.mem_flatten.mp z
   obtain⟨q,hq,rfl⟩:=List.mem_map.mp hy
   rcases List.mem_append.mp hc with w|w
   .exact .inl w
   .exact .inr ⟨q,List.mem_cons_of_mem _ hq,w⟩
theorem wQ:∀(n:Nat) (d:PyData),aN n d=true->∀c∈cst n d,c<128
 |n,d,h,c,hc=>by
  rcases cP h with h1|⟨m,ds,rfl,rfl,_,hd⟩
  .rcases cN h1 with⟨i,rfl⟩|⟨x,rfl⟩
   .rw[me] at hc
    rcases CZ i c hc with z|z <;> omega
   .rw[ma] at hc
    rcases List.mem_cons.mp hc with z|z
    .omega
    .exact K1.il K1.ji (rR h1) c z
  .have e:cst (m+1) (.tuple ds)=40::bq [44] (ds.map (cst m))++[41]:=rfl
   rw[e] at hc
   rcases List.mem_append.mp hc with z|z
   .rcases List.mem_cons.mp z with z|z
    .omega
    .rcases zL z with w|⟨x,hx,hcx⟩
     .have:=List.mem_singleton.mp w;omega
     .obtain⟨d',hd',rfl⟩:=List.mem_map.mp hx
      exact wQ m d' (hd d' hd') c hcx
   .have:=List.mem_singleton.mp z;omega
termination_by n=>n
def Lw(x:Str):Prop:=∀c∈cd x,c<128
theorem qB{v:PyData}(h:aF v=true):Lw (mk (cst 4 v)):=fun c hc=>wQ 4 v (cF h).1 c (by rw[d8] at hc;exact hc)
theorem qD{x:Str}(h:isName (.str x)=true):Lw x:=by
 have h':(decide (1<=x.length)&&decide (x.length<=8)&&has LET x)=true:=h;rw[Bool.and_eq_true] at h';exact fun c hc=>K1.il K1.F4 h'.2 c hc
theorem nj{s:String}(h:((cd (Str.ofString s)).all fun c=>decide (c<128))=true):Lw (Str.ofString s):=fun c hc=>of_decide_eq_true (List.all_eq_true.mp h c hc)
theorem qC{x:Str}(h:Lw x):PyData.strOk x=true:=by
 unfold PyData.strOk;rw[←Array.all_toList,List.all_eq_true];exact fun c hc=>decide_eq_true (by have:=h c hc;omega)
theorem jQ{a b:Str}(ha:Lw a)(hb:Lw b):SeqAt.shaped (tlD a b)=true:=by simp[SeqAt.shaped,tlD,PyData.canLay0,PyData.canLayAll0,qC ha,qC hb,PyData.depth,PyData.depthAll]
def LK:PyData:=.tuple [.str "lacks"]
theorem Ar:SeqAt.shaped LK=true:=by decide +kernel
def MDE:Str:=Str.ofString "made"
def qA(v:PyData):PyData:=tlD MDE (mk (cst 4 v))
theorem qE:Lw MDE:=nj (by decide +kernel)
theorem Cw{E:Dc}{x:Str}{v:PyData}:(putN E x v).length<=E.length+1:=by
 unfold putN;split
 .rw[rV];omega
 .simp
theorem oZ{b:FS}{i j:Nat}{R:Dc->Option D.W->Option D.W->Rho}{g:PyData->PyData}{T:Tp}:∀(rest E:Dc) (on oj:Option D.W),(rest.map (·.1)).Nodup ->
  (∀q∈rest,∃x d,q=(.str x,d)/\∀E on oj,E.length<=1000->b (((R E on oj).set i (some (.d (.str x)))).set j (some (.d d))) T=some ((.nx,R (putN E x (g d)) (some (.d (.str x))) (some (.d d))),T))->E.length+rest.length<=1000 ->
  ∃E' on' oj',eW i j b rest (R E on oj) T=some ((.nx,R E' on' oj'),T)/\E'.length<=E.length+rest.length/\∀y,aA E' y=match aA rest y with
   |some d=>some (g d)
   |none=>aA E y
 |[],E,on,oj,_,_,_=>⟨E,on,oj,rfl,Nat.le_refl _,fun _=>rfl⟩
 |q::rest,E,on,oj,nd,h,hl=>by
  obtain⟨x,d,rfl,hb⟩:=h q List.mem_cons_self;rw[List.map_cons,List.nodup_cons] at nd;rw[List.length_cons] at hl;have pl:=Cw (E:=E) (x:=x) (v:=g d);obtain⟨E',on',oj',e1,e2,e3⟩:=oZ (b:=b) (R:=R) (g:=g) rest (putN E x (g d)) (some (.d (.str x))) (some (.d d)) nd.2 (fun q hq=>h q (List.mem_cons_of_mem _ hq)) (by omega);refine⟨E',on',oj',?_,by rw[List.length_cons];omega,fun y=>?_⟩
  .rw[ve (hb E on oj (by omega))]
   exact e1
  .rw[e3,jP]
   show _=match (if x=y then some d else aA rest y) with|some d=>some (g d)|none=>aA E y
   by_cases hxy:x=y
   .subst hxy
    rw[if_pos rfl,if_pos rfl,oS nd.1]
   .rw[if_neg hxy,if_neg hxy]
def eF(D0 R0 G:Dc)(x:Str):Option PyData:=match aA R0 x with
 |some r=>some (dC (run G (s0 r)).S)
 |none=>(aA D0 x).map qA
section
variable {p:Bool}{n:Nat}{D0 R0:Dc}
theorem z9(B:Bk p n D0 R0):∃G st,jN [.d (bkD D0 R0)] []=some (.dict (lnL R0 st),[])/\Snd D0 R0 G/\Sub D0 G/\(∀x,ClsAt R0 G x)/\∀x r,aA R0 x=some r->st x=run G (s0 r):=by
 obtain⟨G,st,e1,e2,e3,e4,e5⟩:=FX B [];refine⟨G,st,?_,e2,e3,e4,e5⟩;have ll:=D5 B (st:=st) (fun x r hr=>by rw[e5 x r hr];exact(hW (e2.gv B) B.n20 (di (B.rg hr).1 B.n20)).1) [];simp[jN,e1,ll]
def ρE(bk:PyData)(o4:Option D.W)(E:Dc)(on oj:Option D.W):Rho:=[some (.d bk),some (.loc (.dict E)),on,oj,o4]
def ρE2(bk:PyData)(o3:Option D.W)(E:Dc)(on oj:Option D.W):Rho:=[some (.d bk),some (.loc (.dict E)),on,o3,oj]
theorem F2(B:Bk p n D0 R0)(nd:(D0.map (·.1)).Nodup):∃G E,gW [.d (bkD D0 R0)] []=some (.dict E,[])/\Snd D0 R0 G/\Sub D0 G/\(∀x,ClsAt R0 G x)/\∀x,aA E x=eF D0 R0 G x:=by
 obtain⟨G,st,e1,e2,e3,e4,e5⟩:=z9 B;have hl:=B.len
 obtain⟨E1,on1,oj1,f1,f2,f3⟩:=oZ (b:=nR) (i:=2) (j:=3) (R:=ρE (bkD D0 R0) none) (g:=qA) (T:=[]) D0 [] none none nd (fun q hq=>by
  obtain⟨x,v,rfl,hv⟩:=B.dk q hq;refine⟨x,v,rfl,fun E on oj hE=>?_⟩;simp[nR,ρE,ms _ hv,hE]
  rfl) (by simp;omega)
 have ek:(lnL R0 st).map (·.1)=R0.map (·.1):=by simp[lnL]
 have el:(lnL R0 st).length=R0.length:=by simp[lnL]
 obtain⟨E2,on2,oj2,g1,g2,g3⟩:=oZ (b:=nQ) (i:=2) (j:=4) (R:=ρE2 (bkD D0 R0) oj1) (g:=fun d=>match ixD d (.int 2) with|some x=>x|none=>.none) (T:=[]) (lnL R0 st) E1 on1 none (by rw[ek];exact B.rnd) (fun q hq=>by
  obtain⟨q0,hq0,rfl⟩:=List.mem_map.mp hq;obtain⟨x,r,rfl,_,hk,_⟩:=B.rk q0 hq0;refine⟨x,ln x (st x),rfl,fun E on oj hE=>?_⟩
  simp[nQ,ρE2,ln,hE]) (by rw[el];simp at f2;omega)
 refine⟨G,E2,?_,e2,e3,e4,fun x=>?_⟩
 .rw[yP]
  simp[ρE] at f1;simp[ρE2] at g1;have q1:ixD (bkD D0 R0) (.int 0)=some (.dict D0):=rfl;simp[fW,kJ,q1,f1,e1,g1]
 .rw[g3,E8]
  unfold eF
  cases hr:aA R0 x with
  |some r=>
   show some _=some _;rw[e5 x r hr];rfl
  |none=>
   show aA E1 x=_;rw[f3]
   cases aA D0 x <;> rfl
theorem oV(B:Bk p n D0 R0){G:Dc}(hs:Snd D0 R0 G)(hd:Sub D0 G)(hc:∀x,ClsAt R0 G x)(x:Str):match aA G x with
  |some v=>eF D0 R0 G x=some (qA v)/\aF v=true
  |none=>∃d w,(eF D0 R0 G x).getD LK=d/\SeqAt.shaped d=true/\ixD d (.int 0)=some (.str w)/\w≠MDE/\∃l,d=.tuple (.str w::l):=by
 cases hg:aA G x with
 |some v=>
  refine⟨?_,hs.gv B x v hg⟩;have hv:=hs x v hg
  cases hv with
  |told h=>
   unfold eF
   cases hr:aA R0 x with
   |some r=>rw[(B.rg hr).2] at h;cases h
   |none=>rw[h];rfl
  |@made _ _ r G1 hr hG1 hall e=>
   have sub:Sub G1 G:=fun y u hy=>qq B hd hs hc (hall y u hy);have r1:=oM sub hG1 B.n20 (di (B.rg hr).1 B.n20);rw[oO e] at r1;unfold eF;rw[hr];show some (dC (run G (s0 r)).S)=_;rw[←r1,e,pT];rfl
 |none=>
  unfold eF
  cases hr:aA R0 x with
  |some r=>
   obtain⟨ok,_⟩:=hW (hs.gv B) B.n20 (di (B.rg hr).1 B.n20);show ∃d w,dC (run G (s0 r)).S=d/\_
   rcases e8 ok.st with⟨v,e,hv⟩|⟨y,e,hy⟩|⟨b',y,r',e,hy⟩
   .have:=hc x r v hr e
    rw[hg] at this;cases this
   .rw[e,pU]
    exact⟨_,Str.ofString "fails",rfl,jQ (nj (by decide +kernel)) (qD hy),rfl,by decide,_,rfl⟩
   .rw[e,pV]
    exact⟨_,Str.ofString "wants",rfl,jQ (nj (by decide +kernel)) (qD hy),rfl,by decide,_,rfl⟩
  |none=>
   cases h0:aA D0 x with
   |some v=>rw[hd x v h0] at hg;cases hg
   |none=>exact⟨LK,Str.ofString "lacks",rfl,Ar,rfl,by decide,_,rfl⟩
end
@[simp] theorem JS{f g h:FE}{ρ:Rho}{T:Tp}:iD f g h ρ T=bnd (f ρ T) fun w1 T1=>bnd (g ρ T1) fun w2 T2=>bnd (h ρ T2) (kI w1 w2):=rfl
@[simp] theorem IQ{ds:List (PyData×PyData)}{s:Str}{z:PyData}{T:Tp}:kI (.d (.dict ds)) (.d (.str s)) (.d z) T=some (.d ((aA ds s).getD z),T):=rfl
section
variable {p:Bool}{n:Nat}{D0 R0:Dc}
theorem DC(B:Bk p n D0 R0){G G':Dc}(hs:∀x,aA G x=aA G' x)(hG:GV G)(x:Str):eF D0 R0 G x=eF D0 R0 G' x:=by
 unfold eF
 cases hr:aA R0 x with
 |none=>rfl
 |some r=>
  show some (dC (run G (s0 r)).S)=_;rw[lj hs hG B.n20 (di (B.rg hr).1 B.n20)]
theorem FZ(B:Bk p n D0 R0){G:Dc}(hG:GV G)(x:Str):gq [.d (bkD D0 R0),.d (.dict G),.d (.str x)] []=some ((eF D0 R0 G x).getD LK,[]):=by
 unfold eF
 cases hr:aA R0 x with
 |some r=>
  have lf:=pz [] hG B.n20 (B.rg hr).1
  have e1:ixD (cJ (run G (s0 r))) (.int 1)=some (dC (run G (s0 r)).S):=by
   unfold cJ
   cases vMd (run G (s0 r)).S with
   |nil=>rfl
   |cons a l=>exact qR
  simp[gq,bkD,(B.rg hr).2,hr,lf,e1]
 |none=>
  cases hd:aA D0 x with
  |some v=>
   have st:=j6 (v:=v) [] (B.gv x v hd);simp[gq,bkD,hd,st];rfl
  |none=>
   simp[gq,bkD,hd,hr];rfl
theorem Ce{E G:Dc}(e:gW [.d (bkD D0 R0)] []=some (.dict E,[]))(he:∀x,aA E x=eF D0 R0 G x)(x:Str):iS [.d (bkD D0 R0),.d (.str x)] []=some ((eF D0 R0 G x).getD LK,[]):=by
 simp[iS,e,he];rfl
def bR(G:Dc)(q:Str×PyData):Bool:=match aA G q.1 with
 |some v=>decide (mk (cst 4 v)=mk (cst 4 q.2))
 |none=>false
theorem CY(B:Bk p n D0 R0){G:Dc}(hs:Snd D0 R0 G)(hd:Sub D0 G)(hc:∀x,ClsAt R0 G x){q:Str×PyData}(hq:aF q.2=true):neG ((eF D0 R0 G q.1).getD LK) (tlD MDE (mk (cst 4 q.2)))=some (.bool (!bR G q)):=by
 have g:=oV B hs hd hc q.1;have s2:=jQ qE (qB hq);unfold bR
 cases hg:aA G q.1 with
 |some v=>
  rw[hg] at g;obtain⟨g1,g2⟩:=g;rw[g1];show neG (tlD MDE (mk (cst 4 v))) (tlD MDE (mk (cst 4 q.2)))=_;unfold neG;rw[if_pos ⟨jQ qE (qB g2),s2⟩];simp[tlD,PyData.eqv,PyData.eqvAll];rw[Bool.eq_iff_iff];simp
 |none=>
  rw[hg] at g;obtain⟨d,w,g1,g2,_,g4,l,rfl⟩:=g;rw[g1];unfold neG;rw[if_pos ⟨g2,s2⟩];simp[tlD,PyData.eqv,PyData.eqvAll,g4]
theorem De(B:Bk p n D0 R0){G:Dc}(hs:Snd D0 R0 G)(hd:Sub D0 G)(hc:∀x,ClsAt R0 G x)(x:Str):∃w,ixD ((eF D0 R0 G x).getD LK) (.int 0)=some (.str w)/\(decide (w=MDE))=(aA G x).isSome/\((aA G x).isSome=true->∃u,eF D0 R0 G x=some (tlD w u)):=by
 have g:=oV B hs hd hc x
 cases hg:aA G x with
 |some v=>
  rw[hg] at g;rw[g.1];exact⟨MDE,rfl,by simp,fun _=>⟨_,rfl⟩⟩
 |none=>
  rw[hg] at g;obtain⟨d,w,g1,g2,g3,g4,_⟩:=g;rw[g1];exact⟨w,g3,by simp[g4],fun z=>by cases z⟩
def otB:FS:=(ak (aE 4 (iD (aa 0) (af ixD (aa 3) (fC (.int 0))) (fC (.tuple [.str "lacks"])))) (fIf (ax (af neG (aa 4) (az .tuple (ae (fC (.str "made")) (ae (af ixD (aa 3) (fC (.int 1))) ah))))) (ay (az .tuple (ae (fC (.str "read")) (ae (aa 2) (ae (af ixD (aa 3) (fC (.int 0))) (ae (af ixD (aa 3) (fC (.int 1))) (ae (aa 4) ah))))))) aD))
def otE:FS:=(ak (fIf (cz (ax (af eqD (af ixD (af ixD (aa 1) (fC (.int 2))) (fC (.int 0))) (fC (.str "wants")))) (ax (af eqD (af ixD (iD (aa 0) (af ixD (af ixD (aa 1) (fC (.int 2))) (fC (.int 1))) (fC (.tuple [.str "lacks"]))) (fC (.int 0))) (fC (.str "made"))))) (ay (az .tuple (ae (fC (.str "wanted")) (ae (af ixD (af ixD (aa 1) (fC (.int 2))) (fC (.int 1))) (ae (af ixD (af ixA (aa 0) (af ixD (af ixD (aa 1) (fC (.int 2))) (fC (.int 1)))) (fC (.int 1))) ah))))) aD) (ay (fC .none)))
theorem Gv:kX=aO 5 (ak (ip 2 3 (af ixD (aa 1) (fC (.int 1))) otB) otE):=rfl
theorem BP{i j k:Nat}{b:FS}{d:PyData}{r:List PyData}{ρ ρ':Rho}{T:Tp}(h:b ((ρ.set i (some (.d (.int (k:Int))))).set j (some (.d d))) T=some ((.nx,ρ'),T)):eP i j b k (d::r) ρ T=eP i j b (k+1) r ρ' T:=by
 show bnd (b _ T) _=_;rw[h];rfl
theorem BO{i j k:Nat}{b:FS}{d x:PyData}{r:List PyData}{ρ ρ':Rho}{T:Tp}(h:b ((ρ.set i (some (.d (.int (k:Int))))).set j (some (.d d))) T=some ((.rt x,ρ'),T)):eP i j b k (d::r) ρ T=some ((.rt x,ρ'),T):=by
 show bnd (b _ T) _=_;rw[h];rfl
theorem uL(B:Bk p n D0 R0){G E:Dc}(hs:Snd D0 R0 G)(hd:Sub D0 G)(hc:∀x,ClsAt R0 G x)(he:∀x,aA E x=eF D0 R0 G x){li:PyData}:∀(rs:List (Str×PyData)) (k:Nat) (o2 o3 o4:Option D.W),(∀q∈rs,aF q.2=true) ->
  (rs.all (bR G)=true/\∃o2' o3' o4',eP 2 3 otB k (rs.map rdP) [some (.d (.dict E)),some (.d li),o2,o3,o4] []=some ((.nx,[some (.d (.dict E)),some (.d li),o2',o3',o4']),[])) \/
  (rs.all (bR G)=false/\∃ds ρ',eP 2 3 otB k (rs.map rdP) [some (.d (.dict E)),some (.d li),o2,o3,o4] []=some ((.rt (.tuple ds),ρ'),[]))
 |[],k,o2,o3,o4,_=>.inl ⟨rfl,o2,o3,o4,by simp[eP]⟩
 |q::rs,k,o2,o3,o4,h=>by
  have hq:=h q List.mem_cons_self;have nm:=CY B hs hd hc hq;unfold tlD MDE at nm;rw[List.map_cons,List.all_cons]
  cases hb:bR G q with
  |true=>
   rw[hb] at nm
   have st:otB (((([some (.d (.dict E)),some (.d li),o2,o3,o4]:Rho).set 2 (some (.d (.int (k:Int))))).set 3 (some (.d (rdP q))))) []=some ((.nx,[some (.d (.dict E)),some (.d li),some (.d (.int (k:Int))),some (.d (rdP q)),some (.d ((eF D0 R0 G q.1).getD LK))]),[]):=by
    unfold LK at nm ⊢;simp[otB,rdP,stS,he,nm]
   rw[BP st,Bool.true_and];exact uL B hs hd hc he rs (k+1) _ _ _ fun x hx=>h x (List.mem_cons_of_mem _ hx)
  |false=>
   rw[hb] at nm;refine .inr ⟨by simp,?_⟩;refine⟨_,_,BO (x:=.tuple [.str "read",.int (k:Int),.str q.1,stS q.2,(eF D0 R0 G q.1).getD LK]) (ρ':=[some (.d (.dict E)),some (.d li),some (.d (.int (k:Int))),some (.d (rdP q)),some (.d ((eF D0 R0 G q.1).getD LK))]) ?_⟩;unfold LK at nm ⊢;simp[otB,rdP,stS,he,nm]
def sT(G:Dc)(rs:List (Str×PyData))(a b:Str):Bool:=rs.all (bR G)&&!(decide (a=Str.ofString "wants")&&(aA G b).isSome)
theorem D2(B:Bk p n D0 R0){G E:Dc}(hs:Snd D0 R0 G)(hd:Sub D0 G)(hc:∀x,ClsAt R0 G x)(he:∀x,aA E x=eF D0 R0 G x){y:Str}{rs:List (Str×PyData)}{a b:Str}(h:∀q∈rs,aF q.2=true):∃X,kX [.d (.dict E),.d (lnD y rs a b)] []=some (X,[])/\isNone X=sT G rs a b:=by
 have i1:ixD (lnD y rs a b) (.int 1)=some (.tuple (rs.map rdP)):=rfl;have i2:ixD (lnD y rs a b) (.int 2)=some (.tuple [.str a,.str b]):=rfl;rw[Gv];unfold sT
 rcases uL B hs hd hc he (li:=lnD y rs a b) rs 0 none none none h with⟨q,o2,o3,o4,e⟩|⟨q,ds,ρ',e⟩
 .rw[q,Bool.true_and]
  obtain⟨w,m1,m2,m3⟩:=De B hs hd hc b
  by_cases ha:a=Str.ofString "wants"
  .subst ha
   cases hk:(aA G b).isSome with
   |true=>
    obtain⟨u,m4⟩:=m3 hk;rw[hk] at m2;have hw:w=Str.ofString "made":=of_decide_eq_true m2;refine⟨.tuple [.str "wanted",.str b,.str u],?_,?_⟩
    .simp[ip,jd,i1,e,otE,i2,he,m4,tlD,hw]
    .simp;rfl
   |false=>
    rw[hk] at m2;have hw:¬w=Str.ofString "made":=of_decide_eq_false m2;refine⟨.none,?_,?_⟩
    .unfold LK at m1
     simp[ip,jd,i1,e,otE,i2,he,m1,hw]
    .simp;rfl
  .refine⟨.none,?_,?_⟩
   .simp[ip,jd,i1,e,otE,i2,ha]
   .rw[decide_eq_false ha];rfl
 .refine⟨.tuple ds,?_,?_⟩
  .simp[ip,jd,i1,e]
  .rw[q];rfl
end
theorem Dr{i j:Nat}{b:FS}{a c:PyData}{r:List PyData}{ρ ρ':Rho}{T:Tp}(h:b ((ρ.set i (some (.d a))).set j (some (.d c))) T=some ((.nx,ρ'),T)):fG i j b (.tuple [a,c]::r) ρ T=fG i j b r ρ' T:=by
 show bnd (b _ T) _=_;rw[h];rfl
theorem vd{i j:Nat}{b:FS}{a c x:PyData}{r:List PyData}{ρ ρ':Rho}{T:Tp}(h:b ((ρ.set i (some (.d a))).set j (some (.d c))) T=some ((.rt x,ρ'),T)):fG i j b (.tuple [a,c]::r) ρ T=some ((.rt x,ρ'),T):=by
 show bnd (b _ T) _=_;rw[h];rfl
def ρS(bk G H x li:PyData)(o5 o6:Option D.W):Rho:=[some (.d bk),some (.d G),some (.d H),some (.d x),some (.d li),o5,o6]
theorem uV{G:Dc}(hG:GV G){bk H x li:PyData}:∀(rs:List (Str×PyData)) (o5 o6:Option D.W),
  (rs.all (bR G)=true/\∃o5' o6',fG 5 6 gR (rs.map rdP) (ρS bk (.dict G) H x li o5 o6) []=some ((.nx,ρS bk (.dict G) H x li o5' o6'),[])) \/
  (rs.all (bR G)=false/\∃ρ',fG 5 6 gR (rs.map rdP) (ρS bk (.dict G) H x li o5 o6) []=some ((.rt (.bool false),ρ'),[]))
 |[],o5,o6=>.inl ⟨rfl,o5,o6,rfl⟩
 |q::rs,o5,o6=>by
  have e0:rdP q=.tuple [.str q.1,stS q.2]:=rfl;rw[List.map_cons,List.all_cons,e0];unfold bR
  cases hg:aA G q.1 with
  |none=>
   refine .inr ⟨rfl,_,vd (ρ':=ρS bk (.dict G) H x li (some (.d (.str q.1))) (some (.d (stS q.2)))) ?_⟩;simp[gR,ρS,hg]
  |some v=>
   have sv:=j6 (v:=v) [] (hG _ _ hg)
   by_cases c:mk (cst 4 v)=mk (cst 4 q.2)
   .have st:gR (((ρS bk (.dict G) H x li o5 o6).set 5 (some (.d (.str q.1)))).set 6 (some (.d (stS q.2)))) []=some ((.nx,ρS bk (.dict G) H x li (some (.d (.str q.1))) (some (.d (stS q.2)))),[]):=by
     simp[gR,ρS,hg,sv];simp[stS,c]
    rw[Dr st];simp only[decide_eq_true c,Bool.true_and];exact uV hG rs _ _
   .refine .inr ⟨by simp[c],_,vd (ρ':=ρS bk (.dict G) H x li (some (.d (.str q.1))) (some (.d (stS q.2)))) ?_⟩
    simp[gR,ρS,hg,sv];simp[stS,c]
section
variable {p:Bool}{n:Nat}{D0 R0:Dc}
theorem Ca(B:Bk p n D0 R0){G E H:Dc}(hs:Snd D0 R0 G)(hd:Sub D0 G)(hc:∀x,ClsAt R0 G x)(ee:gW [.d (bkD D0 R0)] []=some (.dict E,[]))(he:∀x,aA E x=eF D0 R0 G x)(hH:∀x y,aA H x=some y->Hx y)
  (sh:∀x r,aA R0 x=some r->∃t,(∀T,jE [.d r] T=some (.str t,T))/\∀T,dr 25 [.d r] T=some (.str t,T)) (x:Str) :
  ∃b,gy [.d (bkD D0 R0),.d (.dict H),.d (.str x)] []=some (.bool b,[])/\fJ [.d (bkD D0 R0),.d (.dict G),.d (.dict H),.d (.str x)] []=some (.bool b,[]):=by
 have b1:ixD (bkD D0 R0) (.int 1)=some (.dict R0):=rfl
 have ow:∀Y,gp [.d (.dict R0),.d (.dict H),.d (.str x)] []=some (Y,[])->isNone Y=true->gy [.d (bkD D0 R0),.d (.dict H),.d (.str x)] []=some (.bool false,[]):=fun Y h1 h2=>by
  simp[gy,b1,h1,jc,h2]
 cases hh:aA H x with
 |none=>exact⟨false,ow .none (by simp[gp,hh]) rfl,by simp[fJ,hh]⟩
 |some y=>
  obtain⟨t,nn,rs,a,b,rfl,hv⟩:=hH x y hh
  cases hr:aA R0 x with
  |none=>exact⟨false,ow .none (by simp[gp,hh,hr]) rfl,by simp[fJ,hh,b1,hr]⟩
  |some r=>
   obtain⟨t',s1,s2⟩:=sh x r hr
   by_cases ht:t=t'
   .subst ht
    obtain⟨X,x1,x2⟩:=D2 B hs hd hc he (y:=nn) (a:=a) (b:=b) hv
    have o1:gp [.d (.dict R0),.d (.dict H),.d (.str x)] []=some (lnD nn rs a b,[]):=by simp[gp,hh,hr,s1]
    have nl':isNone (lnD nn rs a b)=false:=rfl;refine⟨sT G rs a b,?_,?_⟩
    .simp[gy,b1,o1,ee,x1,jc,isD,nl',x2]
    .have i1:ixD (lnD nn rs a b) (.int 1)=some (.tuple (rs.map rdP)):=rfl
     have i2:ixD (lnD nn rs a b) (.int 2)=some (.tuple [.str a,.str b]):=rfl;unfold sT;rw[zl]
     rcases uV (hs.gv B) (bk:=bkD D0 R0) (H:=.dict H) (x:=.str x) (li:=lnD nn rs a b) rs none none with⟨q,o5,o6,e⟩|⟨q,ρ',e⟩
     .unfold ρS at e
      rw[q,Bool.true_and]
      by_cases ha:a=Str.ofString "wants"
      .subst ha
       simp[hh,b1,hr,s2,jr,i1,e,i2]
      .simp[hh,b1,hr,s2,jr,i1,e,i2,ha]
     .unfold ρS at e
      rw[q];simp[hh,b1,hr,s2,jr,i1,e]
   .refine⟨false,ow .none (by simp[gp,hh,hr,s1,ht]) rfl,by simp[fJ,hh,b1,hr,s2,ht]⟩
end
structure Go(n:Nat)(d:PyData):Prop where
 cl:d.canLay0=true
 dp:d.depth<=n
theorem Go.up{n m:Nat}{d:PyData}(h:Go n d)(l:n<=m):Go m d:=⟨h.1,Nat.le_trans h.2 l⟩
theorem Go.shp{d:PyData}(h:Go 64 d):SeqAt.shaped d=true:=by
 unfold SeqAt.shaped;rw[h.1,decide_eq_true h.2];rfl
theorem wy{n:Nat}{x:Str}(h:Lw x):Go n (.str x):=⟨by simp[PyData.canLay0,qC h],by simp[PyData.depth]⟩
theorem wA{n:Nat}:∀{ds:List PyData},(∀d∈ds,Go n d)->PyData.canLayAll0 ds=true/\PyData.depthAll ds<=n
 |[],_=>⟨by simp[PyData.canLayAll0],by simp[PyData.depthAll]⟩
 |d::r,h=>by
  have ih:=wA (ds:=r) fun x hx=>h x (List.mem_cons_of_mem _ hx);have i0:=h d List.mem_cons_self;exact⟨by simp[PyData.canLayAll0,i0.1,ih.1],by have:=i0.2;have:=ih.2;simp only[PyData.depthAll];omega⟩
theorem mM{n:Nat}{ds:List PyData}(h:∀d∈ds,Go n d):Go (n+1) (.tuple ds):=by
 have a:=wA h;exact⟨by simp[PyData.canLay0,a.1],by have:=a.2;simp only[PyData.depth];omega⟩
theorem jq{n:Nat}{a b:PyData}(h:Go n a)(g:Go n b):Go (n+1) (.tuple [a,b]):=mM fun d hd=>by
 simp at hd
 rcases hd with rfl|rfl
 .exact h
 .exact g
theorem gh{n:Nat}(w:String)(h:((cd (Str.ofString w)).all fun c=>decide (c<128))=true):Go n (.str (Str.ofString w)):=wy (nj h)
theorem wx{v:PyData}(h:aF v=true):Go 4 v:=by
 have s:=gS h;have d:=(tN h).dp;unfold SeqAt.shaped at s;rw[Bool.and_eq_true] at s;exact⟨s.1,d⟩
theorem kH{k:Nat}{e:PyData}(h:Ld k e):Go 5 e:=by
 cases h with
 |put h=>exact jq (gh "put" (by decide +kernel)) (wx h)
 |got=>exact jq (gh "got" (by decide +kernel)) ⟨rfl,Nat.zero_le _⟩
theorem xx{n:Nat}{a b c:PyData}(h:Go n a)(g:Go n b)(k:Go n c):Go (n+1) (.tuple [a,b,c]):=mM fun d hd=>by
 simp at hd
 rcases hd with rfl|rfl|rfl
 .exact h
 .exact g
 .exact k
theorem qJ{k:Nat}{e:PyData}(h:Xd k e):Go 7 e:=by
 cases h with
 |lf h=>exact(kH h).up (by decide)
 |two w a b=>exact xx (by rcases w with rfl|rfl|rfl|rfl|rfl <;> exact gh _ (by decide +kernel)) ((kH a).up (by decide)) ((kH b).up (by decide))
 |row _ h=>exact jq (gh "row" (by decide +kernel)) (mM fun d hd=>kH (h d hd))
 |many h=>exact jq (gh "many" (by decide +kernel)) ((kH h).up (by decide))
theorem GY{h k c:Nat}{r:PyData}(x:RC h k c r):Go (h+8) r:=by
 induction x with
 |say _ h=>exact jq (n:=_+7) (gh "say" (by decide +kernel)) ((qJ h).up (by omega))
 |fail _ h=>exact jq (n:=_+7) (gh "fail" (by decide +kernel)) (wy (qD h.isNm))
 |@want h k c c' b e r _ he _ ih=>exact(xx (n:=h+8) (by cases b <;> exact gh _ (by decide +kernel)) ((qJ he).up (by omega)) ih).up (by omega)
 |@when h k c c1 c2 e p q _ he _ _ i1 i2=>
   refine(mM (n:=h+8) fun d hd=>?_).up (by omega);simp at hd
   rcases hd with rfl|rfl|rfl|rfl
   .exact gh "when" (by decide +kernel)
   .exact(qJ he).up (by omega)
   .exact i1
   .exact i2
theorem wq{e:Dl}:∀{d:Dl},(∀p∈d,e.lookup p.1=some p.2/\Go 64 p.2)->gc (aL e) (aL d)=some true
 |[],_=>rfl
 |(k,v)::r,h=>by
  have ih:=wq (e:=e) (d:=r) fun p hp=>h p (List.mem_cons_of_mem _ hp);obtain⟨h1,h2⟩:=h (k,v) List.mem_cons_self;show gc (aL e) ((.str k,v)::aL r)=_;unfold gc;rw[dU,h1];dsimp only;rw[if_pos ⟨h2.shp,h2.shp⟩,ih];simp[SeqAt.eqv_refl v h2.cl]
theorem wG{d:Dl}(nd:(ky d).Nodup)(g:∀p∈d,Go 64 p.2):kT (aL d) (aL d)=some true:=by
 have h:=wq (e:=d) (d:=d) fun p hp=>⟨j7 nd hp,g p hp⟩;unfold kT;rw[if_pos h,if_pos rfl,h]
theorem FB{l:List Str}{d r:Dl}(h:Bd l d r):eqP (bkL d r) (bkL d r)=some (.bool true):=by
 have h1:kS (.dict (aL d)) (.dict (aL d))=some true:=wG h.t.nd fun p hp=>(wx (h.t.ok p hp).1).up (by decide);have h2:kS (.dict (aL r)) (.dict (aL r))=some true:=wG h.m.nd fun p hp=>(GY (h.m.ok p hp).1).up (by decide);show (gi [.dict (aL d),.dict (aL r)] [.dict (aL d),.dict (aL r)]).map _=_;simp only[gi,h1,h2];rfl
theorem ne_self{d:PyData}(h:SeqAt.shaped d=true):neG d d=some (.bool false):=by
 unfold neG;rw[if_pos ⟨h,h⟩];unfold SeqAt.shaped at h;rw[Bool.and_eq_true] at h;rw[SeqAt.eqv_refl d h.1];rfl
theorem FG{p:Bool}{n:Nat}{D0 R0 G:Dc}(B:Bk p n D0 R0)(hs:Snd D0 R0 G)(hd:Sub D0 G)(hc:∀x,ClsAt R0 G x)(x:Str):∃ds,(eF D0 R0 G x).getD LK=.tuple ds/\SeqAt.shaped (.tuple ds)=true:=by
 have g:=oV B hs hd hc x
 cases hg:aA G x with
 |some v=>
  rw[hg] at g;rw[g.1];exact⟨_,rfl,jQ qE (qB g.2)⟩
 |none=>
  rw[hg] at g;obtain⟨d,w,g1,g2,_,_,l,rfl⟩:=g;exact⟨_,g1,g2⟩
def ρW(sc pk bs:PyData)(l:List Str)(d r:Dl)(G H:Dc)(o5 o9 o10:Option D.W):Rho:=[some (.d sc),some (.d (.list (nl l))),some (.d pk),some (.d (bkL d r)),some (.d bs),o5,some (.d (.dict H)),some (.d (bkL d r)),some (.d (.dict G)),o9,o10]
theorem C4{l:List Str}(h1:l.length<=20){d r:Dl}(hb:Bd l d r){G H:Dc}(hs:Snd (aL d) (aL r) G)(hd:Sub (aL d) G)(hc:∀x,ClsAt (aL r) G x)(hH:∀x y,aA H x=some y->Hx y){sc pk bs:PyData}{o5 o10:Option D.W}(x:Str) :
  ∃o10',iV (ρW sc pk bs l d r G H o5 (some (.d (.str x))) o10) []=some ((.nx,ρW sc pk bs l d r G H o5 (some (.d (.str x))) o10'),[]):=by
 have B:=hb.bk h1;obtain⟨G1,E,ee,s1,d1,c1,he1⟩:=F2 B (by rw[lH];exact xn hb.t.nd);have he:∀x,aA E x=eF (aL d) (aL r) G x:=fun x=>(he1 x).trans (DC B (AI B d1 s1 c1 hd hs hc) (s1.gv B) x);have p1:iS [.d (bkL d r),.d (.str x)] []=_:=Ce ee he x;have p2:gq [.d (bkL d r),.d (.dict G),.d (.str x)] []=_:=FZ B (hs.gv B) x
 obtain⟨b,p3,p4⟩:=Ca B hs hd hc ee he hH (fun x r0 hr=>by
  rw[dU] at hr
  exact vJ (hb.m.look hr) (by decide)) x
 have p3':gy [.d (bkL d r),.d (.dict H),.d (.str x)] []=some (.bool b,[]):=p3;have p4':fJ [.d (bkL d r),.d (.dict G),.d (.dict H),.d (.str x)] []=some (.bool b,[]):=p4;obtain⟨ds,e1,e2⟩:=FG B hs hd hc x;rw[e1] at p1 p2;have n1:=ne_self e2
 have n2:neG (.bool b) (.bool b)=some (.bool false):=by cases b <;> rfl
 have bb:bY .bl .bl=true:=rfl
 by_cases c:x=Str.ofString "zzzz"/\x∈l
 .exact⟨o10,by simp[iV,ρW,c.1,qj,c.1 ▸ c.2]⟩
 .refine⟨some (.d (.bool b)),?_⟩
  by_cases c1:x=Str.ofString "zzzz"
  .have c2:x∉l:=fun z=>c ⟨c1,z⟩
   simp[iV,ρW,qj,c2,p1,p2,n1,p3',p4',n2,bb]
  .simp[iV,ρW,c1,p1,p2,n1,p3',p4',n2,bb]
def ρU(sc pk b3:PyData)(l:List Str)(b4:PyData)(o5:Option D.W):Rho:=[some (.d sc),some (.d (.list (nl l))),some (.d pk),some (.d b3),some (.loc (.list [b4])),o5,none,none,none,none,none]
theorem BC:∀ns:List Int,ns.length<=63->∃T',ni [.d (i7 ns)] []=some (.bool true,T'):=by
 intro ns _;have scE:i7 ns=scr ns:=rfl;obtain⟨f1,hf1,ef1⟩:=iy ns 1 (by decide);obtain⟨r1,f1',e1,_,r10,r11⟩:=bB hf1 (m:=5) (by decide) (by decide);obtain⟨f0,hf0,ef0⟩:=iy ns 0 (by decide);obtain⟨l,f0',e0,hn,nd,hlen⟩:=D3 hf0 (m:=3+r1) (by omega) (by omega)
 have h0:0<l.length:=by omega
 have h20:l.length<=20:=by omega
 obtain⟨f2,hf2,ef2⟩:=iy ns 2 (by decide);obtain⟨r2,f2',e2,_,r20,r21⟩:=bB hf2 (m:=3) (by decide) (by decide);obtain⟨d0,q0,eb,hb⟩:=F3 hn h0 h20 nd ns (ba:=3) (by decide) (decide (r2=0));obtain⟨f3,hf3,ef3⟩:=iy ns 10 (by decide);obtain⟨r3,f3',e3,_,r30,r31⟩:=bB hf3 (m:=4) (by decide) (by decide);have o1:∀ρ:Rho,b6 aP bN (ae (aa 0) (ae (fC (.int 1)) ah)) (ae (fC (.int 5)) ah) (some (.d (scr ns))::ρ) []=some (.d (.int r1),[]):=fun ρ=>jW (ws:=[.d (scr ns),.d (.int 1)]) (ws2:=[.d (.int 5)]) (by simp) (ef1 []) (by simp) rfl e1;have o0:∀ρ:Rho,b6 iP bN (ae (aa 0) (ae (fC (.int 0)) ah)) (ae (af aT (fC (.int 3)) (b6 aP bN (ae (aa 0) (ae (fC (.int 1)) ah)) (ae (fC (.int 5)) ah))) ah) (some (.d (scr ns))::ρ) []=some (.d (.list (nl l)),[]):=fun ρ=>jW (ws:=[.d (scr ns),.d (.int 0)]) (ws2:=[.d (.int (3+r1))]) (by simp) (ef0 []) (by simp[o1]) rfl e0;have o2:∀ρ:Rho,b6 aP bN (ae (aa 0) (ae (fC (.int 2)) ah)) (ae (fC (.int 3)) ah) (some (.d (scr ns))::ρ) []=some (.d (.int r2),[]):=fun ρ=>jW (ws:=[.d (scr ns),.d (.int 2)]) (ws2:=[.d (.int 3)]) (by simp) (ef2 []) (by simp) rfl e2;have o3:∀ρ:Rho,b6 aP bN (ae (aa 0) (ae (fC (.int 10)) ah)) (ae (fC (.int 4)) ah) (some (.d (scr ns))::ρ) []=some (.d (.int r3),[]):=fun ρ=>jW (ws:=[.d (scr ns),.d (.int 10)]) (ws2:=[.d (.int 4)]) (by simp) (ef3 []) (by simp) rfl e3
 have lp:=iZ (i:=5) (body:=lM) (N:=10) (I:=fun _ ρ T=>∃d r o5,ρ=ρU (scr ns) (.bool (decide (r2=0))) (bkL d r) l (bkL d0 q0) o5/\T=[]/\Bd l d r) (cI 0 (1+r3).toNat) 0 (ρU (scr ns) (.bool (decide (r2=0))) (bkL d0 q0) l (bkL d0 q0) none) [] (by rw[jX];omega) ⟨d0,q0,none,rfl,rfl,hb⟩ (fun k d ρ T hd _ hI=>by
  obtain⟨dd,rr,o5,rfl,rfl,hb'⟩:=hI;obtain⟨j,rfl,j0,j1⟩:=tW hd;obtain⟨xs,hf,ef⟩:=iy ns (11+j) (by omega);obtain⟨d2,r2',xs',e,hb2⟩:=B9 hn h0 h20 hb' hf (decide (r2=0));have oc:b6 iO bN (ae (aa 0) (ae (af aT (fC (.int 11)) (aa 5)) ah)) (ae (aa 3) (ae (aa 1) (ae (aa 2) ah))) (ρU (scr ns) (.bool (decide (r2=0))) (bkL dd rr) l (bkL d0 q0) (some (.d (.int j)))) []=some (.d (bkL d2 r2'),[]):=jW (ws:=[.d (scr ns),.d (.int (11+j))]) (ws2:=[.d (bkL dd rr),.d (.list (nl l)),.d (.bool (decide (r2=0)))]) (by simp[ρU]) (ef []) (by simp[ρU]) rfl e;refine⟨ρU (scr ns) (.bool (decide (r2=0))) (bkL d2 r2') l (bkL d0 q0) (some (.d (.int j))),[],?_,d2,r2',_,rfl,rfl,hb2⟩;unfold lM;have st:(ρU (scr ns) (.bool (decide (r2=0))) (bkL dd rr) l (bkL d0 q0) o5).set 5 (some (.d (.int j)))=ρU (scr ns) (.bool (decide (r2=0))) (bkL dd rr) l (bkL d0 q0) (some (.d (.int j))):=rfl;rw[st,mQ,oc]
  rfl)
 obtain⟨ρ',T',elp,d1,q1,o5,rfl,rfl,hb1⟩:=lp;obtain⟨h,eh,hq⟩:=F0 hn h0 h20 ns (b:=16) (by decide) hb hb1;have B:=hb1.bk h20;obtain⟨G,eg,sg,dg,cg⟩:=qb B [];have eg':eZ [.d (bkL d1 q1)] []=some (.dict G,[]):=eg
 have hH:∀x y,aA (aL h) x=some y->Hx y:=fun x y e=>by
  rw[dU] at e;exact(hq.ok _ (lG e)).2
 have lq:=iZ (i:=9) (body:=iV) (N:=30) (I:=fun _ ρ T=>∃o9 o10,ρ=ρW (scr ns) (.bool (decide (r2=0))) (.list [bkL d0 q0,bkL d1 q1]) l d1 q1 G (aL h) o5 o9 o10/\T=[]) (nl (l++[Str.ofString "zzzz"])) 0 (ρW (scr ns) (.bool (decide (r2=0))) (.list [bkL d0 q0,bkL d1 q1]) l d1 q1 G (aL h) o5 none none) [] (by rw[cu,List.length_append];simp;omega) ⟨_,_,rfl,rfl⟩ (fun k d ρ T hd _ hI=>by
  obtain⟨o9,o10,rfl,rfl⟩:=hI;obtain⟨x,_,rfl⟩:=List.mem_map.mp hd;obtain⟨o10',e⟩:=C4 h20 hb1 sg dg cg hH (sc:=scr ns) (pk:=.bool (decide (r2=0))) (bs:=.list [bkL d0 q0,bkL d1 q1]) (o5:=o5) (o10:=o10) x
  exact⟨_,[],e,_,_,rfl,rfl⟩)
 obtain⟨ρ2,T2,elq,o9,o10,rfl,rfl⟩:=lq;refine⟨[],?_⟩;have ro:fq (1+r3)=true:=rng_ok (by omega) (by omega)
 have za:(nl l).length+1<=sizeLine:=by rw[cu];exact cj (by omega)
 have na:nl l++[.str "zzzz"]=nl (l++[Str.ofString "zzzz"]):=by simp[nl]
 have z1:1<sizeLine:=by decide
 have x0:ixD (bkL d1 q1) (.int 0)=some (.dict (aL d1)):=rfl;have x1:ixD (bkL d1 q1) (.int 1)=some (.dict (aL q1)):=rfl;rw[scE,Bt,qM];simp only[oA,oB,if_true];show dI (ak _ _ [some (.d (scr ns)),none,none,none,none,none,none,none,none,none,none] [])=_;rw[bH (ρ1:=[some (.d (scr ns)),some (.d (.list (nl l))),none,none,none,none,none,none,none,none,none]) (T1:=[]) (by rw[mQ,o0];rfl)];rw[bH (ρ1:=[some (.d (scr ns)),some (.d (.list (nl l))),some (.d (.bool (decide (r2=0)))),none,none,none,none,none,none,none,none]) (T1:=[]) (by simp[o2])];rw[bH (ρ1:=[some (.d (scr ns)),some (.d (.list (nl l))),some (.d (.bool (decide (r2=0)))),some (.d (bkL d0 q0)),none,none,none,none,none,none,none]) (T1:=[]) (by simp[eb])];rw[bH (ρ1:=ρU (scr ns) (.bool (decide (r2=0))) (bkL d0 q0) l (bkL d0 q0) none) (T1:=[]) (by unfold ρU;simp)]
 have fl:bD 5 (d6 (af aT (fC (.int 1)) (b6 aP bN (ae (aa 0) (ae (fC (.int 10)) ah)) (ae (fC (.int 4)) ah)))) lM (ρU (scr ns) (.bool (decide (r2=0))) (bkL d0 q0) l (bkL d0 q0) none) []=some ((.nx,ρU (scr ns) (.bool (decide (r2=0))) (bkL d1 q1) l (bkL d0 q0) o5),[]):=by
  simp only[wF];rw[show d6 (af aT (fC (.int 1)) (b6 aP bN (ae (aa 0) (ae (fC (.int 10)) ah)) (ae (fC (.int 4)) ah))) (ρU (scr ns) (.bool (decide (r2=0))) (bkL d0 q0) l (bkL d0 q0) none) []=some (cI 0 (1+r3).toNat,[]) by unfold ρU;simp[o3,ro]];exact elp
 rw[bH fl];rw[bH (ρ1:=[some (.d (scr ns)),some (.d (.list (nl l))),some (.d (.bool (decide (r2=0)))),some (.d (bkL d1 q1)),some (.loc (.list [bkL d0 q0,bkL d1 q1])),o5,none,none,none,none,none]) (T1:=[]) (by unfold ρU;simp[z1])];have eqb:=FB hb1;have fz:∀f:FS,nJ 4 f [some (.d (scr ns)),some (.d (.list (nl l))),some (.d (.bool (decide (r2=0)))),some (.d (bkL d1 q1)),some (.loc (.list [bkL d0 q0,bkL d1 q1])),o5,none,none,none,none,none] []=f [some (.d (scr ns)),some (.d (.list (nl l))),some (.d (.bool (decide (r2=0)))),some (.d (bkL d1 q1)),some (.d (.list [bkL d0 q0,bkL d1 q1])),o5,none,none,none,none,none] []:=fun _=>rfl;rw[fz];rw[bH (ρ1:=[some (.d (scr ns)),some (.d (.list (nl l))),some (.d (.bool (decide (r2=0)))),some (.d (bkL d1 q1)),some (.d (.list [bkL d0 q0,bkL d1 q1])),o5,some (.d (.dict (aL h))),none,none,none,none]) (T1:=[]) (by simp[eh])];rw[bH (ρ1:=[some (.d (scr ns)),some (.d (.list (nl l))),some (.d (.bool (decide (r2=0)))),some (.d (bkL d1 q1)),some (.d (.list [bkL d0 q0,bkL d1 q1])),o5,some (.d (.dict (aL h))),some (.d (bkL d1 q1)),none,none,none]) (T1:=[]) (by simp[x0,x1];rfl)];rw[bH (ρ1:=ρW (scr ns) (.bool (decide (r2=0))) (.list [bkL d0 q0,bkL d1 q1]) l d1 q1 G (aL h) o5 none none) (T1:=[]) (by unfold ρW;simp[eg'])]
 have it:bc (af aT (aa 1) (az .list (ae (fC (.str "zzzz")) ah))) (ρW (scr ns) (.bool (decide (r2=0))) (.list [bkL d0 q0,bkL d1 q1]) l d1 q1 G (aL h) o5 none none) []=some (nl (l++[Str.ofString "zzzz"]),[]):=by
  unfold ρW;rw[←na];simp[za]
 rw[bH (a:=bD 9 _ _) (by rw[wF,it];exact elq)];unfold ρW;simp[eqb,i3]
def top(i:Nat):Stmt:=PySem.Challenge.pw_redo_k38_lines_that_stand.main.body.getD i (.Pass ⟨0,0,0,0⟩)
abbrev zS:List (Str×Nat):=("is_whole",8)::("has_only",9)::("is_name",10)::("is_single",11)::("is_built",12)::("many_of",14)::("is_value",13)::("exprs_within",16)::("stamp_of",19)::("filling_words",24)::("expr_words",23)::("recipe_words",22)::("show_recipe",21)::("told_less",33)::("bounded",28)::("told_many",29)::("told_part",30)::("told_sum",31)::("told_join",32)::("told_of",27)::("told_by",26)::("step_of",35)::("end_by",45)::("line_from",44)::("lines_from",43)::("start_of",39)::("awaited_at",41)::("given",42)::("gone_on",40)::("made_afresh",38)::("lines_of",37)::("ends_now",49)::("end_now",48)::("own_line",51)::("otherwise_now",52)::("stands",50)::("_law_feed",54)::("_law_next",55)::("_law_names",56)::("_law_value",57)::("_law_weight",58)::("_law_kept",59)::("_law_stamp",60)::("_law_of_two",61)::("_law_told",62)::("_law_is_name",63)::("_law_follow",64)::("_law_good",65)::("_law_show_expr",66)::("_law_show",67)::("_law_expr",68)::("_law_wanted",69)::("_law_recipe",70)::("_law_any_recipe",71)::("_law_book",72)::("_law_turned",73)::("_law_held",74)::("_law_end",75)::("_law_stands",76)::("law",77)::[]
abbrev zZ:List Str:=["abs","all","bool","dict","enumerate","int","isinstance","len","list","max","range","str","sum","tuple"]
abbrev zI:List (Str×Int):=[("MOST_LETTERS",8),("MOST_PARTS",8),("MOST_ROWS",4),("MOST_SIGNS",20),("MOST_VALUES",40)]
abbrev zT:List (Str×Str):=[("LETTERS","abcdefghijklmnopqrstuvwxyz"),("TEXT_SIGNS","abcdefghijklmnopqrstuvwxyz0123456789-")]
structure Bi(K:Frag)(mg:Str->Option Value):Prop extends Bz K mg zZ zI zT where
 g_GETTING:q8 K mg "GETTING" ["want","peek"]
 g_LACKS:q8 K mg "LACKS" ["lacks"]
section
variable {P:Program}{w:World}{K:Frag}{mg:Str->Option Value}{base:Heap}(E:Ev P w K mg base (Bi K mg) top zS)
include E
theorem gr:Fn P w K mg base "is_whole" ["thing"] 1 (spM K 1 eJ):=aW E 8 ["thing"] fun B S hr=>(av (aC (iq (bI .int B.z (ag 0) B.z boot_int) (jh (FJ (bI .bl B.z (ag 0) B.z boot_bool))))))
theorem r9:Fn P w K mg base "has_only" ["text","signs"] 1 (spM K 2 gU):=aW E 9 ["text","signs"] fun B S hr=>(av (aC (br qQ rfl B.z boot_all (ai (eB (top 9) ["text","signs"] (bO (ag 0)) (de jz (ag 0) (ag 2))) ar))))
theorem AN:Fn P w K mg base "is_name" ["thing"] 2 (spM K 1 iR):=aW E 10 ["thing"] fun B S hr=>(av (aC (iq (bI .str B.z (ag 0) B.z boot_str) (iq (BZ dN dN aj (br bM rfl B.z boot_len (ai (ag 0) ar)) (j2 rfl B.i)) (jh (aZ (r9 E) hr (ag 0) (uj rfl B.s)))))))
theorem zu:Fn P w K mg base "is_single" ["thing"] 2 (spM K 1 jI):=aW E 11 ["thing"] fun B S hr=>(au (aI (bv (aV (gr E) hr (ag 0))) (av (aC (de dN (br xJ rfl B.z boot_abs (ai (ag 0) ar)) (aR jm aj aj)))) aK) (av (aC (iq (bI .str B.z (ag 0) B.z boot_str) (iq (de dN (br bM rfl B.z boot_len (ai (ag 0) ar)) (j2 rfl B.i)) (jh (aZ (r9 E) hr (ag 0) (uj rfl B.s))))))))
theorem zY:∀n,Fn P w K mg base "is_built" ["thing","rows_left"] (2+n) (spM K 2 (e9 n)):=df (dz E 12) fun n ih=>aW (k:=2+n) E 12 ["thing","rows_left"] fun B S hr=>(au (aI (cR (bv (bI .tup B.z (ag 0) B.z boot_tuple))) (av (aC (aV (zu E) hr (ag 0)))) aK) (au (aI (bQ (cU (aG aU (ag 1) aj) (c9 (aG gJ (br bM rfl B.z boot_len (ai (ag 0) ar)) (j2 rfl B.i))))) (av (aC eQ)) aK) (av (aC (br qQ rfl B.z boot_all (ai (eB (top 12) ["thing","rows_left"] (bO (ag 0)) (aZ ih hr (ag 0) (aR iA (ag 2) aj))) ar))))))
theorem AM:∀n,Fn P w K mg base "many_of" ["value"] (0+n) (spM K 1 (gX n)):=df (dz E 14) fun n ih=>aW (k:=0+n) E 14 ["value"] fun B S hr=>(au (aI (cR (bv (bI .tup B.z (ag 0) B.z boot_tuple))) (av (aC aj)) aK) (av (aC (aR bo aj (br xI rfl B.z boot_sum (ai (eB (top 14) ["value"] (bO (ag 0)) (aV ih hr (ag 0))) ar))))))
theorem zX:Fn P w K mg base "is_value" ["thing"] 28 (spM K 1 jO):=aW E 13 ["thing"] fun B S hr=>(av (aC (iq (aZ (zY E 25) hr (ag 0) (j2 rfl B.i)) (jh (de dN (aV (AM E 25) hr (ag 0)) (j2 rfl B.i))))))
theorem rB:Fn P w K mg base "exprs_within" ["expr"] 1 (spM K 1 cM):=aW E 16 ["expr"] fun B S hr=>(au (aI (bQ (cU (aG aU (ao ap (ag 0) aj) aB) (c9 (aG aU (ao ap (ag 0) aj) aB)))) (av (aC (cH ar))) aK) (au (aI (aG aU (ao ap (ag 0) aj) aB) (av (aC (cc wU rfl B.z boot_list (ai (ao ap (ag 0) aj) ar)))) aK) (av (aC (cc wU rfl B.z boot_list (ai (fA (ag 0) (ff aj) fg) ar))))))
theorem k8:∀n,Fn P w K mg base "stamp_of" ["value"] (1+n) (spM K 1 (c6 n)):=df (dz E 19) fun n ih=>aW (k:=1+n) E 19 ["value"] fun B S hr=>(au (aI (bv (aV (gr E) hr (ag 0))) (av (aC (cc jv rfl B.z boot_str (ai (ag 0) ar)))) aK) (au (aI (bv (bI .str B.z (ag 0) B.z boot_str)) (av (aC (aR bo aB (ag 0)))) aK) (av (aC (aR bo (aR bo aB (vA aB (eB (top 19) ["value"] (bO (ag 0)) (aV ih hr (ag 0))))) aB)))))
theorem yI:Fn P w K mg base "filling_words" ["expr"] 27 (spM K 1 gk):=aW E 24 ["expr"] fun B S hr=>(au (aI (aG aU (ao ap (ag 0) aj) aB) (av (aC (cH (ai (aV (k8 E 25) hr (ao ap (ag 0) aj)) ar)))) aK) (au (aI (aG aU (ao ap (ag 0) aj) aB) (av (aC (cH (ai (cc jv rfl B.z boot_str (ai (ao ap (ag 0) aj) ar)) ar)))) aK) (au (aI (aG aU (ao ap (ag 0) aj) aB) (av (aC (cH (ai (cc jv rfl B.z boot_str (ai (br bM rfl B.z boot_len (ai (ao ap (ag 0) aj) ar)) ar)) ar)))) aK) (av (aC (cH ar))))))
theorem ze:∀n,Fn P w K mg base "expr_words" ["expr"] (27+n) (spM K 1 (eG n)):=df (dz E 23) fun n ih=>aW (k:=27+n) E 23 ["expr","words","part"] fun B S hr=>(au (vq (i:=1) S.nd (cH (ai (ao ap (ag 0) aj) ar)) (aV (yI E) hr (ag 0))) (au (dH (i:=2) S.nd (bO (aV (rB E) hr (ag 0))) (av (wM (i:=1) (by exact(aV ih hr (ag 2)))))) (av (aC (ag 1)))))
theorem yL:∀n,Fn P w K mg base "recipe_words" ["recipe"] (52+n) (spM K 1 (fH n)):=df (dz E 22) fun n ih=>aW (k:=52+n) E 22 ["recipe","words","part"] fun B S hr=>(au (aI (aG aU (ao ap (ag 0) aj) aB) (av (aC (cH (ai (ao ap (ag 0) aj) (ai (ao ap (ag 0) aj) ar))))) aK) (au (vq (i:=1) S.nd (cH (ai (ao ap (ag 0) aj) ar)) (aV (ze E 25) hr (ao ap (ag 0) aj))) (au (dH (i:=2) S.nd (bO (fA (ag 0) (ff aj) fg)) (av (wM (i:=1) (by exact(aV ih hr (ag 2)))))) (av (aC (ag 1))))))
theorem yQ:Fn P w K mg base "show_recipe" ["recipe"] 78 (spM K 1 jE):=aW E 21 ["recipe"] fun B S hr=>(av (aC (pd aB (aV (yL E 25) hr (ag 0)))))
theorem zq:Fn P w K mg base "told_less" ["one","other"] 2 (spM K 2 gm):=aW E 33 ["one","other"] fun B S hr=>(au (aI (bQ (cU (cR (bv (aV (gr E) hr (ag 0)))) (c9 (cR (bv (aV (gr E) hr (ag 1))))))) (av (aC (aH (ai aB (ai aB ar))))) aK) (av (aC (aH (ai aB (ai (cY (aG dA (ag 0) (ag 1)) aj aj) ar))))))
theorem lz:Fn P w K mg base "bounded" ["thing"] 29 (spM K 1 gu):=aW E 28 ["thing"] fun B S hr=>(av (aC (cY (bv (aV (zX E) hr (ag 0))) (aH (ai aB (ai (ag 0) ar))) (aH (ai aB (ai aB ar))))))
theorem zo:Fn P w K mg base "told_many" ["value"] 2 (spM K 1 jG):=aW E 29 ["value"] fun B S hr=>(au (aI (bv (aV (gr E) hr (ag 0))) (av (aC (aH (ai aB (ai aB ar))))) aK) (av (aC (aH (ai aB (ai (br bM rfl B.z boot_len (ai (ag 0) ar)) ar))))))
theorem zm:Fn P w K mg base "told_part" ["row","number"] 2 (spM K 2 fM):=aW E 30 ["row","number"] fun B S hr=>(au (aI (bQ (cU (cR (bv (bI .tup B.z (ag 0) B.z boot_tuple))) (c9 (cR (bv (aV (gr E) hr (ag 1))))))) (av (aC (aH (ai aB (ai aB ar))))) aK) (au (aI (cR (pb dN dA aj (ag 1) (br bM rfl B.z boot_len (ai (ag 0) ar)))) (av (aC (aH (ai aB (ai aB ar))))) aK) (av (aC (aH (ai aB (ai (ao ap (ag 0) (ag 1)) ar)))))))
theorem zR:Fn P w K mg base "told_sum" ["one","other"] 30 (spM K 2 gT):=aW E 31 ["one","other"] fun B S hr=>(au (aI (bQ (cU (cR (bv (aV (gr E) hr (ag 0)))) (c9 (cR (bv (aV (gr E) hr (ag 1))))))) (av (aC (aH (ai aB (ai aB ar))))) aK) (av (aC (aV (lz E) hr (aR bo (ag 0) (ag 1))))))
theorem zr:Fn P w K mg base "told_join" ["one","other"] 30 (spM K 2 fN):=aW E 32 ["one","other"] fun B S hr=>(au (aI (bQ (dZ (bv (bI .str B.z (ag 0) B.z boot_str)) (eL (bv (bI .str B.z (ag 1) B.z boot_str))))) (av (aC (aV (lz E) hr (aR bo (ag 0) (ag 1))))) aK) (au (aI (bQ (dZ (bv (bI .tup B.z (ag 0) B.z boot_tuple)) (eL (bv (bI .tup B.z (ag 1) B.z boot_tuple))))) (av (aC (aV (lz E) hr (aR bo (ag 0) (ag 1))))) aK) (av (aC (aH (ai aB (ai aB ar)))))))
theorem AK:Fn P w K mg base "told_of" ["word","parts"] 31 (spM K 2 bi):=aW E 27 ["word","parts"] fun B S hr=>(au (aI (aG aU (ag 0) aB) (av (aC (aV (lz E) hr (cc fR rfl B.z boot_tuple (ai (ag 1) ar))))) aK) (au (aI (aG aU (ag 0) aB) (av (aC (aV (zo E) hr (ao ap (ag 1) aj)))) aK) (au (aI (aG aU (ag 0) aB) (av (aC (aZ (zm E) hr (ao ap (ag 1) aj) (ao ap (ag 1) aj)))) aK) (au (aI (aG aU (ag 0) aB) (av (aC (aZ (zR E) hr (ao ap (ag 1) aj) (ao ap (ag 1) aj)))) aK) (au (aI (aG aU (ag 0) aB) (av (aC (aZ (zr E) hr (ao ap (ag 1) aj) (ao ap (ag 1) aj)))) aK) (au (aI (aG aU (ag 0) aB) (av (aC (aH (ai aB (ai (cY (aG (xm hr) (ao ap (ag 1) aj) (ao ap (ag 1) aj)) aj aj) ar))))) aK) (av (aC (aZ (zq E) hr (ao ap (ag 1) aj) (ao ap (ag 1) aj))))))))))
theorem AL:∀n,Fn P w K mg base "told_by" ["expr","got"] (31+n) (spM K 2 (dD n)):=df (dz E 26) fun n ih=>aW (k:=31+n) E 26 ["expr","got","parts","inner","told"] fun B S hr=>(au (aI (aG aU (ao ap (ag 0) aj) aB) (av (aC (aH (ai aB (ai (ao ap (ag 0) aj) ar))))) aK) (au (aI (aG aU (ao ap (ag 0) aj) aB) (av (aC (aH (ai aB (ai (ao ap (ag 1) (ao ap (ag 0) aj)) ar))))) aK) (au (hJ (i:=2) S.nd ar) (au (dH (i:=3) S.nd (bO (aV (rB E) hr (ag 0))) (au (aQ (i:=4) S.nd (aZ ih hr (ag 3) (ag 1))) (au (aI (aG aU (ao ap (ag 4) aj) aB) (av (aC (ag 4))) aK) (av (jg (i:=2) (by exact(ao ap (ag 4) aj))))))) (av (aC (pf (AK E) (hr.mono (by omega)) rfl (ai (ao ap (ag 0) aj) (ai (ag 2) ar)) (a8 (a8 cq)))))))))
theorem sX:∀n,Fn P w K mg base "step_of" ["recipe","got"] (56+n) (spM K 2 (cQ n)):=df (dz E 35) fun n ih=>aW (k:=56+n) E 35 ["recipe","got","told"] fun B S hr=>(au (aI (aG aU (ao ap (ag 0) aj) aB) (av (aC (aH (ai aB (ai (ao ap (ag 0) aj) ar))))) aK) (au (aQ (i:=2) S.nd (aZ (AL E 25) hr (ao ap (ag 0) aj) (ag 1))) (au (aI (aG aU (ao ap (ag 2) aj) aB) (av (aC (ag 2))) aK) (au (aI (aG aU (ao ap (ag 0) aj) aB) (av (aC (aZ ih hr (cY (aG (xl hr) (ao ap (ag 2) aj) (aH (ai aj (ai aB (ai (aH ar) ar))))) (ao ap (ag 0) aj) (ao ap (ag 0) aj)) (ag 1)))) aK) (au (aI (aG aU (ao ap (ag 0) aj) aB) (av (aC (aH (ai aB (ai (ao ap (ag 2) aj) ar))))) aK) (au (aI (cR (bv (aV (AN E) hr (ao ap (ag 2) aj)))) (av (aC (aH (ai aB (ai aB ar))))) aK) (av (aC (aH (ai (ao ap (ag 0) aj) (ai (ao ap (ag 2) aj) (ai (ao ap (ag 0) aj) ar))))))))))))
theorem BM:Fn P w K mg base "end_by" ["step"] 27 (spM K 1 iU):=aW E 45 ["step"] fun B S hr=>(au (aI (aG aU (ao ap (ag 0) aj) aB) (av (aC (aH (ai aB (ai (aV (k8 E 25) hr (ao ap (ag 0) aj)) ar))))) aK) (au (aI (aG aU (ao ap (ag 0) aj) aB) (av (aC (ag 0))) aK) (av (aC (aH (ai aB (ai (ao ap (ag 0) aj) ar)))))))
theorem zt:Fn P w K mg base "line_from" ["name","come"] 28 (spM K 2 jH):=aW E 44 ["name","come","reads"] fun B S hr=>(au (aQ (i:=2) S.nd (cc fR rfl B.z boot_tuple (ai (eB (top 44) ["name","come","reads"] (bO (ao ap (ag 1) aj)) (aH (ai (ao ap (ag 0) aj) (ai (aV (k8 E 25) hr (ao ap (ag 0) aj)) ar)))) ar))) (av (aC (aH (ai (ag 0) (ai (ag 2) (ai (aV (BM E) hr (ao ap (ag 1) aj)) ar)))))))
theorem zd:Fn P w K mg base "lines_from" ["come"] 29 (spM K 1 kZ):=aW E 43 ["come","lines","name"] fun B S hr=>(au (hU (i:=1) S.nd) (au (dH (i:=2) S.nd (bO (ag 0)) (av (dE (i:=1) hr (ag 2) (aZ (zt E) hr (ag 2) (ao (b8 hr) (ag 0) (ag 2)))))) (av (aC (ag 1)))))
theorem zU:Fn P w K mg base "start_of" ["recipe"] 82 (spM K 1 jM):=aW E 39 ["recipe"] fun B S hr=>(av (aC (aH (ai (aH ar) (ai (aH ar) (ai (aZ (sX E 25) hr (ag 0) (aH ar)) ar))))))
theorem rF:Fn P w K mg base "awaited_at" ["come"] 1 (spM K 1 dP):=aW E 41 ["come"] fun B S hr=>(av (aC (cY (aG jz (ao ap (ao ap (ag 0) aj) aj) (lL (ss:=["want","peek"]) rfl B.g_GETTING)) (ao ap (ao ap (ag 0) aj) aj) kj)))
theorem Dp:Fn P w K mg base "given" ["come","value"] 82 (spM K 2 iY):=aW E 42 ["come","value","step","got","reads"] fun B S hr=>(au (aQ (i:=2) S.nd (ao ap (ag 0) aj)) (au (aQ (i:=3) S.nd (aR bo (ao ap (ag 0) aj) (aH (ai (ag 1) ar)))) (au (aQ (i:=4) S.nd (cY (aG aU (ao ap (ag 2) aj) aB) (aR bo (ao ap (ag 0) aj) (aH (ai (aH (ai (ao ap (ag 2) aj) (ai (ag 1) ar))) ar))) (ao ap (ag 0) aj))) (av (aC (aH (ai (ag 3) (ai (ag 4) (ai (aZ (sX E 25) hr (ao ap (ag 2) aj) (ag 3)) ar)))))))))
theorem AO:Fn P w K mg base "gone_on" ["come","good"] 83 (spM K 2 jR):=aW E 40 ["come","good"] fun B S hr=>(au (lJ 100000 (aG (nh hr) (aV (rF E) hr (ag 0)) (ag 1)) (av (aQ (i:=0) S.nd (aZ (Dp E) hr (ag 0) (ao (b8 hr) (ag 1) (aV (rF E) hr (ag 0))))))) (av (aC (ag 0))))
theorem yR:Fn P w K mg base "made_afresh" ["book"] 84 (spM K 1 kY):=aW E 38 ["book","good","come","name","recipe","grown","many"] fun B S hr=>(au (uf (i:=1) B.z S.nd (ao ap (ag 0) aj)) (au (hU (i:=2) S.nd) (au (pW (i:=3) (j:=4) S.nd (ao ap (ag 0) aj) (av (dE (i:=2) hr (ag 3) (aV (zU E) hr (ag 4))))) (au (aQ (i:=5) S.nd eQ) (au (lJ 100000 (bv (ag 5)) (au (aQ (i:=6) S.nd (br bM rfl B.z boot_len (ai (ag 1) ar))) (au (dH (i:=3) S.nd (bO (ao ap (ag 0) aj)) (au (dE (i:=2) hr (ag 3) (pX (aZ (AO E) hr (ao (b8 hr) (ag 2) (ag 3)) (ag 1)))) (av (aI (aG aU (ao ap (ao ap (ao (b8 hr) (ag 2) (ag 3)) aj) aj) aB) (av (dE (i:=1) hr (ag 3) (ao ap (ao ap (ao (b8 hr) (ag 2) (ag 3)) aj) aj))) aK)))) (av (aQ (i:=5) S.nd (de gJ (br bM rfl B.z boot_len (ai (ag 1) ar)) (ag 6))))))) (av (aC (aH (ai (ag 1) (ai (ag 2) ar))))))))))
theorem zW:Fn P w K mg base "lines_of" ["book"] 85 (spM K 1 jN):=aW E 37 ["book"] fun B S hr=>(av (aC (aV (zd E) hr (ao ap (aV (yR E) hr (ag 0)) aj))))
theorem se:Fn P w K mg base "ends_now" ["book"] 86 (spM K 1 gW):=aW E 49 ["book","ends","name","value","line"] fun B S hr=>(au (hU (i:=1) S.nd) (au (pW (i:=2) (j:=3) S.nd (ao ap (ag 0) aj) (av (dE (i:=1) hr (ag 2) (aH (ai aB (ai (aV (k8 E 25) hr (ag 3)) ar)))))) (au (pW (i:=2) (j:=4) S.nd (aV (zW E) hr (ag 0)) (av (dE (i:=1) hr (ag 2) (ao ap (ag 4) aj)))) (av (aC (ag 1))))))
theorem AQ:Fn P w K mg base "end_now" ["book","name"] 87 (spM K 2 iS):=aW E 48 ["book","name"] fun B S hr=>(av (aC (pY hr (aV (se E) hr (ag 0)) (ag 1) (lL (ss:=["lacks"]) rfl B.g_LACKS))))
theorem zV:Fn P w K mg base "own_line" ["recipes","held","name"] 79 (spM K 3 gp):=aW E 51 ["recipes","held","name"] fun B S hr=>(au (aI (bQ (cU (aG (gx hr) (ag 2) (ag 1)) (cU (aG (gx hr) (ag 2) (ag 0)) (c9 (aG gI (ao ap (ao (b8 hr) (ag 1) (ag 2)) aj) (aV (yQ E) hr (ao (b8 hr) (ag 0) (ag 2)))))))) (av (aC kj)) aK) (av (aC (ao ap (ao (b8 hr) (ag 1) (ag 2)) aj))))
theorem yH:Fn P w K mg base "otherwise_now" ["ends","line"] 1 (spM K 2 kX):=aW E 52 ["ends","line","k","read","end"] fun B S hr=>(au (BU (i:=2) (j:=3) B.z S.nd (ao ap (ag 1) aj) (au (aQ (i:=4) S.nd (pY hr (ag 0) (ao ap (ag 3) aj) (lL (ss:=["lacks"]) rfl B.g_LACKS))) (av (aI (aG (kr hr) (ag 4) (aH (ai aB (ai (ao ap (ag 3) aj) ar)))) (av (aC (aH (ai aB (ai (ag 2) (ai (ao ap (ag 3) aj) (ai (ao ap (ag 3) aj) (ai (ag 4) ar)))))))) aK)))) (au (aI (bQ (dZ (aG aU (ao ap (ao ap (ag 1) aj) aj) aB) (eL (aG aU (ao ap (pY hr (ag 0) (ao ap (ao ap (ag 1) aj) aj) (lL (ss:=["lacks"]) rfl B.g_LACKS)) aj) aB)))) (av (aC (aH (ai aB (ai (ao ap (ao ap (ag 1) aj) aj) (ai (ao ap (ao (b8 hr) (ag 0) (ao ap (ao ap (ag 1) aj) aj)) aj) ar)))))) aK) (av (aC kj))))
theorem BL:Fn P w K mg base "stands" ["book","held","name"] 87 (spM K 3 gy):=aW E 50 ["book","held","name","line"] fun B S hr=>(au (aQ (i:=3) S.nd (iK (zV E) hr (ao ap (ag 0) aj) (ag 1) (ag 2))) (av (aC (iq (de CT (ag 3) kj) (jh (de HD (aZ (yH E) hr (aV (se E) hr (ag 0)) (ag 3)) kj))))))
theorem gQ:Fn P w K mg base "_law_feed" ["_law_script","_law_k"] 1 (spO K 2 bN):=He E 54 ["_law_script","_law_k"] fun B S hr=>(au (aI (aG aU (br bM rfl B.z boot_len (ai (ag 0) ar)) aj) (av (ug (ai aj (ai aj (ai (ag 1) ar))))) aK) (av (ug (ai (ao ap (ag 0) (aR iB (ag 1) (br bM rfl B.z boot_len (ai (ag 0) ar)))) (ai aj (ai (ag 1) ar))))))
theorem bA:Fn P w K mg base "_law_next" ["_law_feed_here","_law_many"] 1 (spM K 2 aP):=aW E 55 ["_law_feed_here","_law_many","_law_digit","_law_seed"] fun B S hr=>(au (wL (ag 0) aj (aR bo (ao ap (ag 0) aj) aj)) (au (aI (aG HE (ao ap (ag 0) aj) (aR jm aj aj)) (au (aQ (i:=2) S.nd (aR iB (ao ap (ag 0) aj) (ag 1))) (au (wL (ag 0) aj (aR CU (ao ap (ag 0) aj) (ag 1))) (av (aC (ag 2))))) aK) (au (aQ (i:=3) S.nd (aR bo (aR bo (aR iB (ao ap (ag 0) aj) aj) (aR jn aj (ao ap (ag 0) aj))) (aR jn aj (ao ap (ag 0) aj)))) (au (aQ (i:=3) S.nd (aR iB (aR jn (aR bo (ag 3) aj) aj) aj)) (av (aC (aR iB (aR iB (aR jn (aR iB (aR bo (aR jn (ag 3) aj) (ao ap (ag 0) aj)) aj) aj) aj) (ag 1))))))))
theorem zf:Fn P w K mg base "_law_names" ["_law_feed_here","_law_many"] 2 (spM K 2 iP):=aW E 56 ["_law_feed_here","_law_many","_law_words","_law_letters","_law_names_here","_law_k","_law_way","_law_name"] fun B S hr=>(au (aQ (i:=2) S.nd (cH (ai aB (ai aB (ai aB (ai aB (ai aB (ai aB (ai aB (ai aB ar)))))))))) (au (aQ (i:=3) S.nd aB) (au (hJ (i:=4) S.nd ar) (au (dH (i:=5) S.nd (l9 rfl B.z (ag 1)) (au (aQ (i:=6) S.nd (aZ (bA E) hr (ag 0) aj)) (au (aQ (i:=7) S.nd (ao ap (ag 3) (aZ (bA E) hr (ag 0) aj))) (au (aI (aG aU (ag 6) aj) (av (aQ (i:=7) S.nd (ao ap (ag 2) (aZ (bA E) hr (ag 0) aj)))) aK) (au (aI (bQ (dZ (aG aU (ag 6) aj) (eL (aG gJ (br bM rfl B.z boot_len (ai (ag 4) ar)) aj)))) (av (aQ (i:=7) S.nd (fA (aR bo (ao ap (ag 4) (qr aj)) (ag 7)) fg (ff aj)))) aK) (au (aI (aG aU (ag 6) aj) (av (aQ (i:=7) S.nd (aR jn (aR bo (ag 7) (ao ap (ag 3) (aZ (bA E) hr (ag 0) aj))) aj))) aK) (au (aI (aG jz (ag 7) (ag 4)) (av (aQ (i:=7) S.nd (ao ap (qO (top 56) ["_law_feed_here","_law_many","_law_words","_law_letters","_law_names_here","_law_k","_law_way","_law_name"] (bO (ag 3)) (ag 0) (aG uN (ag 0) (ag 5))) aj))) aK) (av (FH (i:=4) (by exact(aZ (bA E) hr (ag 0) (aR bo (br bM rfl B.z boot_len (ai (ag 4) ar)) aj))) (by exact(ag 7))))))))))) (av (aC (ag 4)))))))
theorem k6:Fn P w K mg base "_law_value" ["_law_feed_here","_law_names_here"] 2 (spM K 2 fL):=aW E 57 ["_law_feed_here","_law_names_here","_law_some","_law_k"] fun B S hr=>(au (aQ (i:=2) S.nd (cH (ai aj (ai aj (ai aB (ai (aH ar) (ai aj (ai aB (ai (aH (ai aj ar)) (ai (aH (ai aj (ai aB ar))) (ai (qr aj) (ai (aR jm aj aj) (ai aB (ai (aH (ai (aH ar) (ai (aH (ai aB (ai aj ar))) ar))) (ai (aH (ai aj (ai aj (ai aj ar)))) (ai (aR iA aj (aR jm aj aj)) ar)))))))))))))))) (au (aQ (i:=3) S.nd (aZ (bA E) hr (ag 0) aj)) (au (aI (aG dA (ag 3) aj) (av (aC (ao ap (ag 2) (ag 3)))) aK) (au (aI (aG aU (ag 3) aj) (av (aC (aZ (bA E) hr (ag 0) (aR jm aj aj)))) aK) (av (aC (ao ap (ag 1) (aZ (bA E) hr (ag 0) (br bM rfl B.z boot_len (ai (ag 1) ar))))))))))
theorem yS:∀n,Fn P w K mg base "_law_weight" ["_law_value_here"] (0+n) (spM K 1 (eE n)):=df (dz E 58) fun n ih=>aW (k:=0+n) E 58 ["_law_value_here","_law_some","_law_deep"] fun B S hr=>(au (aQ (i:=1) S.nd (cY (bv (bI .tup B.z (ag 0) B.z boot_tuple)) (eB (top 58) ["_law_value_here","_law_some","_law_deep"] (bO (ag 0)) (aV ih hr (ag 0))) (cH ar))) (au (aQ (i:=2) S.nd (aR bo (cc qP rfl B.z boot_int (ai (bI .tup B.z (ag 0) B.z boot_tuple) ar)) (DJ B.z (eB (top 58) ["_law_value_here","_law_some","_law_deep"] (bO (ag 1)) (ao ap (ag 0) aj)) aj))) (av (aC (aH (ai (ag 2) (ai (aR bo aj (br xI rfl B.z boot_sum (ai (eB (top 58) ["_law_value_here","_law_some","_law_deep"] (bO (ag 1)) (ao ap (ag 0) aj)) ar))) ar)))))))
theorem nX:Fn P w K mg base "_law_kept" ["_law_value_here"] 26 (spM K 1 du):=aW E 59 ["_law_value_here","_law_deep","_law_many","_law_good_here"] fun B S hr=>(au (wK (i:=1) (j:=2) S.nd (aV (yS E 25) hr (ag 0))) (au (aI (bv (bI .int B.z (ag 0) B.z boot_int)) (av (aC (cY (aG dN (br xJ rfl B.z boot_abs (ai (ag 0) ar)) (aR jm aj aj)) (aH (ai aB (ai (ag 0) ar))) (aH (ai aB (ai aB ar)))))) aK) (au (aQ (i:=3) S.nd (de dN (br bM rfl B.z boot_len (ai (ag 0) ar)) (cY (bv (bI .str B.z (ag 0) B.z boot_str)) aj aj))) (av (aC (cY (bQ (dZ (bv (ag 3)) (dZ (aG dN (ag 1) aj) (eL (aG dN (ag 2) aj))))) (aH (ai aB (ai (ag 0) ar))) (aH (ai aB (ai aB ar)))))))))
theorem jF:∀n,Fn P w K mg base "_law_stamp" ["_law_value_here"] (0+n) (spM K 1 (cO n)):=df (dz E 60) fun n ih=>aW (k:=0+n) E 60 ["_law_value_here"] fun B S hr=>(au (aI (bv (bI .int B.z (ag 0) B.z boot_int)) (av (aC (cc jv rfl B.z boot_str (ai (ag 0) ar)))) aK) (au (aI (bv (bI .str B.z (ag 0) B.z boot_str)) (av (aC (aR bo aB (ag 0)))) aK) (av (aC (aR bo (aR bo aB (vA aB (eB (top 60) ["_law_value_here"] (bO (ag 0)) (aV ih hr (ag 0))))) aB)))))
theorem yX:Fn P w K mg base "_law_of_two" ["_law_word","_law_one","_law_other"] 27 (spM K 3 bE):=aW E 61 ["_law_word","_law_one","_law_other","_law_kinds"] fun B S hr=>(au (aI (aG aU (ag 0) aB) (av (aC (aH (ai aB (ai (cc qP rfl B.z boot_int (ai (de (xm hr) (ag 1) (ag 2)) ar)) ar))))) aK) (au (aI (aG aU (ag 0) aB) (au (aI (bQ (cU (cR (bv (bI .tup B.z (ag 1) B.z boot_tuple))) (c9 (cR (bv (bI .int B.z (ag 2) B.z boot_int)))))) (av (aC (aH (ai aB (ai aB ar))))) aK) (av (aC (cY (pb dN dA aj (ag 2) (br bM rfl B.z boot_len (ai (ag 1) ar))) (aH (ai aB (ai (ao ap (ag 1) (ag 2)) ar))) (aH (ai aB (ai aB ar))))))) aK) (au (aQ (i:=3) S.nd (cH (ai (bI .int B.z (ag 1) B.z boot_int) (ai (bI .int B.z (ag 2) B.z boot_int) (ai (bI .str B.z (ag 1) B.z boot_str) (ai (bI .str B.z (ag 2) B.z boot_str) ar)))))) (au (aI (aG aU (ag 0) aB) (au (aI (bQ (cU (aG (kr hr) (fA (ag 3) fg (ff aj)) (cH (ai eQ (ai eQ ar)))) (c9 (aG gI (ao ap (ag 3) aj) (ao ap (ag 3) aj))))) (av (aC (aH (ai aB (ai aB ar))))) aK) (av (aC (aV (nX E) hr (aR bo (ag 1) (ag 2)))))) aK) (au (aI (aG (kr hr) (fA (ag 3) fg (ff aj)) (cH (ai eQ (ai eQ ar)))) (av (aC (aH (ai aB (ai aB ar))))) aK) (av (aC (cY (aG aU (ag 0) aB) (aV (nX E) hr (aR bo (ag 1) (ag 2))) (aH (ai aB (ai (cc qP rfl B.z boot_int (ai (de dA (ag 1) (ag 2)) ar)) ar)))))))))))
theorem rH:∀n,Fn P w K mg base "_law_told" ["_law_expr_here","_law_got"] (27+n) (spM K 2 (cE n)):=df (dz E 62) fun n ih=>aW (k:=27+n) E 62 ["_law_expr_here","_law_got","_law_some","_law_one","_law_told_here"] fun B S hr=>(au (aI (aG aU (ao ap (ag 0) aj) aB) (av (aC (aH (ai aB (ai (ao ap (ag 0) aj) ar))))) aK) (au (aI (aG aU (ao ap (ag 0) aj) aB) (av (aC (aH (ai aB (ai (ao ap (ag 1) (ao ap (ag 0) aj)) ar))))) aK) (au (hJ (i:=2) S.nd ar) (au (dH (i:=3) S.nd (bO (cY (aG aU (ao ap (ag 0) aj) aB) (ao ap (ag 0) aj) (fA (ag 0) (ff aj) fg))) (au (aQ (i:=4) S.nd (aZ ih hr (ag 3) (ag 1))) (au (aI (aG aU (ao ap (ag 4) aj) aB) (av (aC (ag 4))) aK) (av (jg (i:=2) (by exact(ao ap (ag 4) aj))))))) (au (aI (aG aU (ao ap (ag 0) aj) aB) (av (aC (aV (nX E) hr (cc fR rfl B.z boot_tuple (ai (ag 2) ar))))) aK) (au (aI (aG aU (ao ap (ag 0) aj) aB) (av (aC (cY (bv (bI .int B.z (ao ap (ag 2) aj) B.z boot_int)) (aH (ai aB (ai aB ar))) (aH (ai aB (ai (br bM rfl B.z boot_len (ai (ao ap (ag 2) aj) ar)) ar)))))) aK) (av (aC (iK (yX E) hr (ao ap (ag 0) aj) (ao ap (ag 2) aj) (ao ap (ag 2) aj))))))))))
theorem yM:Fn P w K mg base "_law_is_name" ["_law_thing"] 1 (spM K 1 gP):=aW E 63 ["_law_thing"] fun B S hr=>(au (aI (bQ (cU (cR (bv (bI .str B.z (ag 0) B.z boot_str))) (c9 (cR (pb dN dN aj (br bM rfl B.z boot_len (ai (ag 0) ar)) aj))))) (av (aC eQ)) aK) (av (aC (br qQ rfl B.z boot_all (ai (eB (top 63) ["_law_thing"] (bO (ag 0)) (de jz (ag 0) aB)) ar)))))
theorem nP:Fn P w K mg base "_law_follow" ["_law_recipe_here","_law_known"] 53 (spM K 2 fK):=aW E 64 ["_law_recipe_here","_law_known","_law_got","_law_reads","_law_told_here"] fun B S hr=>(au (hJ (i:=2) S.nd ar) (au (hJ (i:=3) S.nd ar) (au (lJ 100000 (aG jz (ao ap (ag 0) aj) (aH (ai aB (ai aB (ai aB ar))))) (au (aQ (i:=4) S.nd (pf (rH E 25) (hr.mono (by omega)) rfl (ai (ao ap (ag 0) aj) (ai (ag 2) ar)) (a8 (a8 cq)))) (au (aI (aG aU (ao ap (ag 4) aj) aB) (av (aC (aH (ai (cc fR rfl B.z boot_tuple (ai (ag 3) ar)) (ai (ag 4) ar))))) aK) (av (aI (aG aU (ao ap (ag 0) aj) aB) (av (aQ (i:=0) S.nd (cY (aG (xl hr) (ao ap (ag 4) aj) (aH (ai aj (ai aB (ai (aH ar) ar))))) (ao ap (ag 0) aj) (ao ap (ag 0) aj)))) (av (aI (cR (bv (aV (yM E) hr (ao ap (ag 4) aj)))) (av (aC (aH (ai (cc fR rfl B.z boot_tuple (ai (ag 3) ar)) (ai (aH (ai aB (ai aB ar))) ar))))) (av (aI (aG (gx hr) (ao ap (ag 4) aj) (ag 1)) (av (aC (aH (ai (cc fR rfl B.z boot_tuple (ai (ag 3) ar)) (ai (aH (ai aB (ai (ao ap (ag 4) aj) ar))) ar))))) (au (jg (i:=2) (by exact(ao (b8 hr) (ag 1) (ao ap (ag 4) aj)))) (au (aI (aG aU (ao ap (ag 0) aj) aB) (av (jg (i:=3) (by exact(aH (ai (ao ap (ag 4) aj) (ai (aV (jF E 25) hr (ao (b8 hr) (ag 1) (ao ap (ag 4) aj))) ar)))))) aK) (av (aQ (i:=0) S.nd (ao ap (ag 0) aj)))))))))))))) (au (aI (aG aU (ao ap (ag 0) aj) aB) (av (aC (aH (ai (cc fR rfl B.z boot_tuple (ai (ag 3) ar)) (ai (aH (ai aB (ai (ao ap (ag 0) aj) ar))) ar))))) aK) (au (aQ (i:=4) S.nd (pf (rH E 25) (hr.mono (by omega)) rfl (ai (ao ap (ag 0) aj) (ai (ag 2) ar)) (a8 (a8 cq)))) (au (aI (aG aU (ao ap (ag 4) aj) aB) (av (aC (aH (ai (cc fR rfl B.z boot_tuple (ai (ag 3) ar)) (ai (ag 4) ar))))) aK) (av (aC (aH (ai (cc fR rfl B.z boot_tuple (ai (ag 3) ar)) (ai (aH (ai aB (ai (aV (jF E 25) hr (ao ap (ag 4) aj)) ar))) (ai (ao ap (ag 4) aj) ar))))))))))))
theorem rK:Fn P w K mg base "_law_good" ["_law_book_here"] 54 (spM K 1 eZ):=aW E 65 ["_law_book_here","_law_good_here","_law_many","_law_name","_law_found"] fun B S hr=>(au (uf (i:=1) B.z S.nd (ao ap (ag 0) aj)) (au (aQ (i:=2) S.nd (qr aj)) (au (lJ 100000 (aG dA (ag 2) (br bM rfl B.z boot_len (ai (ag 1) ar))) (au (aQ (i:=2) S.nd (br bM rfl B.z boot_len (ai (ag 1) ar))) (av (dH (i:=3) S.nd (bO (ao ap (ag 0) aj)) (av (aI (aG (gx hr) (ag 3) (ag 1)) (au (aQ (i:=4) S.nd (pX (aZ (nP E) hr (ao (b8 hr) (ao ap (ag 0) aj) (ag 3)) (ag 1)))) (av (aI (aG aU (ao ap (ao ap (ag 4) aj) aj) aB) (av (dE (i:=1) hr (ag 3) (ao ap (ag 4) aj))) aK))) aK)))))) (av (aC (ag 1))))))
theorem yD:∀n,Fn P w K mg base "_law_show_expr" ["_law_expr_here"] (25+n) (spM K 1 (eC n)):=df (dz E 66) fun n ih=>aW (k:=25+n) E 66 ["_law_expr_here","_law_words","_law_inner"] fun B S hr=>(au (aI (aG aU (ao ap (ag 0) aj) aB) (av (aC (aR bo aB (aV (jF E 25) hr (ao ap (ag 0) aj))))) aK) (au (aI (aG aU (ao ap (ag 0) aj) aB) (av (aC (aR bo aB (cc jv rfl B.z boot_str (ai (ao ap (ag 0) aj) ar))))) aK) (au (hJ (i:=1) S.nd (ai (ao ap (ag 0) aj) ar)) (au (aQ (i:=2) S.nd (fA (ag 0) (ff aj) fg)) (au (aI (aG aU (ao ap (ag 0) aj) aB) (au (jg (i:=1) (by exact(cc jv rfl B.z boot_str (ai (br bM rfl B.z boot_len (ai (ao ap (ag 0) aj) ar)) ar)))) (av (aQ (i:=2) S.nd (ao ap (ag 0) aj)))) aK) (av (aC (pd aB (aR bo (ag 1) (eB (top 66) ["_law_expr_here","_law_words","_law_inner"] (bO (ag 2)) (aV ih hr (ag 0))))))))))))
theorem rJ:∀n,Fn P w K mg base "_law_show" ["_law_recipe_here"] (50+n) (spM K 1 (dr n)):=df (dz E 67) fun n ih=>aW (k:=50+n) E 67 ["_law_recipe_here","_law_words"] fun B S hr=>(au (aI (aG aU (ao ap (ag 0) aj) aB) (av (aC (aR bo aB (ao ap (ag 0) aj)))) aK) (au (aQ (i:=1) S.nd (cH (ai (ao ap (ag 0) aj) (ai (aV (yD E 25) hr (ao ap (ag 0) aj)) ar)))) (av (aC (pd aB (aR bo (ag 1) (eB (top 67) ["_law_recipe_here","_law_words"] (bO (fA (ag 0) (ff aj) fg)) (aV ih hr (ag 0)))))))))
theorem nY:∀n,Fn P w K mg base "_law_expr" ["_law_feed_here","_law_got","_law_names_here","_law_deep"] (2+n) (spM K 4 (cV n)):=df (dz E 68) fun n ih=>aW (k:=2+n) E 68 ["_law_feed_here","_law_got","_law_names_here","_law_deep","_law_way","_law_one","_law_other"] fun B S hr=>(au (aQ (i:=4) S.nd (aZ (bA E) hr (ag 0) aj)) (au (aI (bQ (dZ (aG dA (ag 4) aj) (eL (aG gJ (ag 1) aj)))) (av (aC (aH (ai aB (ai (aZ (bA E) hr (ag 0) (ag 1)) ar))))) aK) (au (aI (bQ (cU (aG aU (ag 3) aj) (c9 (aG dA (ag 4) aj)))) (av (aC (aH (ai aB (ai (aZ (k6 E) hr (ag 0) (ag 2)) ar))))) aK) (au (aQ (i:=5) S.nd (gM ih hr (ag 0) (ag 1) (ag 2) (aR iA (ag 3) aj))) (au (aI (aG aU (ag 4) aj) (av (aC (aH (ai aB (ai (ag 5) ar))))) aK) (au (aQ (i:=6) S.nd (gM ih hr (ag 0) (ag 1) (ag 2) (aR iA (ag 3) aj))) (au (aI (aG aU (ag 4) aj) (av (aC (aH (ai aB (ai (fA (aH (ai (ag 5) (ai (ag 6) ar))) fg (ff (aZ (bA E) hr (ag 0) aj))) ar))))) aK) (av (aC (aH (ai (ao ap (cH (ai aB (ai aB (ai aB (ai aB (ai aB ar)))))) (aZ (bA E) hr (ag 0) aj)) (ai (ag 5) (ai (ag 6) ar)))))))))))))
theorem yT:Fn P w K mg base "_law_wanted" ["_law_feed_here","_law_got","_law_names_here"] 28 (spM K 3 iN):=aW E 69 ["_law_feed_here","_law_got","_law_names_here","_law_way"] fun B S hr=>(au (aQ (i:=3) S.nd (aZ (bA E) hr (ag 0) aj)) (au (aI (aG dA (ag 3) aj) (av (aC (aH (ai aB (ai (ao ap (ag 2) (aZ (bA E) hr (ag 0) (br bM rfl B.z boot_len (ai (ag 2) ar)))) ar))))) aK) (au (aI (aG aU (ag 3) aj) (av (aC (aH (ai aB (ai (aH (ai aB (ai (ao ap (ag 2) (aZ (bA E) hr (ag 0) (br bM rfl B.z boot_len (ai (ag 2) ar)))) ar))) (ai (aH (ai aB (ai aB ar))) ar)))))) aK) (av (aC (gM (nY E 25) hr (ag 0) (ag 1) (ag 2) aj))))))
theorem yW:∀n,Fn P w K mg base "_law_recipe" ["_law_feed_here","_law_got","_law_names_here","_law_wants","_law_whens","_law_peeks"] (28+n) (spM K 6 (c5 n)):=df (dz E 70) fun n ih=>aW (k:=28+n) E 70 ["_law_feed_here","_law_got","_law_names_here","_law_wants","_law_whens","_law_peeks","_law_way","_law_word","_law_one","_law_first"] fun B S hr=>(au (aQ (i:=6) S.nd (aZ (bA E) hr (ag 0) aj)) (au (aI (bQ (dZ (aG dA (ag 6) aj) (eL (aG gJ (ag 3) aj)))) (au (aQ (i:=7) S.nd (cY (bQ (dZ (bv (ag 5)) (eL (aG aU (aZ (bA E) hr (ag 0) aj) aj)))) aB aB)) (au (aQ (i:=8) S.nd (iK (yT E) hr (ag 0) (ag 1) (ag 2))) (av (aC (aH (ai (ag 7) (ai (ag 8) (ai (nK ih hr (ag 0) (aR bo (ag 1) aj) (ag 2) (aR iA (ag 3) aj) (ag 4) (ag 5)) ar)))))))) aK) (au (aI (bQ (dZ (aG jz (ag 6) (aH (ai aj (ai aj ar)))) (eL (aG gJ (ag 4) aj)))) (au (aQ (i:=8) S.nd (gM (nY E 25) hr (ag 0) (ag 1) (ag 2) aj)) (au (aQ (i:=9) S.nd (nK ih hr (ag 0) (ag 1) (ag 2) (ag 3) (aR iA (ag 4) aj) (ag 5))) (av (aC (aH (ai aB (ai (ag 8) (ai (ag 9) (ai (nK ih hr (ag 0) (ag 1) (ag 2) (ag 3) (aR iA (ag 4) aj) (ag 5)) ar))))))))) aK) (au (aI (bQ (dZ (aG aU (ag 6) aj) (eL (aG aU (aZ (bA E) hr (ag 0) aj) aj)))) (av (aC (aH (ai aB (ai (ao ap (ag 2) (aZ (bA E) hr (ag 0) (br bM rfl B.z boot_len (ai (ag 2) ar)))) ar))))) aK) (av (aC (aH (ai aB (ai (gM (nY E 25) hr (ag 0) (ag 1) (ag 2) aj) ar)))))))))
theorem rn:Fn P w K mg base "_law_any_recipe" ["_law_feed_here","_law_names_here","_law_peeks"] 54 (spM K 3 eY):=aW E 71 ["_law_feed_here","_law_names_here","_law_peeks","_law_wants","_law_whens"] fun B S hr=>(au (wK (i:=3) (j:=4) S.nd (ao ap (cH (ai (aH (ai aj (ai aj ar))) (ai (aH (ai aj (ai aj ar))) (ai (aH (ai aj (ai aj ar))) (ai (aH (ai aj (ai aj ar))) (ai (aH (ai aj (ai aj ar))) ar)))))) (aZ (bA E) hr (ag 0) aj))) (av (aC (nK (yW E 25) hr (ag 0) aj (ag 1) (ag 3) (ag 4) (ag 2)))))
theorem zw:Fn P w K mg base "_law_book" ["_law_script","_law_base","_law_names_here","_law_peeks"] 55 (spM K 4 jK):=aW E 72 ["_law_script","_law_base","_law_names_here","_law_peeks","_law_told_here","_law_recipes","_law_k","_law_feed_here","_law_way"] fun B S hr=>(au (hU (i:=4) S.nd) (au (hU (i:=5) S.nd) (au (dH (i:=6) S.nd (l9 rfl B.z (br bM rfl B.z boot_len (ai (ag 2) ar))) (sZ (i:=7) (gQ E) (hr.mono (by omega)) rfl S.nd (ai (ag 0) (ai (aR bo (ag 1) (ag 6)) ar)) (a8 (a8 cq)) (au (aQ (i:=8) S.nd (aZ (bA E) hr (ag 7) aj)) (av (aI (aG dA (ag 8) aj) (av (dE (i:=4) hr (ao ap (ag 2) (ag 6)) (aZ (k6 E) hr (ag 7) (ag 2)))) (av (aI (aG dA (ag 8) aj) (av (dE (i:=5) hr (ao ap (ag 2) (ag 6)) (iK (rn E) hr (ag 7) (ag 2) (ag 3)))) aK))))))) (av (aC (aH (ai (ag 4) (ai (ag 5) ar))))))))
theorem yU:Fn P w K mg base "_law_turned" ["_law_feed_here","_law_book_here","_law_names_here","_law_peeks"] 55 (spM K 4 iO):=aW E 73 ["_law_feed_here","_law_book_here","_law_names_here","_law_peeks","_law_name","_law_told_here","_law_recipes","_law_way"] fun B S hr=>(au (aQ (i:=4) S.nd (ao ap (ag 2) (aZ (bA E) hr (ag 0) (br bM rfl B.z boot_len (ai (ag 2) ar))))) (au (ue (i:=5) B.z S.nd (qO (top 73) ["_law_feed_here","_law_book_here","_law_names_here","_law_peeks","_law_name","_law_told_here","_law_recipes","_law_way"] (bO (ao ap (ag 1) aj)) (aH (ai (ag 0) (ai (ao (b8 hr) (ao ap (ag 2) aj) (ag 0)) ar))) (aG gI (ag 0) (ag 5)))) (au (ue (i:=6) B.z S.nd (qO (top 73) ["_law_feed_here","_law_book_here","_law_names_here","_law_peeks","_law_name","_law_told_here","_law_recipes","_law_way"] (bO (ao ap (ag 1) aj)) (aH (ai (ag 0) (ai (ao (b8 hr) (ao ap (ag 2) aj) (ag 0)) ar))) (aG gI (ag 0) (ag 5)))) (au (aQ (i:=7) S.nd (aZ (bA E) hr (ag 0) aj)) (au (aI (aG dA (ag 7) aj) (av (dE (i:=5) hr (ag 4) (aZ (k6 E) hr (ag 0) (ag 2)))) (av (aI (aG dA (ag 7) aj) (av (dE (i:=6) hr (ag 4) (iK (rn E) hr (ag 0) (ag 2) (ag 3)))) aK))) (av (aC (aH (ai (ag 5) (ai (ag 6) ar))))))))))
theorem zv:Fn P w K mg base "_law_held" ["_law_script","_law_base","_law_books","_law_names_here"] 76 (spM K 4 jJ):=aW E 74 ["_law_script","_law_base","_law_books","_law_names_here","_law_held_here","_law_goods","_law_k","_law_feed_here","_law_which","_law_known","_law_name","_law_recipe_here"] fun B S hr=>(au (hU (i:=4) S.nd) (au (Hd (i:=5) (top 74) ["_law_script","_law_base","_law_books","_law_names_here","_law_held_here","_law_goods","_law_k","_law_feed_here","_law_which","_law_known","_law_name","_law_recipe_here"] ["_law_script","_law_base","_law_books","_law_names_here","_law_held_here","_law_goods","_law_k","_law_feed_here","_law_which","_law_known","_law_name","_law_recipe_here"] S.nd (bO (ag 2)) (aV (rK E) hr (ag 0)) vp) (au (dH (i:=6) S.nd (l9 rfl B.z (br bM rfl B.z boot_len (ai (ag 3) ar))) (sZ (i:=7) (gQ E) (hr.mono (by omega)) rfl S.nd (ai (ag 0) (ai (aR bo (ag 1) (ag 6)) ar)) (a8 (a8 cq)) (au (aQ (i:=8) S.nd (aZ (bA E) hr (ag 7) (br bM rfl B.z boot_len (ai (ag 2) ar)))) (au (aQ (i:=9) S.nd (ao ap (ag 5) (ag 8))) (au (aI (aG aU (aZ (bA E) hr (ag 7) aj) aj) (au (hU (i:=9) S.nd) (av (dH (i:=10) S.nd (bO (ag 3)) (av (aI (aG gJ (aZ (bA E) hr (ag 7) aj) aj) (av (dE (i:=9) hr (ag 10) (aZ (k6 E) hr (ag 7) (ag 3)))) aK))))) aK) (av (aI (bQ (dZ (aG (nh hr) (ao ap (ag 3) (ag 6)) (ao ap (ao ap (ag 2) (ag 8)) aj)) (eL (aG gJ (aZ (bA E) hr (ag 7) aj) aj)))) (au (aQ (i:=11) S.nd (ao (b8 hr) (ao ap (ao ap (ag 2) (ag 8)) aj) (ao ap (ag 3) (ag 6)))) (av (dE (i:=4) hr (ao ap (ag 3) (ag 6)) (pX (aH (ai (aV (rJ E 25) hr (ag 11)) (ai (aR bo (aH (ai (ao ap (ag 3) (ag 6)) ar)) (fA (aZ (nP E) hr (ag 11) (ag 9)) fg (ff aj))) ar))))))) aK))))))) (av (aC (ag 4))))))
theorem z0:Fn P w K mg base "_law_end" ["_law_tome","_law_good_here","_law_name"] 54 (spM K 3 gq):=aW E 75 ["_law_tome","_law_good_here","_law_name"] fun B S hr=>(au (aI (aG (nh hr) (ag 2) (ao ap (ag 0) aj)) (av (aC (aH (ai aB (ai (aV (jF E 25) hr (ao (b8 hr) (ao ap (ag 0) aj) (ag 2))) ar))))) aK) (au (aI (aG (nh hr) (ag 2) (ao ap (ag 0) aj)) (av (aC (ao ap (aZ (nP E) hr (ao (b8 hr) (ao ap (ag 0) aj) (ag 2)) (ag 1)) aj))) aK) (av (aC (aH (ai aB ar))))))
theorem yV:Fn P w K mg base "_law_stands" ["_law_tome","_law_good_here","_law_kept_here","_law_name"] 76 (spM K 4 fJ):=aW E 76 ["_law_tome","_law_good_here","_law_kept_here","_law_name","_law_line","_law_other","_law_stamp_here"] fun B S hr=>(au (aI (bQ (cU (aG (gx hr) (ag 3) (ag 2)) (cU (aG (gx hr) (ag 3) (ao ap (ag 0) aj)) (c9 (aG gI (ao ap (ao (b8 hr) (ag 2) (ag 3)) aj) (aV (rJ E 25) hr (ao (b8 hr) (ao ap (ag 0) aj) (ag 3)))))))) (av (aC eQ)) aK) (au (aQ (i:=4) S.nd (ao ap (ao (b8 hr) (ag 2) (ag 3)) aj)) (au (DH (i:=5) (j:=6) S.nd (bO (ao ap (ag 4) aj)) (av (aI (bQ (cU (aG (gx hr) (ag 5) (ag 1)) (c9 (aG gI (aV (jF E 25) hr (ao (b8 hr) (ag 1) (ag 5))) (ag 6))))) (av (aC eQ)) aK))) (av (aC (Hc (de gI (ao ap (ao ap (ag 4) aj) aj) aB) (jh (de (gx hr) (ao ap (ao ap (ag 4) aj) aj) (ag 1)))))))))
theorem EX{f:Addr}{fd:FuncData}(F:Fun K "law" "law" (top 77) f fd):FnOk P w K mg base CX0 88 f fd ["_law_script"] (spM K 1 ni):=Hf E ["_law_script","_law_names_here","_law_peeks","_law_tome","_law_books","_law_k","_law_kept_here","_law_handed","_law_good_here","_law_name","_law_told_here"] F fun B S hr=>(au (aQ (i:=1) S.nd (jZ (zf E) (gQ E) (hr.mono (by omega)) (hr.mono (by omega)) rfl rfl (ai (ag 0) (ai aj ar)) (a8 (a8 cq)) (ai (aR bo aj (jZ (bA E) (gQ E) (hr.mono (by omega)) (hr.mono (by omega)) rfl rfl (ai (ag 0) (ai aj ar)) (a8 (a8 cq)) (ai aj ar) (a8 (a8 cq)))) ar) (a8 (a8 cq)))) (au (aQ (i:=2) S.nd (de aU (jZ (bA E) (gQ E) (hr.mono (by omega)) (hr.mono (by omega)) rfl rfl (ai (ag 0) (ai aj ar)) (a8 (a8 cq)) (ai aj ar) (a8 (a8 cq))) aj)) (au (aQ (i:=3) S.nd (gM (zw E) hr (ag 0) aj (ag 1) (ag 2))) (au (hJ (i:=4) S.nd (ai (ag 3) ar)) (au (dH (i:=5) S.nd (l9 rfl B.z (aR bo aj (jZ (bA E) (gQ E) (hr.mono (by omega)) (hr.mono (by omega)) rfl rfl (ai (ag 0) (ai aj ar)) (a8 (a8 cq)) (ai aj ar) (a8 (a8 cq))))) (av (aQ (i:=3) S.nd (jZ (yU E) (gQ E) (hr.mono (by omega)) (hr.mono (by omega)) rfl rfl (ai (ag 0) (ai (aR bo aj (ag 5)) ar)) (a8 (a8 cq)) (ai (ag 3) (ai (ag 1) (ai (ag 2) ar))) (a8 (a8 (a8 (a8 cq)))))))) (au (jg (i:=4) (by exact(ag 3))) (DF 4 (au (aQ (i:=6) S.nd (gM (zv E) hr (ag 0) aj (ag 4) (ag 1))) (au (aQ (i:=7) S.nd (aH (ai (pZ B.z (ao ap (ag 3) aj)) (ai (pZ B.z (ao ap (ag 3) aj)) ar)))) (au (aQ (i:=8) S.nd (aV (rK E) hr (ag 3))) (au (dH (i:=9) S.nd (bO (aR bo (ag 1) (cH (ai aB ar)))) (av (aI (bQ (cU (aG gI (ag 9) aB) (c9 (aG uN (ag 9) (ag 1))))) (au (aQ (i:=10) S.nd (aZ (AQ E) hr (ag 7) (ag 9))) (au (aI (bQ (cU (cR (bv (bI .tup B.z (ag 10) B.z boot_tuple))) (c9 (aG (kr hr) (ag 10) (iK (z0 E) hr (ag 3) (ag 8) (ag 9)))))) (av (aC eQ)) aK) (au (aQ (i:=10) S.nd (iK (BL E) hr (ag 7) (pZ B.z (ag 6)) (ag 9))) (av (aI (bQ (cU (cR (bv (bI .bl B.z (ag 10) B.z boot_bool))) (c9 (aG (kr hr) (ag 10) (gM (yV E) hr (ag 3) (ag 8) (ag 6) (ag 9)))))) (av (aC eQ)) aK))))) aK))) (av (aC (de (GE hr) (ag 7) (ag 3)))))))))))))))
end
theorem all_mk{l:PySem.W.OpenLaw}{w:World}{K:Frag}{h:Heap}{mg:Str->Option Value}{fa:Addr}(X:K.In h)(G:h.Ns mainGlobals mg)(hfa:mg "law"=some (.ref fa))(d:DfL K top zS)(z:ZL K zZ)(i:IL K zI)(s:SL K zT){a_GETTING:Addr}{o_GETTING:Obj}(u_GETTING:PySem.W.nsIn K mainGlobals "GETTING"=some (some (.ref a_GETTING)))(l_GETTING:K.lookup a_GETTING=some o_GETTING)(v_GETTING:nA o_GETTING ["want","peek"]=true){a_LACKS:Addr}{o_LACKS:Obj}(u_LACKS:PySem.W.nsIn K mainGlobals "LACKS"=some (some (.ref a_LACKS)))(l_LACKS:K.lookup a_LACKS=some o_LACKS)(v_LACKS:nA o_LACKS ["lacks"]=true)
  (hm:∀ns:List Int,ns.length<=63->∃T',ni [.d (i7 ns)] []=some (.bool true,T')) :
  ∃fd:FuncData,(∀(s:Shared) (v:Value),BindsTo s fd ⟨[v],[]⟩ [("_law_script",v)])/\∀base:Heap,K.In base->base.Ns mainGlobals mg->FnOk l.prog w K mg base CX0 88 fa fd ["_law_script"] (m6 K):=by
 obtain⟨f0,oc,od,an,sl,kV,dc,pm,cd,ct,a,lk,c,kp⟩:=(d.at (x:="law") (i:=77) (by decide +kernel)).ex;cases hfa.symm.trans (PySem.W.mg_of X G a);exact⟨PySem.W.fnOf "law" "law" (dF (top 77)) (cx (top 77)) (bf (top 77)) .none kV dc pm an cd ct,fun s v=>.of_eq rfl,fun base _ _=>BR (EX ⟨⟨_,X,G⟩,⟨Hh X G z i s,⟨_,PySem.W.mg_of X G u_GETTING,sF l_GETTING v_GETTING⟩,⟨_,PySem.W.mg_of X G u_LACKS,sF l_LACKS v_LACKS⟩⟩,d⟩ (wC (st:=top 77) lk c kp)) (Au hm)⟩
theorem walk{l:PySem.W.OpenLaw}{q:Program}{loose:List Str}{XP:(Str->Option Value)->Heap->Prop}{YP:World->Heap->Prop}{d:DefRec}{K:Params->Frag}(hn:l.most=some 63)(hdf:d.params.defaults=[])
  (hY:∀(w:World) (h:Heap),YP w h->(K w.params).In h)
  (F:∀(w:World) (mg:Str->Option Value) (fa:Addr) (h:Heap),(K w.params).In h->h.Ns mainGlobals mg->mg d.name=some (.ref fa) ->
   ∃fd:FuncData,(∀(s:Shared) (u:Value),BindsTo s fd ⟨[u],[]⟩ [("_law_script",u)])/\∀base:Heap,(K w.params).In base->base.Ns mainGlobals mg->FnOk l.prog w (K w.params) mg base CX0 88 fa fd ["_law_script"] (m6 (K w.params))) :
  PySem.W.WalkO q loose XP YP l.row.toRowW d [] (fun f vs=>PySem.call f vs):=L2.Cg (n:=63) (k:=88) (x:="_law_script") (CX:=fun _=>CX0) (sp:=fun w=>m6 (K w.params)) hn (by decide) hdf ⟨rfl,by decide,by decide,rfl⟩ hY F (fun _ _ a ns hl _ hS=>⟨a,ns,rfl,hS,hl,fun _=>rfl⟩) fun _ _ _ _ _ z=>z
open PySem PySem.Spec PySem.Calls PySem.W PyProof.Rows PySem.W.X PySem.W.ZRun
theorem walkZ{q:Program}{loose:List Str}{XP:(Str->Option Value)->Heap->Prop}{K:Params->Frag}{r:RowW}{d:DefRec}{kwd:List (Str×Expr)}
  {w:World}{s₀ s₁:Shared}{mg mb:Str->Option Value}{a:Addr}{o:Obj}{pm cd doc dV kV:Value}{args:List WData}{vals:List Value}{as:List Addr}
  (KX:(K w.params).In s₁.heap) (GR:Ground q loose r.records XP w s₀ mg mb s₁.heap) (ho:s₁.heap.get? a=some o)
  (hd:o.data=.func { docDef d.name d.params d.body d.scope pm cd doc with defaults:=dV,kwdefaults:=kV }) (hcd:s₁.heap.CodeRec cd d.name) (hD:Dflts mg s₁.heap d.params kwd dV kV) (hmg:mg d.name=some (.ref a)) (hg:s₁.gens = #[])
  (hpre:r.claim.pre args=true) (hlay:WData.layableAll args=true) (hrd:ReadsAllW r.records (classAt s₀.heap) s₁.heap vals args as) (hwl:WellAll w.params s₁.heap vals args) (hlo:∀a∈as,(a == sysModules)=false)
  (W:PySem.W.WalkO q loose XP (fun w h=>(K w.params).In h) r d kwd fun f vs=>PySem.call f vs) :
  wpAny (model r.prog w) callerA (PySem.call (.ref a) vals) (fun v s'=>GoodWG r.claim (classAt s₀.heap) (ExcName.means s₀.heap) args s₁ (.ok (.ret v)) s')
    (fun e s'=>GoodWG r.claim (classAt s₀.heap) (ExcName.means s₀.heap) args s₁ (.error e) s') s₁:=W w s₀ s₁ mg mb GR KX a o pm cd doc dV kV ho hd hcd hD hmg hg args vals as hpre hlay hrd hwl hlo
end G
noncomputable def PySem.W.Fast.tw17876866537485029215 : Unit := ()
noncomputable def PySem.W.Fast.tw9733508722378746061 : Unit := ()
noncomputable def PySem.W.Fast.tw5054821348915063468 : Unit := ()
noncomputable def PySem.W.Fast.tw4637598032783196929 : Unit := ()
noncomputable def PySem.W.Fast.tw6888372580320687813 : Unit := ()
noncomputable def PySem.W.Fast.tw7233633024064630293 : Unit := ()
noncomputable def PySem.W.Fast.tw12671628092057178045 : Unit := ()
noncomputable def PySem.W.Fast.tw10161839883257509208 : Unit := ()
noncomputable def PySem.W.Fast.tw10364448072725557738 : Unit := ()
noncomputable def PySem.W.Fast.tw7842922563901094714 : Unit := ()
noncomputable def PySem.W.Fast.tw6317984668248305770 : Unit := ()
noncomputable def PySem.W.Fast.tw11672690404297200485 : Unit := ()
noncomputable def PySem.W.Fast.tw2089534355403669679 : Unit := ()
noncomputable def PySem.W.Fast.tw10038016490302915480 : Unit := ()
noncomputable def PySem.W.Fast.tw104190985094343883 : Unit := ()
noncomputable def PySem.W.Fast.tw17198496026949638813 : Unit := ()
noncomputable def PySem.W.Fast.tw16597704688427763543 : Unit := ()
noncomputable def PySem.W.Fast.tw13117004221919662854 : Unit := ()
noncomputable def PySem.W.Fast.tw16491827461604998203 : Unit := ()
noncomputable def PySem.W.Fast.tw3615905217025300303 : Unit := ()
noncomputable def PySem.W.Fast.tw10093259724184571165 : Unit := ()
noncomputable def PySem.W.Fast.tw13549531870724529305 : Unit := ()
noncomputable def PySem.W.Fast.tw3595813840635646318 : Unit := ()
noncomputable def PySem.W.Fast.tw16017515460250926010 : Unit := ()
noncomputable def PySem.W.Fast.tw14115841694524076742 : Unit := ()
noncomputable def PySem.W.Fast.tw17708616458582923401 : Unit := ()
noncomputable def PySem.W.Fast.tw7929850758714451293 : Unit := ()
noncomputable def PySem.W.Fast.tw11187819009684197217 : Unit := ()
noncomputable def PySem.W.Fast.tw9239865684730152835 : Unit := ()
noncomputable def PySem.W.Fast.tw18264113545053854521 : Unit := ()
noncomputable def PySem.W.Fast.tw15715096414059243953 : Unit := ()
noncomputable def PySem.W.Fast.tw9215612991311673389 : Unit := ()
noncomputable def PySem.W.Fast.tw12453378614745059524 : Unit := ()
noncomputable def PySem.W.Fast.tw6729374305522878205 : Unit := ()
noncomputable def PySem.W.Fast.tw3887634947188394039 : Unit := ()
noncomputable def PySem.W.Fast.tw18092312369966002348 : Unit := ()
noncomputable def PySem.W.Fast.tw14308406420798004185 : Unit := ()
noncomputable def PySem.W.Fast.tw13403267325946573650 : Unit := ()
noncomputable def PySem.W.Fast.tw10489651829180351873 : Unit := ()
noncomputable def PySem.W.Fast.tw14024096765161487162 : Unit := ()
noncomputable def PySem.W.Fast.tw1057679198810504126 : Unit := ()
noncomputable def PySem.W.Fast.tw14296055141268899166 : Unit := ()
noncomputable def PySem.W.Fast.tw6464450955350076673 : Unit := ()
noncomputable def PySem.W.Fast.tw5564578361163123101 : Unit := ()
noncomputable def PySem.W.Fast.tw7714429945191525153 : Unit := ()
noncomputable def PySem.W.Fast.tw18358244491508117271 : Unit := ()
noncomputable def PySem.W.Fast.tw10531179648434224323 : Unit := ()
noncomputable def PySem.W.Fast.tw589069835892907195 : Unit := ()
noncomputable def PySem.W.Fast.tw8212352317514645203 : Unit := ()
noncomputable def PySem.W.Fast.tw5873536528623830618 : Unit := ()
noncomputable def PySem.W.Fast.tw10288712204367381627 : Unit := ()
noncomputable def PySem.W.Fast.tw3426706951887877581 : Unit := ()
noncomputable def PySem.W.Fast.tw5827506970200896524 : Unit := ()
noncomputable def PySem.W.Fast.tw16343736224581593944 : Unit := ()
noncomputable def PySem.W.Fast.tw11035297499805788473 : Unit := ()
noncomputable def PySem.W.Fast.tw16841227067124106098 : Unit := ()
noncomputable def PySem.W.Fast.tw18131075965059107939 : Unit := ()
noncomputable def PySem.W.Fast.tw6712756868344916338 : Unit := ()
noncomputable def PySem.W.Fast.tw11991997771524969788 : Unit := ()
noncomputable def PySem.W.Fast.tw985977972553027062 : Unit := ()
noncomputable def PySem.W.Fast.tw14859280605596315327 : Unit := ()
noncomputable def PySem.W.Fast.tw18320441635573047619 : Unit := ()
noncomputable def PySem.W.Fast.tw8584467282537794032 : Unit := ()
noncomputable def PySem.W.Fast.tw17079299567465764453 : Unit := ()
noncomputable def PySem.W.Fast.tw14088288066927533108 : Unit := ()
noncomputable def PySem.W.Fast.tw6866953562868561768 : Unit := ()
noncomputable def PySem.W.Fast.tw10281714489177012991 : Unit := ()
noncomputable def PySem.W.Fast.tw12084148477069508958 : Unit := ()
noncomputable def PySem.W.Fast.tw13737594177637002929 : Unit := ()
noncomputable def PySem.W.Fast.tw6096840288534310783 : Unit := ()
noncomputable def PySem.W.Fast.tw17157884754711873788 : Unit := ()
noncomputable def PySem.W.Fast.tw966808065832638933 : Unit := ()
noncomputable def PySem.W.Fast.tw264037660993568508 : Unit := ()
noncomputable def PySem.W.Fast.tw14104427411455002939 : Unit := ()
noncomputable def PySem.W.Fast.tw7468611828256922258 : Unit := ()
noncomputable def PySem.W.Fast.tw12181346523819466261 : Unit := ()
noncomputable def PySem.W.Fast.tw13229519440885891013 : Unit := ()
noncomputable def PySem.W.Fast.tw9081572034901975920 : Unit := ()
noncomputable def PySem.W.Fast.tw9757181901923629959 : Unit := ()
noncomputable def PySem.W.Fast.tw16503860202378621248 : Unit := ()
noncomputable def PySem.W.Fast.tw12917235798766710515 : Unit := ()
noncomputable def PySem.W.Fast.tw9779533023396193323 : Unit := ()
noncomputable def PySem.W.Fast.tw6618434023559842460 : Unit := ()
noncomputable def PySem.W.Fast.tw3218876371281695623 : Unit := ()
noncomputable def PySem.W.Fast.tw496661350711944978 : Unit := ()
noncomputable def PySem.W.Fast.tw1129170456099899734 : Unit := ()
noncomputable def PySem.W.Fast.tw409647331289867477 : Unit := ()
noncomputable def PySem.W.Fast.tw16239015737226403092 : Unit := ()
noncomputable def PySem.W.Fast.tw16347809979460060713 : Unit := ()
noncomputable def PySem.W.Fast.tw12412922714548290262 : Unit := ()
noncomputable def PySem.W.Fast.tw4032814889680806741 : Unit := ()
noncomputable def PySem.W.Fast.tw7156585868074314155 : Unit := ()
noncomputable def PySem.W.Fast.tw16661674429085244259 : Unit := ()
noncomputable def PySem.W.Fast.tw14591536706445487657 : Unit := ()
noncomputable def PySem.W.Fast.tw8654780102074790531 : Unit := ()
noncomputable def PySem.W.Fast.tw133924141554477950 : Unit := ()
noncomputable def PySem.W.Fast.tw16822144216020344989 : Unit := ()
noncomputable def PySem.W.Fast.tw5717973646493357196 : Unit := ()
noncomputable def PySem.W.Fast.tw7228207504208242738 : Unit := ()
noncomputable def PySem.W.Fast.tw14939853499807870343 : Unit := ()
noncomputable def PySem.W.Fast.tw5108606670357515180 : Unit := ()
noncomputable def PySem.W.Fast.tw4185892331817588084 : Unit := ()
noncomputable def PySem.W.Fast.tw11733782319129172020 : Unit := ()
noncomputable def PySem.W.Fast.tw3017335979405584350 : Unit := ()
noncomputable def PySem.W.Fast.tw11539079379738549290 : Unit := ()
noncomputable def PySem.W.Fast.tw11576452502623111775 : Unit := ()
noncomputable def PySem.W.Fast.tw7559549385354396732 : Unit := ()
noncomputable def PySem.W.Fast.tw3370309822582000326 : Unit := ()
noncomputable def PySem.W.Fast.tw17505352792949461814 : Unit := ()
noncomputable def PySem.W.Fast.tw7258794151763834369 : Unit := ()
noncomputable def PySem.W.Fast.tw16534659653868475711 : Unit := ()
noncomputable def PySem.W.Fast.tw3741429967443378945 : Unit := ()
noncomputable def PySem.W.Fast.tw6837713157997786975 : Unit := ()
noncomputable def PySem.W.Fast.tw1444425284122260415 : Unit := ()
noncomputable def PySem.W.Fast.tw7733230143024667214 : Unit := ()
noncomputable def PySem.W.Fast.tw10379532079913713729 : Unit := ()
noncomputable def PySem.W.Fast.tw7551564520114568289 : Unit := ()
noncomputable def PySem.W.Fast.tw2137073485396744148 : Unit := ()
noncomputable def PySem.W.Fast.tw5400945051853667379 : Unit := ()
noncomputable def PySem.W.Fast.tw1690244733966876489 : Unit := ()
noncomputable def PySem.W.Fast.tw14551344071223488295 : Unit := ()
noncomputable def PySem.W.Fast.tw26182575363134358 : Unit := ()
noncomputable def PySem.W.Fast.tw5930294558533940075 : Unit := ()
noncomputable def PySem.W.Fast.tw2972823112024951615 : Unit := ()
noncomputable def PySem.W.Fast.tw921961409352354986 : Unit := ()
noncomputable def PySem.W.Fast.tw8844443404693740815 : Unit := ()
noncomputable def PySem.W.Fast.tw15319125725484543395 : Unit := ()
noncomputable def PySem.W.Fast.tw7027339816191772712 : Unit := ()
noncomputable def PySem.W.Fast.tw17110920026830197462 : Unit := ()
noncomputable def PySem.W.Fast.tw4679453456158377893 : Unit := ()
noncomputable def PySem.W.Fast.tw3764725114141944693 : Unit := ()
noncomputable def PySem.W.Fast.tw1428944655858409293 : Unit := ()
noncomputable def PySem.W.Fast.tw355950523169922231 : Unit := ()
noncomputable def PySem.W.Fast.tw15273254993739014431 : Unit := ()
noncomputable def PySem.W.Fast.tw9726208678969363909 : Unit := ()
noncomputable def PySem.W.Fast.tw6175722954398377175 : PySem.Program := PySem.Challenge.pw_redo_k38_lines_that_stand
theorem PySem.W.Fast.te6175722954398377175 : PySem.Challenge.pw_redo_k38_lines_that_stand = PySem.W.Fast.tw6175722954398377175 := rfl

open PySem PySem.W PyProof.Rows PySem.W.X PySem.W.ZRun
set_option maxRecDepth 100000 in
set_option maxHeartbeats 0 in
theorem PySem.Challenge.cw_redo_k38_lines_that_stand_holds : PySem.Challenge.rw_redo_k38_lines_that_stand.Holds := by
 w_on; o_law; z_head; (case hw=>w_witness2)
 k_fill
 intro w s₀ s₁ mg mb GR y fa o pm cd doc dV kV ho hd hcd hD hmg hg args vals as L hpre hlay hrd hwl hlo
 z_open y L KX ZH ZN ZT
 clear ZH ZN ZT
 refine G.walkZ KX GR ho hd hcd hD hmg hg hpre hlay hrd hwl hlo ?W
 clear KX GR ho hd hcd hD hmg hg hpre hlay hrd hwl hlo L y
 refine G.walk (l:=PySem.Challenge.rw_redo_k38_lines_that_stand) rfl rfl (fun w h Y=>Y) ?F
 case F=>
  intro w mg fa h KX GG hmg
  refine' G.all_mk KX GG hmg ?_ ?_ ?_ ?_ ?_ ?_ ?_ ?_ ?_ ?_ G.BC
  any_goals repeat' first | exact True.intro | refine' D.BX ?_ ?_ | refine' D.Cf ?_ ?_ | refine' D.Dk ?_ ?_ | refine' D.Co ?_ ?_
  any_goals first | (refine' D.Ha ?a ?l ?c ?k; (case a=>k_is); (case l=>k_is); (case c=>k_is); (case k=>k_is)) | k_is
  all_goals first | rfl | decide +kernel
